import PyProof.Rows.All
import Wide.All
import OpenK.AllK
import Wide.FinOn
import PyProof.EqAt
import PyProof.EqKinds
import PyProof.TupleCall
import HandS.ForMost
import HandS.Wide
import HandS.Gcd
import HandS.IsInst
import HandS.Zip
import HandS.TupAny
import HandS.Style
import KE.DataEq
import HandS.Words
import HandS.Ends
import HandS.List
import HandS.RaiseMore
import HandS.NoneIn
import KE.GoesEnumKw
import HandS.HeadWalk
import HandS.OwnEq
import HandS.StrMore
import HandS.FStr
import Flt.RightSqrt
import PySem.Challenge.RW_crewclocks_k16_whole_flashes_to_and_fro
set_option Elab.async false
set_option linter.all false
set_option maxRecDepth 100000
set_option maxHeartbeats 8000000
/-! A small functional reading of Python defs over pure data, and its link with the layer HandS. -/
namespace Mn
open PySem L2
/-- pure data -/
inductive D where
  | non | bl (b : Bool) | int (i : Int) | str (x : PySem.Str)
  | tup (xs : List D) | lst (xs : List D)
  | scr (ns : List Int)
  | obj (c : PySem.Str) (ks : List PySem.Str) (xs : List D)
  | adr (a : Addr)
/-- what a slot holds: a datum, a list of one's own that may change, a list that was handed in to be changed -/
inductive Sl where
  | val (d : D) | own (xs : List D) | par (xs : List D) | slf
abbrev Env := List (Option Sl)
inductive BO | add | sub | mul | div | mod | pow
inductive CO | eq | ne | lt | le | gt | ge | is | isn | inn | nin
inductive BF | abs | int | len | sum | max | min | all | any | list | tuple | gcd | isqrt | repr | str | isi (t : String)
/-- a method: of a text, of an object of one's own -/
inductive Mt | split | part | pre | asc | dig | stw | join | own (c m g : PySem.Str) | ownk (c m g : PySem.Str) | lno (c g : PySem.Str) | isc (c : PySem.Str) | eqo (ng : Bool) (c g : PySem.Str)
inductive Wk | seq | zip | enum | rng | enumS (k : Nat)
inductive Tg | one (i : Nat) | many (is : List Nat) | two (a b : Tg)
inductive Ex where
  | var (i : Nat) | con (d : D) | glo (x : PySem.Str)
  | ixv (i : Nat) (e : Ex) | lenv (i : Nat) | popv (i : Nat) (e : Ex)
  | bin (o : BO) (a b : Ex) | neg (a : Ex)
  | cmp (o : CO) (a b : Ex) | chn (o o' : CO) (a b c : Ex)
  | vand (a b : Ex) | vor (a b : Ex) | vnot (a : Ex)
  | tand (a b : Ex) | tor (a b : Ex) | tnot (a : Ex) | tvar (i : Nat) | tval (a : Ex) | tyes
  | ite (c a b : Ex)
  | tup (es : Ex) | lst (es : Ex) | nil | cons (e es : Ex) | ref (i : Nat)
  | ix (a i : Ex) | slc (a lo hi : Ex) | rev (a : Ex)
  | call (f : PySem.Str) (pm : List Nat) (es : Ex)
  | calln (f g : PySem.Str) (es : Ex) | lrng (e : Ex)
  | blt (f : BF) (es : Ex)
  | comp (w : Wk) (src : Ex) (tg : Tg) (cd el : Ex) (own : List Nat)
  | att (cs : List PySem.Str) (e : Ex) (f : PySem.Str) | sg (f : PySem.Str) | mk (c : PySem.Str) (es : Ex) | mth (m : Mt) (e es : Ex) | fst (es : Ex) | opq
inductive Sm where
  | nil | seq (s r : Sm)
  | asg (i : Nat) (e : Ex) | own (i : Nat) (e : Ex)
  | unp (is : List Nat) (e : Ex)
  | unt (a b : Tg) (e : Ex)
  | par (i j : Nat) (oi oj : Bool) (a b : Ex)
  | par3 (i j k : Nat) (es : Ex)
  | par3o (i j k : Nat) (oi oj ok : Bool) (a b c : Ex)
  | app (i : Nat) (e : Ex) | seti (i : Nat) (k e : Ex)
  | ret (e : Ex) | retn
  | iff (c : Ex) (t e : Sm)
  | whl (c : Ex) (b : Sm)
  | for_ (w : Wk) (src : Ex) (tg : Tg) (b : Sm)
  | brk | cnt | pas
  | exp (e : Ex)
  | never
  | sset (f : PySem.Str) (e : Ex)
inductive Fl where
  | nx | rt (d : D) | bk | ct
inductive Ar where
  | v (d : D) | r (i : Nat)
/-- small enough to be multiplied, to divide by -/
def sm (i : Int) : Bool := decide (i.natAbs.log2 < 8000)
def lim : Nat := 1000000
/-- within k bits -/
def wi (k : Nat) (i : Int) : Bool := decide (i.natAbs.log2 < k)
theorem wi_lt {k : Nat} {i : Int} (h : wi k i = true) (hk : 0 < k) : i.natAbs < 2 ^ k := by
  unfold wi at h
  rw [decide_eq_true_eq] at h
  by_cases z : i.natAbs = 0
  · rw [z]; exact Nat.pos_of_ne_zero (by simp)
  · exact (Nat.log2_lt z).1 h
theorem lt_wi {k : Nat} {i : Int} (h : i.natAbs < 2 ^ k) (hk : 0 < k) : wi k i = true := by
  unfold wi
  rw [decide_eq_true_eq]
  by_cases z : i.natAbs = 0
  · rw [z]; exact hk
  · exact (Nat.log2_lt z).2 h
/-! ### data as the library's data -/
mutual
def toP : D → PyData
  | .non => .none
  | .bl b => .bool b
  | .int i => .int i
  | .str x => .str x
  | .tup xs => .tuple (toPL xs)
  | .lst xs => .list (toPL xs)
  | .scr ns => .list (ns.map PyData.int)
  | .obj _ _ _ => .none
  | .adr _ => .none
def toPL : List D → List PyData
  | [] => []
  | x :: xs => toP x :: toPL xs
end
mutual
/-- no object within -/
def nob : D → Bool
  | .obj _ _ _ => false
  | .adr _ => false
  | .tup xs => nobL xs
  | .lst xs => nobL xs
  | .non => true
  | .bl _ => true
  | .int _ => true
  | .str _ => true
  | .scr _ => true
def nobL : List D → Bool
  | [] => true
  | x :: xs => nob x && nobL xs
end
def deq (a b : D) : Bool := PyData.eqv (toP a) (toP b)
/-- fit for == -/
def dsh (a : D) : Bool := nob a && decide ((toP a).depth ≤ 40)
/-- fit to be shown by repr -/
def shd (d : D) : Bool := nob d && (toP d).showable && !(toP d).hasDict && decide ((toP d).depth ≤ 40) && (toP d).leavesShort 2000 && decide ((toP d).weight ≤ 8000)
def opB : BO → D → D → Option D
  | .add, .int i, .int j => some (.int (i + j))
  | .sub, .int i, .int j => some (.int (i - j))
  | .mul, .int i, .int j => if sm i && sm j then some (.int (i * j)) else none
  | .div, .int i, .int j => if sm j && decide (j ≠ 0) then some (.int (i.fdiv j)) else none
  | .mod, .int i, .int j => if decide (0 < j) then some (.int (i % j)) else none
  | .pow, .int i, .int j => if sm i && decide (0 ≤ j) && decide (j ≤ 1000) then some (.int (i ^ j.toNat)) else none
  | .add, .str x, .str y => if x.length + y.length ≤ lim then some (.str (x ++ y)) else none
  | .add, .lst xs, .lst ys => if xs.length + ys.length ≤ lim then some (.lst (xs ++ ys)) else none
  | .add, .tup xs, .tup ys => if xs.length + ys.length ≤ lim then some (.tup (xs ++ ys)) else none
  | .mul, .lst xs, .int k => if wi 62 k && decide (xs.length * k.toNat ≤ lim) then some (.lst (List.replicate k.toNat xs).flatten) else none
  | _, _, _ => none
def opC : CO → D → D → Option Bool
  | .eq, a, b => if dsh a && dsh b then some (deq a b) else none
  | .ne, a, b => if dsh a && dsh b then some (!deq a b) else none
  | .lt, .int i, .int j => some (decide (i < j))
  | .le, .int i, .int j => some (decide (i ≤ j))
  | .gt, .int i, .int j => some (decide (j < i))
  | .ge, .int i, .int j => some (decide (j ≤ i))
  | .is, .non, .non => some true
  | .is, .bl a, .non => some false
  | .is, .int a, .non => some false
  | .is, .str a, .non => some false
  | .is, .tup a, .non => some false
  | .is, .lst a, .non => some false
  | .is, .obj _ _ _, .non => some false
  | .isn, .non, .non => some false
  | .isn, .bl a, .non => some true
  | .isn, .int a, .non => some true
  | .isn, .str a, .non => some true
  | .isn, .tup a, .non => some true
  | .isn, .lst a, .non => some true
  | .isn, .obj _ _ _, .non => some true
  | .is, .bl a, .bl b => some (a == b)
  | .isn, .bl a, .bl b => some (a != b)
  | .inn, a, .tup ys => if dsh a && nobL ys then some (ys.any fun y => deq y a) else none
  | .inn, a, .lst ys => if dsh a && nobL ys then some (ys.any fun y => deq y a) else none
  | .nin, a, .tup ys => if dsh a && nobL ys then some (!ys.any fun y => deq y a) else none
  | .nin, a, .lst ys => if dsh a && nobL ys then some (!ys.any fun y => deq y a) else none
  | _, _, _ => none
def tru : D → Option Bool
  | .bl b => some b
  | .non => some false
  | .int i => some (i != 0)
  | .str x => if x.length ≤ lim then some ((x.length : Int) != 0) else none
  | .tup xs => some (!xs.isEmpty)
  | .lst xs => some (!xs.isEmpty)
  | .scr _ => none
  | .obj _ _ _ => none
  | .adr _ => none
def intsD : List D → Option (List Int)
  | [] => some []
  | .int i :: r => (intsD r).map (i :: ·)
  | _ => none
def boolsD : List D → Option (List Bool)
  | [] => some []
  | .bl i :: r => (boolsD r).map (i :: ·)
  | _ => none
/-- its built-in class -/
def tyOf : D → String
  | .non => "NoneType" | .bl _ => "bool" | .int _ => "int" | .str _ => "str" | .tup _ => "tuple" | .lst _ => "list" | .scr _ => "list" | .obj _ _ _ => "" | .adr _ => ""
def opF : BF → List D → Option D
  | .abs, [.int i] => some (.int (if i < 0 then -i else i))
  | .int, [.int i] => some (.int i)
  | .int, [.bl b] => some (.int (if b then 1 else 0))
  | .int, [.str a] => if a.length ≤ 640 then (PySem.intText? a).map D.int else none
  | .len, [.lst xs] => some (.int xs.length)
  | .len, [.tup xs] => some (.int xs.length)
  | .len, [.scr xs] => some (.int xs.length)
  | .len, [.str x] => if x.length ≤ lim then some (.int x.length) else none
  | .sum, [.lst xs] => (intsD xs).map fun ns => .int ns.sum
  | .max, [.int i, .int j] => some (.int (if j > i then j else i))
  | .min, [.int i, .int j] => some (.int (if j < i then j else i))
  | .all, [.lst xs] => (boolsD xs).map fun bs => .bl (bs.all id)
  | .any, [.lst xs] => (boolsD xs).map fun bs => .bl (bs.any id)
  | .list, [.lst xs] => some (.lst xs)
  | .list, [.tup xs] => some (.lst xs)
  | .tuple, [.lst xs] => some (.tup xs)
  | .tuple, [.tup xs] => some (.tup xs)
  | .gcd, [.int i, .int j] => some (.int ((Nat.gcd i.natAbs j.natAbs : Nat) : Int))
  | .isqrt, [.int i] => if decide (0 ≤ i) && wi 63 i then some (.int ((Float64.isqrt i.toNat : Nat) : Int)) else none
  | .repr, [.bl b] => some (.str (if b then "True" else "False"))
  | .repr, [.non] => some (.str "None")
  | .repr, [.int i] => if i.natAbs.log2 < 1920 then some (.str (PySem.Str.ofString (toString i))) else none
  | .repr, [.tup xs] => if shd (.tup xs) then some (.str (toP (.tup xs)).shown) else none
  | .repr, [.lst xs] => if shd (.lst xs) then some (.str (toP (.lst xs)).shown) else none
  | .str, [.int i] => if i.natAbs.log2 < 1920 then some (.str (PySem.Str.ofString (toString i))) else none
  | .str, [.str a] => some (.str a)
  | .isi t, [d] => (match d with | .obj _ _ _ => none | .adr _ => none | _ => (kitB (tyOf d) t).map D.bl)
  | _, _ => none
def strsD : List D → Option (List PySem.Str)
  | [] => some []
  | .str x :: r => (strsD r).map (x :: ·)
  | _ => none
/-- a text's method -/
def opM : Mt → D → List D → Option D
  | .split, .str a, [.str b] => if (b.length == 0) = false ∧ a.length + 2 ≤ lim then some (.lst ((Txt.split a b).map D.str)) else none
  | .part, .str a, [.str b] => if (b.length == 0) = false ∧ a.length ≤ lim then some (.tup [.str (Txt.partition a b).1, .str (Txt.partition a b).2.1, .str (Txt.partition a b).2.2]) else none
  | .pre, .str a, [.str b] => if a.length ≤ lim then some (.str (Txt.removeprefix a b)) else none
  | .asc, .str a, [] => some (.bl (Txt.isascii a))
  | .dig, .str a, [] => some (.bl (Txt.isdigit a))
  | .stw, .str a, [.str b] => some (.bl (Txt.startswith a b))
  | .join, .str a, [.lst ds] => (strsD ds).bind fun ys => if (ys.map (·.length)).sum + ys.length * a.length ≤ lim then some (.str (Txt.join a ys)) else none
  | .join, .str a, [.tup ds] => (strsD ds).bind fun ys => if (ys.map (·.length)).sum + ys.length * a.length ≤ lim then some (.str (Txt.join a ys)) else none
  | _, _, _ => none
/-- the parts of an f-string, one behind the other -/
def catA : PySem.Str → List D → Option PySem.Str
  | acc, [] => some acc
  | acc, .str x :: r => if x.length ≤ lim ∧ (acc ++ x).length ≤ lim then catA (acc ++ x) r else none
  | acc, .int i :: r => if i.natAbs.log2 < 1920 ∧ (acc ++ PySem.Str.ofString (toString i)).length ≤ lim then catA (acc ++ PySem.Str.ofString (toString i)) r else none
  | _, _ => none
def opIx : D → D → Option D
  | .lst xs, .int i => atI xs i
  | .tup xs, .int i => atI xs i
  | .scr xs, .int i => (atI xs i).map D.int
  | _, _ => none
def cutD (xs : List D) (lo hi : Option Int) : List D := (xs.drop (HT.sIx xs.length 0 lo)).take (HT.sIx xs.length xs.length hi - HT.sIx xs.length 0 lo)
def opSl : D → Option Int → Option Int → Option D
  | .lst xs, l, h => some (.lst (cutD xs l h))
  | .tup xs, l, h => some (.tup (cutD xs l h))
  | .scr xs, l, h => some (.lst (cutD (xs.map D.int) l h))
  | .str x, l, h => if x.length ≤ lim then some (.str (cutS x l h)) else none
  | _, _, _ => none
def ran (n : Nat) : List D := (List.range n).map fun (k : Nat) => D.int k
/-- from m on, n numbers -/
def ranF (m : Int) (n : Nat) : List D := (List.range n).map fun (k : Nat) => D.int (m + (k : Int))
def enu : Nat → List D → List D
  | _, [] => []
  | k, x :: r => .tup [.int (k : Int), x] :: enu (k + 1) r
def walk : Wk → List D → Option (List D)
  | .seq, [.lst xs] => some xs
  | .seq, [.tup xs] => some xs
  | .zip, [.lst xs, .lst ys] => some ((xs.zip ys).map fun p => .tup [p.1, p.2])
  | .zip, [.tup xs, .tup ys] => some ((xs.zip ys).map fun p => .tup [p.1, p.2])
  | .zip, [.tup xs, .lst ys] => some ((xs.zip ys).map fun p => .tup [p.1, p.2])
  | .enum, [.lst xs] => some (enu 0 xs)
  | .enumS k, [.lst xs] => some (enu k xs)
  | .rng, [.int n] => if wi 19 n then some (ran n.toNat) else none
  | .rng, [.int m, .int n] => if wi 19 m && wi 19 n then some (ranF m (n - m).toNat) else none
  | _, _ => none
/-! ### slots -/
def putS (env : Env) (i : Nat) (s : Sl) : Option Env :=
  match env[i]? with
  | some (some (.par _)) => none
  | some (some .slf) => none
  | some _ => some (env.set i (some s))
  | none => none
/-- a slot is stored in: a list of one's own, or a datum -/
def putX (o : Bool) (env : Env) (i : Nat) (d : D) : Option Env := if o then (match d with | .lst xs => putS env i (.own xs) | _ => none) else putS env i (.val d)
def unpS : List Nat → List D → Env → Option Env
  | [], [], env => some env
  | i :: is, d :: ds, env => do let e ← putS env i (.val d); unpS is ds e
  | _, _, _ => none
def bindT : Tg → D → Env → Option Env
  | .one i, d, env => putS env i (.val d)
  | .many is, .tup ds, env => unpS is ds env
  | .many is, .lst ds, env => unpS is ds env
  | .two a b, .tup [x, y], env => do let e ← bindT a x env; bindT b y e
  | _, _, _ => none
def wipeE (env : Env) : List Nat → Env
  | [] => env
  | v :: vs => (wipeE env vs).set v none
/-- behind a comprehension's turn: its own slots as they were -/
def backE (e0 : Env) : Env → List Nat → Env
  | env, [] => env
  | env, v :: vs => (backE e0 env vs).set v (e0[v]?.join)
def peek (env : Env) (i : Nat) : Option D :=
  match env[i]? with
  | some (some (.val d)) => some d
  | some (some (.own xs)) => some (.lst xs)
  | some (some (.par xs)) => some (.lst xs)
  | _ => none
def mutS (env : Env) (i : Nat) : Option (List D) :=
  match env[i]? with
  | some (some (.own xs)) => some xs
  | some (some (.par xs)) => some xs
  | _ => none
def setM (env : Env) (i : Nat) (xs : List D) : Env :=
  match env[i]? with
  | some (some (.own _)) => env.set i (some (.own xs))
  | some (some (.par _)) => env.set i (some (.par xs))
  | _ => env
def refs : List Ar → List Nat
  | [] => []
  | .v _ :: r => refs r
  | .r i :: r => i :: refs r
def argS (env : Env) : List Ar → Option (List Sl)
  | [] => some []
  | .v d :: r => (argS env r).map (.val d :: ·)
  | .r i :: r => do let xs ← mutS env i; let t ← argS env r; some (.par xs :: t)
def putBack : List Nat → List (List D) → Env → Option Env
  | [], [], env => some env
  | i :: is, xs :: r, env => putBack is r (setM env i xs)
  | _, _, _ => none
def permA {α : Type} (xs : List α) : List Nat → Option (List α)
  | [] => some []
  | i :: is => do let x ← xs[i]?; let r ← permA xs is; some (x :: r)
/-- what a field of an object holds -/
def fldD : List PySem.Str → List D → PySem.Str → Option D
  | k :: ks, x :: xs, f => if k = f then some x else fldD ks xs f
  | _, _, _ => none
abbrev FT := PySem.Str → List Sl → Option (D × List (List D))
def ownkS (F : FT) (c m g : PySem.Str) : D → List Nat → Option (List Sl) → Option D
  | .obj c' ks xs, rs, some ss => if c' = c ∧ m ∉ ks ∧ rs.isEmpty = true then (F g (.val (.obj c' ks xs) :: ss)).bind fun p => if p.2.isEmpty then some p.1 else none else none
  | _, _, _ => none
/-- isinstance of an own class -/
def iscS (c : PySem.Str) : D → Option D
  | .obj c' _ _ => if c' = c then some (.bl true) else none
  | _ => none
def eqoR (ng : Bool) : D × List (List D) → Option D
  | (.bl r, []) => some (.bl (if ng then !r else r))
  | _ => none
/-- == and != by an own __eq__ -/
def eqoS (F : FT) (ng : Bool) (c g : PySem.Str) : D → List D → Option D
  | .obj c1 ks xs, [.obj c2 ls ys] => if c1 = c ∧ c2 = c then (F g [.val (.obj c1 ks xs), .val (.obj c2 ls ys)]).bind (eqoR ng) else none
  | _, _ => none
/-- what an own __len__ tells -/
def lnoI : D × List (List D) → Option Int
  | (.int n, []) => if decide (0 ≤ n) && wi 62 n then some n else none
  | _ => none
def setJ (xs : List D) (k : Int) (d : D) : Option (List D) := (ixN xs.length k).map fun j => xs.set j d
/-- the item at a place is taken out -/
def popJ (env : Env) (i : Nat) (k : Int) : Option (D × Env) := do
  let xs ← mutS env i
  let j ← ixN xs.length k
  let d ← xs[j]?
  if wi 62 k then some (d, setM env i (xs.eraseIdx j)) else none
def compL (el : Env → Option (D × Env)) (cd : Env → Option (Bool × Env)) (tg : Tg) (own : List Nat) : List D → Env → Option (List D × Env)
  | [], env => some ([], env)
  | x :: xs, env => do
    let e1 ← bindT tg x (wipeE env own)
    let (b, e2) ← cd e1
    if b then do
      let (d, e3) ← el e2
      let (ds, e4) ← compL el cd tg own xs (backE env e3 own)
      some (d :: ds, e4)
    else compL el cd tg own xs (backE env e2 own)
mutual
def evE (F : FT) : Ex → Env → Option (D × Env)
  | .var i, env =>
    match env[i]? with
    | some (some (.val d)) => some (d, env)
    | some (some (.own xs)) => some (.lst xs, env.set i (some (.val (.lst xs))))
    | _ => none
  | .con d, env => some (d, env)
  | .glo x, env => do
    let (d, _) ← F x []
    some (d, env)
  | .ixv i e, env => do
    let _ ← peek env i
    let (k, e1) ← evE F e env
    let d ← peek e1 i
    let r ← opIx d k
    some (r, e1)
  | .lenv i, env => do
    let d ← peek env i
    let r ← opF .len [d]
    some (r, env)
  | .popv i e, env => do
    let _ ← mutS env i
    let (x, e1) ← evE F e env
    match x with
    | .int k => popJ e1 i k
    | _ => none
  | .bin o a b, env => do
    let (x, e1) ← evE F a env
    let (y, e2) ← evE F b e1
    let r ← opB o x y
    some (r, e2)
  | .neg a, env => do
    let (x, e1) ← evE F a env
    match x with
    | .int i => some (.int (-i), e1)
    | _ => none
  | .cmp o a b, env => do
    let (x, e1) ← evE F a env
    let (y, e2) ← evE F b e1
    let r ← opC o x y
    some (.bl r, e2)
  | .chn o o' a b c, env => do
    let (x, e1) ← evE F a env
    let (y, e2) ← evE F b e1
    let r ← opC o x y
    if r then do
      let (z, e3) ← evE F c e2
      let r' ← opC o' y z
      some (.bl r', e3)
    else some (.bl false, e2)
  | .vand a b, env => do
    let (x, e1) ← evE F a env
    match x with
    | .bl true => evE F b e1
    | .bl false => some (.bl false, e1)
    | _ => none
  | .vor a b, env => do
    let (x, e1) ← evE F a env
    match x with
    | .bl true => some (.bl true, e1)
    | .bl false => evE F b e1
    | _ => none
  | .vnot a, env => do
    let (x, e1) ← evE F a env
    match x with
    | .bl b => some (.bl (!b), e1)
    | _ => none
  | .ite c a b, env => do
    let (k, e1) ← evT F c env
    if k then evE F a e1 else evE F b e1
  | .tup es, env => do
    let (xs, e1) ← evL F es env
    if xs.length ≤ lim then some (.tup xs, e1) else none
  | .lst es, env => do
    let (xs, e1) ← evL F es env
    if xs.length ≤ lim then some (.lst xs, e1) else none
  | .ix a i, env => do
    let (x, e1) ← evE F a env
    let (y, e2) ← evE F i e1
    let r ← opIx x y
    some (r, e2)
  | .slc a lo hi, env => do
    let (x, e1) ← evE F a env
    let (l, e2) ← evO F lo e1
    let (h, e3) ← evO F hi e2
    let r ← opSl x l h
    some (r, e3)
  | .rev a, env => do
    let (x, e1) ← evE F a env
    match x with
    | .tup xs => some (.tup xs.reverse, e1)
    | _ => none
  | .call f pm es, env => do
    let (as, e1) ← evA F es env
    let as ← permA as pm
    if (refs as).Nodup then do
      let ss ← argS e1 as
      let (d, outs) ← F f ss
      let e2 ← putBack (refs as) outs e1
      some (d, e2)
    else none
  | .calln f g es, env => do
    let (ds, e1) ← evL F es env
    let (d, os) ← F g (ds.map Sl.val)
    match d, os with
    | .lst xs, [] => do
      let (r, outs) ← F f [.par xs]
      match outs with
      | [_] => some (r, e1)
      | _ => none
    | _, _ => none
  | .lrng e, env => do
    let (x, e1) ← evE F e env
    match x with
    | .int n => if wi 19 n then some (.lst (ran n.toNat), e1) else none
    | _ => none
  | .blt f es, env => do
    let (xs, e1) ← evL F es env
    let r ← opF f xs
    some (r, e1)
  | .comp w src tg cd el own, env => do
    let (xs, e1) ← evL F src env
    let its ← walk w xs
    if its.length ≤ lim && own.all (fun i => (mutS e1 i).isNone) then do
      let (ds, e2) ← compL (fun e => evE F el e) (fun e => evT F cd e) tg own its e1
      some (.lst ds, e2)
    else none
  | .att cs e f, env => do
    let (x, e1) ← evE F e env
    match x with
    | .obj c ks xs => if decide (c ∈ cs) then (fldD ks xs f).map fun d => (d, e1) else none
    | _ => none
  | .sg f, env =>
    match env[0]? with
    | some (some Sl.slf) => (F "" [.val (.str f)]).map fun p => (p.1, env)
    | _ => none
  | .mk c es, env => do
    let (ds, e1) ← evL F es env
    let (r, os) ← F c (ds.map Sl.val)
    match r, os with
    | .obj c' ks xs, [] => if c' = c then some (.obj c' ks xs, e1) else none
    | _, _ => none
  | .mth (.own c m g) e es, env => do
    let (x, e1) ← evE F e env
    let (ds, e2) ← evL F es e1
    match x with
    | .obj c' ks xs =>
      if c' = c ∧ m ∉ ks then (F g (.val (.obj c' ks xs) :: ds.map Sl.val)).bind fun p => if p.2.isEmpty then some (p.1, e2) else none
      else none
    | _ => none
  | .mth (.ownk c m g) e es, env => do
    let (x, e1) ← evE F e env
    let (as, e2) ← evA F es e1
    let d ← ownkS F c m g x (refs as) (argS e2 as)
    some (d, e2)
  | .mth (.lno c g) e es, env => do
    let (x, e1) ← evE F e env
    match x with
    | .obj c' ks xs => if c' = c then ((F g [.val (.obj c' ks xs)]).bind lnoI).map fun n => (D.int n, e1) else none
    | _ => none
  | .mth (.isc c) e es, env => do
    let (x, e1) ← evE F e env
    let d ← iscS c x
    some (d, e1)
  | .mth (.eqo ng c g) e es, env => do
    let (x, e1) ← evE F e env
    let (ds, e2) ← evL F es e1
    let d ← eqoS F ng c g x ds
    some (d, e2)
  | .mth m e es, env => do
    let (x, e1) ← evE F e env
    let (ds, e2) ← evL F es e1
    let r ← opM m x ds
    some (r, e2)
  | .fst es, env => do
    let (ds, e1) ← evL F es env
    let t ← catA PySem.Str.empty ds
    some (.str t, e1)
  | _, _ => none
def evT (F : FT) : Ex → Env → Option (Bool × Env)
  | .tnot a, env => do
    let (x, e1) ← evT F a env
    some (!x, e1)
  | .tand a b, env => do
    let (x, e1) ← evT F a env
    if x then evT F b e1 else some (false, e1)
  | .tor a b, env => do
    let (x, e1) ← evT F a env
    if x then some (true, e1) else evT F b e1
  | .tvar i, env => do
    let d ← peek env i
    let b ← tru d
    some (b, env)
  | .tval a, env => do
    let (x, e1) ← evE F a env
    let b ← tru x
    some (b, e1)
  | .tyes, env => some (true, env)
  | _, _ => none
def evL (F : FT) : Ex → Env → Option (List D × Env)
  | .nil, env => some ([], env)
  | .cons e es, env => do
    let (x, e1) ← evE F e env
    let (xs, e2) ← evL F es e1
    some (x :: xs, e2)
  | _, _ => none
def evA (F : FT) : Ex → Env → Option (List Ar × Env)
  | .nil, env => some ([], env)
  | .cons e es, env => do
    let (x, e1) ← evAr F e env
    let (xs, e2) ← evA F es e1
    some (x :: xs, e2)
  | _, _ => none
def evO (F : FT) : Ex → Env → Option (Option Int × Env)
  | .nil, env => some (none, env)
  | .tval e, env => do
    let (x, e1) ← evE F e env
    match x with
    | .int i => some (some i, e1)
    | _ => none
  | _, _ => none
def evAr (F : FT) : Ex → Env → Option (Ar × Env)
  | .ref i, env => do
    let _ ← mutS env i
    some (.r i, env)
  | .tval e, env => do
    let (x, e1) ← evE F e env
    some (.v x, e1)
  | _, _ => none
end
def whlN (c : Env → Option (Bool × Env)) (b : Env → Option (Fl × Env)) : Nat → Env → Option (Fl × Env)
  | 0, _ => none
  | n + 1, env => do
    let (k, e1) ← c env
    if k then do
      let (f, e2) ← b e1
      match f with
      | .nx => whlN c b n e2
      | .ct => whlN c b n e2
      | .bk => some (.nx, e2)
      | .rt d => some (.rt d, e2)
    else some (.nx, e1)
def forL (tg : Tg) (b : Env → Option (Fl × Env)) : List D → Env → Option (Fl × Env)
  | [], env => some (.nx, env)
  | x :: xs, env => do
    let e1 ← bindT tg x env
    let (f, e2) ← b e1
    match f with
    | .nx => forL tg b xs e2
    | .ct => forL tg b xs e2
    | .bk => some (.nx, e2)
    | .rt d => some (.rt d, e2)
def evS (F : FT) (fuel : Nat) : Sm → Env → Option (Fl × Env)
  | .nil, env => some (.nx, env)
  | .seq s r, env => do
    let (f, e1) ← evS F fuel s env
    match f with
    | .nx => evS F fuel r e1
    | f => some (f, e1)
  | .asg i e, env => do
    let (x, e1) ← evE F e env
    let e2 ← putS e1 i (.val x)
    some (.nx, e2)
  | .own i e, env => do
    let (x, e1) ← evE F e env
    match x with
    | .lst xs => do
      let e2 ← putS e1 i (.own xs)
      some (.nx, e2)
    | _ => none
  | .unp is e, env => do
    let (x, e1) ← evE F e env
    match x with
    | .tup xs => do
      let e2 ← unpS is xs e1
      some (.nx, e2)
    | .lst xs => do
      let e2 ← unpS is xs e1
      some (.nx, e2)
    | _ => none
  | .unt s t e, env => do
    let (x, e1) ← evE F e env
    let e2 ← bindT (.two s t) x e1
    some (.nx, e2)
  | .par i j oi oj a b, env => do
    let (x, e1) ← evE F a env
    let (y, e2) ← evE F b e1
    let e3 ← (if oi then (match x with | .lst xs => putS e2 i (.own xs) | _ => none) else putS e2 i (.val x))
    let e4 ← (if oj then (match y with | .lst xs => putS e3 j (.own xs) | _ => none) else putS e3 j (.val y))
    some (.nx, e4)
  | .par3 i j k es, env => do
    let (xs, e1) ← evL F es env
    let e2 ← unpS [i, j, k] xs e1
    some (.nx, e2)
  | .par3o i j k oi oj ok a b c, env => do
    let (x, e1) ← evE F a env
    let (y, e2) ← evE F b e1
    let (z, e3) ← evE F c e2
    let e4 ← putX oi e3 i x
    let e5 ← putX oj e4 j y
    let e6 ← putX ok e5 k z
    some (.nx, e6)
  | .app i e, env => do
    let _ ← mutS env i
    let (x, e1) ← evE F e env
    let xs ← mutS e1 i
    if xs.length < lim then some (.nx, setM e1 i (xs ++ [x])) else none
  | .seti i k e, env => do
    let (x, e1) ← evE F e env
    let _ ← mutS e1 i
    let (y, e2) ← evE F k e1
    match y with
    | .int k => do
      let xs ← mutS e2 i
      let ys ← setJ xs k x
      some (.nx, setM e2 i ys)
    | _ => none
  | .ret e, env => do
    let (x, e1) ← evE F e env
    some (.rt x, e1)
  | .retn, env => some (.rt .non, env)
  | .iff c t e, env => do
    let (k, e1) ← evT F c env
    if k then evS F fuel t e1 else evS F fuel e e1
  | .whl c b, env => whlN (fun e => evT F c e) (fun e => evS F fuel b e) fuel env
  | .for_ w src tg b, env => do
    let (xs, e1) ← evL F src env
    let its ← walk w xs
    if its.length ≤ lim then forL tg (fun e => evS F fuel b e) its e1 else none
  | .brk, env => some (.bk, env)
  | .cnt, env => some (.ct, env)
  | .pas, env => some (.nx, env)
  | .exp e, env => do
    let (_, e1) ← evE F e env
    some (.nx, e1)
  | .never, _ => none
  | .sset _ _, _ => none
structure FDef where
  ps : List PySem.Str
  ns : List PySem.Str
  body : Sm
  cl : Option PySem.Str
/-- the calls, with the fields of the object that is being made -/
def sfF (F : FT) (ks : List PySem.Str) (xs : List D) : FT := fun n ss =>
  if n = ("" : PySem.Str) then
    match ss with
    | [.val (.str f)] => (fldD ks xs f).map fun d => (d, [])
    | _ => none
  else F n ss
/-- an object's making -/
def evM (F : FT) (fuel : Nat) : Sm → Env → List PySem.Str → List D → Option (List PySem.Str × List D)
  | .nil, _, ks, xs => some (ks, xs)
  | .seq (.sset f e) r, env, ks, xs => do
    let (d, e1) ← evE (sfF F ks xs) e env
    match e1 with
    | some .slf :: _ => if f ∈ ks then none else evM F fuel r e1 (ks ++ [f]) (xs ++ [d])
    | _ => none
  | .seq s r, env, ks, xs => do
    let (fl, e1) ← evS (sfF F ks xs) fuel s env
    match fl with
    | .nx => evM F fuel r e1 ks xs
    | _ => none
  | _, _, _, _ => none
def outsOf : List Sl → Env → Option (List (List D))
  | [], _ => some []
  | .par _ :: r, some (.par xs) :: e => (outsOf r e).map (xs :: ·)
  | .par _ :: _, _ => none
  | _ :: r, _ :: e => outsOf r e
  | _ :: _, [] => none
def evD (F : FT) (fuel : Nat) (d : FDef) (ss : List Sl) : Option (D × List (List D)) :=
  match d.cl with
  | some c =>
    if ss.length + 1 = d.ps.length then
      (evM F fuel d.body (some .slf :: (ss.map some ++ List.replicate (d.ns.length - ss.length - 1) none)) [] []).map fun p => (D.obj c p.1 p.2, [])
    else none
  | none =>
    if ss.length = d.ps.length then do
      let (f, e) ← evS F fuel d.body (ss.map some ++ List.replicate (d.ns.length - ss.length) none)
      let outs ← outsOf ss e
      match f with
      | .rt x => some (x, outs)
      | .nx => some (.non, outs)
      | _ => none
    else none
/-- the defs of a text, one above the other -/
def evF (T : List (PySem.Str × FDef)) (fuel : Nat) : Nat → FT
  | 0 => fun _ _ => none
  | n + 1 => fun f ss => match T.lookup f with
    | some d => evD (evF T fuel n) fuel d ss
    | none => none
end Mn
namespace Mn
open PySem L2
/-! ### data in the abstract heap -/
/-- the script's list -/
def FzL (K : PySem.W.Frag) (H : Hp) (a : Addr) (xs : List V) : Prop := (∃ o, H a = some (.frz o (.lst xs))) ∨ ∃ o its n, List.lookup a K = some o ∧ o.cls = Value.type "list" ∧ o.dict = none ∧ o.data = Data.seq its n ∧ its.size ≤ sizeLine ∧ Vals xs its.toList
theorem FzL.sq {K : PySem.W.Frag} {H : Hp} {a : Addr} {xs : List V} (h : FzL K H a xs) : SqL K H a xs := h.elim (fun ⟨o, h⟩ => .inl (.inr ⟨o, h⟩)) .inr
mutual
def Rep (K : PySem.W.Frag) (H : Hp) (B : Addr → Prop) : D → V → Prop
  | .non, v => v = .non
  | .bl b, v => v = .bl b
  | .int i, v => v = .int i
  | .str x, v => v = .str x
  | .tup xs, v => ∃ a vs, v = .ref a ∧ SqT K H a vs ∧ RepL K H B xs vs
  | .lst xs, v => ∃ a vs, v = .ref a ∧ H a = some (.lst vs) ∧ ¬ B a ∧ RepL K H B xs vs
  | .scr ns, v => ∃ a, v = .ref a ∧ FzL K H a (ns.map V.int)
  | .obj c ks xs, v => ∃ a Cc dx vs, v = .ref a ∧ PySem.W.nsIn K mainGlobals c = some (some (.ref Cc)) ∧ H a = some (.ins Cc dx (ks.zip vs)) ∧ ¬ B a ∧ ks.length = xs.length ∧ RepL K H B xs vs
  | .adr a, v => v = .ref a
def RepL (K : PySem.W.Frag) (H : Hp) (B : Addr → Prop) : List D → List V → Prop
  | [], vs => vs = []
  | x :: xs, vs => ∃ v r, vs = v :: r ∧ Rep K H B x v ∧ RepL K H B xs r
end
abbrev AP' := Addr → Prop
def ins (p : Addr) (B : AP') : AP' := fun a => a = p ∨ B a
structure Nx (H : Hp) (B M : AP') (H' : Hp) (B' M' : AP') : Prop where
  keep : ∀ a o, H a = some o → ¬ M a → H' a = some o
  b : ∀ a, B' a → B a ∨ H a = none
  m : ∀ a, M' a → M a ∨ H a = none
  al : ∀ a, H' a = none → H a = none
theorem Nx.refl (H : Hp) (B M : AP') : Nx H B M H B M := ⟨fun _ _ h _ => h, fun _ h => .inl h, fun _ h => .inl h, fun _ h => h⟩
theorem Nx.trans {H B M H1 B1 M1 H2 B2 M2} (x : Nx H B M H1 B1 M1) (y : Nx H1 B1 M1 H2 B2 M2) : Nx H B M H2 B2 M2 where
  keep := fun a o h nm => y.keep a o (x.keep a o h nm) fun z => (x.m a z).elim nm fun q => by rw [q] at h; cases h
  b := fun a h => (y.b a h).elim (x.b a) fun q => .inr (x.al a q)
  m := fun a h => (y.m a h).elim (x.m a) fun q => .inr (x.al a q)
  al := fun a h => x.al a (y.al a h)
/-- nothing that stood has changed -/
def Al (H H' : Hp) : Prop := ∀ a o, H a = some o → H' a = some o
theorem Al.refl (H : Hp) : Al H H := fun _ _ h => h
theorem Al.trans {H H1 H2 : Hp} (x : Al H H1) (y : Al H1 H2) : Al H H2 := fun a o h => y a o (x a o h)
theorem Al.new {H : Hp} {p : Addr} {o : HO} (h : H p = none) : Al H (upd H p o) := fun a u e => by
  rw [upd_ne (ne_of_none e h)]; exact e
theorem Al.nx {H H' : Hp} {B M : AP'} (x : Al H H') : Nx H B M H' B M :=
  ⟨fun a o h _ => x a o h, fun _ h => .inl h, fun _ h => .inl h, fun a h => by
    cases q : H a with
    | none => rfl
    | some o => rw [x a o q] at h; cases h⟩
theorem upd_none {H : Hp} {p a : Addr} {o : HO} (h : upd H p o a = none) : H a = none := by
  by_cases e : a = p
  · subst e; rw [upd_same] at h; cases h
  · rw [upd_ne e] at h; exact h
/-- what may be shunned: a list, an object -/
inductive MO | l (vs : List V) | i (C dx : Addr) (fs : List (PySem.Str × V))
def MO.ho : MO → HO
  | .l vs => .lst vs
  | .i C dx fs => .ins C dx fs
def BL (H : Hp) (B : AP') : Prop := ∀ a, B a → ∃ o : MO, H a = some o.ho
theorem BL.ntup {H : Hp} {B : AP'} {a : Addr} {vs : List V} (bl : BL H B) (h : H a = some (.tup vs)) : ¬ B a := fun z => by
  obtain ⟨ws, e⟩ := bl a z; rw [h] at e; cases ws <;> cases e
theorem BL.nfrz {H : Hp} {B : AP'} {a : Addr} {o : Obj} {u : HO} (bl : BL H B) (h : H a = some (.frz o u)) : ¬ B a := fun z => by
  obtain ⟨ws, e⟩ := bl a z; rw [h] at e; cases ws <;> cases e
theorem nxT {K : PySem.W.Frag} {H B M H' B' M'} {a : Addr} {vs : List V} (bl : BL H B) (mb : ∀ a, M a → B a) (n : Nx H B M H' B' M') (h : SqT K H a vs) : SqT K H' a vs := by
  rcases h with (h | ⟨o, h⟩) | h
  · exact .inl (.inl (n.keep a _ h fun z => bl.ntup h (mb a z)))
  · exact .inl (.inr ⟨o, n.keep a _ h fun z => bl.nfrz h (mb a z)⟩)
  · exact .inr h
mutual
theorem Rep.nx {K : PySem.W.Frag} {H B M H' B' M'} (bl : BL H B) (mb : ∀ a, M a → B a) (n : Nx H B M H' B' M') : ∀ (d : D) (v : V), Rep K H B d v → Rep K H' B' d v
  | .non, _, h => h
  | .bl _, _, h => h
  | .int _, _, h => h
  | .str _, _, h => h
  | .tup xs, v, h => by
    obtain ⟨a, vs, e, q, r⟩ := h
    exact ⟨a, vs, e, nxT bl mb n q, RepL.nx bl mb n xs vs r⟩
  | .lst xs, v, h => by
    obtain ⟨a, vs, e, q, nb, r⟩ := h
    exact ⟨a, vs, e, n.keep a _ q fun z => nb (mb a z), fun z => (n.b a z).elim nb (fun w => by rw [w] at q; cases q), RepL.nx bl mb n xs vs r⟩
  | .scr ns, v, h => by
    obtain ⟨a, e, q⟩ := h
    refine ⟨a, e, ?_⟩
    rcases q with ⟨o, q⟩ | q
    · exact .inl ⟨o, n.keep a _ q fun z => bl.nfrz q (mb a z)⟩
    · exact .inr q
  | .obj c ks xs, v, h => by
    obtain ⟨a, Cc, dx, vs, e, g, q, nb, l, r⟩ := h
    exact ⟨a, Cc, dx, vs, e, g, n.keep a _ q fun z => nb (mb a z), fun z => (n.b a z).elim nb (fun w => by rw [w] at q; cases q), l, RepL.nx bl mb n xs vs r⟩
  | .adr _, _, h => h
theorem RepL.nx {K : PySem.W.Frag} {H B M H' B' M'} (bl : BL H B) (mb : ∀ a, M a → B a) (n : Nx H B M H' B' M') : ∀ (ds : List D) (vs : List V), RepL K H B ds vs → RepL K H' B' ds vs
  | [], _, h => h
  | d :: ds, vs, h => by
    obtain ⟨v, r, e, q, t⟩ := h
    exact ⟨v, r, e, Rep.nx bl mb n d v q, RepL.nx bl mb n ds r t⟩
end
/-- with fewer addresses shunned -/
theorem Rep.less {K : PySem.W.Frag} {H B B'} (bl : BL H B) (s : ∀ a, B' a → B a) {d : D} {v : V} (h : Rep K H B d v) : Rep K H B' d v :=
  Rep.nx (M := fun _ => False) (M' := fun _ => False) bl (fun _ z => z.elim) ⟨fun _ _ h _ => h, fun a h => .inl (s a h), fun _ h => .inl h, fun _ h => h⟩ d v h
theorem RepL.less {K : PySem.W.Frag} {H B B'} (bl : BL H B) (s : ∀ a, B' a → B a) {d : List D} {v : List V} (h : RepL K H B d v) : RepL K H B' d v :=
  RepL.nx (M := fun _ => False) (M' := fun _ => False) bl (fun _ z => z.elim) ⟨fun _ _ h _ => h, fun a h => .inl (s a h), fun _ h => .inl h, fun _ h => h⟩ d v h
theorem Rep.al {K : PySem.W.Frag} {H H' B} (bl : BL H B) (x : Al H H') {d : D} {v : V} (h : Rep K H B d v) : Rep K H' B d v :=
  Rep.nx (M := fun _ => False) (M' := fun _ => False) bl (fun _ z => z.elim) x.nx d v h
theorem RepL.al {K : PySem.W.Frag} {H H' B} (bl : BL H B) (x : Al H H') {d : List D} {v : List V} (h : RepL K H B d v) : RepL K H' B d v :=
  RepL.nx (M := fun _ => False) (M' := fun _ => False) bl (fun _ z => z.elim) x.nx d v h
theorem BL.al {H H' B} (bl : BL H B) (x : Al H H') : BL H' B := fun a h => let ⟨vs, e⟩ := bl a h; ⟨vs, x a _ e⟩
section
variable {K : PySem.W.Frag} {H : Hp} {B : AP'}
theorem RepL.len : ∀ {ds : List D} {vs : List V}, RepL K H B ds vs → vs.length = ds.length
  | [], _, h => by rw [show _ = _ from h]; rfl
  | _ :: ds, _, h => by
    obtain ⟨v, r, rfl, _, t⟩ := h
    simp [RepL.len t]
theorem RepL.nil : RepL K H B [] [] := rfl
theorem RepL.cons {d : D} {ds : List D} {v : V} {vs : List V} (h : Rep K H B d v) (t : RepL K H B ds vs) : RepL K H B (d :: ds) (v :: vs) := ⟨v, vs, rfl, h, t⟩
theorem RepL.get : ∀ {ds : List D} {vs : List V} {i : Nat} {d : D}, RepL K H B ds vs → ds[i]? = some d → ∃ v, vs[i]? = some v ∧ Rep K H B d v
  | [], _, _, _, _, e => by simp at e
  | x :: xs, _, 0, d, h, e => by
    obtain ⟨v, r, rfl, q, _⟩ := h
    simp at e; subst e
    exact ⟨v, rfl, q⟩
  | x :: xs, _, i + 1, d, h, e => by
    obtain ⟨v, r, rfl, _, t⟩ := h
    obtain ⟨w, e1, q⟩ := RepL.get (i := i) t (by simpa using e)
    exact ⟨w, by simpa using e1, q⟩
theorem RepL.get' : ∀ {ds : List D} {vs : List V} {i : Nat} {v : V}, RepL K H B ds vs → vs[i]? = some v → ∃ d, ds[i]? = some d ∧ Rep K H B d v
  | [], _, _, _, h, e => by rw [show _ = _ from h] at e; simp at e
  | x :: xs, _, 0, d, h, e => by
    obtain ⟨v, r, rfl, q, _⟩ := h
    simp at e; subst e
    exact ⟨x, rfl, q⟩
  | x :: xs, _, i + 1, d, h, e => by
    obtain ⟨v, r, rfl, _, t⟩ := h
    obtain ⟨w, e1, q⟩ := RepL.get' (i := i) t (by simpa using e)
    exact ⟨w, by simpa using e1, q⟩
theorem RepL.set {x : D} {v : V} (hx : Rep K H B x v) : ∀ {ds : List D} {vs : List V} {i : Nat}, RepL K H B ds vs → RepL K H B (ds.set i x) (vs.set i v)
  | [], _, _, h => by rw [show _ = _ from h]; rfl
  | y :: ys, _, 0, h => by
    obtain ⟨w, r, rfl, _, t⟩ := h
    exact ⟨v, r, rfl, hx, t⟩
  | y :: ys, _, i + 1, h => by
    obtain ⟨w, r, rfl, q, t⟩ := h
    exact ⟨w, r.set i v, rfl, q, RepL.set hx t⟩
theorem RepL.app : ∀ {ds es : List D} {vs ws : List V}, RepL K H B ds vs → RepL K H B es ws → RepL K H B (ds ++ es) (vs ++ ws)
  | [], _, _, _, h, g => by rw [show _ = _ from h]; exact g
  | _ :: _, _, _, _, h, g => by
    obtain ⟨w, r, rfl, q, t⟩ := h
    exact ⟨w, _, rfl, q, RepL.app t g⟩
theorem RepL.drop : ∀ {ds : List D} {vs : List V} (n : Nat), RepL K H B ds vs → RepL K H B (ds.drop n) (vs.drop n)
  | _, _, 0, h => by simpa using h
  | [], _, _ + 1, h => by rw [show _ = _ from h]; rfl
  | _ :: _, _, n + 1, h => by
    obtain ⟨w, r, rfl, q, t⟩ := h
    exact RepL.drop n t
theorem RepL.take : ∀ {ds : List D} {vs : List V} (n : Nat), RepL K H B ds vs → RepL K H B (ds.take n) (vs.take n)
  | _, _, 0, h => by simpa using RepL.nil
  | [], _, _ + 1, h => by rw [show _ = _ from h]; rfl
  | _ :: _, _, n + 1, h => by
    obtain ⟨w, r, rfl, q, t⟩ := h
    exact ⟨w, _, rfl, q, RepL.take n t⟩
theorem RepL.rep {xs : List D} {vs : List V} (h : RepL K H B xs vs) : ∀ n : Nat, RepL K H B (List.replicate n xs).flatten (List.replicate n vs).flatten
  | 0 => rfl
  | n + 1 => by rw [List.replicate_succ, List.replicate_succ, List.flatten_cons, List.flatten_cons]; exact h.app (RepL.rep h n)
theorem RepL.emp {ds : List D} {vs : List V} (h : RepL K H B ds vs) : vs.isEmpty = ds.isEmpty := by
  have e := h.len
  cases ds <;> cases vs <;> simp_all
theorem RepL.intsD : ∀ {ds : List D} {vs : List V} {ns : List Int}, RepL K H B ds vs → intsD ds = some ns → vs = ns.map V.int
  | [], _, _, h, e => by cases e; exact h
  | .int i :: r, _, ns, h, e => by
    obtain ⟨v, t, rfl, q, g⟩ := h
    simp only [Mn.intsD, Option.map_eq_some_iff] at e
    obtain ⟨ms, e1, rfl⟩ := e
    rw [show v = V.int i from q, RepL.intsD g e1]; rfl
  | .non :: _, _, _, _, e => by simp [Mn.intsD] at e
  | .bl _ :: _, _, _, _, e => by simp [Mn.intsD] at e
  | .str _ :: _, _, _, _, e => by simp [Mn.intsD] at e
  | .tup _ :: _, _, _, _, e => by simp [Mn.intsD] at e
  | .lst _ :: _, _, _, _, e => by simp [Mn.intsD] at e
  | .scr _ :: _, _, _, _, e => by simp [Mn.intsD] at e
  | .obj _ _ _ :: _, _, _, _, e => by simp [Mn.intsD] at e
  | .adr _ :: _, _, _, _, e => by simp [Mn.intsD] at e
theorem RepL.boolsD : ∀ {ds : List D} {vs : List V} {ns : List Bool}, RepL K H B ds vs → boolsD ds = some ns → vs = ns.map V.bl
  | [], _, _, h, e => by cases e; exact h
  | .bl i :: r, _, ns, h, e => by
    obtain ⟨v, t, rfl, q, g⟩ := h
    simp only [Mn.boolsD, Option.map_eq_some_iff] at e
    obtain ⟨ms, e1, rfl⟩ := e
    rw [show v = V.bl i from q, RepL.boolsD g e1]; rfl
  | .non :: _, _, _, _, e => by simp [Mn.boolsD] at e
  | .int _ :: _, _, _, _, e => by simp [Mn.boolsD] at e
  | .str _ :: _, _, _, _, e => by simp [Mn.boolsD] at e
  | .tup _ :: _, _, _, _, e => by simp [Mn.boolsD] at e
  | .lst _ :: _, _, _, _, e => by simp [Mn.boolsD] at e
  | .scr _ :: _, _, _, _, e => by simp [Mn.boolsD] at e
  | .obj _ _ _ :: _, _, _, _, e => by simp [Mn.boolsD] at e
  | .adr _ :: _, _, _, _, e => by simp [Mn.boolsD] at e
theorem dpInts : ∀ ns : List Int, DpAll K H (ns.map V.int) (ns.map PyData.int)
  | [] => .nil
  | i :: r => .cons (.int i) (dpInts r)
mutual
theorem Rep.dp : ∀ (d : D) (v : V), nob d = true → Rep K H B d v → Dp K H v (toP d)
  | .non, _, _, h => by cases h; exact .non
  | .bl _, _, _, h => by cases h; exact .bl _
  | .int _, _, _, h => by cases h; exact .int _
  | .str _, _, _, h => by cases h; exact .str _
  | .tup xs, v, nb, h => by
    obtain ⟨a, vs, rfl, q, r⟩ := h
    exact .tup q (RepL.dp xs vs nb r)
  | .lst xs, v, nb, h => by
    obtain ⟨a, vs, rfl, q, _, r⟩ := h
    exact .lst (.inl (.inl q)) (RepL.dp xs vs nb r)
  | .scr ns, v, _, h => by
    obtain ⟨a, rfl, q⟩ := h
    exact .lst q.sq (dpInts ns)
  | .obj _ _ _, _, nb, _ => by cases nb
  | .adr _, _, nb, _ => by cases nb
theorem RepL.dp : ∀ (d : List D) (v : List V), nobL d = true → RepL K H B d v → DpAll K H v (toPL d)
  | [], _, _, h => by rw [show _ = _ from h]; exact .nil
  | x :: xs, _, nb, h => by
    obtain ⟨v, t, rfl, q, g⟩ := h
    have nb' : (nob x && nobL xs) = true := nb
    rw [Bool.and_eq_true] at nb'
    exact .cons (Rep.dp x v nb'.1 q) (RepL.dp xs t nb'.2 g)
end
end
/-! ### the state of a def's frame -/
structure Ctx where
  K : PySem.W.Frag
  P : Nat → Option Addr
  B0 : AP'
  F : FT
  fuel : Nat
  K0 : Addr → Option (Addr × Addr × List (PySem.Str × V)) := fun _ => none
  X0 : List (D × V) := []
structure Sim (C : Ctx) (H : Hp) (B M : AP') (σ : L2.St) (env : Env) : Prop where
  len : σ.length = env.length
  bl : BL H B
  mb : ∀ a, M a → B a
  lo : ∀ a, C.B0 a → B a
  val : ∀ (i : Nat) (d : D), env[i]? = some (some (Sl.val d)) → ∃ v, σ[i]? = some (some v) ∧ Rep C.K H B d v
  own : ∀ (i : Nat) (xs : List D), env[i]? = some (some (Sl.own xs)) → ∃ a vs, σ[i]? = some (some (.ref a)) ∧ H a = some (.lst vs) ∧ RepL C.K H B xs vs ∧ M a ∧ ¬ C.B0 a
  par : ∀ (i : Nat) (xs : List D), env[i]? = some (some (Sl.par xs)) → ∃ a vs, C.P i = some a ∧ σ[i]? = some (some (.ref a)) ∧ H a = some (.lst vs) ∧ RepL C.K H B xs vs ∧ M a
  inj : ∀ (i j : Nat) (xs ys : List D) (a : Addr), mutS env i = some xs → mutS env j = some ys → σ[i]? = some (some (.ref a)) → σ[j]? = some (some (.ref a)) → i = j
  kp : ∀ a o, C.K0 a = some o → H a = some (.ins o.1 o.2.1 o.2.2) ∧ ¬ M a
  ex : ∀ d v, (d, v) ∈ C.X0 → Rep C.K H B d v
  sl : ∀ i, env[i]? = some (some Sl.slf) → ∃ a, C.P i = some a ∧ σ[i]? = some (some (.ref a))
variable {C : Ctx} {H H' : Hp} {B M B' M' : AP'} {σ : L2.St} {env : Env}
theorem Sim.mut (s : Sim C H B M σ env) {i : Nat} {xs : List D} (h : mutS env i = some xs) : ∃ a vs, σ[i]? = some (some (.ref a)) ∧ H a = some (.lst vs) ∧ RepL C.K H B xs vs ∧ M a := by
  unfold mutS at h
  split at h
  · cases h
    obtain ⟨a, vs, h1, h2, h3, h4, _⟩ := s.own i _ (by assumption)
    exact ⟨a, vs, h1, h2, h3, h4⟩
  · cases h
    obtain ⟨a, vs, _, h1, h2, h3, h4⟩ := s.par i _ (by assumption)
    exact ⟨a, vs, h1, h2, h3, h4⟩
  · cases h
/-- nothing of what the frame owns has changed -/
theorem Sim.al (s : Sim C H B M σ env) (x : Al H H') : Sim C H' B M σ env where
  len := s.len
  bl := s.bl.al x
  mb := s.mb
  lo := s.lo
  val := fun i d h => let ⟨v, e, r⟩ := s.val i d h; ⟨v, e, r.al s.bl x⟩
  own := fun i xs h => let ⟨a, vs, e, q, r, m, n⟩ := s.own i xs h; ⟨a, vs, e, x a _ q, r.al s.bl x, m, n⟩
  par := fun i xs h => let ⟨a, vs, p, e, q, r, m⟩ := s.par i xs h; ⟨a, vs, p, e, x a _ q, r.al s.bl x, m⟩
  inj := s.inj
  kp := fun a o h => ⟨x a _ (s.kp a o h).1, (s.kp a o h).2⟩
  ex := fun d v h => (s.ex d v h).al s.bl x
  sl := s.sl
theorem BL.ins {p : Addr} {vs : List V} (bl : BL H B) (h : H p = some (.lst vs)) : BL H (ins p B) := fun a z => z.elim (fun e => ⟨.l vs, e ▸ h⟩) (bl a)
/-- a new list laid at p, and shunned -/
theorem RepL.lay {K : PySem.W.Frag} {p : Addr} {vs : List V} (bl : BL H B) (hp : H p = none) {ds : List D} {ws : List V} (r : RepL K H B ds ws) : RepL K (upd H p (.lst vs)) (Mn.ins p B) ds ws :=
  RepL.nx (M := fun _ => False) (M' := fun _ => False) bl (fun _ z => z.elim) ⟨fun a o h _ => Al.new hp a o h, fun a h => h.elim (fun e => .inr (e ▸ hp)) .inl, fun _ h => .inl h, fun a h => upd_none h⟩ ds ws r
theorem Rep.lay {K : PySem.W.Frag} {p : Addr} {vs : List V} (bl : BL H B) (hp : H p = none) {ds : D} {ws : V} (r : Rep K H B ds ws) : Rep K (upd H p (.lst vs)) (Mn.ins p B) ds ws :=
  Rep.nx (M := fun _ => False) (M' := fun _ => False) bl (fun _ z => z.elim) ⟨fun a o h _ => Al.new hp a o h, fun a h => h.elim (fun e => .inr (e ▸ hp)) .inl, fun _ h => .inl h, fun a h => upd_none h⟩ ds ws r
theorem Sim.lay (s : Sim C H B M σ env) {p : Addr} {vs : List V} (hp : H p = none) : Sim C (upd H p (.lst vs)) (ins p B) M σ env where
  len := s.len
  bl := (s.bl.al (Al.new hp)).ins upd_same
  mb := fun a z => .inr (s.mb a z)
  lo := fun a z => .inr (s.lo a z)
  val := fun i d h => let ⟨v, e, r⟩ := s.val i d h; ⟨v, e, r.lay s.bl hp⟩
  own := fun i xs h => let ⟨a, vs, e, q, r, m, n⟩ := s.own i xs h; ⟨a, vs, e, Al.new hp a _ q, r.lay s.bl hp, m, n⟩
  par := fun i xs h => let ⟨a, vs, p', e, q, r, m⟩ := s.par i xs h; ⟨a, vs, p', e, Al.new hp a _ q, r.lay s.bl hp, m⟩
  inj := s.inj
  kp := fun a o h => ⟨Al.new hp a _ (s.kp a o h).1, (s.kp a o h).2⟩
  ex := fun d v h => (s.ex d v h).lay s.bl hp
  sl := s.sl
/-- p is no longer shunned -/
theorem Sim.less (s : Sim C H B M σ env) (sub : ∀ a, B' a → B a) (mb : ∀ a, M a → B' a) (lo : ∀ a, C.B0 a → B' a) : Sim C H B' M σ env where
  len := s.len
  bl := fun a z => s.bl a (sub a z)
  mb := mb
  lo := lo
  val := fun i d h => let ⟨v, e, r⟩ := s.val i d h; ⟨v, e, r.less s.bl sub⟩
  own := fun i xs h => let ⟨a, vs, e, q, r, m, n⟩ := s.own i xs h; ⟨a, vs, e, q, r.less s.bl sub, m, n⟩
  par := fun i xs h => let ⟨a, vs, p', e, q, r, m⟩ := s.par i xs h; ⟨a, vs, p', e, q, r.less s.bl sub, m⟩
  inj := s.inj
  kp := s.kp
  ex := fun d v h => (s.ex d v h).less s.bl sub
  sl := s.sl
/-! ### what a piece of code asks -/
def tE (C : Ctx) (x : Ex) : TE := fun σ H Q => ∃ B M env d env', Sim C H B M σ env ∧ evE C.F x env = some (d, env') ∧
  ∀ v H' B' M', Sim C H' B' M' σ env' → Rep C.K H' B' d v → Nx H B M H' B' M' → Q v H'
def tT (C : Ctx) (x : Ex) : TT := fun σ H Q => ∃ B M env d env', Sim C H B M σ env ∧ evT C.F x env = some (d, env') ∧
  ∀ H' B' M', Sim C H' B' M' σ env' → Nx H B M H' B' M' → Q d H'
def tL (C : Ctx) (x : Ex) : TA := fun σ H Q => ∃ B M env d env', Sim C H B M σ env ∧ evL C.F x env = some (d, env') ∧
  ∀ v H' B' M', Sim C H' B' M' σ env' → RepL C.K H' B' d v → Nx H B M H' B' M' → Q v H'
/-- a new list that may be owned -/
def tN (C : Ctx) (x : Ex) : TE := fun σ H Q => ∃ B M env xs env', Sim C H B M σ env ∧ evE C.F x env = some (.lst xs, env') ∧
  ∀ p vs H' B' M', Sim C H' (ins p B') M' σ env' → H' p = some (.lst vs) → RepL C.K H' (ins p B') xs vs → ¬ B' p → (∀ a, M' a → B' a) → (∀ a, C.B0 a → B' a) → H p = none → Nx H B M H' B' M' → Q (.ref p) H'
theorem _root_.L2.PE.imp {X : Cx} {e : Expr} {t t' : TE} (h : PE X e t) (i : ∀ σ H Q, t' σ H Q → t σ H Q) : PE X e t' := ⟨fun pins s σ H Q I q => h.run pins s σ H Q I (i σ H Q q)⟩
theorem _root_.L2.PT.imp {X : Cx} {e : Expr} {t t' : TT} (h : PT X e t) (i : ∀ σ H Q, t' σ H Q → t σ H Q) : PT X e t' := ⟨fun pins s σ H Q I q => h.run pins s σ H Q I (i σ H Q q)⟩
theorem _root_.L2.PW.imp {X : Cx} {e : Expr} {t t' : TT} (h : PW X e t) (i : ∀ σ H Q, t' σ H Q → t σ H Q) : PW X e t' := ⟨fun w pins s σ H Q I q => h.run w pins s σ H Q I (i σ H Q q)⟩
theorem _root_.L2.PA.imp {X : Cx} {e : List Expr} {t t' : TA} (h : PA X e t) (i : ∀ σ H Q, t' σ H Q → t σ H Q) : PA X e t' := ⟨fun p pins s σ H Q I q => h.run p pins s σ H Q I (i σ H Q q)⟩
theorem _root_.L2.PS.imp {X : Cx} {e : Stmt} {t t' : TS} (h : PS X e t) (i : ∀ D σ H, t' D σ H → t D σ H) : PS X e t' := ⟨fun pins s σ H D I q => h.run pins s σ H D I (i D σ H q)⟩
theorem _root_.L2.PSs.imp {X : Cx} {e : List Stmt} {t t' : TS} (h : PSs X e t) (i : ∀ D σ H, t' D σ H → t D σ H) : PSs X e t' := ⟨fun pins s σ H D I q => h.run pins s σ H D I (i D σ H q)⟩
/-- the new list as a datum -/
theorem nE {X : Cx} {e : Expr} {x : Ex} (hl : ∀ env d env', evE C.F x env = some (d, env') → ∃ xs, d = .lst xs) (h : PE X e (tN C x)) : PE X e (tE C x) := h.imp fun σ H Q q => by
  obtain ⟨B, M, env, d, env', s, ev, q⟩ := q
  obtain ⟨xs, rfl⟩ := hl _ _ _ ev
  refine ⟨B, M, env, xs, env', s, ev, fun p vs H' B' M' s' hp r nb mb lo _ n => ?_⟩
  refine q _ _ B' M' (s'.less (fun a z => .inr z) mb lo) ⟨p, vs, rfl, hp, nb, r.less s'.bl fun a z => .inr z⟩ n
end Mn
/-! What a def promises where no repr is under way around it: as FnOk, but for calls with `quiet` surroundings alone. -/
namespace Mn
open PySem PySem.Spec PyProof.Rows L2
/-- no repr is under way -/
def Qt (A : Around) : Prop := A.guards = some []
theorem Qt.deeper {A : Around} (h : Qt A) (e : PySem.Env) : Qt (A.deeper e) := h
theorem Qt.top : Qt callerA := rfl
section
variable {P : Program} {w : World} {K : PySem.W.Frag} {mg : PySem.Str → Option Value} {base : Heap}
structure FnG (P : Program) (w : World) (K : PySem.W.Frag) (mg : PySem.Str → Option Value) (base : Heap) (lv : Nat) (fa : Addr) (fd : FuncData) (ps : List PySem.Str) (sp : Sp) : Prop where
  ln : ∀ vs H Q E, sp vs H Q E → vs.length = ps.length
  go : ∀ (A : Around) (out : List PySem.Env) (s : Shared) (H : Hp) (ar : Args) (us : List Value) (vs : List V) (Q : VK) (E : XK),
    Qt A → Room lv A → Env0 P w K mg base A out s H → BindsTo s fd ar (ps.zip us) → Vals vs us → sp vs H Q E → codeAny (model P w) A (.call (.ref fa) ar) (CR CX0 out P w H s Q E) s
/-- a def by its body -/
theorem funG {x q : PySem.Str} {st : Stmt} {fa : Addr} {fd : FuncData} {N ps : List PySem.Str} {lv : Nat} {sp : Sp} (F : Fun K x q st fa fd) (S : FnScope N ps (defScope st)) (ln : ∀ vs H Q E, sp vs H Q E → vs.length = ps.length)
    (body : ∀ (cd : Value) (A : Around) (out : List PySem.Env) (s : Shared) (H : Hp) (vs : List V) (Q : VK) (E : XK), Qt A → Room lv (A.deeper (envOfC q (defScope st) s.heap.objs.size fa cd)) → sp vs H Q E →
      ∃ t, PSs (cxOf CX0 P w K mg base N q (defScope st) fa cd A out s H E).nox (defBody st) t ∧ t { nx := fun _ H' => Q .non H', rt := Q } (L2.start N vs) H) : FnG P w K mg base (lv + 1) fa fd ps sp := by
  obtain ⟨oc, od, kV, doc, pm, an, cdv, ct, osl, rfl, lk, hcd⟩ := F.ex
  constructor
  · exact ln
  intro A out s H ar us vs Q E qt rm en bd rv h
  have hn := ln _ _ _ _ h
  have inK : K.In s.heap := en.mod.kin.keeps (fun b o e => (en.bs b o e).left)
  have nl : s.heap.NoLimit := en.mod.nolimit.keeps (fun b o e => (en.bs b o e).left)
  have kinds : ∀ y ∈ ps.zip us, (defScope st).names.lookup y.1 = some .local ∨ ((defScope st).names.lookup y.1 = some .cell ∧ ((cellsFrom (s.heap.objs.size + 1) (defScope st).names []).lookup y.1).isSome = true) := by
    rintro ⟨z, v⟩ hz
    cases S.par z (List.of_mem_zip hz).left with
    | inl g => exact Or.inl g
    | inr g => exact Or.inr ⟨g, PySem.W.cellsFrom_some _ _ _ (Or.inl g)⟩
  apply codeAny_call_function rm.depth (inK _ _ lk) rfl S.co S.gen rfl (PySem.W.codeRec_of inK hcd)
  apply bd
  apply wpAny_newFunctionEnv_cells S.kind kinds
  rintro _ rfl s1 ic
  constructor
  · exact nl.keeps ic.toInCall.keep
  apply codeAny_func
  obtain ⟨t, pt, ht⟩ := body cdv A out s H vs Q E qt (rm.deeper _) h
  have J : Inv (cxOf CX0 P w K mg base N q (defScope st) fa cdv A out s H E) [] (L2.start N vs) H s1 := L2.inv_start S rm.hd en hn rv ic
  apply wpAny_mono (pt.nox.run [] s1 _ H _ J ht)
  · intro fl s' hs
    have ende : ∀ {τ : L2.St} {H2 : Hp} {v : V} {u : Value}, Inv (cxOf CX0 P w K mg base N q (defScope st) fa cdv A out s H E) [] τ H2 s' → RelV v u → Q v H2 → CE out P w H s Q u s' := by
      intro τ H2 v u I2 rr qq
      exact ⟨v, H2, I2.os, I2.bare, I2.base, I2.hok, rr, qq⟩
    cases fl
    case ret u => obtain ⟨v, τ, H2, I2, rr, qq⟩ := hs; exact ende I2 rr qq
    case next => obtain ⟨τ, H2, I2, qq⟩ := hs; exact ende (v := .non) (u := .none) I2 rfl qq
    case brk => obtain ⟨_, _, _, z⟩ := hs; exact z.elim
    case cont => obtain ⟨_, _, _, z⟩ := hs; exact z.elim
  · intro e s' hs; exact hs
/-- the law's own call, at the top -/
theorem law_callG {mb : PySem.Str → Option Value} {lv : Nat} {fa a : Addr} {fd : FuncData} {x : PySem.Str} {sp : Sp} {s₁ : Shared} {vs : List Value} {ns : List Int}
    (inK : K.In s₁.heap) (gn : s₁.heap.Ns mainGlobals mg) (bn : s₁.heap.Ns builtinsNs mb) (bb : ∀ y : PySem.Str, y ≠ "__name__" → mb y = bootBuiltins y) (nl : s₁.heap.NoLimit) (g0 : s₁.gens = #[])
    (ea : s₁.heap.get? a = some { cls := .type "list", data := .seq vs.toArray }) (ia : IntsAre vs ns) (ln : ns.length ≤ sizeLine) (rm : Room lv callerA)
    (F : ∀ base : Heap, K.In base → base.Ns mainGlobals mg → FnG P w K mg base lv fa fd [x] sp) (bd : ∀ (s : Shared) (u : Value), BindsTo s fd ⟨[u], []⟩ [(x, u)])
    (hs : ∀ H : Hp, Only H → SqL K H a (ns.map V.int) → sp [.ref a] H (fun v _ => v = .bl true) E0) :
    codeAny (model P w) callerA (.call (.ref fa) ⟨[.ref a], []⟩) (fun r s' => r = .ok (.ret (.bool true)) ∧ OldK s₁.heap s'.heap ∧ s'.os = s₁.os ∧ AllBare s'.gens) s₁ := by
  have rv := vals_ints ia
  have vl := ia.length
  have main : ∀ H : Hp, Only H → SqL K H a (ns.map V.int) → HOk P w H s₁.heap → (∀ b, H b ≠ none → b = a) → (H a ≠ none → K.lookup a = none) →
      codeAny (model P w) callerA (.call (.ref fa) ⟨[.ref a], []⟩) (fun r s' => r = .ok (.ret (.bool true)) ∧ OldK s₁.heap s'.heap ∧ s'.os = s₁.os ∧ AllBare s'.gens) s₁ := by
    intro H on sq ok one noK
    have hid : ∀ {b : Addr} {o : Obj}, s₁.heap.get? b = some o → H b = none → (hidT s₁.heap H).get? b = some o := hidT_get
    have none_of : ∀ {b : Addr}, b ≠ a → H b = none := fun {b} ne => Classical.byContradiction fun z => ne (one b z)
    have ns_of : ∀ {b : Addr} {m : PySem.Str → Option Value}, s₁.heap.Ns b m → (hidT s₁.heap H).Ns b m := by
      rintro b m ⟨o, es, ep, e, d, r⟩
      refine ⟨o, es, ep, hid e (none_of ?_), d, r⟩
      rintro rfl
      rw [ea] at e
      cases e
      cases d
    have inH : K.In (hidT s₁.heap H) := by
      intro b o e
      apply hid (inK b o e)
      by_cases ne : b = a
      · subst ne
        refine Classical.byContradiction fun z => ?_
        rw [noK z] at e
        cases e
      · exact none_of ne
    obtain ⟨mc, l1, l2⟩ := nl
    have M : L2.Mod K mg (hidT s₁.heap H) := ⟨inH, ns_of gn, ⟨mb, ns_of bn, bb⟩, ⟨mc, ns_of l1, l2⟩⟩
    have en : Env0 P w K mg (hidT s₁.heap H) callerA [] s₁ H :=
      { frames := rfl, mod := M, bs := fun b o e => of_hidT e, bsz := Nat.le_of_eq (hidT_size _ _), funs := trivial, frf := (fun b z => absurd (show b ∈ ([] : List Addr) from z) List.not_mem_nil), hok := ok, bare := AllBare.of_eq g0 }
    have run := (F _ inH (ns_of gn)).go callerA [] s₁ H ⟨[.ref a], []⟩ [.ref a] [.ref a] _ _ Qt.top rm en (bd s₁ (.ref a)) (.cons rfl .nil) (hs H on sq)
    refine codeAny_mono run ?_
    intro r s' h
    match r, h with
    | .error e, h => exact False.elim h
    | .ok .next, h => exact False.elim h
    | .ok .brk, h => exact False.elim h
    | .ok .cont, h => exact False.elim h
    | .ok (.ret u), h =>
      obtain ⟨v, H2, os, bare, un, ok2, ru, hv⟩ := h
      have hv : v = .bl true := hv
      subst hv
      obtain rfl : u = Value.bool true := ru
      refine ⟨rfl, OldK.of_keep ?_, os, bare⟩
      intro b o e
      by_cases z : H b = none
      · exact un.keep b o e z (fun m => absurd (show b ∈ ([] : List Addr) from m) List.not_mem_nil) (fun m => absurd (show b ∈ ([] : List Addr) from m) List.not_mem_nil)
      · rcases on b with y | ⟨ob, xs, y⟩
        · exact absurd y z
        · have y2 := un.frzs b ob _ y
          obtain ⟨k1, _⟩ := ok b _ y
          obtain ⟨k2, _⟩ := ok2 b _ y2
          rw [e] at k1
          cases k1
          exact k2
  cases lk : K.lookup a with
  | some o =>
    have e := inK a o lk
    rw [ea] at e
    cases e
    apply main (fun _ => none)
    · intro _; exact .inl rfl
    · exact .inr ⟨_, vs.toArray, _, lk, rfl, rfl, rfl, by rw [List.size_toArray, vl]; exact ln, by simpa using rv⟩
    · intro b u z; exact nomatch z
    · intro b z; exact absurd rfl z
    · intro z; exact absurd rfl z
  | none =>
    have at_a : ∀ {b : Addr} {u : HO}, (if b = a then some (HO.frz { cls := .type "list", data := .seq vs.toArray } (.lst (ns.map V.int))) else none) = some u → b = a ∧ u = HO.frz { cls := .type "list", data := .seq vs.toArray } (.lst (ns.map V.int)) := by
      intro b u z
      split at z
      · cases z; exact ⟨by assumption, rfl⟩
      · cases z
    apply main (fun b => if b = a then some (.frz { cls := .type "list", data := .seq vs.toArray } (.lst (ns.map V.int))) else none)
    · intro b
      by_cases z : b = a
      · exact .inr ⟨_, _, if_pos z⟩
      · exact .inl (if_neg z)
    · exact .inl (.inr ⟨_, if_pos rfl⟩)
    · intro b u z
      obtain ⟨rfl, rfl⟩ := at_a z
      exact ⟨ea, by rw [List.length_map]; exact ln, vs, _, rv, ea⟩
    · intro b z
      exact Classical.byContradiction fun y => z (if_neg y)
    · intro _; exact lk
/-- the end of a law's proof, from its promise -/
theorem walkG {l : PySem.W.OpenLaw} {n k : Nat} {q : Program} {loose : List PySem.Str} {XP : (PySem.Str → Option Value) → Heap → Prop} {YP : World → Heap → Prop} {d : DefRec} {KK : Params → PySem.W.Frag} {sp : World → Sp} {x : PySem.Str}
    (hn : l.most = some n) (hn2 : n ≤ sizeLine) (hdf : d.params.defaults = []) (hr : Room k callerA) (hY : ∀ (w : World) (h : Heap), YP w h → (KK w.params).In h)
    (F : ∀ (w : World) (mg : PySem.Str → Option Value) (fa : Addr) (h : Heap), (KK w.params).In h → h.Ns mainGlobals mg → mg d.name = some (.ref fa) →
      ∃ fd : FuncData, (∀ (s : Shared) (u : Value), BindsTo s fd ⟨[u], []⟩ [(x, u)]) ∧ ∀ base : Heap, (KK w.params).In base → base.Ns mainGlobals mg → FnG l.prog w (KK w.params) mg base k fa fd [x] (sp w))
    (hsp : ∀ (w : World) (H : Hp) (a : Addr) (ns : List Int), ns.length ≤ n → Only H → SqL (KK w.params) H a (ns.map V.int) → sp w [.ref a] H (fun v _ => v = .bl true) E0) :
    PySem.W.WalkO q loose XP YP l.row.toRowW d [] (fun f vs => PySem.call f vs) := by
  apply Att.attach_call hn hdf
  intro w s₀ s₁ mg mb fa o pm cd doc a vs ns G Y ho hd hcd hmg hobj hints hlen hg
  have inK := hY w _ Y
  obtain ⟨fd, bd, FF⟩ := F w mg fa _ inK G.T.g hmg
  exact law_callG inK G.T.g G.T.b G.T.builtins G.T.nolimit hg hobj hints (Nat.le_trans hlen hn2) hr FF bd (fun H on sq => hsp w H a ns hlen on sq)
end
section
variable {X : Cx} {lv : Nat} {fa : Addr} {fd : FuncData} {ps : List PySem.Str} {sp : Sp} {x : PySem.Str} {p pos : Pos}
theorem goG {pins : List (Addr × Obj)} {σ : L2.St} {H : Hp} {s : Shared} {Q : VK} {ar : Args} {us : List Value} {vs : List V} (F : FnG X.prog X.w X.K X.mg X.base lv fa fd ps sp) (qt : Qt X.A) (rm : Room lv X.A) (I : Inv X pins σ H s) (bd : BindsTo s fd ar (ps.zip us)) (rv : Vals vs us) (h : sp vs H Q E0) :
    codeAny (model X.prog X.w) X.A (.call (.ref fa) ar) (fun r s' => match r with | .ok (.ret u) => EP X pins σ Q u s' | _ => False) s := by
  refine codeAny_mono (F.go X.A X.stack s H ar us vs Q E0 qt rm I.env0 bd rv h) ?_
  intro r s' hr
  match r, hr with
  | .ok (.ret u), hr => exact I.after hr
  | .ok .next, hr => exact False.elim hr
  | .ok .brk, hr => exact False.elim hr
  | .ok .cont, hr => exact False.elim hr
  | .error e, hr => exact False.elim hr
theorem callG {pins : List (Addr × Obj)} {σ : L2.St} {H : Hp} {s : Shared} {Q : VK} {us : List Value} {vs : List V} (F : FnG X.prog X.w X.K X.mg X.base lv fa fd ps sp) (qt : Qt X.A) (rm : Room lv X.A) (bd : Binds X.K fd ps []) (I : Inv X pins σ H s) (rv : Vals vs us) (h : sp vs H Q E0) :
    wpAny (model X.prog X.w) X.A (call (.ref fa) us) (EP X pins σ Q) X.xe s := by
  have hl : us.length = ps.length := by rw [← rv.length]; exact F.ln _ _ _ _ h
  have b := bd s us I.kIn (by rw [List.append_nil]; exact hl)
  rw [List.append_nil] at b
  refine wpAny_call (codeAny_mono (goG F qt rm I b rv h) ?_)
  intro r s' hr
  match r, hr with
  | .ok (.ret u), hr => exact hr
theorem callKG {pins : List (Addr × Obj)} {σ : L2.St} {H : Hp} {s : Shared} {Q : VK} {ks : List PySem.Str} {g : List Value → List Value → List Value} {gV : List V → List V → List V} {us ws : List Value} {vs zs : List V} (F : FnG X.prog X.w X.K X.mg X.base lv fa fd ps sp) (qt : Qt X.A) (rm : Room lv X.A) (bd : KBinds X.K fd ps ks g gV)
    (I : Inv X pins σ H s) (rv : Vals vs us) (rz : Vals zs ws) (h : sp (gV vs zs) H Q E0) : wpAny (model X.prog X.w) X.A (call (.ref fa) us (ks.zip ws)) (EP X pins σ Q) X.xe s := by
  have rr := bd.rel rv rz
  have hl : (g us ws).length = ps.length := by rw [← rr.length]; exact F.ln _ _ _ _ h
  refine wpAny_call (codeAny_mono (goG F qt rm I (bd.to s us ws I.kIn hl) rr h) ?_)
  intro r s' hr
  match r, hr with
  | .ok (.ret u), hr => exact hr
/-- f(e, ..) -/
def tCallG (sp : Sp) (t : TA) : TE := fun σ H Q => t σ H fun vs H1 => sp vs H1 Q E0
theorem pe_callG {e : Expr} {es : List Expr} {t : TA} (F : FnG X.prog X.w X.K X.mg X.base lv fa fd ps sp) (qt : Qt X.A) (rm : Room lv X.A) (hg : Gl X x) (hm : X.mg x = some (.ref fa)) (hk : PySem.W.keepIn X.K (.ref fa) = true) (bd : Binds X.K fd ps [])
    (pa : PA X (e :: es) t) (hdb : (x == ("__debug__" : PySem.Str)) = false) (he : starEach (e :: es) X.env = (false, eval e X.env) :: starEach es X.env) (hpl : (backTo pos (starEach es X.env)).any (·.1) = false) : PE X (.Call (.Name x p) (e :: es) [] pos) (tCallG sp t) := by
  constructor
  intro pins s σ H Q I h
  apply wpAny_Call_Name_kw
  apply ld_glob I hg hm _ hdb
  refine PySem.W.callWith_K (h₀ := X.base) I.ok.mod.kin hk (thn (pa.run pos pins s σ H _ I h) ?_) he hpl
  rintro us s1 ⟨vs, H1, I1, rv, q⟩
  exact ⟨I1.kIn, callG F qt rm bd I1 rv q⟩
/-- f(e, .., k = v, ..) -/
def tCallKG (sp : Sp) (gV : List V → List V → List V) (t tk : TA) : TE := fun σ H Q => t σ H fun vs H1 => tk σ H1 fun zs H2 => sp (gV vs zs) H2 Q E0
theorem pe_callKG {e : Expr} {es : List Expr} {t tk : TA} {ks : List PySem.Str} {kws : List Keyword} {g : List Value → List Value → List Value} {gV : List V → List V → List V} (F : FnG X.prog X.w X.K X.mg X.base lv fa fd ps sp) (qt : Qt X.A) (rm : Room lv X.A) (hg : Gl X x) (hm : X.mg x = some (.ref fa)) (hk : PySem.W.keepIn X.K (.ref fa) = true) (bd : KBinds X.K fd ps ks g gV)
    (pa : PA X (e :: es) t) (pk : PK X kws tk) (hall : (backToKw pos (keywordEach kws X.env)).all (·.1.isSome) = true) (hks : (backToKw pos (keywordEach kws X.env)).filterMap (·.1) = ks) (hdb : (x == ("__debug__" : PySem.Str)) = false) (he : starEach (e :: es) X.env = (false, eval e X.env) :: starEach es X.env)
    (hpl : ((backTo pos (starEach (e :: es) X.env)).any (·.1) || (backToKw pos (keywordEach kws X.env)).any (·.1.isNone)) = false) : PE X (.Call (.Name x p) (e :: es) kws pos) (tCallKG sp gV t tk) := by
  constructor
  intro pins s σ H Q I h
  apply wpAny_Call_Name_kw
  apply ld_glob I hg hm _ hdb
  refine PySem.W.callWith_KW (h₀ := X.base) I.ok.mod.kin hk hall (thn (pa.run pos pins s σ H _ I h) ?_) hpl he
  rintro us s1 ⟨vs, H1, I1, rv, q⟩
  refine thn (pk.run pos pins s1 σ H1 _ I1 q) ?_
  rintro ws s2 ⟨zs, H2, I2, rz, q2⟩
  refine ⟨I2.kIn, ?_⟩
  rw [hks]
  exact callKG F qt rm bd I2 rv rz q2
/-- all arguments by keyword -/
theorem pe_callK0G {tk : TA} {ks : List PySem.Str} {kws : List Keyword} {g : List Value → List Value → List Value} {gV : List V → List V → List V} (F : FnG X.prog X.w X.K X.mg X.base lv fa fd ps sp) (qt : Qt X.A) (rm : Room lv X.A) (hg : Gl X x) (hm : X.mg x = some (.ref fa)) (hk : PySem.W.keepIn X.K (.ref fa) = true) (bd : KBinds X.K fd ps ks g gV)
    (pk : PK X kws tk) (hall : (backToKw pos (keywordEach kws X.env)).all (·.1.isSome) = true) (hks : (backToKw pos (keywordEach kws X.env)).filterMap (·.1) = ks) (hno : (backToKw pos (keywordEach kws X.env)).any (·.1.isNone) = false) (hdb : (x == ("__debug__" : PySem.Str)) = false) :
    PE X (.Call (.Name x p) [] kws pos) (fun σ H Q => tk σ H fun zs H2 => sp (gV [] zs) H2 Q E0) := by
  constructor
  intro pins s σ H Q I h
  apply wpAny_Call_Name_kw
  apply ld_glob I hg hm _ hdb
  refine PySem.W.callWith_KW0 (h₀ := X.base) I.ok.mod.kin hk hall (thn (pk.run pos pins s σ H _ I h) ?_) (by rw [hno]; rfl)
  rintro ws s2 ⟨zs, H2, I2, rz, q2⟩
  refine ⟨I2.kIn, ?_⟩
  rw [hks, List.append_nil]
  exact callKG F qt rm bd I2 .nil rz q2
end
end Mn
/-! t[::-1] of a tuple; repr of data in tuples where no repr is under way -/
namespace Mn
open PySem PySem.Spec PyProof.Rows L2 HT
section
variable {prog : Program} {w : World} {A : Around} {E : Value → Shared → Prop} {s : Shared}
theorem adjust_rev (n : Nat) : Builtin.Slice.sliceAdjust none none (-1) (n : Int) = ((n : Int) - 1, -1) := by
  unfold Builtin.Slice.sliceAdjust
  rfl
theorem places_rev (n : Nat) : Builtin.Slice.slicePlaces ((n : Int) - 1) (-1) (-1) = n := by
  unfold Builtin.Slice.slicePlaces
  rw [if_neg (by decide)]
  rw [show -(-1 : Int) = 1 from rfl, Int.ediv_one]
  split <;> omega
theorem applied_rev {sl : Addr} {vc : Value} {n : Nat} {Q : Int × Int × Nat → Shared → Prop} (hs : s.heap.IsSliceOf sl .none .none vc) (pc : IsPart vc (some (-1)))
    (h : Q ((n : Int) - 1, -1, n) s) : wpAny (model prog w) A (Builtin.Slice.sliceApplied (.ref sl) (pure (n : Int))) Q E s := by
  obtain ⟨os, hos, hcs, hds⟩ := id hs
  unfold Builtin.Slice.sliceApplied Builtin.Slice.sliceFields
  apply wpAny_bind
  apply wpAny_bind
  apply wpAny_field hos hds (x := .none) rfl
  apply wpAny_bind
  apply wpAny_field hos hds (x := .none) rfl
  apply wpAny_bind
  apply wpAny_field hos hds (x := vc) rfl
  apply wpAny_pure
  apply wpAny_bind
  apply slicePart_ pc
  show wpAny _ _ (if ((-1 : Int) == 0) = true then _ else _) _ _ s
  rw [if_neg (by decide)]
  apply wpAny_bind
  apply slicePart_none
  apply wpAny_bind
  apply slicePart_none
  apply wpAny_bind
  apply wpAny_pure
  show wpAny _ _ (match Builtin.Slice.sliceAdjust none none (-1) (n : Int) with | (lo, hi) => pure (lo, (-1 : Int), Builtin.Slice.slicePlaces lo hi (-1))) _ _ s
  rw [adjust_rev n]
  show wpAny _ _ (pure ((n : Int) - 1, (-1 : Int), Builtin.Slice.slicePlaces ((n : Int) - 1) (-1) (-1))) _ _ s
  rw [places_rev]
  exact wpAny_pure h
theorem pick_rev (xs : Array Value) : ((List.range xs.size).filterMap fun (m : Nat) => xs[((xs.size : Int) - 1 + (m : Int) * (-1)).toNat]?).toArray = xs.toList.reverse.toArray := by
  congr 1
  apply List.ext_getElem?
  intro i
  have key : ∀ k, k ≤ xs.size → ((List.range k).filterMap fun (m : Nat) => xs[((xs.size : Int) - 1 + (m : Int) * (-1)).toNat]?) = xs.toList.reverse.take k := by
    intro k
    induction k with
    | zero => intro _; rfl
    | succ k ih =>
      intro hk
      have e1 : ((xs.size : Int) - 1 + (k : Int) * (-1)).toNat = xs.size - 1 - k := by omega
      have e2 : xs[xs.size - 1 - k]? = some (xs[xs.size - 1 - k]'(by omega)) := by rw [Array.getElem?_eq_getElem]
      have e3 : xs.toList.reverse[k]? = some (xs[xs.size - 1 - k]'(by omega)) := by
        rw [List.getElem?_reverse (by simpa using (by omega : k < xs.size))]
        simp only [Array.length_toList, Array.getElem?_toList]
        exact e2
      rw [List.range_succ, List.filterMap_append, ih (by omega), List.take_add_one, e3]
      simp only [List.filterMap_cons, List.filterMap_nil, e1, e2, Option.toList]
  rw [key xs.size (Nat.le_refl _), List.take_of_length_le (by simp)]
theorem getItem_rev {t sl : Addr} {items : Array Value} {vc : Value} {Q : Value → Shared → Prop} (ht : IsTup s.heap t items) (hs : s.heap.IsSliceOf sl .none .none vc) (pc : IsPart vc (some (-1)))
    (h : Q (.ref s.heap.objs.size) { s with heap := s.heap.push { cls := .type "tuple", data := .seq items.toList.reverse.toArray } }) (hsz : items.size ≤ sizeLine) : wpAny (model prog w) A (getItem (.ref t) (.ref sl)) Q E s := by
  have hok : sizeOk (.seq items.toList.reverse.toArray) := by
    show items.toList.reverse.toArray.size ≤ sizeLine
    rw [List.size_toArray, List.length_reverse, Array.length_toList]
    exact hsz
  obtain ⟨os, hos, hcs, hds⟩ := id hs
  have hTs : s.TypeIs (.ref sl) "slice" := ⟨os, hos, hcs⟩
  unfold getItem
  try with_reducible refine wpAny_holding ?_
  first | refine wpAny_bind (wpAny_pure ?_) | skip
  refine wpAny_bind (wpAny_sequenceKey ht.typeIs (by decide) ?_)
  refine wpAny_bind (wpAny_callSpecial?_slot (name := Str.ofString "__getitem__") ht.typeIs slot_tuple_getitem (wpAny_call_entry slot_tuple_getitem ht.typeIs entry_tuple_getitem ?_ (args_tuple_getitem _ _)))
  show wpAny _ _ (Builtin.Tuple.tupleItemsOf (.ref t) >>= _) _ _ s
  apply wpAny_bind
  apply tupleItemsOf_ ht
  apply wpAny_bind
  apply wpAny_typeOf hTs
  rw [if_pos (by decide)]
  apply wpAny_bind
  apply applied_rev hs pc
  have hno : ¬ ((((items.size : Int) - 1) == 0 && (-1 : Int) == 1 && items.size == items.size) = true) := by
    intro q
    rw [Bool.and_eq_true, Bool.and_eq_true] at q
    exact absurd q.1.2 (by decide)
  show wpAny _ _ (if (((items.size : Int) - 1) == 0 && (-1 : Int) == 1 && items.size == items.size) = true then _ else _) _ _ s
  rw [if_neg hno, pick_rev]
  first
    | exact wpAny_bind (m := Builtin.Tuple.tupleExact _) (wpAny_newObj_type (wpAny_pure ⟨_, rfl, wpAny_pure h⟩) hok)
    | exact wpAny_bind (m := Builtin.Tuple.tupleExact _) (wpAny_newObj_type (wpAny_bind (wpAny_pure (wpAny_pure ⟨_, rfl, wpAny_pure h⟩))) hok)
    | exact wpAny_bind (wpAny_bind (m := Builtin.Tuple.tupleExact _) (wpAny_newObj_type (wpAny_pure (wpAny_pure ⟨_, rfl, wpAny_pure h⟩)) hok))
    | exact wpAny_bind (wpAny_bind (m := Builtin.Tuple.tupleExact _) (wpAny_newObj_type (wpAny_pure ⟨_, rfl, wpAny_pure h⟩) hok))
end
section
variable {X : Cx}
/-- t[::-1] -/
def tRev (K : PySem.W.Frag) (te : TE) : TE := fun σ H Q => te σ H fun x H1 => ∃ a xs, x = .ref a ∧ SqT K H1 a xs ∧ ∀ p, H1 p = none → Q (.ref p) (upd H1 p (.tup xs.reverse))
theorem pe_rev {e c : Expr} {te : TE} {p2 pos : Pos} (he : PE X e te) (hc : PO X (some c) (fun _ H Q => Q (some (-1)) H)) : PE X (.Subscript e (.Slice none none (some c) p2) pos) (tRev X.K te) := by
  constructor
  intro pins s σ H Q I h
  refine Subscript_ (thn (he.run pins s σ H _ I h) ?_)
  rintro v s1 ⟨x, H1, I1, r1, a, xs, rfl, hx, q⟩
  cases r1
  apply wpAny_Slice
  rw [evalPart_none]
  apply wpAny_pure
  apply wpAny_pure
  refine thn (hc.run pins s1 σ H1 (fun o H' => o = some (-1) ∧ H' = H1) I1 ⟨rfl, rfl⟩) ?_
  rintro vc s3 ⟨o, H3, I3, pc, rfl, rfl⟩
  have I4 : Inv X pins σ H3 { s3 with heap := s3.heap.push { cls := .type "slice", data := .fields #[.none, .none, vc] } } := I3.kept (t' := s3.toks) fun b ob q => Heap.get?_push_of_some _ q
  obtain ⟨its, r, ht, hz⟩ := I4.tuple hx
  have hlen : its.toArray.size = xs.length := by rw [List.size_toArray]; exact r.length.symm
  have go : wpAny (model X.prog X.w) X.A (getItem (.ref a) (.ref s3.heap.objs.size)) (EP X pins σ Q) X.xe { s3 with heap := s3.heap.push { cls := .type "slice", data := .fields #[.none, .none, vc] } } := by
    refine getItem_rev ht (Heap.IsSliceOf.new ..) pc ?_ (by rw [hlen]; exact hz)
    refine ⟨.ref _, _, I4.laid (t' := s3.toks) (o := .tup xs.reverse) (fun b ob q => Heap.get?_push_of_some _ q) (Nat.le_refl _) ?_, rfl, q _ (I4.hok.fresh (Nat.le_refl _))⟩
    exact ⟨by rw [List.length_reverse]; exact hz, _, r.reverse, IsTup.new _ _⟩
  show wpAny (model X.prog X.w) X.A (subscriptTail e (.Slice none none (some c) p2) (.ref a) (.ref s3.heap.objs.size)) (EP X pins σ Q) X.xe _
  exact tail_any (ops := [.ref a, .ref s3.heap.objs.size]) ht.typeIs slot_tuple_getitem.lookup go (by with_unfolding_all rfl)
/-- fit to be shown -/
def shw (d : PyData) : Bool := d.showable && !d.hasDict && decide (d.depth ≤ 40) && d.leavesShort 2000 && decide (d.weight ≤ 8000)
theorem call_repr_data (qt : Qt X.A) (hu : X.A.units + 64 < cLine) : CallR X (.builtin "repr") (fun vs H Q => ∃ (a : Addr) (d : PyData), vs = [.ref a] ∧ Dp X.K H (.ref a) d ∧ shw d = true ∧ Q (.str d.shown) H) := by
  intro pins s σ H xs us Q I rx h
  obtain ⟨a, d, rfl, hd, sh, q⟩ := h
  unfold shw at sh
  simp only [Bool.and_eq_true, Bool.not_eq_true', decide_eq_true_eq] at sh
  obtain ⟨⟨⟨⟨s1, s2⟩, s3⟩, s4⟩, s5⟩ := sh
  cases rx with
  | cons r1 r2 =>
    cases r2
    cases r1
    obtain ⟨as, rd⟩ := Dp.reads I d (.ref a) (.ref a) hd rfl
    have sz : d.shown.length ≤ sizeLine := by
      have := PyData.shown_le 2000 (by decide) d s4
      have h2 : (2000 + 2) * d.weight + 2000 ≤ (2000 + 2) * 8000 + 2000 := by omega
      exact Nat.le_trans (Nat.le_trans this h2) (by decide)
    refine repr_of_reads' rd s1 (fun z => by rw [s2] at z; cases z) qt (by omega) (fun _ _ e => e) ?_ sz
    intro h' u tk hk
    exact ⟨.str d.shown, H, I.kept (h' := h') (t' := tk) hk, ⟨u, rfl⟩, q⟩
end
end Mn
namespace Mn
open PySem L2
variable {X : Cx}
theorem lim_le : lim ≤ sizeLine := by decide
theorem lim_lt {n : Nat} (h : n < lim) : n < sizeLine := Nat.lt_of_lt_of_le h lim_le
theorem sm_log {i : Int} (h : sm i = true) : i.natAbs.log2 < 8000 := by unfold sm at h; exact of_decide_eq_true h
theorem intBits_log (x : Int) : Builtin.Int.intBits x ≤ x.natAbs.log2 + 1 := by
  unfold Builtin.Int.intBits
  split <;> omega
/-- an operation by data -/
def rD (K : PySem.W.Frag) (f : D → D → Option D) : R2 := fun x y H Q => ∃ B a b d, BL H B ∧ Rep K H B a x ∧ Rep K H B b y ∧ f a b = some d ∧ ∀ z H', Al H H' → Rep K H' B d z → Q z H'
theorem op_fdivWN : OpR X (binaryOp .FloorDiv) (rI (fun _ j => j ≠ 0 ∧ j.natAbs.log2 < 9000) fun i j => .int (i.fdiv j)) := opI fun i j _ _ _ _ _ hc q => PyProof.Rows.floordiv_int hc.1 q (.inl (PyProof.noPylong_of_log2 hc.2))
theorem op_powW : OpR X (binaryOp .Pow) (rI (fun i j => 0 ≤ j ∧ j ≤ 1000 ∧ i.natAbs.log2 < 8000) fun i j => .int (i ^ j.toNat)) := opI fun i j _ _ _ _ _ hc q => by
  refine PyProof.Rows.pow_int hc.1 ?_ q
  have h1 := intBits_log i
  have h2 : (Builtin.Int.intBits i : Int) ≤ 8000 := by have := hc.2.2; omega
  have h3 : (0 : Int) ≤ Builtin.Int.intBits i := Int.natCast_nonneg _
  calc (Builtin.Int.intBits i : Int) * j ≤ 8000 * 1000 := Int.mul_le_mul h2 hc.2.1 hc.1 (by omega)
    _ ≤ 2 ^ 27 := by decide
def oB : BO → Operator
  | .add => .Add | .sub => .Sub | .mul => .Mult | .div => .FloorDiv | .mod => .Mod | .pow => .Pow
theorem op_addD : OpR X (binaryOp .Add) (rD X.K (opB .add)) := by
  intro pins s σ H x y v u Q I rx ry h
  obtain ⟨B, a, b, d, bl, ha, hb, e, q⟩ := h
  unfold opB at e
  split at e <;> simp only [reduceCtorEq, Option.some.injEq, Option.ite_none_right_eq_some] at *
  · subst e; cases ha; cases hb
    exact op_add pins s σ H _ _ v u Q I rx ry ⟨_, _, rfl, rfl, q _ H (Al.refl H) rfl⟩
  · obtain ⟨e1, rfl⟩ := e; cases ha; cases hb
    exact op_add_str pins s σ H _ _ v u Q I rx ry ⟨_, _, rfl, rfl, Nat.le_trans e1 lim_le, q _ H (Al.refl H) rfl⟩
  · obtain ⟨e1, rfl⟩ := e
    obtain ⟨p, vs, rfl, r1, n1, g1⟩ := ha
    obtain ⟨p2, ws, rfl, r2, n2, g2⟩ := hb
    refine op_cat pins s σ H _ _ v u Q I rx ry ⟨_, _, _, _, rfl, rfl, r1, r2, by rw [g1.len, g2.len]; exact Nat.le_trans e1 lim_le, fun p3 h3 => q _ _ (Al.new h3) ⟨p3, _, rfl, upd_same, fun z => ?_, (g1.al bl (Al.new h3)).app (g2.al bl (Al.new h3))⟩⟩
    obtain ⟨_, z⟩ := bl _ z; rw [h3] at z; cases z
  · obtain ⟨e1, rfl⟩ := e
    obtain ⟨p, vs, rfl, r1, g1⟩ := ha
    obtain ⟨p2, ws, rfl, r2, g2⟩ := hb
    have l1 := g1.len
    have l2 := g2.len
    refine op_catA pins s σ H _ _ v u Q I rx ry ⟨_, _, _, _, rfl, rfl, r1, r2, by rw [l1, l2]; exact Nat.le_trans e1 lim_le, ?_, ?_, ?_⟩
    · intro z; subst z
      rename_i x1 y1 _
      have : x1 = [] := List.eq_nil_of_length_eq_zero (by simpa using l1.symm)
      subst this
      exact q _ H (Al.refl H) ⟨p2, ws, rfl, r2, g2⟩
    · intro _ z; subst z
      rename_i x1 y1 _ _
      have : y1 = [] := List.eq_nil_of_length_eq_zero (by simpa using l2.symm)
      subst this
      exact q _ H (Al.refl H) ⟨p, vs, rfl, r1, by rw [List.append_nil]; exact g1⟩
    · exact fun _ _ p3 h3 => q _ _ (Al.new h3) ⟨p3, _, rfl, .inl (.inl upd_same), (g1.al bl (Al.new h3)).app (g2.al bl (Al.new h3))⟩
theorem op_subD : OpR X (binaryOp .Sub) (rD X.K (opB .sub)) := by
  intro pins s σ H x y v u Q I rx ry h
  obtain ⟨B, a, b, d, bl, ha, hb, e, q⟩ := h
  unfold opB at e
  split at e <;> simp only [reduceCtorEq, Option.some.injEq, Option.ite_none_right_eq_some] at *
  subst e; cases ha; cases hb
  exact op_sub pins s σ H _ _ v u Q I rx ry ⟨_, _, rfl, rfl, q _ H (Al.refl H) rfl⟩
theorem op_mulD : OpR X (binaryOp .Mult) (rD X.K (opB .mul)) := by
  intro pins s σ H x y v u Q I rx ry h
  obtain ⟨B, a, b, d, bl, ha, hb, e, q⟩ := h
  unfold opB at e
  split at e <;> simp only [reduceCtorEq, Option.some.injEq, Option.ite_none_right_eq_some, Bool.and_eq_true, decide_eq_true_eq] at *
  · obtain ⟨⟨e1, e2⟩, rfl⟩ := e; cases ha; cases hb
    have h1 := sm_log e1
    have h2 := sm_log e2
    exact op_mulW pins s σ H _ _ v u Q I rx ry ⟨_, _, rfl, rfl, (by unfold CMulW; omega), q _ H (Al.refl H) rfl⟩
  · obtain ⟨⟨e0, e3⟩, rfl⟩ := e
    obtain ⟨p, vs, rfl, r1, n1, g1⟩ := ha
    cases hb
    have e9 := wi_lt e0 (by decide)
    refine op_rep pins s σ H _ _ v u Q I rx ry ⟨_, _, _, rfl, rfl, r1, by omega, by omega, by rw [g1.len]; exact Nat.le_trans e3 lim_le, fun p3 h3 => q _ _ (Al.new h3) ⟨p3, _, rfl, upd_same, fun z => ?_, (g1.al bl (Al.new h3)).rep _⟩⟩
    obtain ⟨_, z⟩ := bl _ z; rw [h3] at z; cases z
theorem op_divD : OpR X (binaryOp .FloorDiv) (rD X.K (opB .div)) := by
  intro pins s σ H x y v u Q I rx ry h
  obtain ⟨B, a, b, d, bl, ha, hb, e, q⟩ := h
  unfold opB at e
  split at e <;> simp only [reduceCtorEq, Option.some.injEq, Option.ite_none_right_eq_some, Bool.and_eq_true, decide_eq_true_eq] at *
  obtain ⟨⟨e1, e2⟩, rfl⟩ := e; cases ha; cases hb
  have h1 := sm_log e1
  exact op_fdivWN pins s σ H _ _ v u Q I rx ry ⟨_, _, rfl, rfl, ⟨e2, by omega⟩, q _ H (Al.refl H) rfl⟩
theorem op_modD : OpR X (binaryOp .Mod) (rD X.K (opB .mod)) := by
  intro pins s σ H x y v u Q I rx ry h
  obtain ⟨B, a, b, d, bl, ha, hb, e, q⟩ := h
  unfold opB at e
  split at e <;> simp only [reduceCtorEq, Option.some.injEq, Option.ite_none_right_eq_some, Bool.and_eq_true, decide_eq_true_eq] at *
  obtain ⟨e1, rfl⟩ := e; cases ha; cases hb
  exact op_mod pins s σ H _ _ v u Q I rx ry ⟨_, _, rfl, rfl, e1, q _ H (Al.refl H) rfl⟩
theorem op_powD : OpR X (binaryOp .Pow) (rD X.K (opB .pow)) := by
  intro pins s σ H x y v u Q I rx ry h
  obtain ⟨B, a, b, d, bl, ha, hb, e, q⟩ := h
  unfold opB at e
  split at e <;> simp only [reduceCtorEq, Option.some.injEq, Option.ite_none_right_eq_some, Bool.and_eq_true, decide_eq_true_eq] at *
  obtain ⟨⟨⟨e1, e2⟩, e3⟩, rfl⟩ := e; cases ha; cases hb
  exact op_powW pins s σ H _ _ v u Q I rx ry ⟨_, _, rfl, rfl, ⟨e2, e3, sm_log e1⟩, q _ H (Al.refl H) rfl⟩
theorem op_binD (o : BO) : OpR X (binaryOp (oB o)) (rD X.K (opB o)) := by
  cases o
  · exact op_addD
  · exact op_subD
  · exact op_mulD
  · exact op_divD
  · exact op_modD
  · exact op_powD
def oC : CO → CmpOp
  | .eq => .Eq | .ne => .NotEq | .lt => .Lt | .le => .LtE | .gt => .Gt | .ge => .GtE | .is => .Is | .isn => .IsNot | .inn => .In | .nin => .NotIn
mutual
theorem toP_plain : ∀ d : D, (toP d).plain = true
  | .non => rfl
  | .bl _ => rfl
  | .int _ => rfl
  | .str _ => rfl
  | .tup xs => toPL_plain xs
  | .lst xs => toPL_plain xs
  | .scr ns => by
    show PyData.plainAll (ns.map PyData.int) = true
    induction ns with
    | nil => rfl
    | cons n r ih => exact ih
  | .obj _ _ _ => rfl
  | .adr _ => rfl
theorem toPL_plain : ∀ ds : List D, PyData.plainAll (toPL ds) = true
  | [] => rfl
  | x :: xs => by
    show ((toP x).plain && PyData.plainAll (toPL xs)) = true
    rw [toP_plain x, toPL_plain xs]; rfl
end
theorem toPL_any (f : PyData → Bool) : ∀ ds : List D, (toPL ds).any f = ds.any fun d => f (toP d)
  | [] => rfl
  | x :: xs => by
    show (f (toP x) || (toPL xs).any f) = (f (toP x) || xs.any fun d => f (toP d))
    rw [toPL_any f xs]
theorem dsh_le {d : D} (h : dsh d = true) : (toP d).depth ≤ 40 := by unfold dsh at h; rw [Bool.and_eq_true] at h; exact of_decide_eq_true h.2
theorem dsh_nob {d : D} (h : dsh d = true) : nob d = true := by unfold dsh at h; rw [Bool.and_eq_true] at h; exact h.1
theorem op_eqM (hu : X.A.units + 64 < cLine) : OpR X (compareOp .Eq) (rD X.K fun a b => (opC .eq a b).map D.bl) := by
  intro pins s σ H x y v u Q I rx ry h
  obtain ⟨B, a, b, d, bl, ha, hb, e, q⟩ := h
  unfold opC at e
  simp only [Option.map_eq_some_iff, Option.ite_none_right_eq_some, Bool.and_eq_true, Option.some.injEq] at e
  obtain ⟨_, ⟨⟨e1, e2⟩, rfl⟩, rfl⟩ := e
  obtain ⟨as, r1⟩ := Dp.reads I _ x v (Rep.dp _ _ (dsh_nob e1) ha) rx
  obtain ⟨bs, r2⟩ := Dp.reads I _ y u (Rep.dp _ _ (dsh_nob e2) hb) ry
  have := dsh_le e1
  exact SeqAt.eq_plain r1 r2 (toP_plain a) (toP_plain b) (by omega) ⟨.bl _, H, I, rfl, q _ H (Al.refl H) rfl⟩
theorem op_neM (hu : X.A.units + 64 < cLine) : OpR X (compareOp .NotEq) (rD X.K fun a b => (opC .ne a b).map D.bl) := by
  intro pins s σ H x y v u Q I rx ry h
  obtain ⟨B, a, b, d, bl, ha, hb, e, q⟩ := h
  unfold opC at e
  simp only [Option.map_eq_some_iff, Option.ite_none_right_eq_some, Bool.and_eq_true, Option.some.injEq] at e
  obtain ⟨_, ⟨⟨e1, e2⟩, rfl⟩, rfl⟩ := e
  obtain ⟨as, r1⟩ := Dp.reads I _ x v (Rep.dp _ _ (dsh_nob e1) ha) rx
  obtain ⟨bs, r2⟩ := Dp.reads I _ y u (Rep.dp _ _ (dsh_nob e2) hb) ry
  have := dsh_le e1
  exact SeqAt.ne_plain r1 r2 (toP_plain a) (toP_plain b) (by omega) ⟨.bl _, H, I, rfl, q _ H (Al.refl H) rfl⟩
theorem op_inM (hu : X.A.units + 64 < cLine) : OpR X (compareOp .In) (rD X.K fun a b => (opC .inn a b).map D.bl) := by
  intro pins s σ H x y v u Q I rx ry h
  obtain ⟨B, a, b, d, bl, ha, hb, e, q⟩ := h
  unfold opC at e
  cases b <;> simp only [Option.map_eq_some_iff, Option.ite_none_right_eq_some, Option.some.injEq, Bool.and_eq_true, reduceCtorEq, false_and, and_false, exists_false] at e
  · rename_i ys
    obtain ⟨_, ⟨⟨e1, e2⟩, rfl⟩, rfl⟩ := e
    have := dsh_le e1
    obtain ⟨as, r1⟩ := Dp.reads I _ x v (Rep.dp _ _ (dsh_nob e1) ha) rx
    obtain ⟨bs, r2⟩ := Dp.reads I _ y u (Rep.dp _ _ (show nob (.tup ys) = true from e2) hb) ry
    refine SeqAt.in_tuple_data (xs := toPL ys) r2 r1 (toPL_plain ys) (toP_plain a) (by omega) ?_
    rw [toPL_any]
    exact ⟨.bl _, H, I, rfl, q _ H (Al.refl H) rfl⟩
  · rename_i ys
    obtain ⟨_, ⟨⟨e1, e2⟩, rfl⟩, rfl⟩ := e
    have := dsh_le e1
    obtain ⟨as, r1⟩ := Dp.reads I _ x v (Rep.dp _ _ (dsh_nob e1) ha) rx
    obtain ⟨bs, r2⟩ := Dp.reads I _ y u (Rep.dp _ _ (show nob (.lst ys) = true from e2) hb) ry
    refine SeqAt.in_list_data (xs := toPL ys) r2 r1 (toPL_plain ys) (toP_plain a) (by omega) ?_
    rw [toPL_any]
    exact ⟨.bl _, H, I, rfl, q _ H (Al.refl H) rfl⟩
theorem op_ninM (hu : X.A.units + 64 < cLine) : OpR X (compareOp .NotIn) (rD X.K fun a b => (opC .nin a b).map D.bl) := by
  intro pins s σ H x y v u Q I rx ry h
  obtain ⟨B, a, b, d, bl, ha, hb, e, q⟩ := h
  unfold opC at e
  cases b <;> simp only [Option.map_eq_some_iff, Option.ite_none_right_eq_some, Option.some.injEq, Bool.and_eq_true, reduceCtorEq, false_and, and_false, exists_false] at e
  · rename_i ys
    obtain ⟨_, ⟨⟨e1, e2⟩, rfl⟩, rfl⟩ := e
    have := dsh_le e1
    obtain ⟨as, r1⟩ := Dp.reads I _ x v (Rep.dp _ _ (dsh_nob e1) ha) rx
    obtain ⟨bs, r2⟩ := Dp.reads I _ y u (Rep.dp _ _ (show nob (.tup ys) = true from e2) hb) ry
    refine SeqAt.notIn_tuple_data (xs := toPL ys) r2 r1 (toPL_plain ys) (toP_plain a) (by omega) ?_
    rw [toPL_any]
    exact ⟨.bl _, H, I, rfl, q _ H (Al.refl H) rfl⟩
  · rename_i ys
    obtain ⟨_, ⟨⟨e1, e2⟩, rfl⟩, rfl⟩ := e
    have := dsh_le e1
    obtain ⟨as, r1⟩ := Dp.reads I _ x v (Rep.dp _ _ (dsh_nob e1) ha) rx
    obtain ⟨bs, r2⟩ := Dp.reads I _ y u (Rep.dp _ _ (show nob (.lst ys) = true from e2) hb) ry
    refine SeqAt.notIn_list_data (xs := toPL ys) r2 r1 (toPL_plain ys) (toP_plain a) (by omega) ?_
    rw [toPL_any]
    exact ⟨.bl _, H, I, rfl, q _ H (Al.refl H) rfl⟩
theorem op_ordM (o : CO) (r : Int → Int → Bool) (h : OpR X (compareOp (oC o)) (rI0 fun i j => .bl (r i j))) (ho : ∀ a b d, opC o a b = some d → ∃ i j, a = .int i ∧ b = .int j ∧ d = r i j) : OpR X (compareOp (oC o)) (rD X.K fun a b => (opC o a b).map D.bl) := by
  intro pins s σ H x y v u Q I rx ry hh
  obtain ⟨B, a, b, d, bl, ha, hb, e, q⟩ := hh
  simp only [Option.map_eq_some_iff] at e
  obtain ⟨k, e, rfl⟩ := e
  obtain ⟨i, j, rfl, rfl, rfl⟩ := ho _ _ _ e
  cases ha; cases hb
  exact h pins s σ H _ _ v u Q I rx ry ⟨_, _, rfl, rfl, q _ H (Al.refl H) rfl⟩
theorem atI_map {ns : List Int} {i k : Int} (h : atI ns i = some k) : atI (ns.map V.int) i = some (V.int k) := by
  unfold atI at h ⊢
  rw [List.length_map]
  cases z : ixN ns.length i with
  | none => rw [z] at h; cases h
  | some j =>
    rw [z] at h
    simp only [Option.bind_some] at h ⊢
    rw [List.getElem?_map, h]; rfl
theorem rep_non {K : PySem.W.Frag} {H : Hp} {B : AP'} {d : D} {v : V} (h : Rep K H B d v) (nd : d ≠ .non) : v ≠ .non := by
  cases d
  · exact absurd rfl nd
  · cases h; exact fun z => nomatch z
  · cases h; exact fun z => nomatch z
  · cases h; exact fun z => nomatch z
  · obtain ⟨_, _, rfl, _⟩ := h; exact fun z => nomatch z
  · obtain ⟨_, _, rfl, _⟩ := h; exact fun z => nomatch z
  · obtain ⟨_, rfl, _⟩ := h; exact fun z => nomatch z
  · obtain ⟨_, _, _, _, rfl, _⟩ := h; exact fun z => nomatch z
  · cases h; exact fun z => nomatch z
theorem op_isM : OpR X (compareOp .Is) (rD X.K fun a b => (opC .is a b).map D.bl) := by
  intro pins s σ H x y v u Q I rx ry hh
  obtain ⟨B, a, b, d, bl, ha, hb, e, q⟩ := hh
  simp only [Option.map_eq_some_iff] at e
  obtain ⟨k, e, rfl⟩ := e
  cases b with
  | non =>
    cases hb
    refine op_isN pins s σ H _ _ v u Q I rx ry ⟨rfl, ?_⟩
    cases a with
    | non => cases ha; cases e; exact q _ H (Al.refl H) rfl
    | scr _ => simp [opC] at e
    | adr _ => simp [opC] at e
    | _ =>
      have nn := rep_non ha (fun z => nomatch z)
      cases e
      rw [decide_eq_false nn]; exact q _ H (Al.refl H) rfl
  | bl j =>
    cases a with
    | bl i => 
      cases ha; cases hb; cases e
      refine op_isBl pins s σ H _ _ v u Q I rx ry ⟨_, _, rfl, rfl, ?_⟩
      exact q _ H (Al.refl H) (by first | rfl | (cases i <;> cases j <;> rfl))
    | _ => simp [opC] at e
  | _ => cases a <;> simp [opC] at e
theorem op_isnM : OpR X (compareOp .IsNot) (rD X.K fun a b => (opC .isn a b).map D.bl) := by
  intro pins s σ H x y v u Q I rx ry hh
  obtain ⟨B, a, b, d, bl, ha, hb, e, q⟩ := hh
  simp only [Option.map_eq_some_iff] at e
  obtain ⟨k, e, rfl⟩ := e
  cases b with
  | non =>
    cases hb
    refine op_notN pins s σ H _ _ v u Q I rx ry ⟨rfl, ?_⟩
    cases a with
    | non => cases ha; cases e; exact q _ H (Al.refl H) rfl
    | scr _ => simp [opC] at e
    | adr _ => simp [opC] at e
    | _ =>
      have nn := rep_non ha (fun z => nomatch z)
      cases e
      rw [decide_eq_false nn]; exact q _ H (Al.refl H) rfl
  | bl j =>
    cases a with
    | bl i => 
      cases ha; cases hb; cases e
      refine op_notBl pins s σ H _ _ v u Q I rx ry ⟨_, _, rfl, rfl, ?_⟩
      exact q _ H (Al.refl H) (by first | rfl | (cases i <;> cases j <;> rfl))
    | _ => simp [opC] at e
  | _ => cases a <;> simp [opC] at e
theorem op_cmpM (hu : X.A.units + 64 < cLine) (o : CO) : OpR X (compareOp (oC o)) (rD X.K fun a b => (opC o a b).map D.bl) := by
  cases o
  · exact op_eqM hu
  · exact op_neM hu
  · exact op_ordM .lt _ op_lt fun a b d e => by cases a <;> cases b <;> simp [opC] at e; exact ⟨_, _, rfl, rfl, e.symm⟩
  · exact op_ordM .le _ op_le fun a b d e => by cases a <;> cases b <;> simp [opC] at e; exact ⟨_, _, rfl, rfl, e.symm⟩
  · exact op_ordM .gt _ op_gt fun a b d e => by cases a <;> cases b <;> simp [opC] at e; exact ⟨_, _, rfl, rfl, e.symm⟩
  · exact op_ordM .ge _ op_ge fun a b d e => by cases a <;> cases b <;> simp [opC] at e; exact ⟨_, _, rfl, rfl, e.symm⟩
  · exact op_isM
  · exact op_isnM
  · exact op_inM hu
  · exact op_ninM hu
/-- an item -/
theorem ix_D : IxR X (rD X.K opIx) := by
  intro value slice pins s σ H x y v u Q I rx ry hh hs
  obtain ⟨B, a, b, d, bl, ha, hb, e, q⟩ := hh
  have at_ : ∀ {ds : List D} {vs : List V} {i : Int} {d : D}, RepL X.K H B ds vs → atI ds i = some d → ∃ w, atI vs i = some w ∧ Rep X.K H B d w := fun {ds vs i d} g h => by
    unfold atI at h ⊢
    rw [g.len]
    cases z : ixN ds.length i with
    | none => rw [z] at h; cases h
    | some j => rw [z] at h; exact g.get h
  unfold opIx at e
  split at e
  · obtain ⟨p, vs, rfl, h1, _, g⟩ := ha
    cases hb
    obtain ⟨w, e1, r⟩ := at_ g e
    exact ix_list value slice pins s σ H _ _ v u Q I rx ry ⟨p, vs, _, w, rfl, rfl, .inl (.inl h1), e1, q w H (Al.refl H) r⟩ hs
  · obtain ⟨p, vs, rfl, h1, g⟩ := ha
    cases hb
    obtain ⟨w, e1, r⟩ := at_ g e
    exact ix_tup value slice pins s σ H _ _ v u Q I rx ry ⟨p, vs, _, w, rfl, rfl, h1, e1, q w H (Al.refl H) r⟩ hs
  · obtain ⟨p, rfl, h1⟩ := ha
    cases hb
    rw [Option.map_eq_some_iff] at e
    obtain ⟨k, e, rfl⟩ := e
    have e1 := atI_map e
    exact ix_list value slice pins s σ H _ _ v u Q I rx ry ⟨p, _, _, V.int k, rfl, rfl, h1.sq, e1, q _ H (Al.refl H) rfl⟩ hs
  · cases e
/-! ### calls of built-ins, by data -/
def rF (K : PySem.W.Frag) (f : List D → Option D) : List V → Hp → VK → Prop := fun vs H Q => ∃ B ds d, BL H B ∧ RepL K H B ds vs ∧ f ds = some d ∧ ∀ z H', Al H H' → Rep K H' B d z → Q z H'
theorem call_of {f : Value} {r r' : List V → Hp → VK → Prop} (h : CallR X f r) (i : ∀ xs H Q, r' xs H Q → r xs H Q) : CallR X f r' := fun pins s σ H xs us Q I rx q => h pins s σ H xs us Q I rx (i xs H Q q)
theorem RepL.one {K : PySem.W.Frag} {H : Hp} {B : AP'} {d : D} {vs : List V} (h : RepL K H B [d] vs) : ∃ v, vs = [v] ∧ Rep K H B d v := by
  obtain ⟨v, r, rfl, q, e⟩ := h
  rw [show r = [] from e]; exact ⟨v, rfl, q⟩
theorem RepL.two {K : PySem.W.Frag} {H : Hp} {B : AP'} {d e : D} {vs : List V} (h : RepL K H B [d, e] vs) : ∃ v w, vs = [v, w] ∧ Rep K H B d v ∧ Rep K H B e w := by
  obtain ⟨v, r, rfl, q, h⟩ := h
  obtain ⟨w, rfl, q2⟩ := RepL.one h
  exact ⟨v, w, rfl, q, q2⟩
theorem cf_abs : CallR X (.builtin "abs") (rF X.K (opF .abs)) := call_of call_abs fun xs H Q ⟨B, ds, d, bl, h, e, q⟩ => by
  unfold opF at e; split at e <;> simp only [reduceCtorEq, Option.some.injEq] at *
  obtain ⟨v, rfl, r⟩ := h.one; cases r; subst e
  exact ⟨_, rfl, q _ H (Al.refl H) rfl⟩
theorem cf_int : CallR X (.type "int") (rF X.K (opF .int)) := by
  intro pins s σ H xs us Q I rx ⟨B, ds, d, bl, h, e, q⟩
  unfold opF at e; split at e <;> simp only [reduceCtorEq, Option.some.injEq, Option.ite_none_right_eq_some, Option.map_eq_some_iff] at *
  · obtain ⟨v, rfl, r⟩ := h.one; cases r; subst e
    exact call_int1 pins s σ H _ us Q I rx (.inl ⟨_, rfl, q _ H (Al.refl H) rfl⟩)
  · obtain ⟨v, rfl, r⟩ := h.one; cases r; subst e
    exact call_int1 pins s σ H _ us Q I rx (.inr ⟨_, rfl, q _ H (Al.refl H) rfl⟩)
  · obtain ⟨v, rfl, r⟩ := h.one; cases r; obtain ⟨e1, n, e2, rfl⟩ := e
    exact call_int_str pins s σ H _ us Q I rx ⟨_, n, rfl, e2, e1, q _ H (Al.refl H) rfl⟩
theorem cf_str : CallR X (.type "str") (rF X.K (opF .str)) := by
  intro pins s σ H xs us Q I rx ⟨B, ds, d, bl, h, e, q⟩
  unfold opF at e; split at e <;> simp only [reduceCtorEq, Option.some.injEq, Option.ite_none_right_eq_some] at *
  · obtain ⟨v, rfl, r⟩ := h.one; cases r; obtain ⟨e1, rfl⟩ := e
    exact call_str_int pins s σ H _ us Q I rx ⟨_, rfl, e1, q _ H (Al.refl H) rfl⟩
  · obtain ⟨v, rfl, r⟩ := h.one; cases r; subst e
    exact SkE.call_str_str pins s σ H _ us Q I rx ⟨_, rfl, q _ H (Al.refl H) rfl⟩
theorem cf_len : CallR X (.builtin "len") (rF X.K (opF .len)) := call_of call_len fun xs H Q ⟨B, ds, d, bl, h, e, q⟩ => by
  unfold opF at e; split at e <;> simp only [reduceCtorEq, Option.some.injEq, Option.ite_none_right_eq_some] at *
  · obtain ⟨v, rfl, r⟩ := h.one; obtain ⟨a, vs, rfl, h1, _, g⟩ := r; subst e
    exact ⟨_, vs.length, rfl, .inl ⟨vs, .inl (.inl h1), rfl⟩, by rw [g.len]; exact q _ H (Al.refl H) rfl⟩
  · obtain ⟨v, rfl, r⟩ := h.one; obtain ⟨a, vs, rfl, h1, g⟩ := r; subst e
    exact ⟨_, vs.length, rfl, .inr ⟨vs, h1, rfl⟩, by rw [g.len]; exact q _ H (Al.refl H) rfl⟩
  · obtain ⟨v, rfl, r⟩ := h.one; obtain ⟨a, rfl, h1⟩ := r; subst e
    exact ⟨_, _, rfl, .inl ⟨_, h1.sq, rfl⟩, by rw [List.length_map]; exact q _ H (Al.refl H) rfl⟩
  · obtain ⟨v, rfl, r⟩ := h.one; cases r; obtain ⟨e1, rfl⟩ := e
    exact ⟨_, _, rfl, ⟨Nat.le_trans e1 lim_le, rfl⟩, q _ H (Al.refl H) rfl⟩
theorem cf_sum (hc : X.calm = true) : CallR X (.builtin "sum") (rF X.K (opF .sum)) := call_of (cr_sum hc) fun xs H Q ⟨B, ds, d, bl, h, e, q⟩ => by
  unfold opF at e; split at e <;> simp only [reduceCtorEq, Option.map_eq_some_iff] at *
  obtain ⟨v, rfl, r⟩ := h.one; obtain ⟨a, vs, rfl, h1, _, g⟩ := r; obtain ⟨ns, e, rfl⟩ := e
  have := g.intsD e; subst this
  exact ⟨a, ns, rfl, .inl (.inl h1), q _ H (Al.refl H) rfl⟩
theorem cr_repr_bool : CallR X (.builtin "repr") (fun xs H Q => ∃ b : Bool, xs = [.bl b] ∧ Q (.str (if b then "True" else "False")) H) := by
  intro pins s σ H xs us Q I r h
  obtain ⟨i, rfl, q⟩ := h
  obtain ⟨u, rfl, rfl⟩ := vals1 r
  exact PySem.P.repr_of_bool ⟨.str _, H, I.tok _, by cases i <;> exact ⟨_, rfl⟩, q⟩
theorem cr_repr_non : CallR X (.builtin "repr") (fun xs H Q => xs = [.non] ∧ Q (.str "None") H) := by
  intro pins s σ H xs us Q I r h
  obtain ⟨rfl, q⟩ := h
  obtain ⟨u, rfl, rfl⟩ := vals1 r
  exact PySem.P.repr_of_none ⟨.str _, H, I.tok _, ⟨_, rfl⟩, q⟩
theorem cr_repr_int : CallR X (.builtin "repr") (fun xs H Q => ∃ i : Int, xs = [.int i] ∧ i.natAbs.log2 < 1920 ∧ Q (.str (PySem.Str.ofString (toString i))) H) := by
  intro pins s σ H xs us Q I r h
  obtain ⟨i, rfl, hz, q⟩ := h
  obtain ⟨u, rfl, t, rfl⟩ := vals1 r
  exact PySem.P.repr_of_int hz ⟨.str _, H, I.tok _, ⟨_, rfl⟩, q⟩
theorem cf_repr (qt : Qt X.A) (hu : X.A.units + 64 < cLine) : CallR X (.builtin "repr") (rF X.K (opF .repr)) := by
  intro pins s σ H xs us Q I rx ⟨B, ds, d, bl, h, e, q⟩
  unfold opF at e; split at e <;> simp only [reduceCtorEq, Option.some.injEq, Option.ite_none_right_eq_some] at *
  · obtain ⟨v, rfl, r⟩ := h.one; cases r; subst e
    exact cr_repr_bool pins s σ H _ us Q I rx ⟨_, rfl, q _ H (Al.refl H) rfl⟩
  · obtain ⟨v, rfl, r⟩ := h.one; cases r; subst e
    exact cr_repr_non pins s σ H _ us Q I rx ⟨rfl, q _ H (Al.refl H) rfl⟩
  · obtain ⟨v, rfl, r⟩ := h.one; cases r; obtain ⟨e1, rfl⟩ := e
    exact cr_repr_int pins s σ H _ us Q I rx ⟨_, rfl, e1, q _ H (Al.refl H) rfl⟩
  · obtain ⟨v, rfl, r⟩ := h.one; obtain ⟨e1, rfl⟩ := e
    have sh1 := e1
    unfold shd at sh1
    simp only [Bool.and_eq_true] at sh1
    have dp := Rep.dp _ _ sh1.1.1.1.1.1 r
    obtain ⟨a, vs, rfl, _⟩ := r
    exact call_repr_data qt hu pins s σ H _ us Q I rx ⟨a, _, rfl, dp, by unfold shw; simp only [Bool.and_eq_true]; exact ⟨⟨⟨⟨sh1.1.1.1.1.2, sh1.1.1.1.2⟩, sh1.1.1.2⟩, sh1.1.2⟩, sh1.2⟩, q _ H (Al.refl H) rfl⟩
  · obtain ⟨v, rfl, r⟩ := h.one; obtain ⟨e1, rfl⟩ := e
    have sh1 := e1
    unfold shd at sh1
    simp only [Bool.and_eq_true] at sh1
    have dp := Rep.dp _ _ sh1.1.1.1.1.1 r
    obtain ⟨a, vs, rfl, _⟩ := r
    exact call_repr_data qt hu pins s σ H _ us Q I rx ⟨a, _, rfl, dp, by unfold shw; simp only [Bool.and_eq_true]; exact ⟨⟨⟨⟨sh1.1.1.1.1.2, sh1.1.1.1.2⟩, sh1.1.1.2⟩, sh1.1.2⟩, sh1.2⟩, q _ H (Al.refl H) rfl⟩
theorem cf_all (hc : X.calm = true) : CallR X (.builtin "all") (rF X.K (opF .all)) := call_of (cr_all hc) fun xs H Q ⟨B, ds, d, bl, h, e, q⟩ => by
  unfold opF at e; split at e <;> simp only [reduceCtorEq, Option.map_eq_some_iff] at *
  obtain ⟨v, rfl, r⟩ := h.one; obtain ⟨a, vs, rfl, h1, _, g⟩ := r; obtain ⟨ns, e, rfl⟩ := e
  have := g.boolsD e; subst this
  exact ⟨a, ns, rfl, .inl (.inl h1), q _ H (Al.refl H) rfl⟩
theorem cf_any (hc : X.calm = true) : CallR X (.builtin "any") (rF X.K (opF .any)) := call_of (cr_any hc) fun xs H Q ⟨B, ds, d, bl, h, e, q⟩ => by
  unfold opF at e; split at e <;> simp only [reduceCtorEq, Option.map_eq_some_iff] at *
  obtain ⟨v, rfl, r⟩ := h.one; obtain ⟨a, vs, rfl, h1, _, g⟩ := r; obtain ⟨ns, e, rfl⟩ := e
  have := g.boolsD e; subst this
  exact ⟨a, ns, rfl, .inl (.inl h1), q _ H (Al.refl H) rfl⟩
theorem cf_max (hc : X.calm = true) : CallR X (.builtin "max") (rF X.K (opF .max)) := call_of (call_max2 hc) fun xs H Q ⟨B, ds, d, bl, h, e, q⟩ => by
  unfold opF at e; split at e <;> simp only [reduceCtorEq, Option.some.injEq] at *
  obtain ⟨v, w, rfl, r1, r2⟩ := h.two; cases r1; cases r2; subst e
  exact ⟨_, _, rfl, q _ H (Al.refl H) rfl⟩
theorem cf_min (hc : X.calm = true) : CallR X (.builtin "min") (rF X.K (opF .min)) := call_of (call_min2 hc) fun xs H Q ⟨B, ds, d, bl, h, e, q⟩ => by
  unfold opF at e; split at e <;> simp only [reduceCtorEq, Option.some.injEq] at *
  obtain ⟨v, w, rfl, r1, r2⟩ := h.two; cases r1; cases r2; subst e
  exact ⟨_, _, rfl, q _ H (Al.refl H) rfl⟩
theorem cf_list : CallR X (.type "list") (rF X.K (opF .list)) := call_of call_list_of fun xs H Q ⟨B, ds, d, bl, h, e, q⟩ => by
  unfold opF at e; split at e <;> simp only [reduceCtorEq, Option.some.injEq] at *
  all_goals obtain ⟨v, rfl, r⟩ := h.one
  · obtain ⟨a, vs, rfl, h1, _, g⟩ := r; subst e
    refine ⟨a, vs, rfl, .inl (.inl (.inl h1)), fun p hp => q _ _ (Al.new hp) ⟨p, vs, rfl, upd_same, fun z => ?_, g.al bl (Al.new hp)⟩⟩
    obtain ⟨_, z⟩ := bl _ z; rw [hp] at z; cases z
  · obtain ⟨a, vs, rfl, h1, g⟩ := r; subst e
    refine ⟨a, vs, rfl, .inr h1, fun p hp => q _ _ (Al.new hp) ⟨p, vs, rfl, upd_same, fun z => ?_, g.al bl (Al.new hp)⟩⟩
    obtain ⟨_, z⟩ := bl _ z; rw [hp] at z; cases z
theorem cf_tuple : CallR X (.type "tuple") (rF X.K (opF .tuple)) := call_of call_tuple_of fun xs H Q ⟨B, ds, d, bl, h, e, q⟩ => by
  unfold opF at e; split at e <;> simp only [reduceCtorEq, Option.some.injEq] at *
  all_goals obtain ⟨v, rfl, r⟩ := h.one
  · obtain ⟨a, vs, rfl, h1, _, g⟩ := r; subst e
    exact ⟨a, vs, rfl, .inl ⟨.inl (.inl h1), fun p hp => q _ _ (Al.new hp) ⟨p, vs, rfl, .inl (.inl upd_same), g.al bl (Al.new hp)⟩⟩⟩
  · obtain ⟨a, vs, rfl, h1, g⟩ := r; subst e
    exact ⟨a, vs, rfl, .inr ⟨h1, q _ H (Al.refl H) ⟨a, vs, rfl, h1, g⟩⟩⟩
theorem cf_gcd : CallR X (.builtin "math.gcd") (rF X.K (opF .gcd)) := call_of cr_gcd fun xs H Q ⟨B, ds, d, bl, h, e, q⟩ => by
  unfold opF at e; split at e <;> simp only [reduceCtorEq, Option.some.injEq] at *
  obtain ⟨v, w, rfl, r1, r2⟩ := h.two; cases r1; cases r2; subst e
  exact ⟨_, _, rfl, q _ H (Al.refl H) rfl⟩
theorem cr_isqrt : CallR X (.builtin "math.isqrt") (fun vs H Q => ∃ a : Int, vs = [.int a] ∧ 0 ≤ a ∧ a < 2 ^ 64 ∧ Q (.int ((Float64.isqrt a.toNat : Nat) : Int)) H) := by
  intro pins s σ H vs us Q I r h
  obtain ⟨a, rfl, h0, h1, q⟩ := h
  obtain ⟨u, rfl, t, rfl⟩ := vals1 r
  exact PySem.W.mg_isqrt h0 h1 ⟨.int _, H, I.tok _, ⟨_, rfl⟩, q⟩
theorem cf_isqrt : CallR X (.builtin "math.isqrt") (rF X.K (opF .isqrt)) := call_of cr_isqrt fun xs H Q ⟨B, ds, d, bl, h, e, q⟩ => by
  unfold opF at e; split at e <;> simp only [reduceCtorEq, Option.some.injEq, Option.ite_none_right_eq_some] at *
  obtain ⟨v, rfl, r⟩ := h.one; cases r; obtain ⟨e1, rfl⟩ := e
  simp only [Bool.and_eq_true, decide_eq_true_eq] at e1
  have e2 := wi_lt e1.2 (by decide)
  exact ⟨_, rfl, e1.1, by omega, q _ H (Al.refl H) rfl⟩
theorem tyX_of {K : PySem.W.Frag} {H : Hp} {B : AP'} : ∀ {d : D} {v : V}, (∀ c ks xs, d ≠ .obj c ks xs) → (∀ a, d ≠ .adr a) → Rep K H B d v → TyX K H v (.type (tyOf d))
  | .non, _, _, _, h => by cases h; exact .base .non
  | .bl _, _, _, _, h => by cases h; exact .base (.bl _)
  | .int _, _, _, _, h => by cases h; exact .base (.int _)
  | .str _, _, _, _, h => by cases h; exact .base (.str _)
  | .tup _, _, _, _, h => by
    obtain ⟨a, vs, rfl, h1, _⟩ := h
    rcases h1 with (h1 | ⟨o, h1⟩) | ⟨o, _, _, h1, h2, _⟩
    · exact .base (.tup h1)
    · exact .fTuple h1
    · exact .kTuple h1 h2
  | .lst _, _, _, _, h => by
    obtain ⟨a, vs, rfl, h1, _⟩ := h
    exact .base (.lst h1)
  | .scr ns, _, _, _, h => by
    obtain ⟨a, rfl, h1⟩ := h
    rcases h1 with ⟨o, h1⟩ | ⟨o, _, _, h1, h2, _⟩
    · exact .base (.frz h1)
    · exact .kList h1 h2
  | .obj c ks xs, _, n, _, _ => (n c ks xs rfl).elim
  | .adr a, _, _, n, _ => (n a rfl).elim
end Mn
namespace Mn
open PySem L2 RZ PyProof.Rows
variable {X : Cx}
theorem vals_of_at' : ∀ {xs : List V} {us : List Value}, xs.length = us.length → (∀ (j : Nat) (x : V) (u : Value), xs[j]? = some x → us[j]? = some u → RelV x u) → Vals xs us
  | [], [], _, _ => .nil
  | [], _ :: _, h, _ => by simp at h
  | _ :: _, [], h, _ => by simp at h
  | x :: xs, u :: us, h, f => .cons (f 0 x u rfl rfl) (vals_of_at' (by simpa using h) fun j y w h1 h2 => f (j + 1) y w (by simpa using h1) (by simpa using h2))
theorem cr_range1 : CallR X (.type "range") (fun vs H Q => ∃ n : Int, vs = [V.int n] ∧ ∀ p, H p = none → Q (.ref p) (upd H p (.rng 0 n))) := by
  intro pins s σ H vs us Q I r h
  obtain ⟨n, rfl, q⟩ := h
  obtain ⟨u, rfl, t, rfl⟩ := vals1 r
  refine call_range_1 ⟨.ref s.heap.objs.size, upd H s.heap.objs.size (.rng 0 n), I.laid (t' := s.toks + 1 + 1) (fun b o e => Heap.get?_push_of_some _ e) (by omega) ?_, rfl, q _ (I.hok.fresh (Nat.le_refl _))⟩
  exact ⟨_, _, _, Heap.get?_push_size _ rfl⟩
theorem cr_list_rng (hc : X.calm = true) : CallR X (.type "list") (fun xs H Q => ∃ (r : Addr) (n : Int), xs = [V.ref r] ∧ H r = some (.rng 0 n) ∧ -1000000 < n ∧ n < 1000000 ∧ ∀ p, H p = none → Q (.ref p) (upd H p (.lst ((List.range n.toNat).map fun (k : Nat) => V.int k)))) := by
  intro pins s σ H xs us Q I r h
  obtain ⟨a, n, rfl, hr, h0, h1, q⟩ := h
  obtain ⟨u, rfl, rx⟩ := r.one
  cases rx
  obtain ⟨t1, t2, t3, hg⟩ := (show ObjOk X.prog X.w H s.heap a (.rng 0 n) from I.hok a _ hr)
  refine call_list_range (n := n.toNat) (I.ok.hd hc) hg ?_ ?_ (by omega) fun h' tk acc' c' hk hS hacc => ?_
  · unfold Builtin.Range.small
    rw [rangeSize_one]
    unfold Builtin.Range.rangeFitsLong
    split <;> simp <;> omega
  · unfold Builtin.Range.rangeSize
    simp only [show (1 : Int) > 0 by decide, if_true, Int.ediv_one]
    split <;> omega
  refine ⟨.ref s.heap.objs.size, _, I.laid (t' := tk) (o := .lst ((List.range n.toNat).map fun (k : Nat) => V.int k)) hk (Nat.le_refl _) ⟨?_, acc'.toList, c', ?_, ?_⟩, rfl, q _ (I.hok.fresh (Nat.le_refl _))⟩
  · rw [List.length_map, List.length_range]
    exact Nat.le_trans (show n.toNat ≤ 1000000 by omega) lim_le
  · refine vals_of_at' ?_ fun j x u hx hu => ?_
    · rw [List.length_map, List.length_range, Array.length_toList, hacc.1]
    · rw [List.getElem?_map] at hx
      obtain ⟨t, e⟩ := hacc.2 j u (by rw [← Array.getElem?_toList]; exact hu)
      cases hj : (List.range n.toNat)[j]? with
      | none => rw [hj] at hx; cases hx
      | some k =>
        rw [hj] at hx
        have ej : j = k := by
          obtain ⟨h1, h2⟩ := List.getElem?_eq_some_iff.1 hj
          rw [List.getElem_range] at h2
          exact h2
        cases hx
        subst ej
        rw [e]
        refine ⟨t, ?_⟩
        show Value.int (0 + (j : Int) * 1) t = _
        rw [Int.zero_add, Int.mul_one]
  · rw [Array.toArray_toList]; exact hS
end Mn
namespace Mn
open PySem L2
variable {C : Ctx} {H H' : Hp} {B M B' M' : AP'} {σ : L2.St} {env env' : Env}
theorem mutS_own {i : Nat} {xs : List D} (h : env[i]? = some (some (Sl.own xs))) : mutS env i = some xs := by unfold mutS; rw [h]
theorem mutS_par {i : Nat} {xs : List D} (h : env[i]? = some (some (Sl.par xs))) : mutS env i = some xs := by unfold mutS; rw [h]
theorem mutS_some {i : Nat} {xs : List D} (h : mutS env i = some xs) : env[i]? = some (some (Sl.own xs)) ∨ env[i]? = some (some (Sl.par xs)) := by
  unfold mutS at h
  split at h
  · cases h; exact .inl (by assumption)
  · cases h; exact .inr (by assumption)
  · cases h
theorem mutS_set_ne {i j : Nat} {s : Option Sl} (h : j ≠ i) : mutS (env.set i s) j = mutS env j := by
  unfold mutS; rw [List.getElem?_set_ne (Ne.symm h)]
theorem set_get {i j : Nat} {s t : Option Sl} (h : (env.set i s)[j]? = some t) : (j = i ∧ t = s) ∨ (j ≠ i ∧ env[j]? = some t) := by
  by_cases e : j = i
  · subst e
    by_cases hl : j < env.length
    · rw [List.getElem?_set_self hl] at h; exact .inl ⟨rfl, (Option.some.inj h).symm⟩
    · rw [List.getElem?_eq_none (by simpa using hl)] at h; cases h
  · rw [List.getElem?_set_ne (Ne.symm e)] at h; exact .inr ⟨e, h⟩
theorem Sim.lt (s : Sim C H B M σ env) {i : Nat} {t : Option Sl} (h : env[i]? = some t) : i < σ.length := by
  rw [s.len]; exact (List.getElem?_eq_some_iff.mp h).1
/-- a list of one's own, no longer to be changed -/
theorem Sim.freeze (s : Sim C H B M σ env) {i : Nat} {xs : List D} (h : env[i]? = some (some (Sl.own xs))) :
    ∃ a, σ[i]? = some (some (.ref a)) ∧ Sim C H (fun b => B b ∧ b ≠ a) (fun b => M b ∧ b ≠ a) σ (env.set i (some (.val (.lst xs)))) ∧ Rep C.K H (fun b => B b ∧ b ≠ a) (.lst xs) (.ref a) := by
  obtain ⟨a, vs, e, q, r, m, n⟩ := s.own i xs h
  have sub : ∀ b, (B b ∧ b ≠ a) → B b := fun b z => z.1
  have hr : Rep C.K H (fun b => B b ∧ b ≠ a) (.lst xs) (.ref a) := ⟨a, vs, rfl, q, fun z => z.2 rfl, r.less s.bl sub⟩
  have ap : ∀ (j : Nat) (ys : List D) (b : Addr), j ≠ i → mutS env j = some ys → σ[j]? = some (some (.ref b)) → b ≠ a := fun j ys b ne hm hb z => by
    subst z; exact ne (s.inj j i ys xs b hm (mutS_own h) hb e)
  refine ⟨a, e, ⟨by rw [s.len, List.length_set], fun b z => s.bl b z.1, fun b z => ⟨s.mb b z.1, z.2⟩, fun b z => ⟨s.lo b z, fun y => n (y ▸ z)⟩, fun j d hj => ?_, fun j ys hj => ?_, fun j ys hj => ?_, fun j k xs' ys b hj hk h1 h2 => ?_, fun b o h => ⟨(s.kp b o h).1, fun z => (s.kp b o h).2 z.1⟩, fun d v h => (s.ex d v h).less s.bl sub, fun j hj => by
    rcases set_get hj with ⟨rfl, e2⟩ | ⟨ne, hj⟩
    · cases e2
    · exact s.sl j hj⟩, hr⟩
  · rcases set_get hj with ⟨rfl, e2⟩ | ⟨ne, hj⟩
    · cases e2; exact ⟨_, e, hr⟩
    · obtain ⟨v, e1, r1⟩ := s.val j d hj
      exact ⟨v, e1, r1.less s.bl sub⟩
  · rcases set_get hj with ⟨rfl, e2⟩ | ⟨ne, hj⟩
    · cases e2
    · obtain ⟨b, ws, e1, q1, r1, m1, n1⟩ := s.own j ys hj
      exact ⟨b, ws, e1, q1, r1.less s.bl sub, ⟨m1, ap j ys b ne (mutS_own hj) e1⟩, n1⟩
  · rcases set_get hj with ⟨rfl, e2⟩ | ⟨ne, hj⟩
    · cases e2
    · obtain ⟨b, ws, p, e1, q1, r1, m1⟩ := s.par j ys hj
      exact ⟨b, ws, p, e1, q1, r1.less s.bl sub, ⟨m1, ap j ys b ne (mutS_par hj) e1⟩⟩
  · by_cases ej : j = i
    · subst ej
      rcases mutS_some hj with z | z <;> (rcases set_get z with ⟨_, e2⟩ | ⟨ne, _⟩ <;> first | cases e2 | exact absurd rfl ne)
    · by_cases ek : k = i
      · subst ek
        rcases mutS_some hk with z | z <;> (rcases set_get z with ⟨_, e2⟩ | ⟨ne, _⟩ <;> first | cases e2 | exact absurd rfl ne)
      · rw [mutS_set_ne ej] at hj; rw [mutS_set_ne ek] at hk
        exact s.inj j k _ _ b hj hk h1 h2
theorem nx_freeze (a : Addr) : Nx H B M H (fun b => B b ∧ b ≠ a) (fun b => M b ∧ b ≠ a) := ⟨fun _ _ h _ => h, fun _ h => .inl h.1, fun _ h => .inl h.1, fun _ h => h⟩
theorem putS_some {i : Nat} {t : Sl} (h : putS env i t = some env') : env' = env.set i (some t) ∧ (∃ o, env[i]? = some o ∧ ∀ xs, o ≠ some (.par xs)) := by
  unfold putS at h
  split at h
  · cases h
  · cases h
  · rename_i o ne _ ho
    cases h; exact ⟨rfl, ⟨_, by assumption, fun xs e => by subst e; simp_all⟩⟩
  · cases h
/-- a datum is stored -/
theorem Sim.putVal (s : Sim C H B M σ env) {i : Nat} {d : D} {v : V} (h : putS env i (.val d) = some env') (r : Rep C.K H B d v) : Sim C H B M (σ.set i (some v)) env' := by
  obtain ⟨rfl, o, ho, _⟩ := putS_some h
  have hl := s.lt ho
  have gs : ∀ {j : Nat} {w : Option V}, j ≠ i → σ[j]? = some w → (σ.set i (some v))[j]? = some w := fun ne e => by rw [List.getElem?_set_ne (Ne.symm ne)]; exact e
  have sg : ∀ {j : Nat} {w : Option V}, j ≠ i → (σ.set i (some v))[j]? = some w → σ[j]? = some w := fun ne e => by rw [List.getElem?_set_ne (Ne.symm ne)] at e; exact e
  refine ⟨by rw [List.length_set, List.length_set]; exact s.len, s.bl, s.mb, s.lo, fun j d' hj => ?_, fun j ys hj => ?_, fun j ys hj => ?_, fun j k xs' ys b hj hk h1 h2 => ?_, s.kp, s.ex, fun j hj => ?_⟩
  rotate_left 4
  · rcases set_get hj with ⟨rfl, e2⟩ | ⟨ne, hj⟩
    · cases e2
    · obtain ⟨b, p, e1⟩ := s.sl j hj; exact ⟨b, p, gs ne e1⟩
  · rcases set_get hj with ⟨rfl, e2⟩ | ⟨ne, hj⟩
    · cases e2; exact ⟨v, List.getElem?_set_self hl, r⟩
    · obtain ⟨w, e1, r1⟩ := s.val j d' hj; exact ⟨w, gs ne e1, r1⟩
  · rcases set_get hj with ⟨rfl, e2⟩ | ⟨ne, hj⟩
    · cases e2
    · obtain ⟨b, ws, e1, q⟩ := s.own j ys hj; exact ⟨b, ws, gs ne e1, q⟩
  · rcases set_get hj with ⟨rfl, e2⟩ | ⟨ne, hj⟩
    · cases e2
    · obtain ⟨b, ws, p, e1, q⟩ := s.par j ys hj; exact ⟨b, ws, p, gs ne e1, q⟩
  · by_cases ej : j = i
    · subst ej
      rcases mutS_some hj with z | z <;> (rcases set_get z with ⟨_, e2⟩ | ⟨ne, _⟩ <;> first | cases e2 | exact absurd rfl ne)
    · by_cases ek : k = i
      · subst ek
        rcases mutS_some hk with z | z <;> (rcases set_get z with ⟨_, e2⟩ | ⟨ne, _⟩ <;> first | cases e2 | exact absurd rfl ne)
      · rw [mutS_set_ne ej] at hj; rw [mutS_set_ne ek] at hk
        exact s.inj j k _ _ b hj hk (sg ej h1) (sg ek h2)
/-- a new list is stored, to be changed later -/
theorem Sim.putOwn {p : Addr} {vs : List V} (s : Sim C H (ins p B) M σ env) {i : Nat} {xs : List D} (h : putS env i (.own xs) = some env') (hp : H p = some (.lst vs)) (r : RepL C.K H (ins p B) xs vs) (nb : ¬ B p) (mb : ∀ a, M a → B a) (lo : ∀ a, C.B0 a → B a) :
    Sim C H (ins p B) (ins p M) (σ.set i (some (.ref p))) env' := by
  obtain ⟨rfl, o, ho, _⟩ := putS_some h
  have hl := s.lt ho
  have gs : ∀ {j : Nat} {w : Option V}, j ≠ i → σ[j]? = some w → (σ.set i (some (.ref p)))[j]? = some w := fun ne e => by rw [List.getElem?_set_ne (Ne.symm ne)]; exact e
  have sg : ∀ {j : Nat} {w : Option V}, j ≠ i → (σ.set i (some (.ref p)))[j]? = some w → σ[j]? = some w := fun ne e => by rw [List.getElem?_set_ne (Ne.symm ne)] at e; exact e
  have si : (σ.set i (some (.ref p)))[i]? = some (some (.ref p)) := List.getElem?_set_self hl
  have far : ∀ {j : Nat} {ys : List D}, mutS env j = some ys → σ[j]? ≠ some (some (.ref p)) := fun {j ys} hm e => by
    obtain ⟨a, ws, e1, _, _, m⟩ := s.mut hm
    rw [e] at e1; cases e1; exact nb (mb p m)
  refine ⟨by rw [List.length_set, List.length_set]; exact s.len, s.bl, fun a z => z.elim .inl fun z => .inr (mb a z), s.lo, fun j d' hj => ?_, fun j ys hj => ?_, fun j ys hj => ?_, fun j k xs' ys b hj hk h1 h2 => ?_, fun b o h => ⟨(s.kp b o h).1, fun z => z.elim (fun e => by have k := (s.kp b o h).1; rw [e, hp] at k; cases k) (s.kp b o h).2⟩, s.ex, fun j hj => ?_⟩
  rotate_left 4
  · rcases set_get hj with ⟨rfl, e2⟩ | ⟨ne, hj⟩
    · cases e2
    · obtain ⟨b, p, e1⟩ := s.sl j hj; exact ⟨b, p, gs ne e1⟩
  · rcases set_get hj with ⟨rfl, e2⟩ | ⟨ne, hj⟩
    · cases e2
    · obtain ⟨w, e1, r1⟩ := s.val j d' hj; exact ⟨w, gs ne e1, r1⟩
  · rcases set_get hj with ⟨rfl, e2⟩ | ⟨ne, hj⟩
    · cases e2; exact ⟨p, vs, si, hp, r, .inl rfl, fun z => nb (lo p z)⟩
    · obtain ⟨b, ws, e1, q1, r1, m1, n1⟩ := s.own j ys hj; exact ⟨b, ws, gs ne e1, q1, r1, .inr m1, n1⟩
  · rcases set_get hj with ⟨rfl, e2⟩ | ⟨ne, hj⟩
    · cases e2
    · obtain ⟨b, ws, p', e1, q1, r1, m1⟩ := s.par j ys hj; exact ⟨b, ws, p', gs ne e1, q1, r1, .inr m1⟩
  · by_cases ej : j = i
    · subst ej
      by_cases ek : k = j
      · exact ek.symm
      · rw [mutS_set_ne ek] at hk
        rw [si] at h1; cases h1
        exact absurd (sg ek h2) (far hk)
    · by_cases ek : k = i
      · subst ek
        rw [mutS_set_ne ej] at hj
        rw [si] at h2; cases h2
        exact absurd (sg ej h1) (far hj)
      · rw [mutS_set_ne ej] at hj; rw [mutS_set_ne ek] at hk
        exact s.inj j k _ _ b hj hk (sg ej h1) (sg ek h2)
/-! ### lists that were changed -/
def RefR (σ : L2.St) : List Nat → List Addr → Prop
  | [], ps => ps = []
  | i :: is, ps => ∃ a t, ps = a :: t ∧ σ[i]? = some (some (.ref a)) ∧ RefR σ is t
def OutR (K : PySem.W.Frag) (H : Hp) (B : AP') : List (List D) → List Addr → Prop
  | [], ps => ps = []
  | xs :: r, ps => ∃ a t ws, ps = a :: t ∧ H a = some (.lst ws) ∧ RepL K H B xs ws ∧ OutR K H B r t
theorem setM_get {i j : Nat} {xs : List D} {s : Sl} (h : (setM env i xs)[j]? = some (some s)) :
    (j = i ∧ ((∃ ys, env[i]? = some (some (.own ys)) ∧ s = .own xs) ∨ ∃ ys, env[i]? = some (some (.par ys)) ∧ s = .par xs)) ∨ ((j ≠ i ∨ mutS env i = none) ∧ env[j]? = some (some s)) := by
  unfold setM at h
  split at h
  · rcases set_get h with ⟨rfl, e⟩ | ⟨ne, e⟩
    · cases e; exact .inl ⟨rfl, .inl ⟨_, by assumption, rfl⟩⟩
    · exact .inr ⟨.inl ne, e⟩
  · rcases set_get h with ⟨rfl, e⟩ | ⟨ne, e⟩
    · cases e; exact .inl ⟨rfl, .inr ⟨_, by assumption, rfl⟩⟩
    · exact .inr ⟨.inl ne, e⟩
  · rename_i n1 n2
    refine .inr ⟨.inr ?_, h⟩
    unfold mutS
    split
    · exact absurd (by assumption) (n1 _)
    · exact absurd (by assumption) (n2 _)
    · rfl
theorem setM_len {i : Nat} {xs : List D} : (setM env i xs).length = env.length := by
  unfold setM; split <;> simp
theorem setM_ne {i j : Nat} {xs : List D} (h : j ≠ i) : (setM env i xs)[j]? = env[j]? := by
  unfold setM; split <;> first | rfl | exact List.getElem?_set_ne (Ne.symm h)
/-- what stands in a slot behind the changes -/
theorem putBack_get : ∀ {is : List Nat} {outs : List (List D)} {env env' : Env}, is.Nodup → putBack is outs env = some env' → env'.length = env.length ∧ ∀ (j : Nat) (s : Sl), env'[j]? = some (some s) →
    (∃ (k : Nat) (xs : List D), is[k]? = some j ∧ outs[k]? = some xs ∧ ((∃ ys, env[j]? = some (some (.own ys)) ∧ s = .own xs) ∨ ∃ ys, env[j]? = some (some (.par ys)) ∧ s = .par xs)) ∨ ((j ∉ is ∨ mutS env j = none) ∧ env[j]? = some (some s))
  | [], [], env, env', _, h => by
    cases h; exact ⟨rfl, fun j s hj => .inr ⟨.inl (by simp), hj⟩⟩
  | [], _ :: _, _, _, _, h => by cases h
  | _ :: _, [], _, _, _, h => by cases h
  | i :: is, xs :: r, env, env', nd, h => by
    have nd2 := List.nodup_cons.mp nd
    have h' : putBack is r (setM env i xs) = some env' := h
    obtain ⟨hl, ih⟩ := putBack_get nd2.2 h'
    refine ⟨hl.trans setM_len, fun j s hj => ?_⟩
    rcases ih j s hj with ⟨k, ys, e1, e2, q⟩ | ⟨q1, q2⟩
    · have ne : j ≠ i := fun z => nd2.1 (by rw [← z]; exact List.mem_of_getElem? e1)
      rw [setM_ne ne] at q
      exact .inl ⟨k + 1, ys, by simpa using e1, by simpa using e2, q⟩
    · rcases setM_get q2 with ⟨rfl, q⟩ | ⟨q, e⟩
      · exact .inl ⟨0, xs, rfl, rfl, q⟩
      · by_cases ne : j = i
        · subst ne
          rcases q with q | q
          · exact absurd rfl q
          · exact .inr ⟨.inr q, e⟩
        · refine .inr ⟨?_, e⟩
          rcases q1 with q1 | q1
          · exact .inl (by simp only [List.mem_cons, not_or]; exact ⟨ne, q1⟩)
          · right
            unfold mutS at q1 ⊢
            rw [setM_ne ne] at q1; exact q1
theorem RefR.get : ∀ {is : List Nat} {ps : List Addr} {k i : Nat}, RefR σ is ps → is[k]? = some i → ∃ a, ps[k]? = some a ∧ σ[i]? = some (some (.ref a))
  | [], _, _, _, _, e => by simp at e
  | j :: is, _, 0, i, h, e => by
    obtain ⟨a, t, rfl, h1, _⟩ := h
    simp at e; subst e; exact ⟨a, rfl, h1⟩
  | j :: is, _, k + 1, i, h, e => by
    obtain ⟨a, t, rfl, _, h1⟩ := h
    obtain ⟨b, e1, e2⟩ := RefR.get (k := k) h1 (by simpa using e)
    exact ⟨b, by simpa using e1, e2⟩
theorem RefR.get' : ∀ {is : List Nat} {ps : List Addr} {a : Addr}, RefR σ is ps → a ∈ ps → ∃ i, i ∈ is ∧ σ[i]? = some (some (.ref a))
  | [], _, _, h, e => by rw [show _ = _ from h] at e; cases e
  | j :: is, _, a, h, e => by
    obtain ⟨b, t, rfl, h1, h2⟩ := h
    rcases List.mem_cons.mp e with rfl | e
    · exact ⟨j, List.mem_cons_self, h1⟩
    · obtain ⟨i, hi, q⟩ := RefR.get' h2 e
      exact ⟨i, List.mem_cons_of_mem _ hi, q⟩
theorem OutR.get {K : PySem.W.Frag} : ∀ {outs : List (List D)} {ps : List Addr} {k : Nat} {xs : List D} {a : Addr}, OutR K H B outs ps → outs[k]? = some xs → ps[k]? = some a → ∃ ws, H a = some (.lst ws) ∧ RepL K H B xs ws
  | [], _, _, _, _, _, e, _ => by simp at e
  | j :: is, _, 0, xs, a, h, e, e2 => by
    obtain ⟨b, t, ws, rfl, h1, h2, _⟩ := h
    simp at e e2; subst e; subst e2; exact ⟨ws, h1, h2⟩
  | j :: is, _, k + 1, xs, a, h, e, e2 => by
    obtain ⟨b, t, ws, rfl, _, _, h1⟩ := h
    exact OutR.get (k := k) h1 (by simpa using e) (by simpa using e2)
/-- behind a call that changed the lists at ps -/
theorem Sim.out (s : Sim C H B M σ env) {is : List Nat} {ps : List Addr} {outs : List (List D)} (nd : is.Nodup) (hm : ∀ i ∈ is, mutS env i ≠ none) (hr : RefR σ is ps) (ho : OutR C.K H' B outs ps) (keep : ∀ a o, H a = some o → a ∉ ps → H' a = some o) (al : ∀ a, H' a = none → H a = none)
    (pb : putBack is outs env = some env') : Sim C H' B M σ env' ∧ Nx H B M H' B M := by
  obtain ⟨hl, get⟩ := putBack_get nd pb
  have pm : ∀ a ∈ ps, M a ∧ ∃ i xs, i ∈ is ∧ mutS env i = some xs ∧ σ[i]? = some (some (.ref a)) := fun a ha => by
    obtain ⟨i, hi, e⟩ := hr.get' ha
    cases z : mutS env i with
    | none => exact absurd z (hm i hi)
    | some xs =>
      obtain ⟨b, ws, e1, _, _, m⟩ := s.mut z
      rw [e] at e1; cases e1; exact ⟨m, i, xs, hi, z, e⟩
  have nx : Nx H B M H' B M := ⟨fun a o h nm => keep a o h fun z => nm (pm a z).1, fun _ h => .inl h, fun _ h => .inl h, al⟩
  have apart : ∀ {j : Nat} {ys : List D} {a : Addr}, mutS env j = some ys → j ∉ is → σ[j]? = some (some (.ref a)) → a ∉ ps := fun {j ys a} hj ni e ha => by
    obtain ⟨_, i, xs, hi, z, e1⟩ := pm a ha
    exact ni (s.inj j i _ _ a hj z e e1 ▸ hi)
  have stay : ∀ {j : Nat} {ys : List D} {a : Addr} {ws : List V}, mutS env j = some ys → (j ∉ is ∨ mutS env j = none) → σ[j]? = some (some (.ref a)) → H a = some (.lst ws) → H' a = some (.lst ws) := fun {j ys a ws} hj q e h =>
    keep a _ h (q.elim (fun q => apart hj q e) fun q => by rw [hj] at q; cases q)
  have back : ∀ {j : Nat} {ys : List D}, mutS env' j = some ys → ∃ zs, mutS env j = some zs := fun {j ys} hj => by
    rcases mutS_some hj with z | z <;>
    · rcases get j _ z with ⟨k, xs, _, _, (⟨zs, e, _⟩ | ⟨zs, e, _⟩)⟩ | ⟨_, e⟩
      · exact ⟨zs, mutS_own e⟩
      · exact ⟨zs, mutS_par e⟩
      · first | exact ⟨_, mutS_own e⟩ | exact ⟨_, mutS_par e⟩
  refine ⟨⟨s.len.trans hl.symm, fun a h => ?_, s.mb, s.lo, fun j d hj => ?_, fun j ys hj => ?_, fun j ys hj => ?_, fun j k xs' ys b hj hk h1 h2 => ?_, fun b o h => ⟨keep b _ (s.kp b o h).1 fun z => (s.kp b o h).2 (pm b z).1, (s.kp b o h).2⟩, fun d v h => Rep.nx s.bl s.mb nx d v (s.ex d v h), fun j hj => by
    rcases get j _ hj with ⟨k, xs, _, _, (⟨_, _, e⟩ | ⟨_, _, e⟩)⟩ | ⟨_, e⟩
    · cases e
    · cases e
    · exact s.sl j e⟩, nx⟩
  · obtain ⟨vs, e⟩ := s.bl a h
    by_cases ha : a ∈ ps
    · obtain ⟨_, i, xs, hi, z, e1⟩ := pm a ha
      obtain ⟨k, hk⟩ := List.getElem?_of_mem hi
      obtain ⟨b, hb, e2⟩ := hr.get hk
      rw [e1] at e2; cases e2
      cases hx : outs[k]? with
      | none =>
        have l1 : ps.length ≤ k := by
          have : ∀ {o : List (List D)} {p : List Addr}, OutR C.K H' B o p → p.length = o.length := by
            intro o; induction o with
            | nil => intro p h; rw [show p = [] from h]; rfl
            | cons x r ih => intro p h; obtain ⟨a', t, ws, rfl, _, _, h2⟩ := h; simp [ih h2]
          rw [this ho]; exact List.getElem?_eq_none_iff.mp hx
        rw [List.getElem?_eq_none l1] at hb; cases hb
      | some xs' => obtain ⟨ws, q, _⟩ := ho.get hx hb; exact ⟨.l ws, q⟩
    · exact ⟨vs, keep a _ e ha⟩
  · rcases get j _ hj with ⟨k, xs, _, _, (⟨_, _, e⟩ | ⟨_, _, e⟩)⟩ | ⟨_, e⟩
    · cases e
    · cases e
    · obtain ⟨v, e1, r⟩ := s.val j d e; exact ⟨v, e1, Rep.nx s.bl s.mb nx d v r⟩
  · rcases get j _ hj with ⟨k, xs, e1, e2, (⟨zs, e, q⟩ | ⟨_, _, e⟩)⟩ | ⟨q, e⟩
    · cases q
      obtain ⟨a, ws, h1, h2, h3, h4, h5⟩ := s.own j _ e
      obtain ⟨b, hb, e3⟩ := hr.get e1
      rw [h1] at e3; cases e3
      obtain ⟨ws', q1, q2⟩ := ho.get e2 hb
      exact ⟨a, ws', h1, q1, q2, h4, h5⟩
    · cases e
    · obtain ⟨a, ws, h1, h2, h3, h4, h5⟩ := s.own j _ e
      exact ⟨a, ws, h1, stay (mutS_own e) q h1 h2, RepL.nx s.bl s.mb nx _ _ h3, h4, h5⟩
  · rcases get j _ hj with ⟨k, xs, e1, e2, (⟨_, _, e⟩ | ⟨zs, e, q⟩)⟩ | ⟨q, e⟩
    · cases e
    · cases q
      obtain ⟨a, ws, p, h1, h2, h3, h4⟩ := s.par j _ e
      obtain ⟨b, hb, e3⟩ := hr.get e1
      rw [h1] at e3; cases e3
      obtain ⟨ws', q1, q2⟩ := ho.get e2 hb
      exact ⟨a, ws', p, h1, q1, q2, h4⟩
    · obtain ⟨a, ws, p, h1, h2, h3, h4⟩ := s.par j _ e
      exact ⟨a, ws, p, h1, stay (mutS_par e) q h1 h2, RepL.nx s.bl s.mb nx _ _ h3, h4⟩
  · obtain ⟨z1, hj⟩ := back hj
    obtain ⟨z2, hk⟩ := back hk
    exact s.inj j k _ _ b hj hk h1 h2
/-- one list changed -/
theorem Sim.setM (s : Sim C H B M σ env) {i : Nat} {xs ys : List D} {a : Addr} {ws : List V} (hm : mutS env i = some xs) (e : σ[i]? = some (some (.ref a))) (r : RepL C.K H B ys ws) (hw : ∃ vs, H a = some (.lst vs)) :
    Sim C (upd H a (.lst ws)) B M σ (Mn.setM env i ys) ∧ Nx H B M (upd H a (.lst ws)) B M := by
  have ma : M a := by
    obtain ⟨b, vs, e1, _, _, m⟩ := s.mut hm
    rw [e] at e1; cases e1; exact m
  have nx : Nx H B M (upd H a (.lst ws)) B M := ⟨fun b o h nm => by rw [upd_ne (show b ≠ a from fun z => nm (by rw [z]; exact ma))]; exact h, fun _ h => .inl h, fun _ h => .inl h, fun b h => upd_none h⟩
  refine s.out (is := [i]) (ps := [a]) (outs := [ys]) (by simp) (fun j hj => ?_) ⟨a, [], rfl, e, rfl⟩ ⟨a, [], ws, rfl, upd_same, RepL.nx s.bl s.mb nx _ _ r, rfl⟩ (fun b o h nb => ?_) (fun b h => upd_none h) rfl
  · rw [List.mem_singleton.mp hj, hm]; simp
  · rw [upd_ne (by simpa using nb)]; exact h
theorem Sim.peek (s : Sim C H B M σ env) {i : Nat} {d : D} (h : peek env i = some d) : ∃ v, σ[i]? = some (some v) ∧ Rep C.K H (fun _ => False) d v := by
  unfold Mn.peek at h
  split at h
  · cases h
    obtain ⟨v, e, r⟩ := s.val i _ (by assumption)
    exact ⟨v, e, r.less s.bl fun _ z => z.elim⟩
  · cases h
    obtain ⟨a, vs, e, q, r, _⟩ := s.own i _ (by assumption)
    exact ⟨_, e, a, vs, rfl, q, fun z => z, r.less s.bl fun _ z => z.elim⟩
  · cases h
    obtain ⟨a, vs, _, e, q, r, _⟩ := s.par i _ (by assumption)
    exact ⟨_, e, a, vs, rfl, q, fun z => z, r.less s.bl fun _ z => z.elim⟩
  · cases h
end Mn
/-! zip of a tuple and a list -/
namespace Mn
open PySem L2 RZ PyProof.Rows
section
variable {pg : Program} {w : World} {ar : Around} {Er : Value → Shared → Prop} {s : Shared}
theorem zm_item {z p q a b la lb : Addr} {m n : Nat} {us vs : Array Value} {u v o1 o2 : Value} {R : Value → Shared → Prop} (ap : ZipApart z p q a b la lb)
    (gz : IsZip s.heap z p q .none) (gp : IsPair s.heap p (.ref a) (.ref b)) (gq : IsPair s.heap q o1 o2)
    (ga : s.heap.IsTupleIter a la m) (gb : s.heap.IsListIter b lb n) (gu : s.heap.IsTuple la us) (gv : s.heap.IsList lb vs) (eu : us[m]? = some u) (ev : vs[n]? = some v)
    (k : ∀ h, IsZip h z p q (rawInt s.heap.objs.size) → IsPair h q u v → h.IsTupleIter a la (m + 1) → h.IsListIter b lb (n + 1) → IsPair h s.heap.objs.size u v → h.objs.size = s.heap.objs.size + 1 →
      (∀ c o, c ≠ z → c ≠ q → c ≠ a → c ≠ b → s.heap.get? c = some o → h.get? c = some o) → R (.ref s.heap.objs.size) { s with heap := h }) :
    wpAny (model pg w) ar (Builtin.«zip.__next__» ⟨[.ref z], []⟩) (fun f t => ∃ x, f = .done (.ret x) ∧ R x t) Er s := by
  have F0 : ∀ {T : Type} {i : Nat} {x : Value} {k : Value → Sem T} {Q : T → Shared → Prop}, (#[Value.none, .bool false, .bool false, .ref p, .ref q] : Array Value)[i]? = some x → wpAny (model pg w) ar (k x) Q Er s → wpAny (model pg w) ar (field (.ref z) i >>= k) Q Er s :=
    fun e y => wpAny_bind (wpAny_field gz rfl e y)
  show wpAny _ _ (field (.ref z) 2 >>= fun _ => _) _ _ _
  refine F0 rfl ?_
  show wpAny _ _ (field (.ref z) 3 >>= fun _ => _) _ _ _
  refine F0 rfl ?_
  refine wpAny_bind (wpAny_seqItems gp rfl ?_)
  show wpAny _ _ (Builtin.SmallTypes.ownedTupleIsFree (.ref z) >>= fun _ => _) _ _ _
  refine wpAny_bind ?_
  unfold Builtin.SmallTypes.ownedTupleIsFree
  refine F0 rfl (wpAny_pure ?_)
  simp only [if_true]
  refine wpAny_bind (wpAny_rule ?_)
  refine F0 rfl ?_
  refine wpAny_bind (wpAny_setField_rec gz (by simp) fun h1 y1 s1 => ?_)
  replace y1 : IsZip h1 z p q .ellipsis := y1
  refine wpAny_bind ?_
  simp only [List.zipIdx_cons, List.zipIdx_nil, List.forIn_cons, List.forIn_nil]
  refine wpAny_bind (wpAny_bind (wpAny_onRaise ?_))
  show wpAny _ _ (Builtin.SmallTypes.nextOf (.ref a) >>= fun _ => _) _ _ _
  refine wpAny_bind (nextOf_tuple_item (ga.extBut s1.extBut ap.i1z) (gu.extBut s1.extBut ap.l1z) eu fun h2 a2 s2 => wpAny_pure ?_)
  have q2 : IsPair h2 q o1 o2 := s2.extBut _ _ ap.TOi1 (s1.extBut _ _ ap.TOz gq)
  refine wpAny_bind (wpAny_seqItems q2 rfl ?_)
  refine wpAny_bind (wpAny_updateSeq_pair q2 fun h3 q3 s3 => ?_)
  replace q3 : IsPair h3 q u o2 := q3
  refine wpAny_bind (wpAny_letGo (wpAny_pure ?_))
  refine wpAny_bind (wpAny_bind (wpAny_onRaise ?_))
  show wpAny _ _ (Builtin.SmallTypes.nextOf (.ref b) >>= fun _ => _) _ _ _
  refine wpAny_bind (wpAny_nextOf_list_item (((gb.extBut s1.extBut ap.i2z).extBut s2.extBut ap.i12.symm).extBut s3.extBut ap.TOi2.symm)
    (((gv.extBut s1.extBut ap.l2z).extBut s2.extBut ap.l2i1).extBut s3.extBut ap.l2TO) ev fun h4 b4 s4 => wpAny_pure ?_)
  have q4 : IsPair h4 q u o2 := s4.extBut _ _ ap.TOi2 q3
  refine wpAny_bind (wpAny_seqItems q4 rfl ?_)
  refine wpAny_bind (wpAny_updateSeq_pair q4 fun h5 q5 s5 => ?_)
  replace q5 : IsPair h5 q u v := q5
  refine wpAny_bind (wpAny_letGo (wpAny_pure (wpAny_pure ?_)))
  refine wpAny_bind (wpAny_seqItems q5 rfl ?_)
  refine wpAny_bind (wpAny_newTuple ?_)
  have es : h5.objs.size = s.heap.objs.size := by rw [s5.1, s4.1, s3.1, s2.1, s1.1]
  have y5 : IsZip h5 z p q .ellipsis := s5.extBut _ _ ap.TOz.symm (s4.extBut _ _ ap.i2z.symm (s3.extBut _ _ ap.TOz.symm (s2.extBut _ _ ap.i1z.symm y1)))
  have k5 : ∀ c o, c ≠ z → c ≠ q → c ≠ a → c ≠ b → s.heap.get? c = some o → h5.get? c = some o := fun c o c1 c2 c3 c4 e =>
    s5.extBut _ _ c2 (s4.extBut _ _ c4 (s3.extBut _ _ c2 (s2.extBut _ _ c3 (s1.extBut _ _ c1 e))))
  have a5 : h5.IsTupleIter a la (m + 1) := ((a2.extBut s3.extBut ap.TOi1.symm).extBut s4.extBut ap.i12).extBut s5.extBut ap.TOi1.symm
  have b5 : h5.IsListIter b lb (n + 1) := b4.extBut s5.extBut ap.TOi2.symm
  have lz : z < h5.objs.size := Heap.lt_size y5
  show wpAny _ _ (Builtin.SmallTypes.ownedTupleHandOut (.ref z) (.ref h5.objs.size) >>= fun _ => _) _ _ _
  refine wpAny_bind ?_
  unfold Builtin.SmallTypes.ownedTupleHandOut
  have y6 : IsZip (h5.push { cls := .type "tuple", data := .seq #[u, v] }) z p q .ellipsis := Heap.get?_push_of_some _ y5
  refine wpAny_bind (wpAny_setField_rec y6 (by simp) fun h7 y7 s7 => ?_)
  replace y7 : IsZip h7 z p q (rawInt h5.objs.size) := y7
  refine wpAny_setField_rec y7 (by simp) fun h8 y8 s8 => ?_
  replace y8 : IsZip h8 z p q (rawInt h5.objs.size) := y8
  have up : ∀ c o, c ≠ z → h5.get? c = some o → h8.get? c = some o := fun c o c1 e => s8.extBut _ _ c1 (s7.extBut _ _ c1 (Heap.get?_push_of_some _ e))
  have t8 : IsPair h8 h5.objs.size u v := s8.extBut _ _ (Nat.ne_of_gt lz) (s7.extBut _ _ (Nat.ne_of_gt lz) (Heap.get?_push_size _ rfl))
  have z8 : h8.objs.size = h5.objs.size + 1 := by rw [s8.1, s7.1, Heap.size_push]
  rw [es] at y8 t8 z8
  refine wpAny_pure ⟨_, rfl, ?_⟩
  show R (.ref h5.objs.size) _
  rw [es]
  exact k h8 y8 (up _ _ ap.TOz q5) (a5.at fun o e => up _ o ap.i1z e) (b5.at fun o e => up _ o ap.i2z e) t8 z8 fun c o c1 c2 c3 c4 e => up c o c1 (k5 c o c1 c2 c3 c4 e)
theorem zm_end {z p q a b la lb : Addr} {m n : Nat} {us vs : Array Value} {o1 o2 : Value} {R : Fin → Shared → Prop} (nh : ar.handled = none) (ap : ZipApart z p q a b la lb)
    (gz : IsZip s.heap z p q .none) (gp : IsPair s.heap p (.ref a) (.ref b)) (gq : IsPair s.heap q o1 o2)
    (ga : s.heap.IsTupleIter a la m) (gb : s.heap.IsListIter b lb n) (gu : s.heap.IsTuple la us) (gv : s.heap.IsList lb vs) (en : us[m]? = none ∨ vs[n]? = none)
    (k : ∀ h e, (∀ c o, c ≠ z → c ≠ q → c ≠ a → c ≠ b → s.heap.get? c = some o → h.get? c = some o) → (∃ o, h.get? e = some o ∧ o.cls = .type "StopIteration") → Er (.ref e) { s with heap := h }) :
    wpAny (model pg w) ar (Builtin.«zip.__next__» ⟨[.ref z], []⟩) R Er s := by
  have F0 : ∀ {T : Type} {i : Nat} {x : Value} {k : Value → Sem T} {Q : T → Shared → Prop}, (#[Value.none, .bool false, .bool false, .ref p, .ref q] : Array Value)[i]? = some x → wpAny (model pg w) ar (k x) Q Er s → wpAny (model pg w) ar (field (.ref z) i >>= k) Q Er s :=
    fun e y => wpAny_bind (wpAny_field gz rfl e y)
  show wpAny _ _ (field (.ref z) 2 >>= fun _ => _) _ _ _
  refine F0 rfl ?_
  show wpAny _ _ (field (.ref z) 3 >>= fun _ => _) _ _ _
  refine F0 rfl ?_
  refine wpAny_bind (wpAny_seqItems gp rfl ?_)
  show wpAny _ _ (Builtin.SmallTypes.ownedTupleIsFree (.ref z) >>= fun _ => _) _ _ _
  refine wpAny_bind ?_
  unfold Builtin.SmallTypes.ownedTupleIsFree
  refine F0 rfl (wpAny_pure ?_)
  simp only [if_true]
  refine wpAny_bind (wpAny_rule ?_)
  refine F0 rfl ?_
  refine wpAny_bind (wpAny_setField_rec gz (by simp) fun h1 y1 s1 => ?_)
  replace y1 : IsZip h1 z p q .ellipsis := y1
  refine wpAny_bind ?_
  simp only [List.zipIdx_cons, List.zipIdx_nil, List.forIn_cons, List.forIn_nil]
  refine wpAny_bind (wpAny_bind (wpAny_onRaise ?_))
  show wpAny _ _ (Builtin.SmallTypes.nextOf (.ref a) >>= fun _ => _) _ _ _
  cases eu : us[m]? with
  | none =>
    refine wpAny_bind (nextOf_tuple_end nh (ga.extBut s1.extBut ap.i1z) (gu.extBut s1.extBut ap.l1z) eu fun h2 e s2 ⟨oe, he, ce⟩ => ?_)
    have y2 : IsZip h2 z p q .ellipsis := s2 _ _ ap.i1z.symm y1
    have ne : e ≠ z := fun x => by subst x; rw [y2] at he; cases he; simp at ce
    refine wpAny_setField_rec y2 (by simp) fun h3 _ s3 => k h3 e (fun c o c1 _ c3 _ x => s3.extBut _ _ c1 (s2 _ _ c3 (s1.extBut _ _ c1 x))) ⟨oe, s3.extBut _ _ ne he, ce⟩
  | some u =>
    have ev : vs[n]? = none := en.resolve_left (by rw [eu]; simp)
    refine wpAny_bind (nextOf_tuple_item (ga.extBut s1.extBut ap.i1z) (gu.extBut s1.extBut ap.l1z) eu fun h2 a2 s2 => wpAny_pure ?_)
    have q2 : IsPair h2 q o1 o2 := s2.extBut _ _ ap.TOi1 (s1.extBut _ _ ap.TOz gq)
    refine wpAny_bind (wpAny_seqItems q2 rfl ?_)
    refine wpAny_bind (wpAny_updateSeq_pair q2 fun h3 q3 s3 => ?_)
    refine wpAny_bind (wpAny_letGo (wpAny_pure ?_))
    refine wpAny_bind (wpAny_bind (wpAny_onRaise ?_))
    show wpAny _ _ (Builtin.SmallTypes.nextOf (.ref b) >>= fun _ => _) _ _ _
    refine wpAny_bind (wpAny_nextOf_list_end nh (((gb.extBut s1.extBut ap.i2z).extBut s2.extBut ap.i12.symm).extBut s3.extBut ap.TOi2.symm)
      (((gv.extBut s1.extBut ap.l2z).extBut s2.extBut ap.l2i1).extBut s3.extBut ap.l2TO) ev fun h4 e s4 ⟨oe, he, ce⟩ => ?_)
    have y4 : IsZip h4 z p q .ellipsis := s4 _ _ ap.i2z.symm (s3.extBut _ _ ap.TOz.symm (s2.extBut _ _ ap.i1z.symm y1))
    have ne : e ≠ z := fun x => by subst x; rw [y4] at he; cases he; simp at ce
    refine wpAny_setField_rec y4 (by simp) fun h5 _ s5 => k h5 e (fun c o c1 c2 c3 c4 x => s5.extBut _ _ c1 (s4 _ _ c4 (s3.extBut _ _ c2 (s2.extBut _ _ c3 (s1.extBut _ _ c1 x))))) ⟨oe, s5.extBut _ _ ne he, ce⟩
theorem zm_next {z p q a b la lb : Addr} {m n : Nat} {us vs : Array Value} {u v o1 o2 : Value} {R : Option Value → Shared → Prop} (ap : ZipApart z p q a b la lb)
    (gz : IsZip s.heap z p q .none) (gp : IsPair s.heap p (.ref a) (.ref b)) (gq : IsPair s.heap q o1 o2)
    (ga : s.heap.IsTupleIter a la m) (gb : s.heap.IsListIter b lb n) (gu : s.heap.IsTuple la us) (gv : s.heap.IsList lb vs) (eu : us[m]? = some u) (ev : vs[n]? = some v)
    (k : ∀ h, IsZip h z p q (rawInt s.heap.objs.size) → IsPair h q u v → h.IsTupleIter a la (m + 1) → h.IsListIter b lb (n + 1) → IsPair h s.heap.objs.size u v → h.objs.size = s.heap.objs.size + 1 →
      (∀ c o, c ≠ z → c ≠ q → c ≠ a → c ≠ b → s.heap.get? c = some o → h.get? c = some o) → R (some (.ref s.heap.objs.size)) { s with heap := h }) :
    wpAny (model pg w) ar (pyNext (.ref z)) R Er s := by
  have ty : s.TypeIs (.ref z) "zip" := ⟨_, gz, rfl⟩
  unfold pyNext
  exact wpAny_bind (wpAny_attempt (wpAny_callSpecial?_slot (name := Str.ofString "__next__") ty F.slot_zip_next (wpAny_call_entry F.slot_zip_next ty F.entry_zip_next
    (zm_item ap gz gp gq ga gb gu gv eu ev fun h c1 c2 c3 c4 c5 c6 c7 => wpAny_pure (k h c1 c2 c3 c4 c5 c6 c7)) (F.args_zip_next_1 _))))
theorem zm_stop {z p q a b la lb : Addr} {m n : Nat} {us vs : Array Value} {o1 o2 : Value} {R : Option Value → Shared → Prop} (nh : ar.handled = none) (ap : ZipApart z p q a b la lb)
    (gz : IsZip s.heap z p q .none) (gp : IsPair s.heap p (.ref a) (.ref b)) (gq : IsPair s.heap q o1 o2)
    (ga : s.heap.IsTupleIter a la m) (gb : s.heap.IsListIter b lb n) (gu : s.heap.IsTuple la us) (gv : s.heap.IsList lb vs) (en : us[m]? = none ∨ vs[n]? = none)
    (k : ∀ h, (∀ c o, c ≠ z → c ≠ q → c ≠ a → c ≠ b → s.heap.get? c = some o → h.get? c = some o) → R none { s with heap := h }) : wpAny (model pg w) ar (pyNext (.ref z)) R Er s := by
  have ty : s.TypeIs (.ref z) "zip" := ⟨_, gz, rfl⟩
  unfold pyNext
  refine wpAny_bind (wpAny_attempt (wpAny_callSpecial?_slot (name := Str.ofString "__next__") ty F.slot_zip_next (wpAny_call_entry F.slot_zip_next ty F.entry_zip_next
    (zm_end nh ap gz gp gq ga gb gu gv en fun h e hk ⟨o, ho, hc⟩ => ?_) (F.args_zip_next_1 _))))
  exact wpAny_bind (wpAny_isInstance (T := "StopIteration") (b := true) ⟨o, ho, hc⟩ isSubtype_stop (wpAny_pure (k _ hk)))
end
abbrev zm1 (h : Heap) (l : Addr) : Heap := h.push { cls := .type "tuple_iterator", data := .fields #[.ref l, .int 0 0] }
abbrev zm2 (h : Heap) (l r : Addr) : Heap := (zm1 h l).push { cls := .type "list_iterator", data := .fields #[.ref r, .int 0 0] }
abbrev zm3 (h : Heap) (l r : Addr) : Heap := (zm2 h l r).push { cls := .type "tuple", data := .seq #[.ref h.objs.size, .ref (zm1 h l).objs.size] }
abbrev zm4 (h : Heap) (l r : Addr) : Heap := (zm3 h l r).push { cls := .type "tuple", data := .seq #[.none, .none] }
abbrev zm5 (h : Heap) (l r : Addr) : Heap := (zm4 h l r).push { cls := .type "zip", data := .fields #[.none, .bool false, .bool false, .ref (zm2 h l r).objs.size, .ref (zm3 h l r).objs.size] }
theorem zm_new (l r : Addr) (us vs : Array Value) : Meets (Builtin.«zip.__new__» ⟨[.type "zip", .ref l, .ref r], []⟩) (fun _ R s => s.heap.IsTuple l us ∧ s.heap.IsList r vs ∧
      R (.ok (.ret (.ref (zm4 s.heap l r).objs.size))) { s with heap := zm5 s.heap l r }) :=
  .of_wp fun prog w A R s h => by
    obtain ⟨hp, g, d, tk, os⟩ := s; obtain ⟨gl, gr, h⟩ := h
    have hsub := sub_zip
    have L1 : Heap.IsTuple (Shared.heap ⟨hp, g, d, tk, os⟩) l us := gl
    have L2 : Heap.IsList (Shared.heap ⟨hp.push { cls := .type "tuple_iterator", data := .fields #[.ref l, .int 0 0] }, g, d, tk, os⟩) r vs := by
      obtain ⟨o, e, c⟩ := gr; exact ⟨o, Heap.get?_push_of_some _ e, c⟩
    wp_walk using wpAny_pyIter_tuple L1, wpAny_pyIter_list L2
    exact ⟨_, rfl, h⟩
section
variable {pg : Program} {w : World} {ar : Around} {Er : Value → Shared → Prop} {s : Shared}
theorem zm_call {l r : Addr} {us vs : Array Value} {R : Value → Shared → Prop} (gl : s.heap.IsTuple l us) (gr : s.heap.IsList r vs)
    (k : ∀ h, IsZip h (s.heap.objs.size + 4) (s.heap.objs.size + 2) (s.heap.objs.size + 3) .none → IsPair h (s.heap.objs.size + 2) (.ref s.heap.objs.size) (.ref (s.heap.objs.size + 1)) →
      IsPair h (s.heap.objs.size + 3) .none .none → h.IsTupleIter s.heap.objs.size l 0 → h.IsListIter (s.heap.objs.size + 1) r 0 →
      (∀ c o, s.heap.get? c = some o → h.get? c = some o) → R (.ref (s.heap.objs.size + 4)) { s with heap := h }) :
    wpAny (model pg w) ar (call (.type "zip") [.ref l, .ref r]) R Er s := by
  refine callType_new F.called_zip (by decide) (F.typeCall_zip_2 _ _) (F.newCall_zip_2 _ _) (fun x => F.args_object_init_3 x _ _) F.entry_zip_new (zm_new l r us vs) ⟨gl, gr, ?_⟩
  have n1 : (zm1 s.heap l).objs.size = s.heap.objs.size + 1 := Heap.size_push ..
  have n2 : (zm2 s.heap l r).objs.size = s.heap.objs.size + 2 := by rw [Heap.size_push, n1]
  have n3 : (zm3 s.heap l r).objs.size = s.heap.objs.size + 3 := by rw [Heap.size_push, n2]
  have n4 : (zm4 s.heap l r).objs.size = s.heap.objs.size + 4 := by rw [Heap.size_push, n3]
  have up : ∀ {h : Heap} {x : Obj} {c : Addr} {o : Obj}, h.get? c = some o → (h.push x).get? c = some o := fun e => Heap.get?_push_of_some _ e
  have e5 : (zm5 s.heap l r).get? (zm4 s.heap l r).objs.size = some _ := Heap.get?_push_size _ rfl
  have e4 : (zm5 s.heap l r).get? (zm3 s.heap l r).objs.size = some _ := up (Heap.get?_push_size _ rfl)
  have e3 : (zm5 s.heap l r).get? (zm2 s.heap l r).objs.size = some _ := up (up (Heap.get?_push_size _ rfl))
  have e2 : (zm5 s.heap l r).get? (zm1 s.heap l).objs.size = some _ := up (up (up (Heap.get?_push_size _ rfl)))
  have e1 : (zm5 s.heap l r).get? s.heap.objs.size = some _ := up (up (up (up (Heap.get?_push_size _ rfl))))
  show _ ∧ _
  rw [n2, n3, n4] at e5
  rw [n1, n2] at e3
  rw [n3] at e4
  rw [n1] at e2
  rw [n4]
  exact ⟨⟨_, e5, rfl⟩, k _ e5 e3 e4 ⟨_, e1, rfl, rfl⟩ ⟨_, e2, rfl, rfl⟩ fun c o x => up (up (up (up (up x))))⟩
end
/-- the tuple at a and the list at b as they stand at each turn, the items in new pairs -/
def ItzM (K : PySem.W.Frag) (a b : Addr) : It where
  go i H := ∃ (us vs : List V) (u v : V), SqT K H a us ∧ SqL K H b vs ∧ us[i]? = some u ∧ vs[i]? = some v
  yld i H x H' := ∃ T u v, x = .ref T ∧ H T = none ∧ H' = upd H T (.tup [u, v]) ∧ (∀ us, SqT K H a us → us[i]? = some u) ∧ ∀ vs, SqL K H b vs → vs[i]? = some v
  stop i H := ∃ us vs : List V, SqT K H a us ∧ SqL K H b vs ∧ (us.length ≤ i ∨ vs.length ≤ i)
theorem turn_zm {P : Program} {w : World} {K : PySem.W.Frag} {elts : List Expr} {kk : Nat} {tpos : Pos} {a b z p q i1 i2 : Addr} (D : ZipApart z p q i1 i2 a b) :
    Turn P w K (.Tuple elts kk tpos) (ItzM K a b) [z, p, q, i1, i2] z (fun i h => IsZip h z p q .none ∧ IsPair h p (.ref i1) (.ref i2) ∧ (∃ x y, IsPair h q x y) ∧ h.IsTupleIter i1 a i ∧ h.IsListIter i2 b i) where
  mem := by simp
  obj := fun i h ⟨gz, gp, ⟨x, y, gq⟩, ⟨o1, e1, _, d1⟩, ⟨o2, e2, _, d2⟩⟩ c hc => by
    have e' : c = z ∨ c = p ∨ c = q ∨ c = i1 ∨ c = i2 := by simpa using hc
    rcases e' with rfl | rfl | rfl | rfl | rfl
    · exact ⟨_, gz, fun v q => nomatch q⟩
    · exact ⟨_, gp, fun v q => nomatch q⟩
    · exact ⟨_, gq, fun v q => nomatch q⟩
    · exact ⟨o1, e1, fun v q => by rw [d1] at q; cases q⟩
    · exact ⟨o2, e2, fun v q => by rw [d2] at q; cases q⟩
  keep := fun i h h' ⟨gz, gp, ⟨x, y, gq⟩, g1, g2⟩ k =>
    ⟨k z (by simp) _ gz, k p (by simp) _ gp, ⟨x, y, k q (by simp) _ gq⟩, g1.at fun o => k i1 (by simp) o, g2.at fun o => k i2 (by simp) o⟩
  item := by
    intro X eP ew eK hc i pins s σ H E I hf ⟨gz, gp, ⟨x0, y0, gq⟩, g1, g2⟩ ⟨us, vs, u, v, qu, qv, eu, ev⟩
    subst eP ew eK
    obtain ⟨ws, ru, t1, _⟩ := I.tuple qu
    obtain ⟨xs, rv, t2, _⟩ := I.list qv
    obtain ⟨a1, ha1, r1⟩ := ru.get eu
    obtain ⟨b1, hb1, r2⟩ := rv.get ev
    have lz : z < s.heap.objs.size := Heap.lt_size gz
    refine zm_next D gz gp gq g1 g2 t1 t2.isList (u := a1) (v := b1) (by simpa using ha1) (by simpa using hb1) fun h1 y1 q1 a2 b2 tN sN kN => ?_
    refine ⟨_, rfl, wpAny_letOwnedTupleGo_zip (s := { s with heap := h1 }) y1 fun h2 y2 sb => ?_⟩
    have nt : h2.get? s.heap.objs.size = some { cls := .type "tuple", data := .seq #[a1, b1] } := (sb.2 _ (Nat.ne_of_gt lz)).trans tN
    have new : ObjOk X.prog X.w (upd H s.heap.objs.size (.tup [u, v])) h2 s.heap.objs.size (.tup [u, v]) :=
      ⟨by show 2 ≤ sizeLine; decide, [a1, b1], .cons r1 (.cons r2 .nil), ⟨_, nt, rfl, _, rfl⟩⟩
    have I1 : Inv X pins σ (upd H s.heap.objs.size (.tup [u, v])) { s with heap := h2 } :=
      I.turnedNew (t' := s.toks) (ch := [z, p, q, i1, i2]) (fun c o hb e => by
        simp only [List.mem_cons, List.not_mem_nil, or_false, not_or] at hb
        exact (sb.2 c hb.1).trans (kN c o hb.1 hb.2.2.1 hb.2.2.2.1 hb.2.2.2.2 e)) hf (Nat.le_refl _) new
    refine ⟨.ref s.heap.objs.size, _, I1, rfl, ⟨_, u, v, rfl, I.hok.fresh (Nat.le_refl _), rfl, fun l hl => by rw [I.tuple_inj hl qu]; exact eu, fun l hl => by rw [I.list_inj hl qv]; exact ev⟩, ⟨y2, ?_, ⟨a1, b1, ?_⟩, ?_, ?_⟩, fun c hm => ?_⟩
    · exact (sb.2 _ D.TIz).trans (kN _ _ D.TIz D.TITO D.TIi1 D.TIi2 gp)
    · exact (sb.2 _ D.TOz).trans q1
    · exact a2.at fun o e => (sb.2 _ D.i1z).trans e
    · exact b2.at fun o e => (sb.2 _ D.i2z).trans e
    · have lt : c < s.heap.objs.size := by
        have e' : c = z ∨ c = p ∨ c = q ∨ c = i1 ∨ c = i2 := by simpa using hm
        rcases e' with rfl | rfl | rfl | rfl | rfl
        · exact lz
        · exact Heap.lt_size gp
        · exact Heap.lt_size gq
        · obtain ⟨_, e1, _⟩ := g1; exact Heap.lt_size e1
        · obtain ⟨_, e2, _⟩ := g2; exact Heap.lt_size e2
      rw [upd_ne (Nat.ne_of_lt lt)]
      exact (hf c hm).1
  done := by
    intro X eP ew eK hc i pins s σ H E I hf ⟨gz, gp, ⟨x0, y0, gq⟩, g1, g2⟩ ⟨us, vs, qu, qv, en⟩
    subst eP ew eK
    obtain ⟨ws, ru, t1, _⟩ := I.tuple qu
    obtain ⟨xs, rv, t2, _⟩ := I.list qv
    have n1 := ru.length
    have n2 := rv.length
    have he : ws.toArray[i]? = none ∨ xs.toArray[i]? = none := en.imp (fun q => by simp; omega) (fun q => by simp; omega)
    refine zm_stop (I.ok.hd hc) D gz gp gq g1 g2 t1 t2.isList he fun h1 hk => ⟨rfl, I.turnedL (t' := s.toks) (ch := [z, p, q, i1, i2]) (fun c o hb e => ?_) hf⟩
    simp only [List.mem_cons, List.not_mem_nil, or_false, not_or] at hb
    exact hk c o hb.1 hb.2.2.1 hb.2.2.2.1 hb.2.2.2.2 e
  self := fun A i s Q E st h => wpAny_pyIter_zip st.1 h
def iZipM (K : PySem.W.Frag) (ta : TA) : TI := fun σ H R => ta σ H fun vs H1 => ∃ a b xs ys, vs = [.ref a, .ref b] ∧ SqT K H1 a xs ∧ SqL K H1 b ys ∧ R (ItzM K a b) H1
theorem pi_zipM {X : Cx} {e e2 : Expr} {ta : TA} {p pos tpos : Pos} {elts : List Expr} {kk : Nat} (hg : Gl X "zip") (hm : X.mg "zip" = none) (ha : PA X [e, e2] ta)
    (hs : starEach [e, e2] X.env = (false, eval e X.env) :: starEach [e2] X.env) (hpl : (backTo pos (starEach [e2] X.env)).any (·.1) = false) :
    PI X (.Tuple elts kk tpos) (.Call (.Name "zip" p) [e, e2] [] pos) (iZipM X.K ta) := by
  refine ⟨fun pins s σ H R I h => Call_ (ld_blt I hg hm PyProof.Rows.boot_zip (PyProof.Rows.callWith_type1 (thn (ha.run pos pins s σ H _ I h) fun us s1 ⟨vs, H1, I1, r1, a, b, xs, ys, ex, qu, qv, k⟩ => ?_) hs hpl))⟩
  subst ex
  rcases r1 with _ | ⟨ra, _ | ⟨rb, _ | _⟩⟩
  cases ra
  cases rb
  have fr : ∀ c, c ∈ [s1.heap.objs.size + 4, s1.heap.objs.size + 2, s1.heap.objs.size + 3, s1.heap.objs.size, s1.heap.objs.size + 1] → FpOk X pins H1 c := fun c hm => by
    have le : s1.heap.objs.size ≤ c := by
      simp only [List.mem_cons, List.not_mem_nil, or_false] at hm
      omega
    exact I1.fpOk le (I1.hok.fresh le)
  obtain ⟨ws, ru, t1, _⟩ := I1.tuple qu
  obtain ⟨zs, rv, t2, _⟩ := I1.list qv
  obtain ⟨o1, ho1, _⟩ := id t1
  obtain ⟨o2, ho2, _⟩ := id t2.isList
  refine zm_call (show s1.heap.IsTuple a ws.toArray from t1) t2.isList fun h gz gp gq g1 g2 hk => wpAny_pyIter_zip gz ?_
  exact ⟨s1.heap.objs.size + 4, [s1.heap.objs.size + 4, s1.heap.objs.size + 2, s1.heap.objs.size + 3, s1.heap.objs.size, s1.heap.objs.size + 1], _, _, H1, rfl, I1.kept (t' := s1.toks) hk,
    turn_zm (PySem.W.ktu_apart s1.heap.objs.size a b (Heap.lt_size ho1) (Heap.lt_size ho2)), ⟨gz, gp, ⟨_, _, gq⟩, g1, g2⟩, fr, k⟩
end Mn
namespace Mn
open PySem L2 RZ
variable {C : Ctx} {H H' : Hp} {B M B' M' : AP'} {σ σ' : L2.St} {env env' e0 : Env}
/-! ### a comprehension's own slots -/
theorem wipeE_len : ∀ {vs : List Nat}, (wipeE env vs).length = env.length
  | [] => rfl
  | v :: vs => by unfold wipeE; rw [List.length_set, wipeE_len]
theorem wipeE_get {i : Nat} {s : Sl} : ∀ {vs : List Nat}, (wipeE env vs)[i]? = some (some s) → env[i]? = some (some s) ∧ i ∉ vs
  | [], h => ⟨h, by simp⟩
  | v :: vs, h => by
    unfold wipeE at h
    rcases set_get h with ⟨_, e⟩ | ⟨ne, e⟩
    · cases e
    · obtain ⟨h1, h2⟩ := wipeE_get e
      exact ⟨h1, by simp only [List.mem_cons, not_or]; exact ⟨ne, h2⟩⟩
theorem wipeE_mut {i : Nat} {xs : List D} {vs : List Nat} (h : mutS (wipeE env vs) i = some xs) : mutS env i = some xs ∧ i ∉ vs := by
  rcases mutS_some h with z | z
  · obtain ⟨h1, h2⟩ := wipeE_get z; exact ⟨mutS_own h1, h2⟩
  · obtain ⟨h1, h2⟩ := wipeE_get z; exact ⟨mutS_par h1, h2⟩
theorem Sim.wipe (s : Sim C H B M σ env) (vs : List Nat) : Sim C H B M (wipe σ vs) (wipeE env vs) where
  len := by rw [wipe_length, wipeE_len]; exact s.len
  bl := s.bl
  mb := s.mb
  lo := s.lo
  val := fun i d h => let ⟨h1, h2⟩ := wipeE_get h; let ⟨v, e, r⟩ := s.val i d h1; ⟨v, by rw [wipe_out h2]; exact e, r⟩
  own := fun i d h => let ⟨h1, h2⟩ := wipeE_get h; let ⟨a, v, e, r⟩ := s.own i d h1; ⟨a, v, by rw [wipe_out h2]; exact e, r⟩
  par := fun i d h => let ⟨h1, h2⟩ := wipeE_get h; let ⟨a, v, p, e, r⟩ := s.par i d h1; ⟨a, v, p, by rw [wipe_out h2]; exact e, r⟩
  inj := fun i j xs ys a h1 h2 e1 e2 => by
    obtain ⟨m1, n1⟩ := wipeE_mut h1
    obtain ⟨m2, n2⟩ := wipeE_mut h2
    rw [wipe_out n1] at e1; rw [wipe_out n2] at e2
    exact s.inj i j xs ys a m1 m2 e1 e2
  kp := s.kp
  ex := s.ex
  sl := fun i h => let ⟨h1, h2⟩ := wipeE_get h; let ⟨a, p, e⟩ := s.sl i h1; ⟨a, p, by rw [wipe_out h2]; exact e⟩
theorem backE_len : ∀ {vs : List Nat}, (backE e0 env vs).length = env.length
  | [] => rfl
  | v :: vs => by unfold backE; rw [List.length_set, backE_len]
theorem backE_get {i : Nat} {s : Sl} : ∀ {vs : List Nat}, (backE e0 env vs)[i]? = some (some s) → (i ∈ vs ∧ e0[i]? = some (some s)) ∨ (i ∉ vs ∧ env[i]? = some (some s))
  | [], h => .inr ⟨by simp, h⟩
  | v :: vs, h => by
    unfold backE at h
    rcases set_get h with ⟨rfl, e⟩ | ⟨ne, e⟩
    · refine .inl ⟨List.mem_cons_self, ?_⟩
      cases z : e0[i]? with
      | none => rw [z] at e; cases e
      | some o => rw [z] at e; exact congrArg some e.symm
    · rcases backE_get e with ⟨h1, h2⟩ | ⟨h1, h2⟩
      · exact .inl ⟨List.mem_cons_of_mem _ h1, h2⟩
      · exact .inr ⟨by simp only [List.mem_cons, not_or]; exact ⟨ne, h1⟩, h2⟩
theorem wipe_eq {vs : List Nat} (h : L2.wipe σ' vs = L2.wipe σ vs) {i : Nat} (hi : i ∉ vs) : σ'[i]? = σ[i]? := by
  rw [← wipe_out (σ := σ') hi, ← wipe_out (σ := σ) hi, h]
/-- behind a turn: the own slots as they were -/
theorem Sim.back {H0 : Hp} {B0 M0 : AP'} (s0 : Sim C H0 B0 M0 σ e0) (s : Sim C H B M σ' env) {vs : List Nat} (nm : ∀ i ∈ vs, mutS e0 i = none) (n : Nx H0 B0 M0 H B M) (w : L2.wipe σ' vs = L2.wipe σ vs) (hl : env.length = e0.length) : Sim C H B M σ (backE e0 env vs) := by
  have nmu : ∀ {i : Nat} {xs : List D}, mutS (backE e0 env vs) i = some xs → i ∉ vs ∧ mutS env i = some xs := fun {i xs} h => by
    rcases mutS_some h with z | z
    · rcases backE_get z with ⟨h1, h2⟩ | ⟨h1, h2⟩
      · have := nm i h1; rw [mutS_own h2] at this; cases this
      · exact ⟨h1, mutS_own h2⟩
    · rcases backE_get z with ⟨h1, h2⟩ | ⟨h1, h2⟩
      · have := nm i h1; rw [mutS_par h2] at this; cases this
      · exact ⟨h1, mutS_par h2⟩
  refine ⟨by rw [backE_len, hl]; exact s0.len, s.bl, s.mb, s.lo, fun i d h => ?_, fun i xs h => ?_, fun i xs h => ?_, fun i j xs ys a h1 h2 e1 e2 => ?_, s.kp, s.ex, fun i h => ?_⟩
  rotate_left 4
  · rcases backE_get h with ⟨h1, h2⟩ | ⟨h1, h2⟩
    · exact s0.sl i h2
    · obtain ⟨a, p, e⟩ := s.sl i h2
      exact ⟨a, p, by rw [← wipe_eq w h1]; exact e⟩
  · rcases backE_get h with ⟨h1, h2⟩ | ⟨h1, h2⟩
    · obtain ⟨v, e, r⟩ := s0.val i d h2
      exact ⟨v, e, Rep.nx s0.bl s0.mb n d v r⟩
    · obtain ⟨v, e, r⟩ := s.val i d h2
      exact ⟨v, by rw [← wipe_eq w h1]; exact e, r⟩
  · obtain ⟨h1, h2⟩ := nmu (mutS_own h)
    rcases backE_get h with ⟨h3, _⟩ | ⟨_, h2⟩
    · exact absurd h3 h1
    · obtain ⟨a, v, e, r⟩ := s.own i xs h2
      exact ⟨a, v, by rw [← wipe_eq w h1]; exact e, r⟩
  · obtain ⟨h1, h2⟩ := nmu (mutS_par h)
    rcases backE_get h with ⟨h3, _⟩ | ⟨_, h2⟩
    · exact absurd h3 h1
    · obtain ⟨a, v, p, e, r⟩ := s.par i xs h2
      exact ⟨a, v, p, by rw [← wipe_eq w h1]; exact e, r⟩
  · obtain ⟨n1, m1⟩ := nmu h1
    obtain ⟨n2, m2⟩ := nmu h2
    rw [← wipe_eq w n1] at e1; rw [← wipe_eq w n2] at e2
    exact s.inj i j xs ys a m1 m2 e1 e2
/-! ### lengths stay -/
theorem putS_len {i : Nat} {t : Sl} (h : putS env i t = some env') : env'.length = env.length := by
  obtain ⟨rfl, _⟩ := putS_some h; simp
/-! ### what is walked -/
structure Wlk (K : PySem.W.Frag) (J : It) (its : List D) (G : Hp → AP' → Prop) : Prop where
  go : ∀ i H B, G H B → i < its.length → J.go i H
  stop : ∀ i H B, G H B → its.length ≤ i → J.stop i H
  yld : ∀ i H B x H' d, G H B → BL H B → its[i]? = some d → J.yld i H x H' → Al H H' ∧ Rep K H' B d x
  stay : ∀ H B M H' B' M', BL H B → (∀ a, M a → B a) → G H B → Nx H B M H' B' M' → G H' B'
section
variable {K : PySem.W.Frag} {a b : Addr} {vs ws : List V} {its jts : List D}
theorem wlk_list : Wlk K (Itl K a) its (fun H B => ∃ vs, H a = some (.lst vs) ∧ ¬ B a ∧ RepL K H B its vs) where
  go := fun i H B ⟨vs, h, _, r⟩ hi => ⟨vs, vs[i]'(by rw [r.len]; exact hi), .inl (.inl h), by simp⟩
  stop := fun i H B ⟨vs, h, _, r⟩ hi => ⟨vs, .inl (.inl h), by rw [r.len]; exact hi⟩
  yld := fun i H B x H' d ⟨vs, h, _, r⟩ bl hd ⟨e, y⟩ => by
    subst e
    obtain ⟨v, e, q⟩ := r.get hd
    have := y vs (.inl (.inl h)); rw [e] at this; cases this
    exact ⟨Al.refl _, q⟩
  stay := fun H B M H' B' M' bl mb ⟨vs, h, nb, r⟩ n => ⟨vs, n.keep a _ h fun z => nb (mb a z), fun z => (n.b a z).elim nb (fun q => by rw [q] at h; cases h), RepL.nx bl mb n _ _ r⟩
theorem wlk_tup : Wlk K (Itt K a) its (fun H B => ∃ vs, SqT K H a vs ∧ RepL K H B its vs) where
  go := fun i H B ⟨vs, h, r⟩ hi => ⟨vs, vs[i]'(by rw [r.len]; exact hi), h, by simp⟩
  stop := fun i H B ⟨vs, h, r⟩ hi => ⟨vs, h, by rw [r.len]; exact hi⟩
  yld := fun i H B x H' d ⟨vs, h, r⟩ bl hd ⟨e, y⟩ => by
    subst e
    obtain ⟨v, e, q⟩ := r.get hd
    have := y vs h; rw [e] at this; cases this
    exact ⟨Al.refl _, q⟩
  stay := fun H B M H' B' M' bl mb ⟨vs, h, r⟩ n => ⟨vs, nxT bl mb n h, RepL.nx bl mb n _ _ r⟩
theorem zip_get {i : Nat} {d : D} (h : ((its.zip jts).map fun p => D.tup [p.1, p.2])[i]? = some d) : ∃ x y, its[i]? = some x ∧ jts[i]? = some y ∧ d = .tup [x, y] := by
  rw [List.getElem?_map] at h
  cases z : (its.zip jts)[i]? with
  | none => rw [z] at h; cases h
  | some p =>
    rw [z] at h
    obtain ⟨h1, h2⟩ := List.getElem?_zip_eq_some.mp z
    exact ⟨p.1, p.2, h1, h2, (Option.some.inj h).symm⟩
theorem wlk_zip : Wlk K (Itz K a b) ((its.zip jts).map fun p => D.tup [p.1, p.2]) (fun H B => (∃ vs, H a = some (.lst vs) ∧ ¬ B a ∧ RepL K H B its vs) ∧ ∃ vs, H b = some (.lst vs) ∧ ¬ B b ∧ RepL K H B jts vs) where
  go := fun i H B ⟨⟨vs, h, _, r⟩, ⟨ws, h', _, r'⟩⟩ hi => by
    have h1 : i < vs.length := by rw [r.len]; simp at hi; omega
    have h2 : i < ws.length := by rw [r'.len]; simp at hi; omega
    exact ⟨vs, ws, vs[i], ws[i], .inl (.inl h), .inl (.inl h'), by simp, by simp⟩
  stop := fun i H B ⟨⟨vs, h, _, r⟩, ⟨ws, h', _, r'⟩⟩ hi => ⟨vs, ws, .inl (.inl h), .inl (.inl h'), by rw [r.len, r'.len]; simp at hi; omega⟩
  yld := fun i H B x H' d ⟨⟨vs, h, _, r⟩, ⟨ws, h', _, r'⟩⟩ bl hd ⟨T, x1, x2, e, hT, e2, y1, y2⟩ => by
    subst e; subst e2
    obtain ⟨d1, d2, g1, g2, rfl⟩ := zip_get hd
    obtain ⟨v, e, q⟩ := r.get g1
    obtain ⟨v', e', q'⟩ := r'.get g2
    have := y1 vs (.inl (.inl h)); rw [e] at this; cases this
    have := y2 ws (.inl (.inl h')); rw [e'] at this; cases this
    exact ⟨Al.new hT, T, _, rfl, .inl (.inl upd_same), RepL.cons (q.al bl (Al.new hT)) (RepL.cons (q'.al bl (Al.new hT)) RepL.nil)⟩
  stay := fun H B M H' B' M' bl mb ⟨⟨vs, h, nb, r⟩, ⟨ws, h', nb', r'⟩⟩ n => ⟨⟨vs, n.keep a _ h fun z => nb (mb a z), fun z => (n.b a z).elim nb (fun q => by rw [q] at h; cases h), RepL.nx bl mb n _ _ r⟩,
    ⟨ws, n.keep b _ h' fun z => nb' (mb b z), fun z => (n.b b z).elim nb' (fun q => by rw [q] at h'; cases h'), RepL.nx bl mb n _ _ r'⟩⟩
theorem wlk_zipT : Wlk K (ItzT K a b) ((its.zip jts).map fun p => D.tup [p.1, p.2]) (fun H B => (∃ vs, SqT K H a vs ∧ RepL K H B its vs) ∧ ∃ vs, SqT K H b vs ∧ RepL K H B jts vs) where
  go := fun i H B ⟨⟨vs, h, r⟩, ⟨ws, h', r'⟩⟩ hi => by
    have h1 : i < vs.length := by rw [r.len]; simp at hi; omega
    have h2 : i < ws.length := by rw [r'.len]; simp at hi; omega
    exact ⟨vs, ws, vs[i], ws[i], h, h', by simp, by simp⟩
  stop := fun i H B ⟨⟨vs, h, r⟩, ⟨ws, h', r'⟩⟩ hi => ⟨vs, ws, h, h', by rw [r.len, r'.len]; simp at hi; omega⟩
  yld := fun i H B x H' d ⟨⟨vs, h, r⟩, ⟨ws, h', r'⟩⟩ bl hd ⟨T, x1, x2, e, hT, e2, y1, y2⟩ => by
    subst e; subst e2
    obtain ⟨d1, d2, g1, g2, rfl⟩ := zip_get hd
    obtain ⟨v, e, q⟩ := r.get g1
    obtain ⟨v', e', q'⟩ := r'.get g2
    have := y1 vs h; rw [e] at this; cases this
    have := y2 ws h'; rw [e'] at this; cases this
    exact ⟨Al.new hT, T, _, rfl, .inl (.inl upd_same), RepL.cons (q.al bl (Al.new hT)) (RepL.cons (q'.al bl (Al.new hT)) RepL.nil)⟩
  stay := fun H B M H' B' M' bl mb ⟨⟨vs, h, r⟩, ⟨ws, h', r'⟩⟩ n => ⟨⟨vs, nxT bl mb n h, RepL.nx bl mb n _ _ r⟩, ⟨ws, nxT bl mb n h', RepL.nx bl mb n _ _ r'⟩⟩
theorem wlk_zipM : Wlk K (ItzM K a b) ((its.zip jts).map fun p => D.tup [p.1, p.2]) (fun H B => (∃ vs, SqT K H a vs ∧ RepL K H B its vs) ∧ ∃ vs, H b = some (.lst vs) ∧ ¬ B b ∧ RepL K H B jts vs) where
  go := fun i H B ⟨⟨vs, h, r⟩, ⟨ws, h', _, r'⟩⟩ hi => by
    have h1 : i < vs.length := by rw [r.len]; simp at hi; omega
    have h2 : i < ws.length := by rw [r'.len]; simp at hi; omega
    exact ⟨vs, ws, vs[i], ws[i], h, .inl (.inl h'), by simp, by simp⟩
  stop := fun i H B ⟨⟨vs, h, r⟩, ⟨ws, h', _, r'⟩⟩ hi => ⟨vs, ws, h, .inl (.inl h'), by rw [r.len, r'.len]; simp at hi; omega⟩
  yld := fun i H B x H' d ⟨⟨vs, h, r⟩, ⟨ws, h', _, r'⟩⟩ bl hd ⟨T, x1, x2, e, hT, e2, y1, y2⟩ => by
    subst e; subst e2
    obtain ⟨d1, d2, g1, g2, rfl⟩ := zip_get hd
    obtain ⟨v, e, q⟩ := r.get g1
    obtain ⟨v', e', q'⟩ := r'.get g2
    have := y1 vs h; rw [e] at this; cases this
    have := y2 ws (.inl (.inl h')); rw [e'] at this; cases this
    exact ⟨Al.new hT, T, _, rfl, .inl (.inl upd_same), RepL.cons (q.al bl (Al.new hT)) (RepL.cons (q'.al bl (Al.new hT)) RepL.nil)⟩
  stay := fun H B M H' B' M' bl mb ⟨⟨vs, h, r⟩, ⟨ws, h', nb', r'⟩⟩ n => ⟨⟨vs, nxT bl mb n h, RepL.nx bl mb n _ _ r⟩,
    ⟨ws, n.keep b _ h' fun z => nb' (mb b z), fun z => (n.b b z).elim nb' (fun q => by rw [q] at h'; cases h'), RepL.nx bl mb n _ _ r'⟩⟩
theorem enu_get : ∀ {xs : List D} {k i : Nat} {d : D}, (enu k xs)[i]? = some d → ∃ x, xs[i]? = some x ∧ d = .tup [.int ((k + i : Nat) : Int), x]
  | [], _, _, _, h => by simp [enu] at h
  | x :: xs, k, 0, d, h => by simp [enu] at h; exact ⟨x, rfl, h.symm⟩
  | x :: xs, k, i + 1, d, h => by
    obtain ⟨y, e1, e2⟩ := enu_get (k := k + 1) (i := i) (by simpa [enu] using h)
    exact ⟨y, by simpa using e1, by rw [e2, show k + 1 + i = k + (i + 1) by omega]⟩
theorem enu_len : ∀ {xs : List D} {k : Nat}, (enu k xs).length = xs.length
  | [], _ => rfl
  | _ :: xs, k => by simp [enu, enu_len]
theorem wlk_enum : Wlk K (Ite K a) (enu 0 its) (fun H B => ∃ vs, H a = some (.lst vs) ∧ ¬ B a ∧ RepL K H B its vs) where
  go := fun i H B ⟨vs, h, _, r⟩ hi => ⟨vs, vs[i]'(by rw [r.len]; rw [enu_len] at hi; exact hi), .inl (.inl h), by simp⟩
  stop := fun i H B ⟨vs, h, _, r⟩ hi => ⟨vs, .inl (.inl h), by rw [r.len]; rw [enu_len] at hi; exact hi⟩
  yld := fun i H B x H' d ⟨vs, h, _, r⟩ bl hd ⟨T, x1, e, hT, e2, y1⟩ => by
    subst e; subst e2
    obtain ⟨d1, g1, rfl⟩ := enu_get hd
    obtain ⟨v, e, q⟩ := r.get g1
    have := y1 vs (.inl (.inl h)); rw [e] at this; cases this
    exact ⟨Al.new hT, T, _, rfl, .inl (.inl upd_same), RepL.cons (by rw [Nat.zero_add]; rfl) (RepL.cons (q.al bl (Al.new hT)) RepL.nil)⟩
  stay := fun H B M H' B' M' bl mb ⟨vs, h, nb, r⟩ n => ⟨vs, n.keep a _ h fun z => nb (mb a z), fun z => (n.b a z).elim nb (fun q => by rw [q] at h; cases h), RepL.nx bl mb n _ _ r⟩
theorem ran_len {n : Nat} : (ran n).length = n := by simp [ran]
theorem wlk_rng {n : Nat} : Wlk K (Itr 0 n) (ran n) (fun _ _ => True) where
  go := fun i H B _ hi => by rw [ran_len] at hi; exact hi
  stop := fun i H B _ hi => by rw [ran_len] at hi; exact hi
  yld := fun i H B x H' d _ bl hd y => by
    obtain ⟨e1, e2⟩ := y
    subst e1; subst e2
    unfold ran at hd
    rw [List.getElem?_map] at hd
    cases z : (List.range n)[i]? with
    | none => rw [z] at hd; cases hd
    | some k =>
      rw [z] at hd
      obtain ⟨h1, h2⟩ := List.getElem?_eq_some_iff.mp z
      rw [List.getElem_range] at h2; subst h2
      cases hd
      exact ⟨Al.refl _, by show V.int (0 + (i : Int)) = V.int (i : Int); rw [Int.zero_add]⟩
  stay := fun _ _ _ _ _ _ _ _ _ _ => trivial
theorem wlk_rngF {m : Int} {n : Nat} : Wlk K (Itr m n) (ranF m n) (fun _ _ => True) where
  go := fun i H B _ hi => by simp [ranF] at hi; exact hi
  stop := fun i H B _ hi => by simp [ranF] at hi; exact hi
  yld := fun i H B x H' d _ bl hd ⟨e1, e2⟩ => by
    subst e1; subst e2
    unfold ranF at hd
    rw [List.getElem?_map] at hd
    cases z : (List.range n)[i]? with
    | none => rw [z] at hd; cases hd
    | some k =>
      rw [z] at hd
      obtain ⟨h1, h2⟩ := List.getElem?_eq_some_iff.mp z
      rw [List.getElem_range] at h2; subst h2
      cases hd
      exact ⟨Al.refl _, rfl⟩
  stay := fun _ _ _ _ _ _ _ _ _ _ => trivial
end
/-- what a for or a comprehension walks, by data -/
def tI (C : Ctx) (w : Wk) (src : Ex) : TI := fun σ H R => ∃ B M env xs its env', Sim C H B M σ env ∧ evL C.F src env = some (xs, env') ∧ walk w xs = some its ∧
  ∀ J G H' B' M', Sim C H' B' M' σ env' → Wlk C.K J its G → G H' B' → Nx H B M H' B' M' → R J H'
/-- a target -/
def tgs : Tg → List Nat
  | .one i => [i]
  | .many is => is
  | .two a b => tgs a ++ tgs b
def tG (C : Ctx) (tg : Tg) : TG := fun v σ H Q => ∃ B M env env' d, Sim C H B M σ env ∧ Rep C.K H B d v ∧ bindT tg d env = some env' ∧ ∀ σ', Sim C H B M σ' env' → (∀ vs, (∀ i ∈ tgs tg, i ∈ vs) → L2.wipe σ' vs = L2.wipe σ vs) → Q σ' H
theorem wipe_set {σ : L2.St} {i : Nat} {o : Option V} : ∀ {vs : List Nat}, i ∈ vs → L2.wipe (σ.set i o) vs = L2.wipe σ vs := by
  intro vs hi
  have len : (L2.wipe (σ.set i o) vs).length = (L2.wipe σ vs).length := by rw [wipe_length, wipe_length, List.length_set]
  have wi : ∀ {τ : L2.St} {ws : List Nat} {j : Nat}, j ∈ ws → j < τ.length → (L2.wipe τ ws)[j]? = some none := by
    intro τ ws
    induction ws with
    | nil => intro j h; cases h
    | cons w ws ih =>
      intro j h hl
      unfold L2.wipe
      by_cases e : w = j
      · subst e; exact List.getElem?_set_self (by rw [wipe_length]; exact hl)
      · rw [List.getElem?_set_ne e]
        exact ih ((List.mem_cons.mp h).resolve_left (fun z => e z.symm)) hl
  refine List.ext_getElem? fun j => ?_
  by_cases hj : j ∈ vs
  · by_cases hl : j < σ.length
    · rw [wi hj (by rw [List.length_set]; exact hl), wi hj hl]
    · rw [List.getElem?_eq_none (by rw [wipe_length, List.length_set]; omega), List.getElem?_eq_none (by rw [wipe_length]; omega)]
  · rw [wipe_out hj, wipe_out hj, List.getElem?_set_ne (fun z => hj (by rw [← z]; exact hi))]
end Mn
namespace Mn
open PySem L2 RZ
/-! ### what is known of the names -/
structure GS where
  fn : List (PySem.Str × Nat × List (Nat × List PySem.Str × List Nat))
  co : List PySem.Str
  bl : List PySem.Str
  mf : List (PySem.Str × String)
  nw : List (PySem.Str × Nat)
  ca : List (PySem.Str × PySem.Str)
  mt : List (PySem.Str × Nat × PySem.Str × PySem.Str × List PySem.Str)
  mks : List (PySem.Str × Nat)
  slf : Option (List PySem.Str)
def kindIs (sc : Scope) (x : PySem.Str) (p : NameKind → Bool) : Bool := match sc.names.lookup x with | some k => p k | none => false
def vis (sc : Scope) (x : PySem.Str) : Bool := kindIs sc x fun | .local => true | .cell => true | .free => true | _ => false
def loc (sc : Scope) (x : PySem.Str) : Bool := kindIs sc x fun | .local => true | .cell => true | _ => false
def gl (sc : Scope) (x : PySem.Str) : Bool := kindIs sc x fun | .globalImplicit => true | _ => false
def isL (sc : Scope) (x : PySem.Str) : Bool := kindIs sc x fun | .local => true | _ => false
def okN (x : PySem.Str) : Bool := !(x == ("__debug__" : PySem.Str)) && !(x == ("__classdict__" : PySem.Str)) && !(x == ("__name__" : PySem.Str))
theorem kind_of {sc : Scope} {x : PySem.Str} {p : NameKind → Bool} (h : kindIs sc x p = true) : ∃ k, sc.names.lookup x = some k ∧ p k = true := by
  unfold kindIs at h
  split at h
  · exact ⟨_, by assumption, h⟩
  · cases h
/-- what a def promises, by data -/
def ArgR (K : PySem.W.Frag) (H : Hp) (B : AP') : List Sl → List V → List Addr → Prop
  | [], vs, ps => vs = [] ∧ ps = []
  | .val d :: r, vs, ps => ∃ v t, vs = v :: t ∧ Rep K H B d v ∧ ArgR K H B r t ps
  | .par xs :: r, vs, ps => ∃ a t q ws, vs = .ref a :: t ∧ ps = a :: q ∧ H a = some (.lst ws) ∧ RepL K H B xs ws ∧ B a ∧ ArgR K H B r t q
  | .own _ :: _, _, _ => False
  | .slf :: _, _, _ => False
def spF (K : PySem.W.Frag) (F : FT) (f : PySem.Str) (n : Nat) : Sp := fun vs H Q _ => ∃ B ss ps d outs, BL H B ∧ ArgR K H B ss vs ps ∧ ps.Nodup ∧ vs.length = n ∧ F f ss = some (d, outs) ∧
  ∀ v H', Rep K H' B d v → OutR K H' B outs ps → (∀ a o, H a = some o → a ∉ ps → H' a = some o) → (∀ a, H' a = none → H a = none) → Q v H'
/-- a def that returns a list that nobody else holds -/
def spN (K : PySem.W.Frag) (F : FT) (f : PySem.Str) (n : Nat) : Sp := fun vs H Q _ => ∃ B ds xs, BL H B ∧ RepL K H B ds vs ∧ vs.length = n ∧ F f (ds.map Sl.val) = some (.lst xs, []) ∧
  ∀ p H' ws, H p = none → H' p = some (.lst ws) → RepL K H' (ins p B) xs ws → (∀ a o, H a = some o → H' a = some o) → (∀ a, H' a = none → H a = none) → Q (.ref p) H'
/-- an object's making: its own def __init__ -/
def spM (K : PySem.W.Frag) (F : FT) (c : PySem.Str) (n : Nat) : Sp := fun vs H Q _ => ∃ x ws Cc dx B ds ks xs, vs = .ref x :: ws ∧ ws.length = n ∧ PySem.W.nsIn K mainGlobals c = some (some (.ref Cc)) ∧ H x = some (.ins Cc dx []) ∧ B x ∧ BL H B ∧ RepL K H B ds ws ∧ F c (ds.map Sl.val) = some (.obj c ks xs, []) ∧
  ∀ H' us, H' x = some (.ins Cc dx (ks.zip us)) → RepL K H' B xs us → ks.length = xs.length → (∀ a o, H a = some o → a ≠ x → H' a = some o) → (∀ a, H' a = none → H a = none) → Q .non H'
def gP {α : Type} (n m : Nat) (pm : List Nat) (us ws : List α) : List α := if us.length = n ∧ ws.length = m then (permA (us ++ ws) pm).getD [] else []
structure CalOk (X : Cx) (C : Ctx) (lv : Nat) (f : PySem.Str) (n : Nat) (kf : List (Nat × List PySem.Str × List Nat)) : Prop where
  ex : ∃ fa fd ps, X.mg f = some (.ref fa) ∧ PySem.W.keepIn X.K (.ref fa) = true ∧ FnG X.prog X.w X.K X.mg X.base lv fa fd ps (spF X.K C.F f n) ∧ ps.length = n ∧ Binds X.K fd ps [] ∧
    ∀ t ∈ kf, KBinds X.K fd ps t.2.1 (gP t.1 t.2.1.length t.2.2) (gP t.1 t.2.1.length t.2.2)
structure CalN (X : Cx) (C : Ctx) (lv : Nat) (f : PySem.Str) (n : Nat) : Prop where
  ex : ∃ fa fd ps, X.mg f = some (.ref fa) ∧ PySem.W.keepIn X.K (.ref fa) = true ∧ FnG X.prog X.w X.K X.mg X.base lv fa fd ps (spN X.K C.F f n) ∧ ps.length = n ∧ Binds X.K fd ps []
theorem FnG.mono {P : Program} {w : World} {K : PySem.W.Frag} {mg : PySem.Str → Option Value} {base : Heap} {j k : Nat} {fa : Addr} {fd : FuncData} {ps : List PySem.Str} {sp : Sp} (F : FnG P w K mg base j fa fd ps sp) (h : j ≤ k) : FnG P w K mg base k fa fd ps sp :=
  ⟨F.ln, fun A out s H ar us vs Q E qt rm en bd rv z => F.go A out s H ar us vs Q E qt (rm.mono h) en bd rv z⟩
/-- what an own class without an own != keeps of object's -/
structure NeOk (K : PySem.W.Frag) (Cc : Addr) : Prop where
  at_ : PySem.W.findIn K (.ref Cc) "__ne__" = some (some (.builtin "object.__ne__"))
  mro : PySem.W.mroIn K Cc (.type "object") = some true
def NeIf (K : PySem.W.Frag) (m : PySem.Str) (Cc : Addr) : Prop := m = "__eq__" → NeOk K Cc
structure MtOk (X : Cx) (C : Ctx) (lv : Nat) (g : PySem.Str) (n : Nat) (c : PySem.Str) (m : PySem.Str × List PySem.Str) : Prop where
  ex : ∃ Cc fa fd ps k, PySem.W.nsIn X.K mainGlobals c = some (some (.ref Cc)) ∧ Cls X.K Cc ∧ Meth X.K Cc m.1 fa ∧ FnG X.prog X.w X.K X.mg X.base k fa fd ps (spF X.K C.F g n) ∧ k + 1 ≤ lv ∧ ps.length = n ∧ Binds X.K fd ps [] ∧ (2 ≤ n → KBinds X.K fd ps m.2 (gP 1 (n - 1) (List.range n)) (gP 1 (n - 1) (List.range n))) ∧ NeIf X.K m.1 Cc
structure MkOk (X : Cx) (C : Ctx) (lv : Nat) (c : PySem.Str) (n : Nat) : Prop where
  ex : ∃ Cc fa fd ps k, PySem.W.nsIn X.K mainGlobals c = some (some (.ref Cc)) ∧ X.mg c = some (.ref Cc) ∧ Mk X.K Cc fa ∧ FnG X.prog X.w X.K X.mg X.base k fa fd ps (spM X.K C.F c n) ∧ k + 1 ≤ lv ∧ ps.length = n + 1 ∧ Binds X.K fd ps []
structure XOk (X : Cx) (C : Ctx) (G : GS) (lv : Nat) (N : List PySem.Str) (sc : Scope) : Prop where
  n : X.N = N
  nd : N.Nodup
  calm : X.calm = true
  K : X.K = C.K
  kind : X.env.scope.kind = .function
  vis : ∀ x, vis sc x = true → Vis X.env.scope x
  loc : ∀ x, loc sc x = true → Loc X.env.scope x ∧ (X.fn x = true ∨ X.env.scope.names.lookup x = some .local)
  isL : ∀ x, isL sc x = true → X.env.scope.names.lookup x = some .local
  cf : ∀ x, sc.names.lookup x = some .cell ∨ sc.names.lookup x = some .free → X.env.scope.names.lookup x = some .cell ∨ X.env.scope.names.lookup x = some .free
  gl : ∀ x, gl sc x = true → Gl X x
  room : Room lv X.A
  qt : Qt X.A
  bl : ∀ x ∈ G.bl, X.mg x = none
  mf : ∀ t ∈ G.mf, X.mg t.1 = some (.builtin t.2)
  fn : ∀ f n kf, G.fn.lookup f = some (n, kf) → CalOk X C lv f n kf
  nw : ∀ f n, G.nw.lookup f = some n → CalN X C lv f n
  co : ∀ x, x ∈ G.co → ∀ d o, C.F x [] = some (d, o) → ∃ v u, X.mg x = some u ∧ RelV v u ∧ ∀ H B, Rep X.K H B d v
  ca : ∀ t ∈ G.ca, ∃ Cc, PySem.W.nsIn X.K mainGlobals t.1 = some (some (.ref Cc)) ∧ Cls X.K Cc ∧ NoAttr X.K Cc t.2
  mt : ∀ g n c m, G.mt.lookup g = some (n, c, m) → MtOk X C lv g n c m
  mkr : ∀ c n, G.mks.lookup c = some n → MkOk X C lv c n
  sf : ∀ fl, G.slf = some fl → ∀ f, f ∈ fl → ∀ d o, C.F "" [.val (.str f)] = some (d, o) → ∃ a Cc dx fs v, C.P 0 = some a ∧ C.K0 a = some (Cc, dx, fs) ∧ Cls X.K Cc ∧ NoAttr X.K Cc f ∧ fs.lookup f = some v ∧ (d, v) ∈ C.X0
theorem relab {P : PySem.Str → Bool} {x : PySem.Str} {k : NameKind} : ∀ {names : List (PySem.Str × NameKind)}, names.lookup x = some k →
    ∃ k', (names.map fun (n, k) => if (k == NameKind.free && P n) = true then (n, NameKind.cell) else (n, k)).lookup x = some k' ∧ (k' = k ∨ (k = .free ∧ k' = .cell))
  | [], h => by simp at h
  | (n, k₀) :: r, h => by
    show ∃ k', List.lookup x ((if (k₀ == NameKind.free && P n) = true then (n, NameKind.cell) else (n, k₀)) :: (r.map _)) = some k' ∧ _
    cases hx : x == n with
    | true =>
      simp only [List.lookup_cons, hx] at h
      have hk : k₀ = k := Option.some.inj h
      subst hk
      by_cases hc : (k₀ == NameKind.free && P n) = true
      · rw [if_pos hc]; simp only [List.lookup_cons, hx]
        simp only [Bool.and_eq_true, beq_iff_eq] at hc
        exact ⟨_, rfl, .inr ⟨hc.1, rfl⟩⟩
      · rw [if_neg hc]; simp only [List.lookup_cons, hx]; exact ⟨_, rfl, .inl rfl⟩
    | false =>
      simp only [List.lookup_cons, hx] at h
      obtain ⟨k', e, q⟩ := relab (P := P) h
      by_cases hc : (k₀ == NameKind.free && P n) = true
      · rw [if_pos hc]; simp only [List.lookup_cons, hx]; exact ⟨k', e, q⟩
      · rw [if_neg hc]; simp only [List.lookup_cons, hx]; exact ⟨k', e, q⟩
theorem relab' {scope : Scope} {env : PySem.Env} {x : PySem.Str} {k : NameKind} (h : scope.names.lookup x = some k) : ∃ k', (relabel scope env).names.lookup x = some k' ∧ (k' = k ∨ (k = .free ∧ k' = .cell)) := by
  obtain ⟨k', e, q⟩ := relab (P := fun n => env.scope.kind == .function && env.kindOf n == some .cell) h
  refine ⟨k', ?_, q⟩
  rw [← e]
  unfold relabel
  simp only [Bool.and_assoc]
/-- within a comprehension's block -/
theorem XOk.blk {X : Cx} {C : Ctx} {G : GS} {lv : Nat} {N : List PySem.Str} {sc scope : Scope} (x : XOk X C G lv N sc) (hk : scope.kind = .function) (s : Shared) (H : Hp) (Cc : Addr) (cl : List (PySem.Str × Addr)) (fp : List Addr) :
    XOk (X.blk s H scope (compEnvC scope cl Cc X.env) fp) C G lv N scope where
  n := x.n
  nd := x.nd
  calm := x.calm
  K := x.K
  kind := hk
  vis := fun y h => by
    obtain ⟨k, e, q⟩ := kind_of h
    obtain ⟨k', e', q'⟩ := relab' (env := X.env) e
    rcases q' with rfl | ⟨rfl, rfl⟩
    · cases k' <;> first | exact .inl e' | exact .inr (.inl e') | exact .inr (.inr e') | cases q
    · exact .inr (.inl e')
  loc := fun y h => by
    obtain ⟨k, e, q⟩ := kind_of h
    obtain ⟨k', e', q'⟩ := relab' (env := X.env) e
    rcases q' with rfl | ⟨rfl, rfl⟩
    · cases k' with
      | «local» => exact ⟨.inl e', .inr e'⟩
      | cell => exact ⟨.inr e', .inl (by show (scope.names.lookup y == some .cell) = true; rw [e]; rfl)⟩
      | _ => cases q
    · cases q
  isL := fun y h => by
    obtain ⟨k, e, q⟩ := kind_of h
    obtain ⟨k', e', q'⟩ := relab' (env := X.env) e
    rcases q' with rfl | ⟨rfl, rfl⟩
    · cases k' <;> first | exact e' | cases q
    · cases q
  cf := fun y h => by
    rcases h with e | e
    · obtain ⟨k', e', q'⟩ := relab' (env := X.env) e
      rcases q' with rfl | ⟨h, _⟩
      · exact .inl e'
      · cases h
    · obtain ⟨k', e', q'⟩ := relab' (env := X.env) e
      rcases q' with rfl | ⟨_, rfl⟩
      · exact .inr e'
      · exact .inl e'
  gl := fun y h => by
    obtain ⟨k, e, q⟩ := kind_of h
    obtain ⟨k', e', q'⟩ := relab' (env := X.env) e
    rcases q' with rfl | ⟨rfl, rfl⟩
    · cases k' <;> first | exact e' | cases q
    · cases q
  room := x.room
  qt := x.qt
  bl := x.bl
  mf := x.mf
  fn := fun f n kf h => ⟨(x.fn f n kf h).ex⟩
  nw := fun f n h => ⟨(x.nw f n h).ex⟩
  co := x.co
  ca := x.ca
  mt := fun g n c m h => ⟨(x.mt g n c m h).ex⟩
  mkr := fun c n h => ⟨(x.mkr c n h).ex⟩
  sf := x.sf
/-! ### the check: is this the text that the reading tells? -/
def nst : Expr → Bool | .Starred .. => false | _ => true
def plain : Expr → Bool
  | .UnaryOp .Not _ _ => false
  | .BoolOp .. => false
  | .IfExp .. => false
  | .Compare .. => false
  | _ => true
def notSl : Expr → Bool | .Slice .. => false | _ => true
def notSet : Expr → Bool | .Set .. => false | _ => true
def ckB : BO → Operator → Bool
  | .add, .Add => true | .sub, .Sub => true | .mul, .Mult => true | .div, .FloorDiv => true | .mod, .Mod => true | .pow, .Pow => true
  | _, _ => false
theorem ckB_eq {o : BO} {op : Operator} (h : ckB o op = true) : op = oB o := by cases o <;> cases op <;> first | rfl | cases h
def ckC : CO → CmpOp → Bool
  | .eq, .Eq => true | .ne, .NotEq => true | .lt, .Lt => true | .le, .LtE => true | .gt, .Gt => true | .ge, .GtE => true | .is, .Is => true | .isn, .IsNot => true | .inn, .In => true | .nin, .NotIn => true
  | _, _ => false
theorem ckC_eq {o : CO} {op : CmpOp} (h : ckC o op = true) : op = oC o := by cases o <;> cases op <;> first | rfl | cases h
def ckK : D → Const → Bool
  | .non, .none => true
  | .bl b, .bool c => b == c
  | .int i, .int j => decide (i = j)
  | .str x, .str y => decide (x = y)
  | _, _ => false
/-- a built-in by its name -/
def bfN : BF → PySem.Str
  | .abs => "abs" | .int => "int" | .len => "len" | .sum => "sum" | .max => "max" | .min => "min" | .all => "all" | .any => "any" | .list => "list" | .tuple => "tuple" | .gcd => "gcd" | .isqrt => "isqrt" | .repr => "repr" | .str => "str" | .isi _ => "isinstance"
/-- a text's method by its name -/
def mtN : Mt → PySem.Str
  | .split => "split" | .part => "partition" | .pre => "removeprefix" | .asc => "isascii" | .dig => "isdigit" | .stw => "startswith" | .join => "join" | .own _ _ _ => "" | .ownk _ _ _ => "" | .lno _ _ => "" | .isc _ => "" | .eqo _ _ _ => ""
def ckQ : Bool → CmpOp → Bool | false, .Eq => true | true, .NotEq => true | _, _ => false
def mt0 : Mt → Bool | .asc => true | .dig => true | _ => false
def mt1 : Mt → Bool | .split => true | .part => true | .pre => true | .stw => true | .join => true | _ => false
def nm (N : List PySem.Str) (sc : Scope) (i : Nat) (x : PySem.Str) : Bool := decide (N[i]? = some x) && vis sc x && okN x
def ckTgN (N : List PySem.Str) (sc : Scope) : List Nat → List Expr → Bool
  | [], [] => true
  | i :: is, .Name x _ :: es => decide (N[i]? = some x) && loc sc x && ckTgN N sc is es
  | _, _ => false
def ckTg (N : List PySem.Str) (sc : Scope) : Tg → Expr → Bool
  | .one i, .Name x _ => decide (N[i]? = some x) && loc sc x
  | .many is, .Tuple es _ _ => ckTgN N sc is es
  | .two a b, .Tuple [x, y] _ _ => nst x && nst y && ckTg N sc a x && ckTg N sc b y
  | _, _ => false
def kwN : List Keyword → Option (List PySem.Str)
  | [] => some []
  | ⟨some n, _, _⟩ :: r => (kwN r).map (n :: ·)
  | ⟨none, _, _⟩ :: _ => none
/-- not super() -/
def notSup : Expr → Bool
  | .Call (.Name _ _) [] [] _ => false
  | _ => true
mutual
def ckE (G : GS) (N : List PySem.Str) : Scope → Ex → Expr → Bool
  | sc, .var i, .Name x _ => nm N sc i x
  | sc, .con d, .Constant c _ _ => ckK d c
  | sc, .glo x, .Name y _ => decide (x = y) && gl sc x && okN x && decide (x ∈ G.co)
  | sc, .ixv i e, .Subscript (.Name x _) s _ => nm N sc i x && notSl s && ckE G N sc e s
  | sc, .lenv i, .Call (.Name f _) [.Name x _] [] _ => decide (f = ("len" : PySem.Str)) && gl sc f && decide (f ∈ G.bl) && nm N sc i x
  | sc, .popv i e, .Call (.Attribute (.Name y _) m ap) [l] [] cp => decide (m = ("pop" : PySem.Str)) && nm N sc i y && nst l && (ap.endLine == cp.line) && ckE G N sc e l
  | sc, .bin o a b, .BinOp l op r _ => ckB o op && ckE G N sc a l && ckE G N sc b r
  | sc, .neg a, .UnaryOp .USub l _ => ckE G N sc a l
  | sc, .cmp o a b, .Compare l [op] [r] _ => ckC o op && ckE G N sc a l && ckE G N sc b r
  | sc, .chn o o' a b c, .Compare l [op, op'] [r, r'] _ => ckC o op && ckC o' op' && ckE G N sc a l && ckE G N sc b r && ckE G N sc c r'
  | sc, .vand a b, .BoolOp .And (x :: y :: r) p => ckE G N sc a x && (match r with | [] => ckE G N sc b y | _ :: _ => ckE G N sc b (.BoolOp .And (y :: r) p))
  | sc, .vor a b, .BoolOp .Or (x :: y :: r) p => ckE G N sc a x && (match r with | [] => ckE G N sc b y | _ :: _ => ckE G N sc b (.BoolOp .Or (y :: r) p))
  | sc, .vnot a, .UnaryOp .Not l _ => ckE G N sc a l
  | sc, .ite c a b, .IfExp t l r _ => ckT G N sc c t && ckE G N sc a l && ckE G N sc b r
  | sc, .tup es, .Tuple xs _ _ => ckL G N sc es xs
  | sc, .lst es, .List xs _ => ckL G N sc es xs
  | sc, .ix a i, .Subscript l s _ => notSl s && ckE G N sc a l && ckE G N sc i s
  | sc, .slc a lo hi, .Subscript l (.Slice x y none _) _ => ckE G N sc a l && ckO G N sc lo x && ckO G N sc hi y
  | sc, .rev a, .Subscript l (.Slice none none (some (.UnaryOp .USub (.Constant (.int i) _ _) _)) _) _ => decide (i = 1) && ckE G N sc a l
  | sc, .att cs e f, .Attribute l g _ => decide (f = g) && notSup l && cs.all (fun c => decide ((c, f) ∈ G.ca)) && ckE G N sc e l
  | sc, .sg f, .Attribute (.Name x _) g _ => decide (f = g) && nm N sc 0 x && (match G.slf with | some fl => decide (f ∈ fl) | none => false)
  | sc, .mk c es, .Call (.Name x _) (a :: args) [] _ => decide (c = x) && gl sc c && okN c && decide (G.mks.lookup c = some (args.length + 1)) && nst a && args.all nst && ckL G N sc es (a :: args)
  | sc, .mth (.own c m g) e es, .Call (.Attribute l x ap) (a :: args) [] cp => decide (m = x) && notSup l && (ap.endLine == cp.line) && decide (args.length < 20) && (match G.mt.lookup g with | some t => decide (t.1 = args.length + 2) && decide (t.2.1 = c) && decide (t.2.2.1 = m) | none => false) && nst a && args.all nst && ckE G N sc e l && ckL G N sc es (a :: args)
  | sc, .mth (.ownk c m g) e es, .Call (.Attribute l x ap) [] (kw :: kws) cp => decide (m = x) && notSup l && (ap.endLine == cp.line) && decide (kws.length < 20) && (match G.mt.lookup g with | some t => decide (t.1 = kws.length + 2) && decide (t.2.1 = c) && decide (t.2.2.1 = m) && decide (kwN (kw :: kws) = some t.2.2.2) | none => false) && ckE G N sc e l && ckA G N sc es ((kw :: kws).map (·.value))
  | sc, .mth (.lno c g) e .nil, .Call (.Name f _) [a] [] _ => decide (f = ("len" : PySem.Str)) && gl sc f && decide (f ∈ G.bl) && nst a && (match G.mt.lookup g with | some t => decide (t.1 = 1) && decide (t.2.1 = c) && decide (t.2.2.1 = ("__len__" : PySem.Str)) | none => false) && ckE G N sc e a
  | sc, .mth (.isc c) e .nil, .Call (.Name f _) [a, .Name y _] [] _ => decide (f = ("isinstance" : PySem.Str)) && gl sc f && decide (f ∈ G.bl) && nst a && decide (y = c) && gl sc y && okN y && (G.mks.lookup c).isSome && ckE G N sc e a
  | sc, .mth (.eqo ng c g) e (.cons b .nil), .Compare l [op] [r] _ => ckQ ng op && (match G.mt.lookup g with | some t => decide (t.1 = 2) && decide (t.2.1 = c) && decide (t.2.2.1 = ("__eq__" : PySem.Str)) | none => false) && ckE G N sc e l && ckE G N sc b r
  | sc, .mth m e es, .Call (.Attribute l x ap) args [] cp => decide (x = mtN m) && notSup l && (ap.endLine == cp.line) && ckE G N sc e l && (match args with
      | [] => mt0 m && (match es with | .nil => true | _ => false)
      | [a] => mt1 m && (match es with | .cons e1 .nil => nst a && ckE G N sc e1 a | _ => false)
      | _ => false)
  | sc, .fst es, .JoinedStr ys _ => (match ys with | _ :: _ :: _ => true | _ => false) && ckJ G N sc es ys
  | sc, .call f pm es, .Call (.Name x _) args kws _ => decide (f = x) && gl sc f && okN f && (match G.fn.lookup f with
      | some (n, kf) => decide (pm.length = n) && (match kws with
        | [] => decide (pm = List.range args.length) && !args.isEmpty
        | _ :: _ => (match kwN kws with | some ks => decide ((args.length, ks, pm) ∈ kf) | none => false))
      | none => false) && ckA G N sc es (args ++ kws.map (·.value))
  | sc, .calln f g es, .Call (.Name x _) [.Call (.Name y _) (a :: args) [] _] [] _ => decide (f = x) && gl sc f && okN f && decide (g = y) && gl sc g && okN g && (match G.fn.lookup f with | some (n, _) => decide (n = 1) | none => false) && decide (G.nw.lookup g = some (args.length + 1)) && ckL G N sc es (a :: args)
  | sc, .lrng e, .Call (.Name x _) [.Call (.Name y _) [a] [] _] [] _ => decide (x = ("list" : PySem.Str)) && gl sc x && decide (x ∈ G.bl) && decide (y = ("range" : PySem.Str)) && gl sc y && decide (y ∈ G.bl) && nst a && ckE G N sc e a
  | sc, .blt f es, .Call (.Name x _) (a :: args) [] _ => (match f with
      | .isi t => decide (x = ("isinstance" : PySem.Str)) && gl sc x && decide (x ∈ G.bl) && (match args with
        | [.Name y _] => decide (y = PySem.Str.ofString t) && gl sc y && okN y && decide (y ∈ G.bl) && decide (bootBuiltins y = some (.type t)) && (match es with | .cons e .nil => nst a && ckE G N sc e a | _ => false)
        | _ => false)
      | .gcd => decide ((x, "math.gcd") ∈ G.mf) && gl sc x && okN x && ckL G N sc es (a :: args)
      | .isqrt => decide ((x, "math.isqrt") ∈ G.mf) && gl sc x && okN x && ckL G N sc es (a :: args)
      | f => decide (x = bfN f) && gl sc x && decide (x ∈ G.bl) && ckL G N sc es (a :: args))
  | sc, .comp w src tg cd el own, .ListComp elt [⟨tge, iter, ifs, 0⟩] scope _ =>
      ckI G N sc w src iter tge && ckTg N scope tg tge && blkC N sc scope (own.map fun i => (N.getD i "", i)) && (tgs tg).all (fun i => decide (i ∈ own)) &&
      (match ifs with | [] => (match cd with | .tyes => true | _ => false) | [c] => ckT G N scope cd c | _ => false) && ckE G N scope el elt
  | _, _, _ => false
def ckT (G : GS) (N : List PySem.Str) : Scope → Ex → Expr → Bool
  | sc, .tnot a, .UnaryOp .Not l _ => ckT G N sc a l
  | sc, .tand a b, .BoolOp .And (x :: y :: r) p => ckT G N sc a x && (match r with | [] => ckT G N sc b y | _ :: _ => ckT G N sc b (.BoolOp .And (y :: r) p))
  | sc, .tor a b, .BoolOp .Or (x :: y :: r) p => ckT G N sc a x && (match r with | [] => ckT G N sc b y | _ :: _ => ckT G N sc b (.BoolOp .Or (y :: r) p))
  | sc, .tvar i, .Name x _ => nm N sc i x
  | sc, .tval (.cmp o a b), .Compare l [op] [r] _ => ckC o op && ckE G N sc a l && ckE G N sc b r
  | sc, .tval (.chn o o' a b c), .Compare l [op, op'] [r, r'] _ => ckC o op && ckC o' op' && ckE G N sc a l && ckE G N sc b r && ckE G N sc c r'
  | sc, .tval (.mth (.eqo ng c g) e (.cons b .nil)), .Compare l [op] [r] _ => ckQ ng op && (match G.mt.lookup g with | some t => decide (t.1 = 2) && decide (t.2.1 = c) && decide (t.2.2.1 = ("__eq__" : PySem.Str)) | none => false) && ckE G N sc e l && ckE G N sc b r
  | sc, .tval a, e => plain e && ckE G N sc a e
  | _, _, _ => false
def ckJ (G : GS) (N : List PySem.Str) : Scope → Ex → List Expr → Bool
  | _, .nil, [] => true
  | sc, .cons e es, .FormattedValue v k none _ :: ys => decide (k = -1) && ckE G N sc e v && ckJ G N sc es ys
  | sc, .cons (.con (.str s)) es, .Constant (.str t) _ _ :: ys => decide (s = t) && ckJ G N sc es ys
  | _, _, _ => false
def ckL (G : GS) (N : List PySem.Str) : Scope → Ex → List Expr → Bool
  | _, .nil, [] => true
  | sc, .cons e es, x :: xs => nst x && ckE G N sc e x && ckL G N sc es xs
  | _, _, _ => false
def ckA (G : GS) (N : List PySem.Str) : Scope → Ex → List Expr → Bool
  | _, .nil, [] => true
  | sc, .cons e es, x :: xs => nst x && ckAr G N sc e x && ckA G N sc es xs
  | _, _, _ => false
def ckO (G : GS) (N : List PySem.Str) : Scope → Ex → Option Expr → Bool
  | _, .nil, none => true
  | sc, .tval e, some x => ckE G N sc e x
  | _, _, _ => false
def ckAr (G : GS) (N : List PySem.Str) : Scope → Ex → Expr → Bool
  | sc, .ref i, .Name x _ => nm N sc i x
  | sc, .tval e, x => ckE G N sc e x
  | _, _, _ => false
/-- what a for or a comprehension goes over -/
def ckI (G : GS) (N : List PySem.Str) : Scope → Wk → Ex → Expr → Expr → Bool
  | sc, .seq, .cons e .nil, x, _ => notSet x && ckE G N sc e x
  | sc, .zip, .cons e (.cons e' .nil), .Call (.Name f _) [x, y] [] _, .Tuple _ _ _ => decide (f = ("zip" : PySem.Str)) && gl sc f && decide (f ∈ G.bl) && nst x && nst y && ckE G N sc e x && ckE G N sc e' y
  | sc, .enum, .cons e .nil, .Call (.Name f _) [x] [] _, .Tuple _ _ _ => decide (f = ("enumerate" : PySem.Str)) && gl sc f && decide (f ∈ G.bl) && nst x && ckE G N sc e x
  | sc, .enumS k, .cons e .nil, .Call (.Name f _) [x] [⟨some n, .Constant (.int j) _ _, _⟩] _, .Tuple _ _ _ => decide (f = ("enumerate" : PySem.Str)) && gl sc f && decide (f ∈ G.bl) && decide (n = ("start" : PySem.Str)) && decide (j = (k : Int)) && decide (k < 1000) && nst x && ckE G N sc e x
  | sc, .rng, .cons e (.cons e' .nil), .Call (.Name f _) [x, y] [] _, _ => decide (f = ("range" : PySem.Str)) && gl sc f && decide (f ∈ G.bl) && nst x && nst y && ckE G N sc e x && ckE G N sc e' y
  | sc, .rng, .cons e .nil, .Call (.Name f _) [x] [] _, _ => decide (f = ("range" : PySem.Str)) && gl sc f && decide (f ∈ G.bl) && nst x && ckE G N sc e x
  | _, _, _, _, _ => false
end
end Mn
namespace Mn
open PySem L2 RZ
variable {C : Ctx} {X : Cx} {F : FT} {env env' : Env} {d : D}
theorem bind_some {α β : Type} {x : Option α} {f : α → Option β} {b : β} (h : (x >>= f) = some b) : ∃ a, x = some a ∧ f a = some b := Option.bind_eq_some_iff.mp h
theorem ev_bin {o a b} (h : evE F (.bin o a b) env = some (d, env')) : ∃ x e1 y, evE F a env = some (x, e1) ∧ evE F b e1 = some (y, env') ∧ opB o x y = some d := by
  rw [evE] at h
  obtain ⟨⟨x, e1⟩, h1, h⟩ := bind_some h
  obtain ⟨⟨y, e2⟩, h2, h⟩ := bind_some h
  obtain ⟨r, h3, h⟩ := bind_some h
  cases h
  exact ⟨x, e1, y, h1, h2, h3⟩
theorem ev_cmp {o a b} (h : evE F (.cmp o a b) env = some (d, env')) : ∃ x e1 y r, evE F a env = some (x, e1) ∧ evE F b e1 = some (y, env') ∧ opC o x y = some r ∧ d = .bl r := by
  rw [evE] at h
  obtain ⟨⟨x, e1⟩, h1, h⟩ := bind_some h
  obtain ⟨⟨y, e2⟩, h2, h⟩ := bind_some h
  obtain ⟨r, h3, h⟩ := bind_some h
  cases h
  exact ⟨x, e1, y, r, h1, h2, h3, rfl⟩
theorem ev_chn {o o' a b c} (h : evE F (.chn o o' a b c) env = some (d, env')) : ∃ x e1 y e2 r, evE F a env = some (x, e1) ∧ evE F b e1 = some (y, e2) ∧ opC o x y = some r ∧ ((r = false ∧ d = .bl false ∧ env' = e2) ∨ (r = true ∧ ∃ z r', evE F c e2 = some (z, env') ∧ opC o' y z = some r' ∧ d = .bl r')) := by
  rw [evE] at h
  obtain ⟨⟨x, e1⟩, h1, h⟩ := bind_some h
  obtain ⟨⟨y, e2⟩, h2, h⟩ := bind_some h
  obtain ⟨r, h3, h⟩ := bind_some h
  refine ⟨x, e1, y, e2, r, h1, h2, h3, ?_⟩
  cases r with
  | false => simp only [Bool.false_eq_true, if_false] at h; cases h; exact .inl ⟨rfl, rfl, rfl⟩
  | true =>
    simp only [if_true] at h
    obtain ⟨⟨z, e3⟩, h4, h⟩ := bind_some h
    obtain ⟨r', h5, h⟩ := bind_some h
    cases h
    exact .inr ⟨rfl, z, r', h4, h5, rfl⟩
theorem ev_ix {a b} (h : evE F (.ix a b) env = some (d, env')) : ∃ x e1 y, evE F a env = some (x, e1) ∧ evE F b e1 = some (y, env') ∧ opIx x y = some d := by
  rw [evE] at h
  obtain ⟨⟨x, e1⟩, h1, h⟩ := bind_some h
  obtain ⟨⟨y, e2⟩, h2, h⟩ := bind_some h
  obtain ⟨r, h3, h⟩ := bind_some h
  cases h
  exact ⟨x, e1, y, h1, h2, h3⟩
/-- a two-place operation -/
theorem two_op {f : D → D → Option D} {a b : Ex} {r : R2} {w : Ex} (ev : ∀ {env env' : Env} {d : D}, evE C.F w env = some (d, env') → ∃ x e1 y, evE C.F a env = some (x, e1) ∧ evE C.F b e1 = some (y, env') ∧ f x y = some d)
    (hr : ∀ x y H Q, rD C.K f x y H Q → r x y H Q) {σ : L2.St} {H : Hp} {Q : VK} (h : tE C w σ H Q) : tOp r (tE C a) (tE C b) σ H Q := by
  obtain ⟨B, M, env, d, env', s, e, q⟩ := h
  obtain ⟨x, e1, y, h1, h2, h3⟩ := ev e
  refine ⟨B, M, env, x, e1, s, h1, fun v H1 B1 M1 s1 r1 n1 => ⟨B1, M1, e1, y, env', s1, h2, fun u H2 B2 M2 s2 r2 n2 => hr _ _ _ _ ?_⟩⟩
  refine ⟨B2, x, y, d, s2.bl, Rep.nx s1.bl s1.mb n2 _ _ r1, r2, h3, fun z H3 al r3 => ?_⟩
  exact q z H3 B2 M2 (s2.al al) r3 (n1.trans (n2.trans al.nx))
theorem r_bin {o : BO} {a b : Ex} {ea eb : Expr} {pos : Pos} (hK : X.K = C.K) (ha : PE X ea (tE C a)) (hb : PE X eb (tE C b)) : PE X (.BinOp ea (oB o) eb pos) (tE C (.bin o a b)) :=
  (pe_op (op_binD o) ha hb).imp fun σ H Q h => two_op ev_bin (fun _ _ _ _ q => hK ▸ q) h
theorem r_cmp {o : CO} {a b : Ex} {ea eb : Expr} {pos : Pos} (hK : X.K = C.K) (hu : X.A.units + 64 < cLine) (ha : PE X ea (tE C a)) (hb : PE X eb (tE C b)) (hm : behindInMarks (oC o) eb = false) : PE X (.Compare ea [oC o] [eb] pos) (tE C (.cmp o a b)) :=
  (pe_cmpR (op_cmpM hu o) ha hb hm).imp fun σ H Q h => two_op (f := fun a b => (opC o a b).map D.bl) (fun h => by
    obtain ⟨x, e1, y, r, h1, h2, h3, rfl⟩ := ev_cmp h
    exact ⟨x, e1, y, h1, h2, by rw [h3] <;> rfl⟩) (fun _ _ _ _ q => hK ▸ q) h
theorem chn_T {o o' : CO} {a b c : Ex} {σ : L2.St} {H : Hp} {Q : VK} (h : tE C (.chn o o' a b c) σ H Q) : tChain (rD C.K fun a b => (opC o a b).map D.bl) (rD C.K fun a b => (opC o' a b).map D.bl) (tE C a) (tE C b) (tE C c) σ H Q := by
  obtain ⟨B, M, env, d, env', s, e, q⟩ := h
  obtain ⟨x, e1, y, e2, r, h1, h2, h3, h4⟩ := ev_chn e
  refine ⟨B, M, env, x, e1, s, h1, fun v H1 B1 M1 s1 r1 n1 => ⟨B1, M1, e1, y, e2, s1, h2, fun u H2 B2 M2 s2 r2 n2 => ?_⟩⟩
  refine ⟨B2, x, y, .bl r, s2.bl, Rep.nx s1.bl s1.mb n2 _ _ r1, r2, by show Option.map D.bl (opC o x y) = _; rw [h3]; rfl, fun z H3 al r3 => ?_⟩
  rcases h4 with ⟨rfl, rfl, rfl⟩ | ⟨rfl, z', r', h5, h6, rfl⟩
  · have r3' := r3
    cases r3
    exact ⟨false, rfl, q _ H3 B2 M2 (s2.al al) r3' (n1.trans (n2.trans al.nx))⟩
  · cases r3
    refine ⟨true, rfl, ?_⟩
    rw [if_pos rfl]
    refine ⟨B2, M2, e2, z', env', s2.al al, h5, fun w H4 B3 M3 s3 r4 n3 => ?_⟩
    refine ⟨B3, y, z', .bl r', s3.bl, Rep.nx s2.bl s2.mb (al.nx.trans n3) _ _ r2, r4, by show Option.map D.bl (opC o' y z') = _; rw [h6]; rfl, fun z4 H5 al2 r5 => ?_⟩
    exact q z4 H5 B3 M3 (s3.al al2) r5 (n1.trans (n2.trans (al.nx.trans (n3.trans al2.nx))))
theorem r_chn {o o' : CO} {a b c : Ex} {ea eb ec : Expr} {pos : Pos} (hK : X.K = C.K) (hu : X.A.units + 64 < cLine) (ha : PE X ea (tE C a)) (hb : PE X eb (tE C b)) (hc : PE X ec (tE C c)) (hm : behindInMarks (oC o') ec = false) : PE X (.Compare ea [oC o, oC o'] [eb, ec] pos) (tE C (.chn o o' a b c)) :=
  (pe_chain (op_cmpM hu o) (op_cmpM hu o') ha hb hc hm).imp fun σ H Q h => by rw [hK]; exact chn_T h
theorem ckE_noset {G : GS} {N : List PySem.Str} {sc : Scope} {b : Ex} {xs : List Expr} {k : Nat} {p : Pos} (h : ckE G N sc b (.Set xs k p) = true) : False := by
  cases b <;> simp [ckE] at h
theorem nomk {G : GS} {N : List PySem.Str} {sc : Scope} {b : Ex} {op : CmpOp} (e : Expr) (h : ckE G N sc b e = true) : behindInMarks op e = false := by
  cases e
  case Set xs k p => exact (ckE_noset h).elim
  all_goals rfl
theorem r_ix {a b : Ex} {ea eb : Expr} {pos : Pos} (hK : X.K = C.K) (hs : notSl eb = true) (ha : PE X ea (tE C a)) (hb : PE X eb (tE C b)) : PE X (.Subscript ea eb pos) (tE C (.ix a b)) :=
  (pe_ix ix_D ha hb (fun o i => by cases eb <;> first | rfl | cases hs)).imp fun σ H Q h => two_op ev_ix (fun _ _ _ _ q => hK ▸ q) h
theorem r_var {i : Nat} {x : PySem.Str} {pos : Pos} (hN : X.N[i]? = some x) (hv : Vis X.env.scope x) (hd : (x == ("__debug__" : PySem.Str)) = false) (hcd : (x == ("__classdict__" : PySem.Str)) = false) : PE X (.Name x pos) (tE C (.var i)) :=
  (pe_var hN hv hd hcd).imp fun σ H Q h => by
    obtain ⟨B, M, env, d, env', s, e, q⟩ := h
    rw [evE] at e
    split at e
    · cases e
      obtain ⟨v, e1, r⟩ := s.val i _ (by assumption)
      exact ⟨v, e1, q v H B M s r (Nx.refl _ _ _)⟩
    · cases e
      obtain ⟨a, e1, s1, r⟩ := s.freeze (by assumption)
      exact ⟨_, e1, q _ H _ _ s1 r (nx_freeze a)⟩
    · cases e
theorem r_con {d : D} {c : Const} {j pos} (h : ckK d c = true) : PE X (.Constant c j pos) (tE C (.con d)) := by
  have fin : ∀ {v : V} {σ : L2.St} {H : Hp} {Q : VK}, (∀ K H B, Rep K H B d v) → tE C (.con d) σ H Q → Q v H := fun {v σ H Q} r h => by
    obtain ⟨B, M, env, d, env', s, e, q⟩ := h
    rw [evE] at e; cases e
    exact q v H B M s (r _ _ _) (Nx.refl _ _ _)
  unfold ckK at h
  split at h
  · exact pe_non.imp fun σ H Q q => fin (fun _ _ _ => rfl) q
  · rw [beq_iff_eq] at h; subst h
    exact pe_bl.imp fun σ H Q q => fin (fun _ _ _ => rfl) q
  · have h := of_decide_eq_true h; subst h
    exact pe_int.imp fun σ H Q q => fin (fun _ _ _ => rfl) q
  · have h := of_decide_eq_true h; subst h
    exact pe_str.imp fun σ H Q q => fin (fun _ _ _ => rfl) q
  · cases h
theorem ev_neg {a} (h : evE F (.neg a) env = some (d, env')) : ∃ i, evE F a env = some (.int i, env') ∧ d = .int (-i) := by
  rw [evE] at h
  obtain ⟨⟨x, e1⟩, h1, h⟩ := bind_some h
  cases x <;> first | (cases h; done) | skip
  cases h
  exact ⟨_, h1, rfl⟩
theorem r_neg {a : Ex} {ea : Expr} {pos : Pos} (ha : PE X ea (tE C a)) : PE X (.UnaryOp .USub ea pos) (tE C (.neg a)) :=
  (pe_un un_neg ha).imp fun σ H Q h => by
    obtain ⟨B, M, env, d, env', s, e, q⟩ := h
    obtain ⟨i, h1, rfl⟩ := ev_neg e
    refine ⟨B, M, env, _, env', s, h1, fun v H1 B1 M1 s1 r1 n1 => ?_⟩
    cases r1
    exact ⟨i, rfl, q _ H1 B1 M1 s1 rfl n1⟩
theorem ev_vand {a b} (h : evE F (.vand a b) env = some (d, env')) : ∃ k e1, evE F a env = some (.bl k, e1) ∧ (if k = true then evE F b e1 = some (d, env') else d = .bl false ∧ env' = e1) := by
  rw [evE] at h
  obtain ⟨⟨x, e1⟩, h1, h⟩ := bind_some h
  cases x with
  | bl k => cases k with
    | true => exact ⟨true, e1, h1, h⟩
    | false => cases h; exact ⟨false, _, h1, rfl, rfl⟩
  | _ => cases h
theorem ev_vor {a b} (h : evE F (.vor a b) env = some (d, env')) : ∃ k e1, evE F a env = some (.bl k, e1) ∧ (if k = true then d = .bl true ∧ env' = e1 else evE F b e1 = some (d, env')) := by
  rw [evE] at h
  obtain ⟨⟨x, e1⟩, h1, h⟩ := bind_some h
  cases x with
  | bl k => cases k with
    | true => cases h; exact ⟨true, _, h1, rfl, rfl⟩
    | false => exact ⟨false, e1, h1, h⟩
  | _ => cases h
theorem r_vand {a b : Ex} {ea eb : Expr} {rest : List Expr} {pos : Pos} (ha : PE X ea (tE C a)) (hb : PE X (.BoolOp .And (eb :: rest) pos) (tE C b)) : PE X (.BoolOp .And (ea :: eb :: rest) pos) (tE C (.vand a b)) :=
  (pe_and ha hb).imp fun σ H Q h => by
    obtain ⟨B, M, env, d, env', s, e, q⟩ := h
    obtain ⟨k, e1, h1, h2⟩ := ev_vand e
    refine ⟨B, M, env, _, e1, s, h1, fun v H1 B1 M1 s1 r1 n1 => ⟨k, r1, ?_⟩⟩
    cases k with
    | true => exact ⟨B1, M1, e1, d, env', s1, h2, fun v H2 B2 M2 s2 r2 n2 => q v H2 B2 M2 s2 r2 (n1.trans n2)⟩
    | false => obtain ⟨rfl, rfl⟩ := h2; exact q _ H1 B1 M1 s1 rfl n1
theorem r_vor {a b : Ex} {ea eb : Expr} {rest : List Expr} {pos : Pos} (ha : PE X ea (tE C a)) (hb : PE X (.BoolOp .Or (eb :: rest) pos) (tE C b)) : PE X (.BoolOp .Or (ea :: eb :: rest) pos) (tE C (.vor a b)) :=
  (pe_or ha hb).imp fun σ H Q h => by
    obtain ⟨B, M, env, d, env', s, e, q⟩ := h
    obtain ⟨k, e1, h1, h2⟩ := ev_vor e
    refine ⟨B, M, env, _, e1, s, h1, fun v H1 B1 M1 s1 r1 n1 => ⟨k, r1, ?_⟩⟩
    cases k with
    | false => exact ⟨B1, M1, e1, d, env', s1, h2, fun v H2 B2 M2 s2 r2 n2 => q v H2 B2 M2 s2 r2 (n1.trans n2)⟩
    | true => obtain ⟨rfl, rfl⟩ := h2; exact q _ H1 B1 M1 s1 rfl n1
theorem ev_vnot {a} (h : evE F (.vnot a) env = some (d, env')) : ∃ i, evE F a env = some (.bl i, env') ∧ d = .bl (!i) := by
  rw [evE] at h
  obtain ⟨⟨x, e1⟩, h1, h⟩ := bind_some h
  cases x <;> first | (cases h; done) | skip
  cases h
  exact ⟨_, h1, rfl⟩
theorem r_vnot {a : Ex} {ea : Expr} {pos : Pos} (ha : PE X ea (tE C a)) : PE X (.UnaryOp .Not ea pos) (tE C (.vnot a)) :=
  (pe_not ha).imp fun σ H Q h => by
    obtain ⟨B, M, env, d, env', s, e, q⟩ := h
    obtain ⟨i, h1, rfl⟩ := ev_vnot e
    refine ⟨B, M, env, _, env', s, h1, fun v H1 B1 M1 s1 r1 n1 => ?_⟩
    cases r1
    exact ⟨i, rfl, q _ H1 B1 M1 s1 rfl n1⟩
theorem ev_ite {c a b} (h : evE F (.ite c a b) env = some (d, env')) : ∃ k e1, evT F c env = some (k, e1) ∧ (if k = true then evE F a e1 = some (d, env') else evE F b e1 = some (d, env')) := by
  rw [evE] at h
  obtain ⟨⟨k, e1⟩, h1, h⟩ := bind_some h
  refine ⟨k, e1, h1, ?_⟩
  cases k <;> exact h
theorem r_ite {c a b : Ex} {ec ea eb : Expr} {pos : Pos} (hc : PT X ec (tT C c)) (ha : PE X ea (tE C a)) (hb : PE X eb (tE C b)) : PE X (.IfExp ec ea eb pos) (tE C (.ite c a b)) :=
  (pe_ifExp hc ha hb).imp fun σ H Q h => by
    obtain ⟨B, M, env, d, env', s, e, q⟩ := h
    obtain ⟨k, e1, h1, h2⟩ := ev_ite e
    refine ⟨B, M, env, _, e1, s, h1, fun H1 B1 M1 s1 n1 => ?_⟩
    cases k <;> exact ⟨B1, M1, e1, d, env', s1, h2, fun v H2 B2 M2 s2 r2 n2 => q v H2 B2 M2 s2 r2 (n1.trans n2)⟩
/-! ### lists of expressions -/
theorem r_nil : PA X [] (tL C .nil) := pa_nil.imp fun σ H Q h => by
  obtain ⟨B, M, env, d, env', s, e, q⟩ := h
  rw [evL] at e; cases e
  exact q [] H B M s rfl (Nx.refl _ _ _)
theorem star_cons {e : Expr} {es : List Expr} {env : PySem.Env} (h : nst e = true) : starEach (e :: es) env = (false, eval e env) :: starEach es env := by cases e <;> first | rfl | cases h
theorem ev_cons {e es} {ds : List D} (h : evL F (.cons e es) env = some (ds, env')) : ∃ x e1 xs, evE F e env = some (x, e1) ∧ evL F es e1 = some (xs, env') ∧ ds = x :: xs := by
  rw [evL] at h
  obtain ⟨⟨x, e1⟩, h1, h⟩ := bind_some h
  obtain ⟨⟨xs, e2⟩, h2, h⟩ := bind_some h
  cases h
  exact ⟨x, e1, xs, h1, h2, rfl⟩
theorem r_cons {e es : Ex} {x : Expr} {xs : List Expr} (hn : nst x = true) (he : PE X x (tE C e)) (hs : PA X xs (tL C es)) : PA X (x :: xs) (tL C (.cons e es)) :=
  (pa_cons he hs (star_cons hn)).imp fun σ H Q h => by
    obtain ⟨B, M, env, ds, env', s, e, q⟩ := h
    obtain ⟨x, e1, xs, h1, h2, rfl⟩ := ev_cons e
    refine ⟨B, M, env, x, e1, s, h1, fun v H1 B1 M1 s1 r1 n1 => ⟨B1, M1, e1, xs, env', s1, h2, fun vs H2 B2 M2 s2 r2 n2 => ?_⟩⟩
    exact q _ H2 B2 M2 s2 (RepL.cons (Rep.nx s1.bl s1.mb n2 _ _ r1) r2) (n1.trans n2)
theorem ev_tup {es} (h : evE F (.tup es) env = some (d, env')) : ∃ xs, evL F es env = some (xs, env') ∧ xs.length ≤ lim ∧ d = .tup xs := by
  rw [evE] at h
  obtain ⟨⟨xs, e1⟩, h1, h⟩ := bind_some h
  simp only [Option.ite_none_right_eq_some, Option.some.injEq, Prod.mk.injEq] at h
  obtain ⟨h2, rfl, rfl⟩ := h
  exact ⟨xs, h1, h2, rfl⟩
theorem ev_lst {es} (h : evE F (.lst es) env = some (d, env')) : ∃ xs, evL F es env = some (xs, env') ∧ xs.length ≤ lim ∧ d = .lst xs := by
  rw [evE] at h
  obtain ⟨⟨xs, e1⟩, h1, h⟩ := bind_some h
  simp only [Option.ite_none_right_eq_some, Option.some.injEq, Prod.mk.injEq] at h
  obtain ⟨h2, rfl, rfl⟩ := h
  exact ⟨xs, h1, h2, rfl⟩
theorem r_tup {es : Ex} {xs : List Expr} {k pos} (hs : PA X xs (tL C es)) : PE X (.Tuple xs k pos) (tE C (.tup es)) :=
  (pe_tup hs).imp fun σ H Q h => by
    obtain ⟨B, M, env, d, env', s, e, q⟩ := h
    obtain ⟨xs, h1, h2, rfl⟩ := ev_tup e
    refine ⟨B, M, env, xs, env', s, h1, fun vs H1 B1 M1 s1 r1 n1 => ⟨by rw [r1.len]; exact Nat.le_trans h2 lim_le, fun p hp => ?_⟩⟩
    exact q _ _ B1 M1 (s1.al (Al.new hp)) ⟨p, vs, rfl, .inl (.inl upd_same), r1.al s1.bl (Al.new hp)⟩ (n1.trans (Al.new hp).nx)
/-- a new list, laid at last -/
theorem new_list {H H1 : Hp} {B M B1 M1 : AP'} {σ : L2.St} {env' : Env} {xs : List D} {vs : List V} {p : Addr} {Q : VK} (s1 : Sim C H1 B1 M1 σ env') (r1 : RepL C.K H1 B1 xs vs) (n1 : Nx H B M H1 B1 M1) (hp : H1 p = none)
    (q : ∀ p vs H' B' M', Sim C H' (ins p B') M' σ env' → H' p = some (.lst vs) → RepL C.K H' (ins p B') xs vs → ¬ B' p → (∀ a, M' a → B' a) → (∀ a, C.B0 a → B' a) → H p = none → Nx H B M H' B' M' → Q (.ref p) H') : Q (.ref p) (upd H1 p (.lst vs)) := by
  refine q p vs _ B1 M1 (s1.lay hp) upd_same (r1.lay s1.bl hp) (fun z => ?_) s1.mb s1.lo (n1.al p hp) (n1.trans (Al.new hp).nx)
  obtain ⟨_, z⟩ := s1.bl p z; rw [hp] at z; cases z
theorem r_lst {es : Ex} {xs : List Expr} {pos} (hs : PA X xs (tL C es)) : PE X (.List xs pos) (tN C (.lst es)) :=
  (pe_lst hs).imp fun σ H Q h => by
    obtain ⟨B, M, env, ds, env', s, e, q⟩ := h
    obtain ⟨xs, h1, h2, e3⟩ := ev_lst e
    cases e3
    refine ⟨B, M, env, ds, env', s, h1, fun vs H1 B1 M1 s1 r1 n1 => ⟨by rw [r1.len]; exact Nat.le_trans h2 lim_le, fun p hp => ?_⟩⟩
    exact new_list s1 r1 n1 hp q
/-- two lists, one behind the other: a new list -/
theorem r_catN {a b : Ex} {ea eb : Expr} {pos : Pos} (ha : PE X ea (tE C a)) (hb : PE X eb (tE C b)) : PE X (.BinOp ea .Add eb pos) (tN C (.bin .add a b)) :=
  (pe_op op_cat ha hb).imp fun σ H Q h => by
    obtain ⟨B, M, env, zs, env', s, e, q⟩ := h
    obtain ⟨x, e1, y, h1, h2, h3⟩ := ev_bin e
    obtain ⟨xs, ys, rfl, rfl, hl, rfl⟩ : ∃ xs ys, x = .lst xs ∧ y = .lst ys ∧ xs.length + ys.length ≤ lim ∧ zs = xs ++ ys := by
      unfold opB at h3
      split at h3 <;> simp only [reduceCtorEq, Option.some.injEq, Option.ite_none_right_eq_some, and_false] at *
      obtain ⟨k1, k2⟩ := h3
      cases k2
      exact ⟨_, _, rfl, rfl, k1, rfl⟩
    refine ⟨B, M, env, _, e1, s, h1, fun v H1 B1 M1 s1 r1 n1 => ⟨B1, M1, e1, _, env', s1, h2, fun u H2 B2 M2 s2 r2 n2 => ?_⟩⟩
    obtain ⟨p, vs, rfl, g1, nb1, l1⟩ := Rep.nx s1.bl s1.mb n2 _ _ r1
    obtain ⟨p2, ws, rfl, g2, nb2, l2⟩ := r2
    exact ⟨_, _, _, _, rfl, rfl, g1, g2, by rw [l1.len, l2.len]; exact Nat.le_trans hl lim_le, fun p3 h3 => new_list s2 (l1.app l2) (n1.trans n2) h3 q⟩
theorem ev_lst_is {es} {env : Env} {d : D} {env' : Env} (h : evE F (.lst es) env = some (d, env')) : ∃ xs, d = .lst xs := let ⟨xs, _, _, e⟩ := ev_lst h; ⟨xs, e⟩
/-! ### built-ins -/
theorem ev_blt {f es} (h : evE F (.blt f es) env = some (d, env')) : ∃ xs, evL F es env = some (xs, env') ∧ opF f xs = some d := by
  rw [evE] at h
  obtain ⟨⟨xs, e1⟩, h1, h⟩ := bind_some h
  obtain ⟨r, h2, h⟩ := bind_some h
  cases h
  exact ⟨xs, h1, h2⟩
theorem blt_op {f : BF} {es : Ex} {r : List V → Hp → VK → Prop} (hr : ∀ xs H Q, rF C.K (opF f) xs H Q → r xs H Q) {σ : L2.St} {H : Hp} {Q : VK} (h : tE C (.blt f es) σ H Q) : tCB r (tL C es) σ H Q := by
  obtain ⟨B, M, env, d, env', s, e, q⟩ := h
  obtain ⟨xs, h1, h2⟩ := ev_blt e
  refine ⟨B, M, env, xs, env', s, h1, fun vs H1 B1 M1 s1 r1 n1 => hr _ _ _ ⟨B1, xs, d, s1.bl, r1, h2, fun z H2 al r2 => ?_⟩⟩
  exact q z H2 B1 M1 (s1.al al) r2 (n1.trans al.nx)
theorem star_any : ∀ {es : List Expr} {env : PySem.Env} {pos : Pos}, es.all nst = true → (backTo pos (starEach es env)).any (·.1) = false
  | [], _, _, _ => rfl
  | e :: es, env, pos, h => by
    simp only [List.all_cons, Bool.and_eq_true] at h
    rw [star_cons h.1]
    have := star_any (env := env) (pos := pos) h.2
    simpa [backTo] using this
theorem r_bltB {f : BF} {id : String} {x : PySem.Str} {p pos : Pos} {a : Expr} {args : List Expr} {es : Ex} (hK : X.K = C.K) (hc : CallR X (.builtin id) (rF X.K (opF f))) (hg : Gl X x) (hm : X.mg x = none) (hv : bootBuiltins x = some (.builtin id)) (hn : x ≠ "__name__") (hd : (x == ("__debug__" : PySem.Str)) = false)
    (h1 : nst a = true) (h2 : args.all nst = true) (ha : PA X (a :: args) (tL C es)) : PE X (.Call (.Name x p) (a :: args) [] pos) (tE C (.blt f es)) :=
  (pe_callB hc hg hm hv ha hn hd (star_cons h1) (star_any h2)).imp fun σ H Q h => blt_op (fun _ _ _ q => hK ▸ q) h
theorem r_bltT {f : BF} {id : String} {x : PySem.Str} {p pos : Pos} {a : Expr} {args : List Expr} {es : Ex} (hK : X.K = C.K) (hc : CallR X (.type id) (rF X.K (opF f))) (hg : Gl X x) (hm : X.mg x = none) (hv : bootBuiltins x = some (.type id)) (hn : x ≠ "__name__") (hd : (x == ("__debug__" : PySem.Str)) = false)
    (h1 : nst a = true) (h2 : args.all nst = true) (ha : PA X (a :: args) (tL C es)) : PE X (.Call (.Name x p) (a :: args) [] pos) (tE C (.blt f es)) :=
  (pe_callTy hc hg hm hv ha hn hd (star_cons h1) (star_any h2)).imp fun σ H Q h => blt_op (fun _ _ _ q => hK ▸ q) h
theorem r_bltM {f : BF} {id : String} {x : PySem.Str} {p pos : Pos} {a : Expr} {args : List Expr} {es : Ex} (hK : X.K = C.K) (hc : CallR X (.builtin id) (rF X.K (opF f))) (hg : Gl X x) (hm : X.mg x = some (.builtin id)) (hd : (x == ("__debug__" : PySem.Str)) = false)
    (h1 : nst a = true) (h2 : args.all nst = true) (ha : PA X (a :: args) (tL C es)) : PE X (.Call (.Name x p) (a :: args) [] pos) (tE C (.blt f es)) :=
  (pe_callBfun hc hg hm ha hd (star_cons h1) (star_any h2)).imp fun σ H Q h => blt_op (fun _ _ _ q => hK ▸ q) h
theorem r_isi {t : String} {y : PySem.Str} {p py pos : Pos} {a : Expr} {e : Ex} (hK : X.K = C.K) (hg : Gl X ("isinstance" : PySem.Str)) (hm : X.mg "isinstance" = none) (hg2 : Gl X y) (hm2 : X.mg y = none) (hv2 : bootBuiltins y = some (.type t)) (hn2 : y ≠ "__name__") (hd2 : (y == ("__debug__" : PySem.Str)) = false)
    (h1 : nst a = true) (ha : PE X a (tE C e)) : PE X (.Call (.Name "isinstance" p) [a, .Name y py] [] pos) (tE C (.blt (.isi t) (.cons e .nil))) :=
  (pe_callB call_isi hg hm (by decide +kernel) (pa_cons ha (pa_cons (pe_bltn (v := .ty t) hg2 hm2 hv2 rfl hn2 hd2) pa_nil) (star_cons h1)) (by decide) (by decide) (star_cons h1) rfl).imp fun σ H Q h => by
    obtain ⟨B, M, env, d, env', s, e, q⟩ := h
    obtain ⟨xs, h1, h2⟩ := ev_blt e
    obtain ⟨x, e1, xs, h3, h4, rfl⟩ := ev_cons h1
    rw [evL] at h4; cases h4
    refine ⟨B, M, env, x, _, s, h3, fun v H1 B1 M1 s1 r1 n1 => ?_⟩
    have h5 : (∀ c ks xs, x ≠ .obj c ks xs) ∧ (∀ a, x ≠ .adr a) ∧ (kitB (tyOf x) t).map D.bl = some d := by
      cases x <;> first | exact ⟨(fun _ _ _ z => nomatch z), (fun _ z => nomatch z), h2⟩ | (simp [opF] at h2; done)
    obtain ⟨n1', n2', h5⟩ := h5
    simp only [Option.map_eq_some_iff] at h5
    obtain ⟨k, h6, rfl⟩ := h5
    exact ⟨v, .ty t, _, _, k, rfl, .ty t, tyX_of n1' n2' (hK ▸ r1), kit_ty h6, q _ H1 B1 M1 s1 rfl n1⟩
end Mn
namespace Mn
open PySem L2 RZ
variable {C : Ctx} {X : Cx} {F : FT} {env env' : Env} {d : D}
/-! ### tests -/
theorem rep_tru {K : PySem.W.Frag} {H : Hp} {B : AP'} {v : V} {k : Bool} : ∀ {d : D}, Rep K H B d v → tru d = some k → TruV K v H k
  | .non, h, e => by cases h; cases e; rfl
  | .bl b, h, e => by cases h; cases e; rfl
  | .int b, h, e => by cases h; cases e; rfl
  | .str b, h, e => by
    cases h
    simp only [tru, Option.ite_none_right_eq_some, Option.some.injEq] at e
    exact ⟨Nat.le_trans e.1 lim_le, e.2.symm⟩
  | .tup xs, h, e => by
    obtain ⟨a, vs, rfl, h1, r⟩ := h
    cases e
    exact .inr (.inl ⟨vs, h1, by rw [r.emp]⟩)
  | .lst xs, h, e => by
    obtain ⟨a, vs, rfl, h1, _, r⟩ := h
    cases e
    exact .inl ⟨vs, .inl (.inl h1), by rw [r.emp]⟩
  | .scr ns, h, e => by unfold tru at e; cases e
theorem plain_true {e : Expr} {env : PySem.Env} (h : plain e = true) (whole : Sem Value) : isTrue e env whole = (do let v ← whole; standAt e.pos; holding [v] (truthy v)) := by
  cases e with
  | UnaryOp op a p => cases op <;> first | rfl | cases h
  | _ => first | rfl | cases h
theorem ev_tval {a} {k : Bool} (h : evT F (.tval a) env = some (k, env')) : ∃ x, evE F a env = some (x, env') ∧ tru x = some k := by
  rw [evT] at h
  obtain ⟨⟨x, e1⟩, h1, h⟩ := bind_some h
  obtain ⟨b, h2, h⟩ := bind_some h
  cases h
  exact ⟨x, h1, h2⟩
theorem r_tval {a : Ex} {ea : Expr} (hK : X.K = C.K) (hp : plain ea = true) (ha : PE X ea (tE C a)) : PT X ea (tT C (.tval a)) :=
  (pt_truth ha (plain_true hp)).imp fun σ H Q h => by
    obtain ⟨B, M, env, k, env', s, e, q⟩ := h
    obtain ⟨x, h1, h2⟩ := ev_tval e
    exact ⟨B, M, env, x, env', s, h1, fun v H1 B1 M1 s1 r1 n1 => ⟨k, hK ▸ rep_tru r1 h2, q H1 B1 M1 s1 n1⟩⟩
theorem r_tcmp {o : CO} {a b : Ex} {ea eb : Expr} {pos : Pos} (hK : X.K = C.K) (hu : X.A.units + 64 < cLine) (ha : PE X ea (tE C a)) (hb : PE X eb (tE C b)) (hm : behindInMarks (oC o) eb = false) : PT X (.Compare ea [oC o] [eb] pos) (tT C (.tval (.cmp o a b))) :=
  (pt_cmpR (op_cmpM hu o) ha hb hm).imp fun σ H Q h => by
    obtain ⟨B, M, env, k, env', s, e, q⟩ := h
    obtain ⟨x, h1, h2⟩ := ev_tval e
    obtain ⟨_, _, _, r, _, _, _, rfl⟩ := ev_cmp h1
    cases h2
    refine two_op (f := fun a b => (opC o a b).map D.bl) (fun h => ?_) (fun _ _ _ _ q => hK ▸ q) (w := .cmp o a b) ⟨B, M, env, _, env', s, h1, fun v H1 B1 M1 s1 r1 n1 => ?_⟩
    · obtain ⟨x, e1, y, r, h1, h2, h3, rfl⟩ := ev_cmp h
      exact ⟨x, e1, y, h1, h2, by rw [h3] <;> rfl⟩
    · cases r1
      exact ⟨_, rfl, q H1 B1 M1 s1 n1⟩
theorem r_tchn {o o' : CO} {a b c : Ex} {ea eb ec : Expr} {pos : Pos} (hK : X.K = C.K) (hu : X.A.units + 64 < cLine) (ha : PE X ea (tE C a)) (hb : PE X eb (tE C b)) (hc : PE X ec (tE C c)) (hm : behindInMarks (oC o') ec = false) : PT X (.Compare ea [oC o, oC o'] [eb, ec] pos) (tT C (.tval (.chn o o' a b c))) :=
  (pt_chain (op_cmpM hu o) (op_cmpM hu o') ha hb hc hm).imp fun σ H Q h => by
    obtain ⟨B, M, env, k, env', s, e, q⟩ := h
    obtain ⟨x, h1, h2⟩ := ev_tval e
    rw [hK]
    refine chn_T ⟨B, M, env, _, env', s, h1, fun v H1 B1 M1 s1 r1 n1 => ?_⟩
    obtain ⟨_, _, _, _, _, _, _, _, h4⟩ := ev_chn h1
    rcases h4 with ⟨_, rfl, _⟩ | ⟨_, _, _, _, _, rfl⟩ <;> (cases h2; cases r1; exact ⟨_, rfl, q H1 B1 M1 s1 n1⟩)
theorem ev_tnot {a} {k : Bool} (h : evT F (.tnot a) env = some (k, env')) : ∃ x, evT F a env = some (x, env') ∧ k = !x := by
  rw [evT] at h
  obtain ⟨⟨x, e1⟩, h1, h⟩ := bind_some h
  cases h
  exact ⟨x, h1, rfl⟩
theorem r_tnot {a : Ex} {ea : Expr} {pos : Pos} (ha : PT X ea (tT C a)) : PT X (.UnaryOp .Not ea pos) (tT C (.tnot a)) :=
  (pt_not ha).imp fun σ H Q h => by
    obtain ⟨B, M, env, k, env', s, e, q⟩ := h
    obtain ⟨x, h1, rfl⟩ := ev_tnot e
    exact ⟨B, M, env, x, env', s, h1, q⟩
theorem ev_tand {a b} {k : Bool} (h : evT F (.tand a b) env = some (k, env')) : ∃ x e1, evT F a env = some (x, e1) ∧ (if x = true then evT F b e1 = some (k, env') else k = false ∧ env' = e1) := by
  rw [evT] at h
  obtain ⟨⟨x, e1⟩, h1, h⟩ := bind_some h
  refine ⟨x, e1, h1, ?_⟩
  cases x
  · cases h; exact ⟨rfl, rfl⟩
  · exact h
theorem ev_tor {a b} {k : Bool} (h : evT F (.tor a b) env = some (k, env')) : ∃ x e1, evT F a env = some (x, e1) ∧ (if x = true then k = true ∧ env' = e1 else evT F b e1 = some (k, env')) := by
  rw [evT] at h
  obtain ⟨⟨x, e1⟩, h1, h⟩ := bind_some h
  refine ⟨x, e1, h1, ?_⟩
  cases x
  · exact h
  · cases h; exact ⟨rfl, rfl⟩
theorem r_tand {a b : Ex} {ea eb : Expr} {rest : List Expr} {pos : Pos} (ha : PT X ea (tT C a)) (hb : PW X (.BoolOp .And (eb :: rest) pos) (tT C b)) : PW X (.BoolOp .And (ea :: eb :: rest) pos) (tT C (.tand a b)) :=
  (pw_and ha hb).imp fun σ H Q h => by
    obtain ⟨B, M, env, k, env', s, e, q⟩ := h
    obtain ⟨x, e1, h1, h2⟩ := ev_tand e
    refine ⟨B, M, env, x, e1, s, h1, fun H1 B1 M1 s1 n1 => ?_⟩
    cases x with
    | true => exact ⟨B1, M1, e1, k, env', s1, h2, fun H2 B2 M2 s2 n2 => q H2 B2 M2 s2 (n1.trans n2)⟩
    | false => obtain ⟨e5, e6⟩ := h2; subst e5; subst e6; exact q H1 B1 M1 s1 n1
theorem r_tor {a b : Ex} {ea eb : Expr} {rest : List Expr} {pos : Pos} (ha : PT X ea (tT C a)) (hb : PW X (.BoolOp .Or (eb :: rest) pos) (tT C b)) : PW X (.BoolOp .Or (ea :: eb :: rest) pos) (tT C (.tor a b)) :=
  (pw_or ha hb).imp fun σ H Q h => by
    obtain ⟨B, M, env, k, env', s, e, q⟩ := h
    obtain ⟨x, e1, h1, h2⟩ := ev_tor e
    refine ⟨B, M, env, x, e1, s, h1, fun H1 B1 M1 s1 n1 => ?_⟩
    cases x with
    | false => exact ⟨B1, M1, e1, k, env', s1, h2, fun H2 B2 M2 s2 n2 => q H2 B2 M2 s2 (n1.trans n2)⟩
    | true => obtain ⟨e5, e6⟩ := h2; subst e5; subst e6; exact q H1 B1 M1 s1 n1
theorem ev_tvar {i} {k : Bool} (h : evT F (.tvar i) env = some (k, env')) : ∃ d, peek env i = some d ∧ tru d = some k ∧ env' = env := by
  rw [evT] at h
  obtain ⟨d, h1, h⟩ := bind_some h
  obtain ⟨b, h2, h⟩ := bind_some h
  cases h
  exact ⟨d, h1, h2, rfl⟩
theorem r_tvar {i : Nat} {x : PySem.Str} {pos : Pos} (hK : X.K = C.K) (hN : X.N[i]? = some x) (hv : Vis X.env.scope x) (hd : (x == ("__debug__" : PySem.Str)) = false) (hcd : (x == ("__classdict__" : PySem.Str)) = false) : PT X (.Name x pos) (tT C (.tvar i)) :=
  (pt_truth (pe_var hN hv hd hcd) (by intro _; rfl)).imp fun σ H Q h => by
    obtain ⟨B, M, env, k, env', s, e, q⟩ := h
    obtain ⟨d, h1, h2, e5⟩ := ev_tvar e
    subst e5
    obtain ⟨v, e1, r⟩ := s.peek h1
    exact ⟨v, e1, k, rep_tru (hK ▸ r) h2, q H B M s (Nx.refl _ _ _)⟩
/-! ### an item of a list that may change, its length -/
theorem ev_ixv {i e} (h : evE F (.ixv i e) env = some (d, env')) : ∃ k x y, peek env i = some y ∧ evE F e env = some (k, env') ∧ peek env' i = some x ∧ opIx x k = some d := by
  rw [evE] at h
  obtain ⟨y, h0, h⟩ := bind_some h
  obtain ⟨⟨k, e1⟩, h1, h⟩ := bind_some h
  obtain ⟨x, h2, h⟩ := bind_some h
  obtain ⟨r, h3, h⟩ := bind_some h
  cases h
  exact ⟨k, x, y, h0, h1, h2, h3⟩
theorem atI_rep {K : PySem.W.Frag} {H : Hp} {B : AP'} {xs : List D} {vs : List V} {j : Int} {d : D} (g : RepL K H B xs vs) (h : atI xs j = some d) : ∃ z, atI vs j = some z ∧ Rep K H B d z := by
  unfold atI at h ⊢
  rw [g.len]
  cases z : ixN xs.length j with
  | none => rw [z] at h; cases h
  | some n => rw [z] at h; exact g.get h
/-- what stands in a slot, as a list or a tuple -/
theorem Sim.seq {H : Hp} {B M : AP'} {σ : L2.St} (s : Sim C H B M σ env) {i : Nat} {x : D} (hp : Mn.peek env i = some x) :
    ∃ v, σ[i]? = some (some v) ∧ ((∃ xs a vs, x = .lst xs ∧ v = .ref a ∧ H a = some (.lst vs) ∧ RepL C.K H B xs vs) ∨ (∃ xs a vs, x = .tup xs ∧ v = .ref a ∧ SqT C.K H a vs ∧ RepL C.K H B xs vs) ∨ ((∀ xs, x ≠ .lst xs) ∧ (∀ xs, x ≠ .tup xs) ∧ Rep C.K H B x v)) := by
  unfold Mn.peek at hp
  split at hp
  · rename_i d hd
    cases hp
    obtain ⟨v, e, r⟩ := s.val i _ hd
    refine ⟨v, e, ?_⟩
    cases x with
    | lst xs => obtain ⟨a, vs, rfl, h1, _, h2⟩ := r; exact .inl ⟨xs, a, vs, rfl, rfl, h1, h2⟩
    | tup xs => obtain ⟨a, vs, rfl, h1, h2⟩ := r; exact .inr (.inl ⟨xs, a, vs, rfl, rfl, h1, h2⟩)
    | _ => exact .inr (.inr ⟨fun _ z => (nomatch z), fun _ z => (nomatch z), r⟩)
  · cases hp
    obtain ⟨a, vs, e, q, r, _⟩ := s.own i _ (by assumption)
    exact ⟨_, e, .inl ⟨_, a, vs, rfl, rfl, q, r⟩⟩
  · cases hp
    obtain ⟨a, vs, _, e, q, r, _⟩ := s.par i _ (by assumption)
    exact ⟨_, e, .inl ⟨_, a, vs, rfl, rfl, q, r⟩⟩
  · cases hp
theorem r_ixv {i : Nat} {x : PySem.Str} {e : Ex} {ee : Expr} {p pos : Pos} (hK : X.K = C.K) (hN : X.N[i]? = some x) (hv : Vis X.env.scope x) (hd : (x == ("__debug__" : PySem.Str)) = false) (hcd : (x == ("__classdict__" : PySem.Str)) = false) (hs : notSl ee = true) (he : PE X ee (tE C e)) :
    PE X (.Subscript (.Name x p) ee pos) (tE C (.ixv i e)) :=
  (pe_ix (ix_list.or ix_tup) (pe_var hN hv hd hcd) he (fun o i => by cases ee <;> first | rfl | cases hs)).imp fun σ H Q h => by
    obtain ⟨B, M, env, d, env', s, ev, q⟩ := h
    obtain ⟨k, x, y, h0, h1, h2, h3⟩ := ev_ixv ev
    obtain ⟨v, hσ, _⟩ := s.seq h0
    refine ⟨v, hσ, B, M, env, k, env', s, h1, fun w H1 B1 M1 s1 r1 n1 => ?_⟩
    obtain ⟨v', e', c⟩ := s1.seq h2
    rw [hσ] at e'; cases e'
    rcases c with ⟨xs, a, vs, rfl, rfl, c1, c2⟩ | ⟨xs, a, vs, rfl, rfl, c1, c2⟩ | ⟨c1, c2, _⟩
    · cases k <;> simp only [opIx, reduceCtorEq] at h3
      cases r1
      obtain ⟨z, z1, z2⟩ := atI_rep c2 h3
      exact .inl ⟨a, vs, _, z, rfl, rfl, .inl (.inl c1), z1, q z H1 B1 M1 s1 z2 n1⟩
    · cases k <;> simp only [opIx, reduceCtorEq] at h3
      cases r1
      obtain ⟨z, z1, z2⟩ := atI_rep c2 h3
      exact .inr ⟨a, vs, _, z, rfl, rfl, hK ▸ c1, z1, q z H1 B1 M1 s1 z2 n1⟩
    · rename_i c3
      cases x with
      | scr ns =>
        obtain ⟨a, rfl, c3⟩ := c3
        cases k <;> simp only [opIx, reduceCtorEq] at h3
        cases r1
        rw [Option.map_eq_some_iff] at h3
        obtain ⟨z, h3, rfl⟩ := h3
        exact .inl ⟨a, _, _, _, rfl, rfl, hK ▸ c3.sq, atI_map h3, q _ H1 B1 M1 s1 rfl n1⟩
      | lst xs => exact absurd rfl (c1 xs)
      | tup xs => exact absurd rfl (c2 xs)
      | _ => simp [opIx] at h3
theorem ev_lenv {i} (h : evE F (.lenv i) env = some (d, env')) : ∃ x, Mn.peek env i = some x ∧ opF .len [x] = some d ∧ env' = env := by
  rw [evE] at h
  obtain ⟨x, h2, h⟩ := bind_some h
  obtain ⟨r, h3, h⟩ := bind_some h
  cases h
  exact ⟨x, h2, h3, rfl⟩
theorem r_lenv {i : Nat} {x : PySem.Str} {p p2 pos : Pos} (hK : X.K = C.K) (hg : Gl X "len") (hm : X.mg "len" = none) (hN : X.N[i]? = some x) (hv : Vis X.env.scope x) (hd : (x == ("__debug__" : PySem.Str)) = false) (hcd : (x == ("__classdict__" : PySem.Str)) = false) :
    PE X (.Call (.Name "len" p) [.Name x p2] [] pos) (tE C (.lenv i)) :=
  (pe_callB call_len hg hm PySem.boot_len (pa_cons (pe_var hN hv hd hcd) pa_nil)).imp fun σ H Q h => by
    obtain ⟨B, M, env, d, env', s, ev, q⟩ := h
    obtain ⟨x, h2, h3, e5⟩ := ev_lenv ev
    subst e5
    obtain ⟨v, e', c⟩ := s.seq h2
    refine ⟨v, e', ?_⟩
    rcases c with ⟨xs, a, vs, rfl, rfl, c1, c2⟩ | ⟨xs, a, vs, rfl, rfl, c1, c2⟩ | ⟨c1, c2, c3⟩
    · cases h3
      exact ⟨_, vs.length, rfl, .inl ⟨vs, .inl (.inl c1), rfl⟩, by rw [c2.len]; exact q _ H B M s rfl (Nx.refl _ _ _)⟩
    · cases h3
      exact ⟨_, vs.length, rfl, .inr ⟨vs, hK ▸ c1, rfl⟩, by rw [c2.len]; exact q _ H B M s rfl (Nx.refl _ _ _)⟩
    · cases x with
      | str z =>
        cases c3
        simp only [opF, Option.ite_none_right_eq_some, Option.some.injEq] at h3
        obtain ⟨h4, rfl⟩ := h3
        exact ⟨_, _, rfl, ⟨Nat.le_trans h4 lim_le, rfl⟩, q _ H B M s rfl (Nx.refl _ _ _)⟩
      | lst xs => exact absurd rfl (c1 xs)
      | tup xs => exact absurd rfl (c2 xs)
      | scr ns =>
        obtain ⟨a, rfl, c3⟩ := c3
        cases h3
        exact ⟨_, _, rfl, .inl ⟨_, hK ▸ c3.sq, rfl⟩, by rw [List.length_map]; exact q _ H B M s rfl (Nx.refl _ _ _)⟩
      | _ => simp [opF] at h3
theorem RepL.erase : ∀ {ds : List D} {vs : List V} {j : Nat} {K : PySem.W.Frag} {H : Hp} {B : AP'}, RepL K H B ds vs → RepL K H B (ds.eraseIdx j) (vs.eraseIdx j)
  | [], vs, j, K, H, B, h => by
    have : vs = [] := by have := h.len; exact List.eq_nil_of_length_eq_zero this
    subst this
    exact RepL.nil
  | d :: ds, vs, j, K, H, B, h => by
    obtain ⟨v, r, rfl, h1, h2⟩ := h
    cases j with
    | zero => exact h2
    | succ j => exact RepL.cons h1 (RepL.erase (j := j) h2)
theorem ev_popv {i : Nat} {e : Ex} (h : evE F (.popv i e) env = some (d, env')) : ∃ ys k e1 xs j, mutS env i = some ys ∧ evE F e env = some (.int k, e1) ∧ mutS e1 i = some xs ∧ ixN xs.length k = some j ∧ xs[j]? = some d ∧ wi 62 k = true ∧ env' = setM e1 i (xs.eraseIdx j) := by
  rw [evE] at h
  obtain ⟨ys, g0, h⟩ := bind_some h
  obtain ⟨⟨x, e1⟩, g1, h⟩ := bind_some h
  cases x <;> first | (cases h; done) | skip
  rename_i k
  have h : popJ e1 i k = some (d, env') := h
  unfold popJ at h
  obtain ⟨xs, g2, h⟩ := bind_some h
  obtain ⟨j, g3, h⟩ := bind_some h
  obtain ⟨d', g4, h⟩ := bind_some h
  split at h
  · cases h; exact ⟨ys, k, e1, xs, j, g0, g1, g2, g3, g4, by assumption, rfl⟩
  · cases h
theorem r_popv {i : Nat} {x : Ex} {y : PySem.Str} {py ap cp : Pos} {e : Expr} (hN : X.N[i]? = some y) (hv : Vis X.env.scope y) (hd : (y == ("__debug__" : PySem.Str)) = false) (hcd : (y == ("__classdict__" : PySem.Str)) = false) (hn : nst e = true) (hline : (ap.endLine == cp.line) = true) (he : PE X e (tE C x)) :
    PE X (.Call (.Attribute (.Name y py) "pop" ap) [e] [] cp) (tE C (.popv i x)) :=
  (pe_bm PySem.F.plainAttrs_list PySem.F.slot_list_pop PySem.F.type_list_pop mt_popAt (pe_var hN hv hd hcd) (pa_cons he pa_nil (star_cons hn)) rfl (by rw [star_cons hn]; rfl) hline (star_cons hn) rfl).imp fun σ H Q h => by
    obtain ⟨B, M, env, d, env', s, ev, q⟩ := h
    obtain ⟨ys, k, e1, zs, j, g0, g1, g2, g3, g4, g5, rfl⟩ := ev_popv ev
    obtain ⟨a, vs, c1, c2, c3, c4⟩ := s.mut g0
    refine ⟨.ref a, c1, .inl ⟨rfl, vs, .inl (.inl c2)⟩, B, M, env, _, e1, s, g1, fun v H1 B1 M1 s1 r1 n1 => ?_⟩
    cases r1
    obtain ⟨a', ws, k1, k2, k3, k4⟩ := s1.mut g2
    rw [c1] at k1; cases k1
    obtain ⟨q1, q2, q3, q4⟩ := ixN_seq g3
    obtain ⟨w, hw, rw'⟩ := k3.get g4
    have kb := wi_lt g5 (by decide)
    have hk : -(2 ^ 63) ≤ k ∧ k < 2 ^ 63 := by
      have : ((2 ^ 62 : Nat) : Int) = 4611686018427387904 := by decide
      have : (2 : Int) ^ 63 = 9223372036854775808 := by decide
      omega
    obtain ⟨s2, n2⟩ := s1.setM g2 c1 (k3.erase (j := j)) ⟨ws, k2⟩
    exact ⟨a, ws, k, j, w, rfl, rfl, k2, hk.1, hk.2, by rw [k3.len]; exact q1, hw, q w _ B1 M1 s2 (Rep.nx s1.bl s1.mb n2 _ _ rw') (n1.trans n2)⟩
/-- list(x): a new list -/
theorem r_listN {p pos : Pos} {a : Expr} {args : List Expr} {es : Ex} (hK : X.K = C.K) (hg : Gl X ("list" : PySem.Str)) (hm : X.mg "list" = none)
    (h1 : nst a = true) (h2 : args.all nst = true) (ha : PA X (a :: args) (tL C es)) : PE X (.Call (.Name "list" p) (a :: args) [] pos) (tN C (.blt .list es)) :=
  (pe_callTy call_list_of hg hm (by decide +kernel) ha (by decide) (by decide) (star_cons h1) (star_any h2)).imp fun σ H Q h => by
    obtain ⟨B, M, env, xs, env', s, e, q⟩ := h
    obtain ⟨ds, g1, g2⟩ := ev_blt e
    refine ⟨B, M, env, ds, env', s, g1, fun vs H1 B1 M1 s1 r1 n1 => ?_⟩
    unfold opF at g2
    split at g2 <;> simp only [reduceCtorEq, Option.some.injEq, D.lst.injEq] at *
    all_goals obtain ⟨v, rfl, r⟩ := r1.one
    · obtain ⟨a, ws, rfl, k1, _, g⟩ := r; subst g2
      exact ⟨a, ws, rfl, .inl (.inl (.inl k1)), fun l hl => new_list s1 g n1 hl q⟩
    · obtain ⟨a, ws, rfl, k1, g⟩ := r; subst g2
      exact ⟨a, ws, rfl, .inr (hK ▸ k1), fun l hl => new_list s1 g n1 hl q⟩
end Mn
namespace Mn
open PySem L2 RZ
variable {C : Ctx} {X : Cx} {F : FT} {env env' : Env} {d : D}
/-! ### slices -/
theorem _root_.L2.PO.imp {X : Cx} {e : Option Expr} {t t' : TO} (h : PO X e t) (i : ∀ σ H Q, t' σ H Q → t σ H Q) : PO X e t' := ⟨fun pins s σ H Q I q => h.run pins s σ H Q I (i σ H Q q)⟩
def tO (C : Ctx) (x : Ex) : TO := fun σ H Q => ∃ B M env o env', Sim C H B M σ env ∧ evO C.F x env = some (o, env') ∧ ∀ H' B' M', Sim C H' B' M' σ env' → Nx H B M H' B' M' → Q o H'
theorem r_onone : PO X none (tO C .nil) := po_none.imp fun σ H Q h => by
  obtain ⟨B, M, env, k, env', s, e, q⟩ := h
  rw [evO] at e; cases e
  exact q H B M s (Nx.refl _ _ _)
theorem r_osome {a : Ex} {ea : Expr} (ha : PE X ea (tE C a)) : PO X (some ea) (tO C (.tval a)) := (po_some ha).imp fun σ H Q h => by
  obtain ⟨B, M, env, k, env', s, e, q⟩ := h
  rw [evO] at e
  obtain ⟨⟨x, e1⟩, h1, h⟩ := bind_some e
  cases x <;> first | (cases h; done) | skip
  cases h
  refine ⟨B, M, env, _, _, s, h1, fun v H1 B1 M1 s1 r1 n1 => ?_⟩
  cases r1
  exact ⟨_, rfl, q H1 B1 M1 s1 n1⟩
theorem ev_slc {a lo hi} (h : evE F (.slc a lo hi) env = some (d, env')) : ∃ x e1 l e2 u, evE F a env = some (x, e1) ∧ evO F lo e1 = some (l, e2) ∧ evO F hi e2 = some (u, env') ∧ opSl x l u = some d := by
  rw [evE] at h
  obtain ⟨⟨x, e1⟩, h1, h⟩ := bind_some h
  obtain ⟨⟨l, e2⟩, h2, h⟩ := bind_some h
  obtain ⟨⟨u, e3⟩, h3, h⟩ := bind_some h
  obtain ⟨r, h4, h⟩ := bind_some h
  cases h
  exact ⟨x, e1, l, e2, u, h1, h2, h3, h4⟩
theorem RepL.cut {K : PySem.W.Frag} {H : Hp} {B : AP'} {xs : List D} {vs : List V} (g : RepL K H B xs vs) (l h : Option Int) : RepL K H B (cutD xs l h) (cutV vs l h) := by
  unfold cutD cutV
  rw [g.len]
  exact (g.drop _).take _
theorem RepL.ints {K : PySem.W.Frag} {H : Hp} {B : AP'} : ∀ ns : List Int, RepL K H B (ns.map D.int) (ns.map V.int)
  | [] => rfl
  | i :: r => ⟨_, _, rfl, rfl, RepL.ints r⟩
theorem r_slc {a lo hi : Ex} {ea : Expr} {el eh : Option Expr} {p2 pos : Pos} (hK : X.K = C.K) (ha : PE X ea (tE C a)) (hl : PO X el (tO C lo)) (hh : PO X eh (tO C hi)) : PE X (.Subscript ea (.Slice el eh none p2) pos) (tE C (.slc a lo hi)) :=
  (pe_slice ((sl_list.or sl_tupA).or sl_str) ha hl hh).imp fun σ H Q h => by
    obtain ⟨B, M, env, d, env', s, e, q⟩ := h
    obtain ⟨x, e1, l, e2, u, h1, h2, h3, h4⟩ := ev_slc e
    refine ⟨B, M, env, x, e1, s, h1, fun v H1 B1 M1 s1 r1 n1 => ⟨B1, M1, e1, l, e2, s1, h2, fun H2 B2 M2 s2 n2 => ⟨B2, M2, e2, u, env', s2, h3, fun H3 B3 M3 s3 n3 => ?_⟩⟩⟩
    have r3 := Rep.nx s2.bl s2.mb n3 _ _ (Rep.nx s1.bl s1.mb n2 _ _ r1)
    have n := (n1.trans n2).trans n3
    unfold opSl at h4
    split at h4
    · cases h4
      obtain ⟨b, vs, rfl, c1, _, g⟩ := r3
      refine .inl (.inl ⟨b, vs, rfl, .inl (.inl c1), fun p hp => q _ _ B3 M3 (s3.al (Al.new hp)) ⟨p, _, rfl, upd_same, fun z => ?_, (g.cut l u).al s3.bl (Al.new hp)⟩ (n.trans (Al.new hp).nx)⟩)
      obtain ⟨_, z⟩ := s3.bl _ z; rw [hp] at z; cases z
    · cases h4
      obtain ⟨b, vs, rfl, c1, g⟩ := r3
      refine .inl (.inr ⟨b, vs, rfl, hK ▸ c1, fun w => q _ H3 B3 M3 s3 ⟨b, vs, rfl, c1, ?_⟩ n, fun _ p hp => q _ _ B3 M3 (s3.al (Al.new hp)) ⟨p, _, rfl, .inl (.inl upd_same), (g.cut l u).al s3.bl (Al.new hp)⟩ (n.trans (Al.new hp).nx)⟩)
      have := g.cut l u
      unfold cutV at this
      rw [w.1, w.2] at this
      simpa using this
    · cases h4
      obtain ⟨b, rfl, c1⟩ := r3
      refine .inl (.inl ⟨b, _, rfl, hK ▸ c1.sq, fun p hp => q _ _ B3 M3 (s3.al (Al.new hp)) ⟨p, _, rfl, upd_same, fun z => ?_, ((RepL.ints _).cut l u).al s3.bl (Al.new hp)⟩ (n.trans (Al.new hp).nx)⟩)
      obtain ⟨_, z⟩ := s3.bl _ z; rw [hp] at z; cases z
    · cases r3
      simp only [Option.ite_none_right_eq_some, Option.some.injEq] at h4
      obtain ⟨h5, rfl⟩ := h4
      exact .inr ⟨_, rfl, Nat.le_trans h5 lim_le, q _ H3 B3 M3 s3 rfl n⟩
    · cases h4
/-! ### arguments -/
def ArL (K : PySem.W.Frag) (H : Hp) (B : AP') (σ : L2.St) : List Ar → List V → Prop
  | [], vs => vs = []
  | .v d :: r, vs => ∃ v t, vs = v :: t ∧ Rep K H B d v ∧ ArL K H B σ r t
  | .r i :: r, vs => ∃ v t, vs = v :: t ∧ σ[i]? = some (some v) ∧ ArL K H B σ r t
def tA (C : Ctx) (x : Ex) : TA := fun σ H Q => ∃ B M env as env', Sim C H B M σ env ∧ evA C.F x env = some (as, env') ∧
  ∀ vs H' B' M', Sim C H' B' M' σ env' → ArL C.K H' B' σ as vs → Nx H B M H' B' M' → Q vs H'
theorem r_anil : PA X [] (tA C .nil) := pa_nil.imp fun σ H Q h => by
  obtain ⟨B, M, env, d, env', s, e, q⟩ := h
  rw [evA] at e; cases e
  exact q [] H B M s rfl (Nx.refl _ _ _)
theorem ev_acons {e es} {ds : List Ar} (h : evA F (.cons e es) env = some (ds, env')) : ∃ x e1 xs, evAr F e env = some (x, e1) ∧ evA F es e1 = some (xs, env') ∧ ds = x :: xs := by
  rw [evA] at h
  obtain ⟨⟨x, e1⟩, h1, h⟩ := bind_some h
  obtain ⟨⟨xs, e2⟩, h2, h⟩ := bind_some h
  cases h
  exact ⟨x, e1, xs, h1, h2, rfl⟩
theorem r_acons {e es : Ex} {x : Expr} {xs : List Expr} (hn : nst x = true) (he : PE X x (tE C e)) (hs : PA X xs (tA C es)) : PA X (x :: xs) (tA C (.cons (.tval e) es)) :=
  (pa_cons he hs (star_cons hn)).imp fun σ H Q h => by
    obtain ⟨B, M, env, ds, env', s, e, q⟩ := h
    obtain ⟨x, e1, xs, h1, h2, rfl⟩ := ev_acons e
    rw [evAr] at h1
    obtain ⟨⟨y, e3⟩, h1, h⟩ := bind_some h1
    cases h
    refine ⟨B, M, env, y, e1, s, h1, fun v H1 B1 M1 s1 r1 n1 => ⟨B1, M1, e1, xs, env', s1, h2, fun vs H2 B2 M2 s2 r2 n2 => ?_⟩⟩
    exact q _ H2 B2 M2 s2 ⟨v, vs, rfl, Rep.nx s1.bl s1.mb n2 _ _ r1, r2⟩ (n1.trans n2)
theorem r_acons_ref {i : Nat} {y : PySem.Str} {p : Pos} {es : Ex} {xs : List Expr} (hN : X.N[i]? = some y) (hv : Vis X.env.scope y) (hd : (y == ("__debug__" : PySem.Str)) = false) (hcd : (y == ("__classdict__" : PySem.Str)) = false) (hs : PA X xs (tA C es)) :
    PA X (.Name y p :: xs) (tA C (.cons (.ref i) es)) :=
  (pa_cons (pe_var hN hv hd hcd) hs rfl).imp fun σ H Q h => by
    obtain ⟨B, M, env, ds, env', s, e, q⟩ := h
    obtain ⟨x, e1, xs, h1, h2, rfl⟩ := ev_acons e
    rw [evAr] at h1
    obtain ⟨z, h0, h1⟩ := bind_some h1
    cases h1
    obtain ⟨a, ws, e5, _⟩ := s.mut h0
    exact ⟨_, e5, B, M, env, xs, env', s, h2, fun vs H2 B2 M2 s2 r2 n2 => q _ H2 B2 M2 s2 ⟨_, vs, rfl, e5, r2⟩ n2⟩
/-! ### calls of defs -/
theorem perm_len {α : Type} : ∀ {xs ys : List α} {pm : List Nat}, permA xs pm = some ys → ys.length = pm.length
  | _, _, [], h => by cases h; rfl
  | xs, ys, i :: is, h => by
    unfold permA at h
    obtain ⟨x, h1, h⟩ := bind_some h
    obtain ⟨r, h2, h⟩ := bind_some h
    cases h
    simp [perm_len h2]
theorem ArL.get {K : PySem.W.Frag} {H : Hp} {B : AP'} {σ : L2.St} : ∀ {as : List Ar} {vs : List V} {i : Nat} {a : Ar}, ArL K H B σ as vs → as[i]? = some a → ∃ v, vs[i]? = some v ∧ (match a with | .v d => Rep K H B d v | .r j => σ[j]? = some (some v))
  | [], _, _, _, _, e => by simp at e
  | .v d :: r, _, 0, a, h, e => by obtain ⟨v, t, rfl, q, _⟩ := h; cases e; exact ⟨v, rfl, q⟩
  | .r j :: r, _, 0, a, h, e => by obtain ⟨v, t, rfl, q, _⟩ := h; cases e; exact ⟨v, rfl, q⟩
  | .v d :: r, _, i + 1, a, h, e => by
    obtain ⟨v, t, rfl, _, q⟩ := h
    obtain ⟨w, e1, q1⟩ := ArL.get (i := i) q (by simpa using e)
    exact ⟨w, by simpa using e1, q1⟩
  | .r d :: r, _, i + 1, a, h, e => by
    obtain ⟨v, t, rfl, _, q⟩ := h
    obtain ⟨w, e1, q1⟩ := ArL.get (i := i) q (by simpa using e)
    exact ⟨w, by simpa using e1, q1⟩
theorem ArL.perm {K : PySem.W.Frag} {H : Hp} {B : AP'} {σ : L2.St} {as : List Ar} {vs : List V} (h : ArL K H B σ as vs) : ∀ {pm : List Nat} {bs : List Ar}, permA as pm = some bs → ∃ ws, permA vs pm = some ws ∧ ArL K H B σ bs ws
  | [], bs, e => by cases e; exact ⟨[], rfl, rfl⟩
  | i :: is, bs, e => by
    unfold permA at e
    obtain ⟨x, h1, e⟩ := bind_some e
    obtain ⟨r, h2, e⟩ := bind_some e
    cases e
    obtain ⟨v, e1, q1⟩ := h.get h1
    obtain ⟨ws, e2, q2⟩ := ArL.perm h h2
    refine ⟨v :: ws, by unfold permA; rw [e1]; simp [e2], ?_⟩
    cases x <;> exact ⟨v, ws, rfl, q1, q2⟩
theorem perm_range {α : Type} (xs : List α) : permA xs (List.range xs.length) = some xs := by
  have h : ∀ (ys zs : List α), permA (ys ++ zs) ((List.range zs.length).map (· + ys.length)) = some zs := by
    intro ys zs
    induction zs generalizing ys with
    | nil => rfl
    | cons z zs ih =>
      rw [List.length_cons, List.range_succ_eq_map, List.map_cons, List.map_map]
      unfold permA
      have e1 : (ys ++ z :: zs)[0 + ys.length]? = some z := by simp
      rw [e1]
      have e2 := ih (ys ++ [z])
      rw [List.append_assoc, List.length_append, List.length_singleton] at e2
      have e3 : ((fun x => x + ys.length) ∘ Nat.succ) = (fun x => x + (ys.length + 1)) := by funext x; simp; omega
      rw [e3]
      have e4 : [z] ++ zs = z :: zs := rfl
      rw [e4] at e2
      rw [e2]
      rfl
  have := h [] xs
  simpa using this
/-- the arguments as the callee takes them -/
theorem argS_rel {H : Hp} {B M : AP'} {σ : L2.St} (s : Sim C H B M σ env) : ∀ {as : List Ar} {ss : List Sl} {vs : List V}, argS env as = some ss → ArL C.K H B σ as vs →
    ∃ ps, ArgR C.K H B ss vs ps ∧ RefR σ (refs as) ps ∧ ∀ i ∈ refs as, mutS env i ≠ none
  | [], ss, vs, e, h => by
    cases e; rw [show vs = [] from h]; exact ⟨[], ⟨rfl, rfl⟩, rfl, fun _ z => nomatch z⟩
  | .v d :: r, ss, vs, e, h => by
    obtain ⟨v, t, rfl, q, h⟩ := h
    simp only [argS, Option.map_eq_some_iff] at e
    obtain ⟨ts, e, rfl⟩ := e
    obtain ⟨ps, h1, h2, h3⟩ := argS_rel s e h
    exact ⟨ps, ⟨v, t, rfl, q, h1⟩, h2, h3⟩
  | .r i :: r, ss, vs, e, h => by
    obtain ⟨v, t, rfl, q, h⟩ := h
    unfold argS at e
    obtain ⟨xs, e1, e⟩ := bind_some e
    obtain ⟨ts, e2, e⟩ := bind_some e
    cases e
    obtain ⟨ps, h1, h2, h3⟩ := argS_rel s e2 h
    obtain ⟨a, ws, g1, g2, g3, g4⟩ := s.mut e1
    rw [q] at g1; cases g1
    refine ⟨a :: ps, ⟨a, t, ps, ws, rfl, rfl, g2, g3, s.mb a g4, h1⟩, ⟨a, ps, rfl, q, h2⟩, fun j hj => ?_⟩
    rcases List.mem_cons.mp hj with rfl | hj
    · rw [e1]; exact fun z => nomatch z
    · exact h3 j hj
theorem RefR.nodup {H : Hp} {B M : AP'} {σ : L2.St} (s : Sim C H B M σ env) : ∀ {is : List Nat} {ps : List Addr}, RefR σ is ps → is.Nodup → (∀ i ∈ is, mutS env i ≠ none) → ps.Nodup
  | [], _, h, _, _ => by rw [show _ = _ from h]; exact List.nodup_nil
  | i :: is, _, h, nd, hm => by
    obtain ⟨a, t, rfl, h1, h2⟩ := h
    have nd2 := List.nodup_cons.mp nd
    refine List.nodup_cons.mpr ⟨fun z => ?_, RefR.nodup s h2 nd2.2 fun j hj => hm j (List.mem_cons_of_mem _ hj)⟩
    obtain ⟨j, hj, e⟩ := h2.get' z
    cases m1 : mutS env i with
    | none => exact hm i List.mem_cons_self m1
    | some xs =>
      cases m2 : mutS env j with
      | none => exact hm j (List.mem_cons_of_mem _ hj) m2
      | some ys =>
        have := s.inj i j xs ys a m1 m2 h1 e
        exact nd2.1 (this ▸ hj)
theorem ev_call {f pm es} (h : evE F (.call f pm es) env = some (d, env')) : ∃ as e1 bs ss outs, evA F es env = some (as, e1) ∧ permA as pm = some bs ∧ (refs bs).Nodup ∧ argS e1 bs = some ss ∧ F f ss = some (d, outs) ∧ putBack (refs bs) outs e1 = some env' := by
  rw [evE] at h
  obtain ⟨⟨as, e1⟩, h1, h⟩ := bind_some h
  obtain ⟨bs, h2, h⟩ := bind_some h
  split at h
  · obtain ⟨ss, h3, h⟩ := bind_some h
    obtain ⟨⟨d', outs⟩, h4, h⟩ := bind_some h
    obtain ⟨e2, h5, h⟩ := bind_some h
    cases h
    exact ⟨as, e1, bs, ss, outs, h1, h2, by assumption, h3, h4, h5⟩
  · cases h
theorem ev_calln {f g es} (h : evE F (.calln f g es) env = some (d, env')) : ∃ ds xs ys, evL F es env = some (ds, env') ∧ F g (ds.map Sl.val) = some (.lst xs, []) ∧ F f [.par xs] = some (d, [ys]) := by
  rw [evE] at h
  obtain ⟨⟨ds, e1⟩, h1, h⟩ := bind_some h
  obtain ⟨⟨r, os⟩, h2, h⟩ := bind_some h
  simp only at h
  split at h
  · obtain ⟨⟨r', outs⟩, h3, h⟩ := bind_some h
    simp only at h
    split at h
    · cases h
      exact ⟨ds, _, _, h1, h2, h3⟩
    · cases h
  · cases h
theorem ev_lrng {a} (h : evE F (.lrng a) env = some (d, env')) : ∃ n : Int, evE F a env = some (.int n, env') ∧ -1000000 < n ∧ n < 1000000 ∧ d = .lst (ran n.toNat) := by
  rw [evE] at h
  obtain ⟨⟨x, e1⟩, h1, h⟩ := bind_some h
  simp only at h
  split at h
  · split at h
    · cases h
      rename_i hq
      have h2 := wi_lt hq (by decide)
      exact ⟨_, h1, by omega, by omega, rfl⟩
    · cases h
  · cases h
/-- what the callee is asked, and what is known behind it -/
theorem call_sp {f : PySem.Str} {n : Nat} {pm : List Nat} {as bs : List Ar} {ss : List Sl} {outs : List (List D)} {H0 H : Hp} {B0 M0 B M : AP'} {σ : L2.St} {vs ws : List V} {Q : VK} {E : XK} (s : Sim C H B M σ env) (ar : ArL C.K H B σ as vs) (hp : permA as pm = some bs) (hn : pm.length = n) (nd : (refs bs).Nodup)
    (ha : argS env bs = some ss) (hf : C.F f ss = some (d, outs)) (pb : putBack (refs bs) outs env = some env') (n0 : Nx H0 B0 M0 H B M) (hw : permA vs pm = some ws)
    (q : ∀ v H' B' M', Sim C H' B' M' σ env' → Rep C.K H' B' d v → Nx H0 B0 M0 H' B' M' → Q v H') : spF C.K C.F f n ws H Q E := by
  obtain ⟨ws', e, ar2⟩ := ar.perm hp
  rw [hw] at e; cases e
  obtain ⟨ps, h1, h2, h3⟩ := argS_rel s ha ar2
  refine ⟨B, ss, ps, d, outs, s.bl, h1, h2.nodup s nd h3, by rw [perm_len hw]; exact hn, hf, fun v H' r o keep al => ?_⟩
  obtain ⟨s', nx⟩ := s.out nd h3 h2 o keep al pb
  exact q v H' B M s' r (n0.trans nx)
theorem ev_rev {a} (h : evE F (.rev a) env = some (d, env')) : ∃ xs, evE F a env = some (.tup xs, env') ∧ d = .tup xs.reverse := by
  rw [evE] at h
  obtain ⟨⟨x, e1⟩, h1, h⟩ := bind_some h
  cases x <;> simp at h
  obtain ⟨rfl, rfl⟩ := h
  exact ⟨_, h1, rfl⟩
theorem RepL.rev {K : PySem.W.Frag} {H : Hp} {B : AP'} : ∀ {xs : List D} {vs : List V}, RepL K H B xs vs → RepL K H B xs.reverse vs.reverse
  | [], vs, h => by rw [show vs = [] from h]; rfl
  | x :: xs, vs, h => by
    obtain ⟨v, t, rfl, r, g⟩ := h
    rw [List.reverse_cons, List.reverse_cons]
    exact (RepL.rev g).app ⟨v, [], rfl, r, rfl⟩
theorem r_rev {a : Ex} {ea : Expr} {k p2 p3 p4 pos} (hK : X.K = C.K) (ha : PE X ea (tE C a)) : PE X (.Subscript ea (.Slice none none (some (.UnaryOp .USub (.Constant (.int 1) k p3) p4)) p2) pos) (tE C (.rev a)) := by
  have hc : PO X (some (.UnaryOp .USub (.Constant (.int 1) k p3) p4)) (fun _ H Q => Q (some (-1)) H) := by
    have h := po_some (X := X) (pe_un (un_neg (X := X)) (pe_int (X := X) (i := 1) (j := k) (pos := p3)) (pos := p4))
    refine ⟨fun pins s σ H Q I q => h.run pins s σ H Q I ?_⟩
    exact ⟨1, rfl, -1, rfl, q⟩
  refine (pe_rev ha hc).imp fun σ H Q h => ?_
  obtain ⟨B, M, env, d, env', s, e, q⟩ := h
  obtain ⟨xs, h1, rfl⟩ := ev_rev e
  refine ⟨B, M, env, _, env', s, h1, fun v H1 B1 M1 s1 r1 n1 => ?_⟩
  obtain ⟨b, vs, rfl, c1, g⟩ := r1
  exact ⟨b, vs, rfl, hK ▸ c1, fun p hp => q _ _ B1 M1 (s1.al (Al.new hp)) ⟨p, _, rfl, .inl (.inl upd_same), g.rev.al s1.bl (Al.new hp)⟩ (n1.trans (Al.new hp).nx)⟩
end Mn
namespace Mn
open PySem L2 RZ
variable {C : Ctx} {X : Cx} {F : FT} {env env' : Env} {d : D} {G : GS} {lv : Nat} {N : List PySem.Str} {sc : Scope}
theorem nmOk (x : XOk X C G lv N sc) {i : Nat} {y : PySem.Str} (h : nm N sc i y = true) : X.N[i]? = some y ∧ Vis X.env.scope y ∧ (y == ("__debug__" : PySem.Str)) = false ∧ (y == ("__classdict__" : PySem.Str)) = false := by
  unfold nm okN at h
  simp only [Bool.and_eq_true, decide_eq_true_eq, Bool.not_eq_true'] at h
  exact ⟨by rw [x.n]; exact h.1.1, x.vis _ h.1.2, h.2.1.1, h.2.1.2⟩
theorem okN_of {y : PySem.Str} (h : okN y = true) : (y == ("__debug__" : PySem.Str)) = false ∧ (y == ("__classdict__" : PySem.Str)) = false ∧ y ≠ "__name__" := by
  unfold okN at h
  simp only [Bool.and_eq_true, Bool.not_eq_true', beq_eq_false_iff_ne, ne_eq] at h
  exact ⟨by simpa using h.1.1, by simpa using h.1.2, h.2⟩
theorem XOk.hu (x : XOk X C G lv N sc) : X.A.units + 64 < cLine := x.room.units
/-! ### calls -/
theorem r_call {f : PySem.Str} {n : Nat} {kf : List (Nat × List PySem.Str × List Nat)} {a : Expr} {args : List Expr} {es : Ex} {p pos : Pos} (x : XOk X C G lv N sc) (hf : G.fn.lookup f = some (n, kf)) (hg : Gl X f) (hd : (f == ("__debug__" : PySem.Str)) = false) (hl : (a :: args).length = n) (h1 : nst a = true) (h2 : args.all nst = true)
    (ha : PA X (a :: args) (tA C es)) (hlen : ∀ env as env', evA C.F es env = some (as, env') → as.length = (a :: args).length) : PE X (.Call (.Name f p) (a :: args) [] pos) (tE C (.call f (List.range (a :: args).length) es)) := by
  obtain ⟨fa, fd, ps, m1, k1, F1, l1, b1, _⟩ := (x.fn f n kf hf).ex
  refine (pe_callG F1 x.qt x.room hg m1 k1 b1 ha hd (star_cons h1) (star_any h2)).imp fun σ H Q h => ?_
  obtain ⟨B, M, env, d, env', s, e, q⟩ := h
  obtain ⟨as, e1, bs, ss, outs, g1, g2, g3, g4, g5, g6⟩ := ev_call e
  refine ⟨B, M, env, as, e1, s, g1, fun vs H1 B1 M1 s1 r1 n1 => ?_⟩
  have hal := hlen _ _ _ g1
  have hvl : vs.length = (a :: args).length := by
    obtain ⟨ws, e5, _⟩ := r1.perm g2
    have := perm_range as
    rw [hal] at this
    rw [this] at g2; cases g2
    have : ∀ {as : List Ar} {vs : List V}, ArL C.K H1 B1 σ as vs → vs.length = as.length := by
      intro as; induction as with
      | nil => intro vs h; rw [show vs = [] from h]; rfl
      | cons y r ih => intro vs h; cases y <;> (obtain ⟨v, t, rfl, _, h⟩ := h; simp [ih h])
    rw [this r1, hal]
  have hw : permA vs (List.range (a :: args).length) = some vs := by rw [← hvl]; exact perm_range vs
  show spF X.K C.F f n vs H1 Q E0
  rw [x.K]
  exact call_sp s1 r1 g2 (by rw [List.length_range]; exact hl) g3 g4 g5 g6 n1 hw q
theorem argR_vals {K : PySem.W.Frag} {H : Hp} {B : AP'} : ∀ {ds : List D} {vs : List V}, RepL K H B ds vs → ArgR K H B (ds.map Sl.val) vs []
  | [], vs, h => ⟨h, rfl⟩
  | d :: r, vs, h => by
    obtain ⟨v, t, rfl, g, q⟩ := h
    exact ⟨v, t, rfl, g, argR_vals q⟩
theorem RepL.ran {K : PySem.W.Frag} {H : Hp} {B : AP'} (n : Nat) : RepL K H B (Mn.ran n) ((List.range n).map fun (k : Nat) => V.int k) := by
  unfold Mn.ran
  induction List.range n with
  | nil => rfl
  | cons x r ih => exact ⟨_, _, rfl, rfl, ih⟩
theorem r_lrng {a : Expr} {e : Ex} {p q pos pos2 : Pos} (x : XOk X C G lv N sc) (hg : Gl X "list") (hm : X.mg "list" = none) (hg2 : Gl X "range") (hm2 : X.mg "range" = none) (h1 : nst a = true) (ha : PE X a (tE C e)) :
    PE X (.Call (.Name "list" p) [.Call (.Name "range" q) [a] [] pos2] [] pos) (tE C (.lrng e)) := by
  refine (pe_callTy (cr_list_rng x.calm) hg hm (by decide +kernel) (pa_cons (pe_callTy cr_range1 hg2 hm2 (by decide +kernel) (pa_cons ha pa_nil (star_cons h1)) (by decide) (by decide) (star_cons h1) rfl) pa_nil rfl) (by decide) (by decide) rfl rfl).imp fun σ H Q h => ?_
  obtain ⟨B, M, env, d, env', s, e, q⟩ := h
  obtain ⟨n, g1, g2, g3, rfl⟩ := ev_lrng e
  refine ⟨B, M, env, _, _, s, g1, fun v H1 B1 M1 s1 r1 n1 => ⟨n, by rw [show v = V.int n from r1], fun r hr => ⟨r, n, rfl, upd_same, g2, g3, fun p hp => ?_⟩⟩⟩
  have a1 : Al H1 (upd (upd H1 r (.rng 0 n)) p (.lst ((List.range n.toNat).map fun (k : Nat) => V.int k))) := (Al.new hr).trans (Al.new hp)
  have hp1 : H1 p = none := upd_none hp
  refine q _ _ B1 M1 (s1.al a1) ⟨p, _, rfl, upd_same, fun z => ?_, RepL.ran _⟩ (n1.trans a1.nx)
  obtain ⟨_, z⟩ := s1.bl p z
  rw [hp1] at z; cases z
/-- f(g(..)), where g makes a list that f may change -/
theorem r_calln {f g : PySem.Str} {n : Nat} {kf : List (Nat × List PySem.Str × List Nat)} {a : Expr} {args : List Expr} {es : Ex} {p p2 pos pos2 : Pos} (x : XOk X C G lv N sc) (hf : G.fn.lookup f = some (n, kf)) (hn : n = 1) (hw : G.nw.lookup g = some (args.length + 1)) (hg : Gl X f) (hd : (f == ("__debug__" : PySem.Str)) = false) (hg2 : Gl X g) (hd2 : (g == ("__debug__" : PySem.Str)) = false) (h1 : nst a = true) (h2 : args.all nst = true)
    (ha : PA X (a :: args) (tL C es)) (hlen : ∀ env as env', evL C.F es env = some (as, env') → as.length = (a :: args).length) : PE X (.Call (.Name f p) [.Call (.Name g p2) (a :: args) [] pos2] [] pos) (tE C (.calln f g es)) := by
  obtain ⟨fa, fd, ps, m1, k1, F1, l1, b1, _⟩ := (x.fn f n kf hf).ex
  obtain ⟨fa2, fd2, ps2, m2, k2, F2, l2, b2⟩ := (x.nw g _ hw).ex
  refine (pe_callG F1 x.qt x.room hg m1 k1 b1 (pa_cons (pe_callG F2 x.qt x.room hg2 m2 k2 b2 ha hd2 (star_cons h1) (star_any h2)) pa_nil rfl) hd rfl rfl).imp fun σ H Q h => ?_
  obtain ⟨B, M, env, d, env', s, e, q⟩ := h
  obtain ⟨ds, xs, ys, g1, g2, g3⟩ := ev_calln e
  refine ⟨B, M, env, ds, env', s, g1, fun vs H1 B1 M1 s1 r1 n1 => ?_⟩
  show spN X.K C.F g _ vs H1 _ E0
  rw [x.K]
  refine ⟨B1, ds, xs, s1.bl, r1, by rw [r1.len, hlen _ _ _ g1, List.length_cons], g2, fun pp H2 ws hp hp2 rl keep al => ?_⟩
  show spF C.K C.F f n [V.ref pp] H2 Q E0
  have bl2 : BL H2 (ins pp B1) := fun b z => z.elim (fun e => ⟨.l ws, e ▸ hp2⟩) fun z => let ⟨us, e⟩ := s1.bl b z; ⟨us, keep b _ e⟩
  refine ⟨ins pp B1, [.par xs], [pp], d, [ys], bl2, ⟨pp, [], [], ws, rfl, rfl, hp2, rl, .inl rfl, rfl, rfl⟩, List.nodup_cons.2 ⟨by simp, List.nodup_nil⟩, by rw [hn]; rfl, g3, fun v H3 rv ro keep3 al3 => ?_⟩
  have a3 : Al H1 H3 := fun b o e => keep3 b o (keep b o e) (by
    intro z
    rw [List.mem_singleton] at z
    subst z
    rw [hp] at e; cases e)
  have bl3 : BL H3 (ins pp B1) := fun b z => by
    rcases z with rfl | z
    · obtain ⟨ws', e, _⟩ := ro.get (k := 0) rfl rfl
      exact ⟨.l ws', e⟩
    · obtain ⟨us, e⟩ := s1.bl b z
      exact ⟨us, a3 b _ e⟩
  exact q v H3 B1 M1 (s1.al a3) (rv.less bl3 fun a z => .inr z) (n1.trans a3.nx)
/-- the keywords of a call -/
theorem _root_.L2.PK.imp {X : Cx} {e : List Keyword} {t t' : TA} (h : PK X e t) (i : ∀ σ H Q, t' σ H Q → t σ H Q) : PK X e t' := ⟨fun p pins s σ H Q I q => h.run p pins s σ H Q I (i σ H Q q)⟩
theorem kw_all {env : PySem.Env} {pos : Pos} : ∀ {kws : List Keyword} {ks : List PySem.Str}, kwN kws = some ks → (backToKw pos (keywordEach kws env)).all (·.1.isSome) = true ∧ (backToKw pos (keywordEach kws env)).filterMap (·.1) = ks ∧ (backToKw pos (keywordEach kws env)).any (·.1.isNone) = false ∧ ks.length = kws.length
  | [], ks, h => by cases h; exact ⟨rfl, rfl, rfl, rfl⟩
  | ⟨none, _, _⟩ :: _, ks, h => by cases h
  | ⟨some n, v, p⟩ :: r, ks, h => by
    simp only [kwN, Option.map_eq_some_iff] at h
    obtain ⟨ms, h, rfl⟩ := h
    obtain ⟨h1, h2, h3, h4⟩ := kw_all (env := env) (pos := pos) h
    refine ⟨?_, ?_, ?_, ?_⟩
    · show (true && (backToKw pos (keywordEach r env)).all (·.1.isSome)) = true
      rw [h1]; rfl
    · show n :: (backToKw pos (keywordEach r env)).filterMap (·.1) = n :: ms
      rw [h2]
    · show (false || (backToKw pos (keywordEach r env)).any (·.1.isNone)) = false
      rw [h3]; rfl
    · simp [h4]
def takeX : Nat → Ex → Ex
  | 0, _ => .nil
  | n + 1, .cons e es => .cons e (takeX n es)
  | _ + 1, e => e
def dropX : Nat → Ex → Ex
  | 0, e => e
  | n + 1, .cons e es => dropX n es
  | _ + 1, e => e
theorem evA_split {as : List Ar} : ∀ {n : Nat} {es : Ex} {env : Env} {as : List Ar} {env' : Env}, evA F es env = some (as, env') → n ≤ as.length → ∃ a1 e1 a2, evA F (takeX n es) env = some (a1, e1) ∧ evA F (dropX n es) e1 = some (a2, env') ∧ as = a1 ++ a2
  | 0, es, env, as, env', h, _ => ⟨[], env, as, by unfold takeX; rw [evA], h, rfl⟩
  | n + 1, .cons e es, env, as, env', h, hl => by
    obtain ⟨y, e1, xs, h1, h2, rfl⟩ := ev_acons h
    obtain ⟨a1, e2, a2, g1, g2, rfl⟩ := evA_split (as := xs) (n := n) h2 (by simpa using hl)
    refine ⟨y :: a1, e2, a2, ?_, g2, rfl⟩
    unfold takeX
    rw [evA, h1]
    simp only [Option.bind_eq_bind, Option.bind_some, g1]
  | n + 1, .nil, env, as, env', h, hl => by rw [evA] at h; cases h; simp at hl
  | n + 1, .var _, env, as, env', h, hl => by rw [evA] at h <;> first | cases h | (intros; contradiction)
  | n + 1, .con _, env, as, env', h, hl => by rw [evA] at h <;> first | cases h | (intros; contradiction)
  | n + 1, .glo _, env, as, env', h, hl => by rw [evA] at h <;> first | cases h | (intros; contradiction)
  | n + 1, .ixv _ _, env, as, env', h, hl => by rw [evA] at h <;> first | cases h | (intros; contradiction)
  | n + 1, .lenv _, env, as, env', h, hl => by rw [evA] at h <;> first | cases h | (intros; contradiction)
  | n + 1, .popv _ _, env, as, env', h, hl => by rw [evA] at h <;> first | cases h | (intros; contradiction)
  | n + 1, .bin _ _ _, env, as, env', h, hl => by rw [evA] at h <;> first | cases h | (intros; contradiction)
  | n + 1, .neg _, env, as, env', h, hl => by rw [evA] at h <;> first | cases h | (intros; contradiction)
  | n + 1, .cmp _ _ _, env, as, env', h, hl => by rw [evA] at h <;> first | cases h | (intros; contradiction)
  | n + 1, .chn _ _ _ _ _, env, as, env', h, hl => by rw [evA] at h <;> first | cases h | (intros; contradiction)
  | n + 1, .vand _ _, env, as, env', h, hl => by rw [evA] at h <;> first | cases h | (intros; contradiction)
  | n + 1, .vor _ _, env, as, env', h, hl => by rw [evA] at h <;> first | cases h | (intros; contradiction)
  | n + 1, .vnot _, env, as, env', h, hl => by rw [evA] at h <;> first | cases h | (intros; contradiction)
  | n + 1, .tand _ _, env, as, env', h, hl => by rw [evA] at h <;> first | cases h | (intros; contradiction)
  | n + 1, .tor _ _, env, as, env', h, hl => by rw [evA] at h <;> first | cases h | (intros; contradiction)
  | n + 1, .tnot _, env, as, env', h, hl => by rw [evA] at h <;> first | cases h | (intros; contradiction)
  | n + 1, .tvar _, env, as, env', h, hl => by rw [evA] at h <;> first | cases h | (intros; contradiction)
  | n + 1, .tval _, env, as, env', h, hl => by rw [evA] at h <;> first | cases h | (intros; contradiction)
  | n + 1, .tyes, env, as, env', h, hl => by rw [evA] at h <;> first | cases h | (intros; contradiction)
  | n + 1, .ite _ _ _, env, as, env', h, hl => by rw [evA] at h <;> first | cases h | (intros; contradiction)
  | n + 1, .tup _, env, as, env', h, hl => by rw [evA] at h <;> first | cases h | (intros; contradiction)
  | n + 1, .lst _, env, as, env', h, hl => by rw [evA] at h <;> first | cases h | (intros; contradiction)
  | n + 1, .ref _, env, as, env', h, hl => by rw [evA] at h <;> first | cases h | (intros; contradiction)
  | n + 1, .ix _ _, env, as, env', h, hl => by rw [evA] at h <;> first | cases h | (intros; contradiction)
  | n + 1, .slc _ _ _, env, as, env', h, hl => by rw [evA] at h <;> first | cases h | (intros; contradiction)
  | n + 1, .rev _, env, as, env', h, hl => by rw [evA] at h <;> first | cases h | (intros; contradiction)
  | n + 1, .call _ _ _, env, as, env', h, hl => by rw [evA] at h <;> first | cases h | (intros; contradiction)
  | n + 1, .blt _ _, env, as, env', h, hl => by rw [evA] at h <;> first | cases h | (intros; contradiction)
  | n + 1, .comp _ _ _ _ _ _, env, as, env', h, hl => by rw [evA] at h <;> first | cases h | (intros; contradiction)
  | n + 1, .att _ _ _, env, as, env', h, hl => by rw [evA] at h <;> first | cases h | (intros; contradiction)
  | n + 1, .sg _, env, as, env', h, hl => by rw [evA] at h <;> first | cases h | (intros; contradiction)
  | n + 1, .mk _ _, env, as, env', h, hl => by rw [evA] at h <;> first | cases h | (intros; contradiction)
  | n + 1, .mth _ _ _, env, as, env', h, hl => by rw [evA] at h <;> first | cases h | (intros; contradiction)
  | n + 1, .fst _, env, as, env', h, hl => by rw [evA] at h <;> first | cases h | (intros; contradiction)
  | n + 1, .opq, env, as, env', h, hl => by rw [evA] at h <;> first | cases h | (intros; contradiction)
theorem r_knil : PK X [] (tA C .nil) := pk_nil.imp fun σ H Q h => by
  obtain ⟨B, M, env, d, env', s, e, q⟩ := h
  rw [evA] at e; cases e
  exact q [] H B M s rfl (Nx.refl _ _ _)
theorem r_kcons {e es : Ex} {nm : Option PySem.Str} {x : Expr} {kp : Pos} {xs : List Keyword} (he : PE X x (tE C e)) (hs : PK X xs (tA C es)) : PK X (⟨nm, x, kp⟩ :: xs) (tA C (.cons (.tval e) es)) :=
  (pk_cons he hs).imp fun σ H Q h => by
    obtain ⟨B, M, env, ds, env', s, e, q⟩ := h
    obtain ⟨x, e1, xs, h1, h2, rfl⟩ := ev_acons e
    rw [evAr] at h1
    obtain ⟨⟨y, e3⟩, h1, h⟩ := bind_some h1
    cases h
    refine ⟨B, M, env, y, e1, s, h1, fun v H1 B1 M1 s1 r1 n1 => ⟨B1, M1, e1, xs, env', s1, h2, fun vs H2 B2 M2 s2 r2 n2 => ?_⟩⟩
    exact q _ H2 B2 M2 s2 ⟨v, vs, rfl, Rep.nx s1.bl s1.mb n2 _ _ r1, r2⟩ (n1.trans n2)
theorem r_kcons_ref {i : Nat} {y : PySem.Str} {p kp : Pos} {nm : Option PySem.Str} {es : Ex} {xs : List Keyword} (hN : X.N[i]? = some y) (hv : Vis X.env.scope y) (hd : (y == ("__debug__" : PySem.Str)) = false) (hcd : (y == ("__classdict__" : PySem.Str)) = false) (hs : PK X xs (tA C es)) :
    PK X (⟨nm, .Name y p, kp⟩ :: xs) (tA C (.cons (.ref i) es)) :=
  (pk_cons (pe_var hN hv hd hcd) hs).imp fun σ H Q h => by
    obtain ⟨B, M, env, ds, env', s, e, q⟩ := h
    obtain ⟨x, e1, xs, h1, h2, rfl⟩ := ev_acons e
    rw [evAr] at h1
    obtain ⟨z, h0, h1⟩ := bind_some h1
    cases h1
    obtain ⟨a, ws, e5, _⟩ := s.mut h0
    exact ⟨_, e5, B, M, env, xs, env', s, h2, fun vs H2 B2 M2 s2 r2 n2 => q _ H2 B2 M2 s2 ⟨_, vs, rfl, e5, r2⟩ n2⟩
theorem gP_of {α : Type} {n m : Nat} {pm : List Nat} {us ws : List α} {r : List α} (h1 : us.length = n) (h2 : ws.length = m) (h : permA (us ++ ws) pm = some r) : gP n m pm us ws = r := by
  unfold gP; rw [if_pos ⟨h1, h2⟩, h]; rfl
theorem ArL.len {K : PySem.W.Frag} {H : Hp} {B : AP'} {σ : L2.St} : ∀ {as : List Ar} {vs : List V}, ArL K H B σ as vs → vs.length = as.length
  | [], vs, h => by rw [show vs = [] from h]; rfl
  | .v _ :: _, _, h => by obtain ⟨v, t, rfl, _, h⟩ := h; simp [ArL.len h]
  | .r _ :: _, _, h => by obtain ⟨v, t, rfl, _, h⟩ := h; simp [ArL.len h]
theorem ArL.app {K : PySem.W.Frag} {H : Hp} {B : AP'} {σ : L2.St} : ∀ {as bs : List Ar} {vs ws : List V}, ArL K H B σ as vs → ArL K H B σ bs ws → ArL K H B σ (as ++ bs) (vs ++ ws)
  | [], _, vs, _, h, g => by rw [show vs = [] from h]; exact g
  | .v _ :: _, _, _, _, h, g => by obtain ⟨v, t, rfl, q, h⟩ := h; exact ⟨v, _, rfl, q, ArL.app h g⟩
  | .r _ :: _, _, _, _, h, g => by obtain ⟨v, t, rfl, q, h⟩ := h; exact ⟨v, _, rfl, q, ArL.app h g⟩
theorem ArL.nx {K : PySem.W.Frag} {H B M H' B' M'} {σ : L2.St} (bl : BL H B) (mb : ∀ a, M a → B a) (n : Nx H B M H' B' M') : ∀ {as : List Ar} {vs : List V}, ArL K H B σ as vs → ArL K H' B' σ as vs
  | [], _, h => h
  | .v _ :: _, _, h => by obtain ⟨v, t, rfl, q, h⟩ := h; exact ⟨v, _, rfl, Rep.nx bl mb n _ _ q, ArL.nx bl mb n h⟩
  | .r _ :: _, _, h => by obtain ⟨v, t, rfl, q, h⟩ := h; exact ⟨v, _, rfl, q, ArL.nx bl mb n h⟩
theorem r_callK {f : PySem.Str} {n : Nat} {kf : List (Nat × List PySem.Str × List Nat)} {pm : List Nat} {args : List Expr} {kws : List Keyword} {ks : List PySem.Str} {es : Ex} {p pos : Pos} (x : XOk X C G lv N sc) (hf : G.fn.lookup f = some (n, kf)) (hg : Gl X f) (hd : (f == ("__debug__" : PySem.Str)) = false) (hl : pm.length = n) (hin : (args.length, ks, pm) ∈ kf) (hk : kwN kws = some ks) (h2 : args.all nst = true)
    (ha : PA X args (tA C (takeX args.length es))) (hkw : PK X kws (tA C (dropX args.length es))) (hlen : ∀ env as env', evA C.F es env = some (as, env') → as.length = args.length + kws.length)
    (hlen1 : ∀ env as env', evA C.F (takeX args.length es) env = some (as, env') → as.length = args.length) : PE X (.Call (.Name f p) args kws pos) (tE C (.call f pm es)) := by
  obtain ⟨fa, fd, ps, m1, k1, F1, l1, b1, kb⟩ := (x.fn f n kf hf).ex
  obtain ⟨w1, w2, w3, w4⟩ := kw_all (env := X.env) (pos := pos) hk
  have KB := kb _ hin
  have main : ∀ {σ H Q}, tE C (.call f pm es) σ H Q → tA C (takeX args.length es) σ H fun vs H1 => tA C (dropX args.length es) σ H1 fun zs H2 => spF X.K C.F f n (gP args.length ks.length pm vs zs) H2 Q E0 := fun {σ H Q} h => by
    obtain ⟨B, M, env, d, env', s, e, q⟩ := h
    obtain ⟨as, e1, bs, ss, outs, g1, g2, g3, g4, g5, g6⟩ := ev_call e
    have hal := hlen _ _ _ g1
    obtain ⟨a1, e2, a2, t1, t2, rfl⟩ := evA_split (as := as) (n := args.length) g1 (by omega)
    have hl1 := hlen1 _ _ _ t1
    refine ⟨B, M, env, a1, e2, s, t1, fun vs H1 B1 M1 s1 r1 n1 => ⟨B1, M1, e2, a2, e1, s1, t2, fun zs H2 B2 M2 s2 r2 n2 => ?_⟩⟩
    have r3 := (ArL.nx s1.bl s1.mb n2 r1).app r2
    obtain ⟨ws, e5, _⟩ := r3.perm g2
    show spF X.K C.F f n (gP args.length ks.length pm vs zs) H2 Q E0
    rw [gP_of (by rw [r1.len, hl1]) (by rw [r2.len, w4]; simp at hal; omega) e5, x.K]
    exact call_sp s2 r3 g2 hl g3 g4 g5 g6 (n1.trans n2) e5 q
  cases args with
  | nil =>
    refine (pe_callK0G F1 x.qt x.room hg m1 k1 KB hkw w1 w2 w3 hd).imp fun σ H Q h => ?_
    obtain ⟨B, M, env, as, e1, s, t1, q⟩ := main h
    unfold takeX at t1; simp only [List.length_nil] at t1
    rw [evA] at t1; cases t1
    exact q [] H B M s rfl (Nx.refl _ _ _)
  | cons a args =>
    simp only [List.all_cons, Bool.and_eq_true] at h2
    exact (pe_callKG F1 x.qt x.room hg m1 k1 KB ha hkw w1 w2 hd (star_cons h2.1) (by
      rw [w3, Bool.or_false, star_cons h2.1]
      have := star_any (env := X.env) (pos := pos) h2.2
      simpa [backTo] using this)).imp fun σ H Q h => main h
end Mn
namespace Mn
open PySem L2 RZ
variable {C : Ctx} {X : Cx} {F : FT} {env env' : Env} {d : D} {G : GS} {lv : Nat} {N : List PySem.Str} {sc : Scope}
/-! ### targets -/
theorem _root_.L2.PG.imp {X : Cx} {e : Expr} {t t' : TG} (h : PG X e t) (i : ∀ v σ H Q, t' v σ H Q → t v σ H Q) : PG X e t' := ⟨fun pins s σ H v u Q I r q => h.run pins s σ H v u Q I r (i v σ H Q q)⟩
theorem _root_.L2.PGs.imp {X : Cx} {e : List Expr} {t t' : TGs} (h : PGs X e t) (i : ∀ v σ H Q, t' v σ H Q → t v σ H Q) : PGs X e t' := ⟨fun pins s σ H v u Q I r q => h.run pins s σ H v u Q I r (i v σ H Q q)⟩
def tGs (C : Ctx) (is : List Nat) : TGs := fun vs σ H Q => ∃ B M env env' ds, Sim C H B M σ env ∧ RepL C.K H B ds vs ∧ unpS is ds env = some env' ∧ ∀ σ', Sim C H B M σ' env' → (∀ vs, (∀ i ∈ is, i ∈ vs) → L2.wipe σ' vs = L2.wipe σ vs) → Q σ' H
theorem r_name (x : XOk X C G lv N sc) {i : Nat} {y : PySem.Str} {p : Pos} (h1 : N[i]? = some y) (h2 : loc sc y = true) : PG X (.Name y p) (gName i) := by
  obtain ⟨h3, h4⟩ := x.loc y h2
  exact pg_name (x.n ▸ x.nd) (by rw [x.n]; exact h1) h3 h4
theorem r_tgs (x : XOk X C G lv N sc) : ∀ {is : List Nat} {es : List Expr}, ckTgN N sc is es = true → PGs X es (tGs C is) ∧ (assignEach es X.env).length = is.length ∧ (assignEach es X.env).findIdx? (·.1) = none
  | [], [], _ => ⟨pgs_nil.imp fun vs σ H Q h => by
      obtain ⟨B, M, env, env', ds, s, r, e, q⟩ := h
      unfold unpS at e
      cases ds with
      | cons _ _ => cases e
      | nil => cases e; exact ⟨r, q σ s fun _ _ => rfl⟩, rfl, rfl⟩
  | i :: is, .Name y p :: es, h => by
    simp only [ckTgN, Bool.and_eq_true, decide_eq_true_eq] at h
    obtain ⟨g1, g2, g3⟩ := r_tgs x h.2
    refine ⟨(pgs_cons (r_name x h.1.1 h.1.2) g1).imp fun vs σ H Q hq => ?_, ?_, ?_⟩
    · obtain ⟨B, M, env, env', ds, s, r, e, q⟩ := hq
      cases ds with
      | nil => unfold unpS at e; cases e
      | cons d ds =>
        unfold unpS at e
        obtain ⟨e1, e2, e⟩ := bind_some e
        obtain ⟨v, t, rfl, rv, rt⟩ := r
        refine ⟨v, t, rfl, B, M, e1, env', ds, s.putVal e2 rv, rt, e, fun σ' s' w => q σ' s' fun ws hw => ?_⟩
        rw [w ws fun j hj => hw j (List.mem_cons_of_mem _ hj), wipe_set (hw i List.mem_cons_self)]
    · show (assignEach es X.env).length + 1 = is.length + 1
      rw [g2]
    · show List.findIdx? (·.1) ((false, _) :: assignEach es X.env) = none
      rw [List.findIdx?_cons]
      simp [g3]
  | [], _ :: _, h => by simp [ckTgN] at h
  | _ :: _, [], h => by simp [ckTgN] at h
  | i :: is, e :: es, h => by
    cases e <;> first | (simp [ckTgN] at h; done) | skip
    rename_i y p
    simp only [ckTgN, Bool.and_eq_true, decide_eq_true_eq] at h
    obtain ⟨g1, g2, g3⟩ := r_tgs x h.2
    refine ⟨(pgs_cons (r_name x h.1.1 h.1.2) g1).imp fun vs σ H Q hq => ?_, ?_, ?_⟩
    · obtain ⟨B, M, env, env', ds, s, r, e, q⟩ := hq
      cases ds with
      | nil => unfold unpS at e; cases e
      | cons d ds =>
        unfold unpS at e
        obtain ⟨e1, e2, e⟩ := bind_some e
        obtain ⟨v, t, rfl, rv, rt⟩ := r
        refine ⟨v, t, rfl, B, M, e1, env', ds, s.putVal e2 rv, rt, e, fun σ' s' w => q σ' s' fun ws hw => ?_⟩
        rw [w ws fun j hj => hw j (List.mem_cons_of_mem _ hj), wipe_set (hw i List.mem_cons_self)]
    · show (assignEach es X.env).length + 1 = is.length + 1
      rw [g2]
    · show List.findIdx? (·.1) ((false, _) :: assignEach es X.env) = none
      rw [List.findIdx?_cons]
      simp [g3]
theorem unp_len : ∀ {is : List Nat} {ds : List D} {env env' : Env}, unpS is ds env = some env' → ds.length = is.length ∧ env'.length = env.length
  | [], [], _, _, h => by cases h; exact ⟨rfl, rfl⟩
  | [], _ :: _, _, _, h => by cases h
  | _ :: _, [], _, _, h => by cases h
  | i :: is, d :: ds, env, env', h => by
    unfold unpS at h
    obtain ⟨e1, e2, e⟩ := bind_some h
    obtain ⟨h1, h2⟩ := unp_len e
    exact ⟨by simp [h1], by rw [h2, putS_len e2]⟩
theorem bind_len : ∀ {tg : Tg} {d : D} {env env' : Env}, bindT tg d env = some env' → env'.length = env.length
  | .one i, d, env, env', h => putS_len h
  | .many is, d, env, env', h => by
    cases d <;> first | exact (unp_len h).2 | cases h
  | .two a b, d, env, env', h => by
    cases d <;> first | (cases h; done) | skip
    rename_i xs
    match xs, h with
    | [], h => cases h
    | [_], h => cases h
    | [x, y], h =>
      obtain ⟨e, h1, h2⟩ := bind_some (show (bindT a x env).bind (fun e => bindT b y e) = some env' from h)
      rw [bind_len h2, bind_len h1]
    | _ :: _ :: _ :: _, h => cases h
theorem pg_or {e : Expr} {t u : TG} (h1 : PG X e t) (h2 : PG X e u) : PG X e (fun v σ H Q => t v σ H Q ∨ u v σ H Q) :=
  ⟨fun pins s σ H v w Q I r h => h.elim (h1.run pins s σ H v w Q I r) (h2.run pins s σ H v w Q I r)⟩
theorem assign_one {e : Expr} {es : List Expr} {env : PySem.Env} (h : nst e = true) : assignEach (e :: es) env = (false, assign e env) :: assignEach es env := by
  cases e <;> first | rfl | cases h
theorem r_tg (x : XOk X C G lv N sc) : ∀ {tg : Tg} {e : Expr}, ckTg N sc tg e = true → PG X e (tG C tg)
  | .one i, e, h => by
    cases e <;> first | (cases h; done) | skip
    have h : (_ && _) = true := h
    simp only [Bool.and_eq_true, decide_eq_true_eq] at h
    refine (r_name x h.1 h.2).imp fun v σ H Q hq => ?_
    obtain ⟨B, M, env, env', d, s, r, e, q⟩ := hq
    exact q _ (s.putVal e r) fun ws hw => wipe_set (hw _ (by simp [tgs]))
  | .many is, e, h => by
    cases e <;> first | (cases h; done) | skip
    obtain ⟨g1, g2, g3⟩ := r_tgs x (show ckTgN N sc is _ = true from h)
    refine (pg_or (pg_tup x.calm g1 g2 g3) (pg_unl x.calm g1 g2 g3)).imp fun v σ H Q hq => ?_
    obtain ⟨B, M, env, env', d, s, r, e, q⟩ := hq
    cases d <;> first | (cases e; done) | skip
    · obtain ⟨a, vs, rfl, h1, h2⟩ := r
      exact .inl ⟨a, vs, rfl, x.K ▸ h1, by rw [h2.len]; exact (unp_len e).1, B, M, env, env', _, s, h2, e, fun σ' s' w => q σ' s' w⟩
    · obtain ⟨a, vs, rfl, h1, _, h2⟩ := r
      exact .inr ⟨a, vs, rfl, .inl (.inl h1), by rw [h2.len]; exact (unp_len e).1, B, M, env, env', _, s, h2, e, fun σ' s' w => q σ' s' w⟩
  | .two ta tb, e, h => by
    cases e <;> first | (cases h; done) | skip
    rename_i es k tp
    match es, h with
    | [], h => cases h
    | [_], h => cases h
    | _ :: _ :: _ :: _, h => cases h
    | [e1, e2], h =>
      have h : (nst e1 && nst e2 && ckTg N sc ta e1 && ckTg N sc tb e2) = true := h
      simp only [Bool.and_eq_true] at h
      obtain ⟨⟨⟨n1, n2⟩, c1⟩, c2⟩ := h
      have p1 := r_tg x (tg := ta) c1
      have p2 := r_tg x (tg := tb) c2
      have hs2 : (assignEach [e2] X.env).map (·.2) = assign e2 X.env :: (assignEach [] X.env).map (·.2) := by rw [assign_one n2]; rfl
      have hs1 : (assignEach [e1, e2] X.env).map (·.2) = assign e1 X.env :: (assignEach [e2] X.env).map (·.2) := by rw [assign_one n1]; rfl
      refine (pg_tup x.calm (pgs_cons p1 (pgs_cons p2 pgs_nil hs2) hs1) (n := 2) (by rw [assign_one n1, assign_one n2]; rfl) (by rw [assign_one n1, assign_one n2]; rfl)).imp fun v σ H Q hq => ?_
      obtain ⟨B, M, env, env', d, s, r, e, q⟩ := hq
      cases d <;> first | (cases e; done) | skip
      rename_i ds
      match ds, e, r with
      | [], e, r => cases e
      | [_], e, r => cases e
      | _ :: _ :: _ :: _, e, r => cases e
      | [d1, d2], e, r =>
        obtain ⟨em, b1, b2⟩ := bind_some (show (bindT ta d1 env).bind (fun e => bindT tb d2 e) = some env' from e)
        obtain ⟨a, vs, rfl, h1, h2⟩ := r
        obtain ⟨v1, v2, rfl, r1, r2⟩ := h2.two
        refine ⟨a, _, rfl, x.K ▸ h1, rfl, v1, [v2], rfl, B, M, env, em, d1, s, r1, b1, fun σ1 s1 w1 => ?_⟩
        refine ⟨v2, [], rfl, B, M, em, env', d2, s1, r2, b2, fun σ2 s2 w2 => ?_⟩
        refine ⟨rfl, q σ2 s2 fun ws hw => ?_⟩
        rw [w2 ws fun i hi => hw i (List.mem_append.2 (.inr hi)), w1 ws fun i hi => hw i (List.mem_append.2 (.inl hi))]
/-! ### what is walked -/
def iSeq (K : PySem.W.Frag) (tl : TE) : TI := fun σ H R => tl σ H fun x H1 => ∃ a, x = .ref a ∧ (((∃ xs, SqL K H1 a xs) ∧ R (Itl K a) H1) ∨ ((∃ xs, SqT K H1 a xs) ∧ R (Itt K a) H1))
theorem pi_seq {tg l : Expr} {tl : TE} (hl : PE X l tl) : PI X tg l (iSeq X.K tl) := by
  refine ⟨fun pins s σ H R I h => ?_⟩
  refine thn (hl.run pins s σ H _ I h) fun v s1 ⟨x, H1, I1, r1, q1⟩ => ?_
  obtain ⟨a, e, q⟩ := q1
  subst e
  cases r1
  rcases q with ⟨⟨xs, hq⟩, q⟩ | ⟨⟨xs, hq⟩, q⟩
  · obtain ⟨its, rv, p, hz⟩ := I1.list hq
    refine wpAny_pyIter_list p.isList ?_
    refine ⟨s1.heap.objs.size, [s1.heap.objs.size], _, _, H1, rfl, I1.kept (t' := s1.toks) fun b o e => Heap.get?_push_of_some _ e, turn_list a _, ⟨_, Heap.get?_push_size _ rfl, rfl, rfl⟩, fun b hb => ?_, q⟩
    have e : b = s1.heap.objs.size := by simpa using hb
    subst e
    exact I1.fpOk (Nat.le_refl _) (I1.hok.fresh (Nat.le_refl _))
  · obtain ⟨its, rv, p, hz⟩ := I1.tuple hq
    refine wpAny_pyIter_tuple (show s1.heap.IsTuple a its.toArray from p) ?_
    refine ⟨s1.heap.objs.size, [s1.heap.objs.size], _, _, H1, rfl, I1.kept (t' := s1.toks) fun b o e => Heap.get?_push_of_some _ e, turn_tuple a _, ⟨_, Heap.get?_push_size _ rfl, rfl, rfl⟩, fun b hb => ?_, q⟩
    have e : b = s1.heap.objs.size := by simpa using hb
    subst e
    exact I1.fpOk (Nat.le_refl _) (I1.hok.fresh (Nat.le_refl _))
theorem _root_.L2.PI.imp {X : Cx} {tg e : Expr} {t t' : TI} (h : PI X tg e t) (i : ∀ σ H R, t' σ H R → t σ H R) : PI X tg e t' := ⟨fun pins s σ H R I q => h.run pins s σ H R I (i σ H R q)⟩
theorem ev_one {e} {ds : List D} (h : evL F (.cons e .nil) env = some (ds, env')) : ∃ x, evE F e env = some (x, env') ∧ ds = [x] := by
  obtain ⟨x, e1, xs, h1, h2, rfl⟩ := ev_cons h
  rw [evL] at h2; cases h2
  exact ⟨x, h1, rfl⟩
theorem r_seq {tg l : Expr} {e : Ex} (hK : X.K = C.K) (he : PE X l (tE C e)) : PI X tg l (tI C .seq (.cons e .nil)) := (pi_seq he).imp fun σ H R h => by
  obtain ⟨B, M, env, xs, its, env', s, ev, w, q⟩ := h
  obtain ⟨x, h1, rfl⟩ := ev_one ev
  refine ⟨B, M, env, x, env', s, h1, fun v H1 B1 M1 s1 r1 n1 => ?_⟩
  cases x <;> simp only [walk, reduceCtorEq, Option.some.injEq] at w
  · subst w
    obtain ⟨a, vs, rfl, c1, c2⟩ := r1
    exact ⟨a, rfl, .inr ⟨⟨vs, hK ▸ c1⟩, (by rw [hK]; exact q _ _ H1 B1 M1 s1 wlk_tup ⟨vs, c1, c2⟩ n1)⟩⟩
  · subst w
    obtain ⟨a, vs, rfl, c1, c2, c3⟩ := r1
    exact ⟨a, rfl, .inl ⟨⟨vs, .inl (.inl c1)⟩, (by rw [hK]; exact q _ _ H1 B1 M1 s1 wlk_list ⟨vs, c1, c2, c3⟩ n1)⟩⟩
theorem r_enum {x : Expr} {p pos tpos : Pos} {elts : List Expr} {kk : Nat} {e : Ex} (hK : X.K = C.K) (hg : Gl X "enumerate") (hm : X.mg "enumerate" = none) (n1 : nst x = true) (h1 : PE X x (tE C e)) :
    PI X (.Tuple elts kk tpos) (.Call (.Name "enumerate" p) [x] [] pos) (tI C .enum (.cons e .nil)) :=
  (pi_enum hg hm (r_cons n1 h1 r_nil) (star_cons n1)).imp fun σ H R h => by
    obtain ⟨B, M, env, xs, its, env', s, ev, w, q⟩ := h
    obtain ⟨x, g1, rfl⟩ := ev_one ev
    refine ⟨B, M, env, [x], env', s, ev, fun vs H1 B1 M1 s1 r1 n1 => ?_⟩
    obtain ⟨v1, rfl, r2⟩ := r1.one
    cases x <;> simp only [walk, reduceCtorEq, Option.some.injEq] at w
    subst w
    obtain ⟨a, vs, rfl, c1, c2, c5⟩ := r2
    exact ⟨a, vs, rfl, .inl (.inl c1), (by rw [hK]; exact q _ _ H1 B1 M1 s1 wlk_enum ⟨vs, c1, c2, c5⟩ n1)⟩
theorem r_rng {x tg : Expr} {p pos : Pos} {e : Ex} (hg : Gl X "range") (hm : X.mg "range" = none) (n1 : nst x = true) (h1 : PE X x (tE C e)) :
    PI X tg (.Call (.Name "range" p) [x] [] pos) (tI C .rng (.cons e .nil)) :=
  (pi_range1 hg hm (r_cons n1 h1 r_nil) (star_cons n1)).imp fun σ H R h => by
    obtain ⟨B, M, env, xs, its, env', s, ev, w, q⟩ := h
    obtain ⟨x, g1, rfl⟩ := ev_one ev
    refine ⟨B, M, env, [x], env', s, ev, fun vs H1 B1 M1 s1 r1 n1 => ?_⟩
    obtain ⟨v1, rfl, r2⟩ := r1.one
    cases x <;> simp only [walk, reduceCtorEq, Option.ite_none_right_eq_some, Option.some.injEq] at w
    obtain ⟨w1, rfl⟩ := w
    cases r2
    have w2 := wi_lt w1 (by decide)
    exact ⟨_, rfl, by omega, by omega, q _ _ H1 B1 M1 s1 wlk_rng trivial n1⟩
theorem r_rng2 {x y tg : Expr} {p pos : Pos} {e e' : Ex} (hg : Gl X "range") (hm : X.mg "range" = none) (n1 : nst x = true) (n2 : nst y = true) (h1 : PE X x (tE C e)) (h2 : PA X [y] (tL C (.cons e' .nil))) :
    PI X tg (.Call (.Name "range" p) [x, y] [] pos) (tI C .rng (.cons e (.cons e' .nil))) :=
  (pi_range2 hg hm (r_cons n1 h1 h2) (by rw [star_cons n1, star_cons n2]; rfl) (by rw [star_cons n2]; rfl)).imp fun σ H R h => by
    obtain ⟨B, M, env, xs, its, env', s, ev, w, q⟩ := h
    obtain ⟨a, e1, ys, g1, g2, rfl⟩ := ev_cons ev
    obtain ⟨b, g3, rfl⟩ := ev_one g2
    refine ⟨B, M, env, [a, b], env', s, ev, fun vs H1 B1 M1 s1 r1 n1 => ?_⟩
    cases a <;> cases b <;> simp only [walk, reduceCtorEq, Option.ite_none_right_eq_some, Option.some.injEq] at w
    obtain ⟨w0, rfl⟩ := w
    obtain ⟨v1, v2, rfl, r2, r3⟩ := r1.two
    rw [Bool.and_eq_true] at w0
    have a1 := wi_lt w0.1 (by decide)
    have a2 := wi_lt w0.2 (by decide)
    cases r2; cases r3
    exact ⟨_, _, rfl, ⟨by omega, by omega, by omega, by omega⟩, q _ _ H1 B1 M1 s1 wlk_rngF trivial n1⟩
/-! ### comprehensions -/
abbrev Ctx.at (C : Ctx) (B : AP') : Ctx := { C with B0 := B }
theorem XOk.at {B : AP'} (x : XOk X C G lv N sc) : XOk X (C.at B) G lv N sc :=
  ⟨x.n, x.nd, x.calm, x.K, x.kind, x.vis, x.loc, x.isL, x.cf, x.gl, x.room, x.qt, x.bl, x.mf, fun f n kf h => ⟨(x.fn f n kf h).ex⟩, fun f n h => ⟨(x.nw f n h).ex⟩, x.co, x.ca, fun g n c m h => ⟨(x.mt g n c m h).ex⟩, fun c n h => ⟨(x.mkr c n h).ex⟩, x.sf⟩
theorem Sim.insB {H : Hp} {B M : AP'} {σ : L2.St} {p : Addr} (s : Sim C H (ins p B) M σ env) (nm : ¬ M p) : Sim (C.at (ins p C.B0)) H (ins p B) M σ env :=
  ⟨s.len, s.bl, s.mb, fun a h => h.elim .inl (s.lo a), s.val, fun i xs h => let ⟨a, vs, e, q, r, m, n⟩ := s.own i xs h; ⟨a, vs, e, q, r, m, fun z => z.elim (fun e => nm (e ▸ m)) n⟩, s.par, s.inj, s.kp, s.ex, s.sl⟩
theorem Sim.downB {H : Hp} {B M B1 : AP'} {σ : L2.St} (s : Sim (C.at B1) H B M σ env) (lo : ∀ a, C.B0 a → B1 a) : Sim C H B M σ env :=
  ⟨s.len, s.bl, s.mb, fun a h => s.lo a (lo a h), s.val, fun i xs h => let ⟨a, vs, e, q, r, m, n⟩ := s.own i xs h; ⟨a, vs, e, q, r, m, fun z => n (lo a z)⟩, s.par, s.inj, s.kp, s.ex, s.sl⟩
theorem Sim.moreM {H : Hp} {B M M2 : AP'} {σ : L2.St} (s : Sim C H B M σ env) (h1 : ∀ a, M a → M2 a) (h2 : ∀ a, M2 a → B a) (h3 : ∀ a o, C.K0 a = some o → ¬ M2 a) : Sim C H B M2 σ env :=
  ⟨s.len, s.bl, h2, s.lo, s.val, fun i xs h => let ⟨a, vs, e, q, r, m, n⟩ := s.own i xs h; ⟨a, vs, e, q, r, h1 a m, n⟩, fun i xs h => let ⟨a, vs, p, e, q, r, m⟩ := s.par i xs h; ⟨a, vs, p, e, q, r, h1 a m⟩, s.inj, fun a o h => ⟨(s.kp a o h).1, h3 a o h⟩, s.ex, s.sl⟩
/-- a list that no slot holds is changed -/
theorem touch_nx {H : Hp} {B : AP'} {p : Addr} {ws : List V} : Nx H B (fun a => a = p) (upd H p (.lst ws)) B (fun a => a = p) :=
  ⟨fun a o h nm => by rw [upd_ne (show a ≠ p from nm)]; exact h, fun _ h => .inl h, fun _ h => .inl h, fun a h => upd_none h⟩
theorem Sim.touch {H : Hp} {B M : AP'} {σ : L2.St} (s : Sim C H B M σ env) {p : Addr} {ws : List V} (hb : B p) (hm : ¬ M p) (hl : ∃ us, H p = some (.lst us)) : Sim C (upd H p (.lst ws)) B M σ env := by
  have nx : ∀ {d : D} {v : V}, Rep C.K H B d v → Rep C.K (upd H p (.lst ws)) B d v := fun {d v} r => Rep.nx (M := fun a => a = p) s.bl (fun a e => by rw [show a = p from e]; exact hb) touch_nx d v r
  have nxl : ∀ {d : List D} {v : List V}, RepL C.K H B d v → RepL C.K (upd H p (.lst ws)) B d v := fun {d v} r => RepL.nx (M := fun a => a = p) s.bl (fun a e => by rw [show a = p from e]; exact hb) touch_nx d v r
  have ne : ∀ {a : Addr}, M a → a ≠ p := fun m e => hm (e ▸ m)
  refine ⟨s.len, fun a h => ?_, s.mb, s.lo, fun i d h => let ⟨v, e, r⟩ := s.val i d h; ⟨v, e, nx r⟩, fun i xs h => ?_, fun i xs h => ?_, s.inj, fun a o h => ⟨?_, (s.kp a o h).2⟩, fun d v h => nx (s.ex d v h), s.sl⟩
  rotate_left 3
  · have k := (s.kp a o h).1
    rw [upd_ne (fun e => by obtain ⟨us, hl⟩ := hl; rw [e, hl] at k; cases k)]
    exact k
  · by_cases e : a = p
    · subst e; exact ⟨.l ws, upd_same⟩
    · rw [upd_ne e]; exact s.bl a h
  · obtain ⟨a, vs, e, q, r, m, n⟩ := s.own i xs h
    exact ⟨a, vs, e, by rw [upd_ne (ne m)]; exact q, nxl r, m, n⟩
  · obtain ⟨a, vs, p', e, q, r, m⟩ := s.par i xs h
    exact ⟨a, vs, p', e, by rw [upd_ne (ne m)]; exact q, nxl r, m⟩
end Mn
/-! enumerate(.., start=k) -/
namespace Mn
open PySem PySem.Spec PyProof.Rows L2 RZ
variable {C : Ctx} {X : Cx} {F : FT} {env env' : Env} {d : D} {G : GS} {lv : Nat} {N : List PySem.Str} {sc : Scope}
/-- the list at a as it stands at each turn, each item in a new pair, counted from k -/
def IteS (K : PySem.W.Frag) (a : Addr) (k : Nat) : It :=
  ⟨fun i H => ∃ (xs : List V) (x : V), SqL K H a xs ∧ xs[i]? = some x, fun i H v H' => ∃ T x, v = .ref T ∧ H T = none ∧ H' = upd H T (.tup [.int ((k + i : Nat) : Int), x]) ∧ ∀ xs, SqL K H a xs → xs[i]? = some x, fun i H => ∃ xs : List V, SqL K H a xs ∧ xs.length ≤ i⟩
theorem apart_it {h : Heap} {it a l : Addr} {i : Nat} {items : Array Value} (hit : h.IsListIter it l i) (hl : h.IsList a items) : a ≠ it := by
  intro e
  subst e
  obtain ⟨o, h1, h2, _⟩ := hit
  obtain ⟨o', h3, h4, _⟩ := hl
  rw [h1] at h3; cases h3
  rw [h2] at h4; exact absurd h4 (by decide)
theorem enum_endC {prog : Program} {w : World} {A : Around} {E : Value → Shared → Prop} {s : Shared} {e it l : Addr} {c : Int} {i : Nat} {items : Array Value} {old : Value} {Q : Option Value → Shared → Prop} (hh : A.handled = none)
    (he : IsEnum s.heap e it c old) (hit : s.heap.IsListIter it l i) (hl : s.heap.IsList l items) (hx : items[i]? = none)
    (hQ : ∀ h', Heap.ExtBut it s.heap h' → Q none { s with heap := h' }) : wpAny (model prog w) A (pyNext (.ref e)) Q E s := by
  have hT : s.TypeIs (.ref e) "enumerate" := ⟨_, he, rfl⟩
  unfold pyNext
  refine wpAny_bind (wpAny_attempt (wpAny_callSpecial?_slot (name := PySem.Str.ofString "__next__") hT PySem.F.slot_enumerate_next
    (wpAny_call_entry PySem.F.slot_enumerate_next hT PySem.F.entry_enumerate_next ?_ (PySem.F.args_enumerate_next_1 _))))
  show wpAny _ _ (field (.ref e) 2 >>= _) _ _ _
  refine wpAny_bind (wpAny_field he rfl (x := .ref it) rfl ?_)
  refine wpAny_bind (wpAny_nextOf_list_end hh hit hl hx fun h' x he' hx' => ?_)
  obtain ⟨o, ho, hc⟩ := hx'
  refine wpAny_bind (wpAny_isInstance (T := "StopIteration") (b := true) ⟨o, ho, hc⟩ isSubtype_stop ?_)
  exact wpAny_pure (hQ _ he')
theorem turn_enumS {P : Program} {w : World} {K : PySem.W.Frag} {elts : List Expr} {kk : Nat} {tpos : Pos} (a e it : Addr) (k : Nat) (hea : e ≠ a) :
    Turn P w K (.Tuple elts kk tpos) (IteS K a k) [e, it] e (fun i h => (∃ old, IsEnum h e it ((k + i : Nat) : Int) old) ∧ h.IsListIter it a i ∧ e ≠ it) where
  mem := by simp
  obj := fun i h st b hb => by
    obtain ⟨⟨old, he⟩, ⟨o, ho, hc, hd⟩, _⟩ := st
    have e' : b = e ∨ b = it := by simpa using hb
    rcases e' with z | z
    · rw [z]; exact ⟨_, he, fun v q => nomatch q⟩
    · rw [z]; exact ⟨o, ho, fun v q => by rw [hd] at q; cases q⟩
  keep := fun i h h' st k => let ⟨⟨old, he⟩, hi, hne⟩ := st; ⟨⟨old, k e (by simp) _ he⟩, hi.at fun o q => k it (by simp) o q, hne⟩
  item := by
    intro X hP hw hK hc i pins s σ H E I hf st hg
    subst hP hw hK
    obtain ⟨⟨old, he⟩, hit, hne⟩ := st
    obtain ⟨xs, x, hq, hx⟩ := hg
    obtain ⟨its, rv, p, hz⟩ := I.list hq
    obtain ⟨u, hu, ru⟩ := rv.get hx
    have hel : e < s.heap.objs.size := Heap.lt_size he
    have hil : it < s.heap.objs.size := by obtain ⟨_, q, _⟩ := hit; exact Heap.lt_size q
    have hai : a ≠ it := apart_it hit p.isList
    have hu' : its.toArray[i]? = some u := by simpa using hu
    have hlt : i < its.toArray.size := (Array.getElem?_eq_some_iff.1 hu').1
    refine wpAny_pyNext_enum_itemC (Draws.list (A := X.A.in1) (I.ok.hd hc) it a hai its.toArray) he ⟨hit, p.isList⟩ hlt hne (by simp [hne, hea]) fun x' h' tk hx' ho hst hT hsz hk => ?_
    rw [hu'] at hx'
    cases hx'
    refine ⟨_, rfl, wpAny_letOwnedTupleGo_enum (s := { s with heap := h', toks := tk + 1 }) ho fun h'' he' sb => ?_⟩
    have hT2 : h''.get? s.heap.objs.size = some { cls := .type "tuple", data := .seq #[.int ((k + i : Nat) : Int) tk, u] } := (sb.2 _ (Nat.ne_of_gt hel)).trans hT
    have new : ObjOk X.prog X.w (upd H s.heap.objs.size (.tup [.int ((k + i : Nat) : Int), x])) h'' s.heap.objs.size (.tup [.int ((k + i : Nat) : Int), x]) :=
      ⟨by show 2 ≤ sizeLine; decide, [.int _ tk, u], .cons ⟨_, rfl⟩ (.cons ru .nil), ⟨_, hT2, rfl, _, rfl⟩⟩
    have I1 : Inv X pins σ (upd H s.heap.objs.size (.tup [.int ((k + i : Nat) : Int), x])) { s with heap := h'', toks := tk + 1 } :=
      I.turnedNew (ch := [e, it]) (fun b ob hb q => (sb.2 b (fun z => hb (by simp [z]))).trans (hk b ob (fun z => hb (by simp [z])) (fun z => hb (by simp [z])) q)) hf (Nat.le_refl _) new
    refine ⟨.ref s.heap.objs.size, _, I1, rfl, ⟨_, x, rfl, I.hok.fresh (Nat.le_refl _), rfl, fun ys hy => by rw [I.list_inj hy hq]; exact hx⟩, ⟨⟨u, ?_⟩, hst.1.at fun o q => (sb.2 it (Ne.symm hne)).trans q, hne⟩, fun b hb => ?_⟩
    · have e1 : ((k + (i + 1) : Nat) : Int) = ((k + i : Nat) : Int) + 1 := by omega
      rw [e1]; exact he'
    · have hb' : b < s.heap.objs.size := by
        have e' : b = e ∨ b = it := by simpa using hb
        rcases e' with z | z
        · rw [z]; exact hel
        · rw [z]; exact hil
      rw [upd_ne (Nat.ne_of_lt hb')]
      exact (hf b hb).1
  done := by
    intro X hP hw hK hc i pins s σ H E I hf st hg
    subst hP hw hK
    obtain ⟨⟨old, he⟩, hit, hne⟩ := st
    obtain ⟨xs, hq, hx⟩ := hg
    obtain ⟨its, rv, p, hz⟩ := I.list hq
    obtain ⟨f0, f1, f2, f3, f4, f5⟩ := hf it (by simp)
    have hl := rv.length
    exact enum_endC (I.ok.hd hc) he hit p.isList (by simp; omega) fun h' eb => ⟨rfl, I.turned (t' := s.toks) (fun b o hb q => eb b o hb q) f0 f1 f3 f4 f5⟩
  self := fun A i s Q E st h => let ⟨⟨_, he⟩, _⟩ := st; wpAny_pyIter_enum he h
def iEnumS (K : PySem.W.Frag) (k : Nat) (ta : TA) : TI := fun σ H R => ta σ H fun vs H1 => ∃ a xs, vs = [.ref a] ∧ SqL K H1 a xs ∧ R (IteS K a k) H1
theorem kw_start {env : PySem.Env} {pos cp kp : Pos} {j : Nat} {k : Int} : (backToKw pos (keywordEach [⟨some ("start" : PySem.Str), .Constant (.int k) j cp, kp⟩] env)).all (·.1.isSome) = true := rfl
theorem pi_enumS {e : Expr} {ta : TA} {p pos tpos cp kp : Pos} {j : Nat} {elts : List Expr} {kk k : Nat} (hk : k < 1000) (hg : Gl X "enumerate") (hm : X.mg "enumerate" = none) (ha : PA X [e] ta) (hs : starEach [e] X.env = [(false, eval e X.env)] := by rfl) :
    PI X (.Tuple elts kk tpos) (.Call (.Name "enumerate" p) [e] [⟨some ("start" : PySem.Str), .Constant (.int (k : Int)) j cp, kp⟩] pos) (iEnumS X.K k ta) := by
  refine ⟨fun pins s σ H R I h => ?_⟩
  apply wpAny_Call_Name_kw
  refine ld_blt I hg hm boot_enumerate ?_
  have hpl : ((backTo pos (starEach [e] X.env)).any (·.1) || (backToKw pos (keywordEach [⟨some ("start" : PySem.Str), .Constant (.int (k : Int)) j cp, kp⟩] X.env)).any (·.1.isNone)) = false := by rw [hs]; rfl
  refine PySem.W.callWith_of (P := fun h => X.K.In h) hpl (fun h _ => ⟨Keeper.machine, .inr (.inl rfl), PySem.W.Looks.of_pure rfl⟩) (PyProof.Rows.evalArgs_kw2 kw_start (thn (ha.run pos pins s σ H _ I h) fun us s1 ⟨vs, H1, I1, r1, q1⟩ => ?_) hs)
  refine thn ((pk_cons (nm := some ("start" : PySem.Str)) (kpos := kp) (pe_int (X := X) (i := (k : Int)) (j := j) (pos := cp)) pk_nil).run pos pins s1 σ H1 (fun ws H2 => ws = [.int k] ∧ H2 = H1) I1 ⟨rfl, rfl⟩) fun ks s2 ⟨ws, H2, I2, r2, e1, e2⟩ => ?_
  subst e1; subst e2
  obtain ⟨ku, rfl, t, rfl⟩ := vals1 r2
  obtain ⟨a, xs, ex, hq, q⟩ := q1
  subst ex
  cases r1 with
  | cons r rr =>
    cases rr
    cases r
    refine ⟨I2.kIn, ?_⟩
    obtain ⟨its, rv, p', hz⟩ := I2.list hq
    show wpAny _ _ (call (.type "enumerate") [.ref a] [(PySem.Str.ofString "start", .int k t)]) _ _ _
    refine enum_begins_start (begins_list a its.toArray) p'.isList (by omega) (by omega) fun h' he hit hsz hkp => wpAny_pyIter_enum he ?_
    have I3 : Inv X pins σ H2 { s2 with heap := h' } := I2.kept (t' := s2.toks) hkp
    have hal : a < s2.heap.objs.size := by obtain ⟨_, z, _⟩ := p'.isList; exact Heap.lt_size z
    refine ⟨s2.heap.objs.size + 1, [s2.heap.objs.size + 1, s2.heap.objs.size], _, _, H2, rfl, I3, turn_enumS a (s2.heap.objs.size + 1) s2.heap.objs.size k (Nat.ne_of_gt (Nat.lt_succ_of_lt hal)), ⟨⟨.none, he⟩, ⟨_, hit, rfl, rfl⟩, Nat.succ_ne_self _⟩, fun b hb => ?_, q⟩
    have e' : b = s2.heap.objs.size + 1 ∨ b = s2.heap.objs.size := by simpa using hb
    have hle : s2.heap.objs.size ≤ b := by
      rcases e' with z | z
      · rw [z]; exact Nat.le_add_right _ _
      · rw [z]; exact Nat.le_refl _
    exact I2.fpOk hle (I2.hok.fresh hle)
theorem wlk_enumS {K : PySem.W.Frag} {a : Addr} {its : List D} {k : Nat} : Wlk K (IteS K a k) (enu k its) (fun H B => ∃ vs, H a = some (.lst vs) ∧ ¬ B a ∧ RepL K H B its vs) where
  go := fun i H B ⟨vs, h, _, r⟩ hi => ⟨vs, vs[i]'(by rw [r.len]; rw [enu_len] at hi; exact hi), .inl (.inl h), by simp⟩
  stop := fun i H B ⟨vs, h, _, r⟩ hi => ⟨vs, .inl (.inl h), by rw [r.len]; rw [enu_len] at hi; exact hi⟩
  yld := fun i H B x H' d ⟨vs, h, _, r⟩ bl hd ⟨T, x1, e, hT, e2, y1⟩ => by
    subst e; subst e2
    obtain ⟨d1, g1, rfl⟩ := enu_get hd
    obtain ⟨v, e, q⟩ := r.get g1
    have := y1 vs (.inl (.inl h)); rw [e] at this; cases this
    exact ⟨Al.new hT, T, _, rfl, .inl (.inl upd_same), RepL.cons rfl (RepL.cons (q.al bl (Al.new hT)) RepL.nil)⟩
  stay := fun H B M H' B' M' bl mb ⟨vs, h, nb, r⟩ n => ⟨vs, n.keep a _ h fun z => nb (mb a z), fun z => (n.b a z).elim nb (fun q => by rw [q] at h; cases h), RepL.nx bl mb n _ _ r⟩
theorem r_enumS {x : Expr} {p pos tpos cp kp : Pos} {j : Nat} {elts : List Expr} {kk k : Nat} {e : Ex} (hk : k < 1000) (hK : X.K = C.K) (hg : Gl X "enumerate") (hm : X.mg "enumerate" = none) (n1 : nst x = true) (h1 : PE X x (tE C e)) :
    PI X (.Tuple elts kk tpos) (.Call (.Name "enumerate" p) [x] [⟨some ("start" : PySem.Str), .Constant (.int (k : Int)) j cp, kp⟩] pos) (tI C (.enumS k) (.cons e .nil)) :=
  (pi_enumS hk hg hm (r_cons n1 h1 r_nil) (star_cons n1)).imp fun σ H R h => by
    obtain ⟨B, M, env, xs, its, env', s, ev, w, q⟩ := h
    obtain ⟨x, g1, rfl⟩ := ev_one ev
    refine ⟨B, M, env, [x], env', s, ev, fun vs H1 B1 M1 s1 r1 n1 => ?_⟩
    obtain ⟨v1, rfl, r2⟩ := r1.one
    cases x <;> simp only [walk, reduceCtorEq, Option.some.injEq] at w
    subst w
    obtain ⟨a, vs, rfl, c1, c2, c5⟩ := r2
    exact ⟨a, vs, rfl, .inl (.inl c1), (by rw [hK]; exact q _ _ H1 B1 M1 s1 wlk_enumS ⟨vs, c1, c2, c5⟩ n1)⟩
end Mn
namespace Mn
open PySem L2 RZ
variable {C : Ctx} {X : Cx} {F : FT} {env env' : Env} {d : D} {G : GS} {lv : Nat} {N : List PySem.Str} {sc : Scope}
theorem ev_comp {w src tg cd el own} (h : evE F (.comp w src tg cd el own) env = some (d, env')) : ∃ xs e1 its ds, evL F src env = some (xs, e1) ∧ walk w xs = some its ∧ its.length ≤ lim ∧ (∀ i ∈ own, mutS e1 i = none) ∧ compL (fun e => evE F el e) (fun e => evT F cd e) tg own its e1 = some (ds, env') ∧ d = .lst ds := by
  rw [evE] at h
  obtain ⟨⟨xs, e1⟩, h1, h⟩ := bind_some h
  obtain ⟨its, h2, h⟩ := bind_some h
  split at h
  · rename_i hc
    obtain ⟨⟨ds, e2⟩, h3, h⟩ := bind_some h
    cases h
    simp only [Bool.and_eq_true, decide_eq_true_eq, List.all_eq_true, Option.isNone_iff_eq_none] at hc
    exact ⟨xs, e1, its, ds, h1, h2, hc.1, hc.2, h3, rfl⟩
  · cases h
def tGB (C : Ctx) (tg : Tg) : TG := fun v σ H Q => ∃ B0, tG (C.at B0) tg v σ H Q
def tEB (C : Ctx) (x : Ex) : TE := fun σ H Q => ∃ B0, tE (C.at B0) x σ H Q
def tTB (C : Ctx) (x : Ex) : TT := fun σ H Q => ∃ B0, tT (C.at B0) x σ H Q
theorem pe_B {e : Expr} {x : Ex} (h : ∀ B0, PE X e (tE (C.at B0) x)) : PE X e (tEB C x) := ⟨fun pins s σ H Q I ⟨B0, q⟩ => (h B0).run pins s σ H Q I q⟩
theorem pt_B {e : Expr} {x : Ex} (h : ∀ B0, PT X e (tT (C.at B0) x)) : PT X e (tTB C x) := ⟨fun pins s σ H Q I ⟨B0, q⟩ => (h B0).run pins s σ H Q I q⟩
theorem pg_B {e : Expr} {x : Tg} (h : ∀ B0, PG X e (tG (C.at B0) x)) : PG X e (tGB C x) := ⟨fun pins s σ H v u Q I r ⟨B0, q⟩ => (h B0).run pins s σ H v u Q I r q⟩
theorem compL_cons {el : Env → Option (D × Env)} {cd : Env → Option (Bool × Env)} {tg : Tg} {own : List Nat} {x : D} {xs ds : List D} (h : compL el cd tg own (x :: xs) env = some (ds, env')) :
    ∃ e1 b e2, bindT tg x (wipeE env own) = some e1 ∧ cd e1 = some (b, e2) ∧
      (if b = true then ∃ y e3 r, el e2 = some (y, e3) ∧ compL el cd tg own xs (backE env e3 own) = some (r, env') ∧ ds = y :: r else compL el cd tg own xs (backE env e2 own) = some (ds, env')) := by
  unfold compL at h
  obtain ⟨e1, h1, h⟩ := bind_some h
  obtain ⟨⟨b, e2⟩, h2, h⟩ := bind_some h
  refine ⟨e1, b, e2, h1, h2, ?_⟩
  cases b with
  | true =>
    obtain ⟨⟨y, e3⟩, h3, h⟩ := bind_some h
    obtain ⟨⟨r, e4⟩, h4, h⟩ := bind_some h
    cases h
    exact ⟨y, e3, r, h3, h4, rfl⟩
  | false => exact h
theorem wipe_wipe {σ : L2.St} {vs : List Nat} : L2.wipe (L2.wipe σ vs) vs = L2.wipe σ vs := by
  refine List.ext_getElem? fun j => ?_
  by_cases hj : j ∈ vs
  · have none_at : ∀ {τ : L2.St} {ws : List Nat}, j ∈ ws → (L2.wipe τ ws)[j]? = if j < τ.length then some none else none := by
      intro τ ws
      induction ws with
      | nil => intro h; cases h
      | cons w ws ih =>
        intro h
        unfold L2.wipe
        by_cases e : w = j
        · subst e
          by_cases hl : w < τ.length
          · rw [List.getElem?_set_self (by rw [wipe_length]; exact hl), if_pos hl]
          · rw [List.getElem?_eq_none (by rw [List.length_set, wipe_length]; omega), if_neg hl]
        · rw [List.getElem?_set_ne e]
          exact ih ((List.mem_cons.mp h).resolve_left (fun z => e z.symm))
    rw [none_at hj, none_at hj, wipe_length]
  · rw [wipe_out hj]
theorem back_mut {e0 f : Env} {vs : List Nat} (h : ∀ j ∈ vs, mutS e0 j = none) {j : Nat} (hj : j ∈ vs) : mutS (backE e0 f vs) j = none := by
  cases z : mutS (backE e0 f vs) j with
  | none => rfl
  | some xs =>
    rcases mutS_some z with z | z
    · rcases backE_get z with ⟨_, h2⟩ | ⟨h1, _⟩
      · have := h j hj; rw [mutS_own h2] at this; cases this
      · exact absurd hj h1
    · rcases backE_get z with ⟨_, h2⟩ | ⟨h1, _⟩
      · have := h j hj; rw [mutS_par h2] at this; cases this
      · exact absurd hj h1
/-- the lengths of frames stay -/
def LenE (F : FT) (x : Ex) : Prop := (∀ env d env', evE F x env = some (d, env') → env'.length = env.length) ∧ (∀ env d env', evT F x env = some (d, env') → env'.length = env.length)
/-- through a comprehension: what holds ahead of turn i -/
structure LcI (C : Ctx) (H0 : Hp) (B0 M0 : AP') (σ : L2.St) (p : Addr) (G : Hp → AP' → Prop) (H : Hp) (env : Env) (acc : List D) : Prop where
  ex : ∃ B M vs, Sim C H (ins p B) M σ env ∧ H p = some (.lst vs) ∧ RepL C.K H (ins p B) acc vs ∧ ¬ B p ∧ (∀ a, M a → B a) ∧ (∀ a, C.B0 a → B a) ∧ G H (ins p B) ∧ Nx H0 B0 M0 H B M
theorem lc_imp {w : Wk} {src cd el : Ex} {tg : Tg} {ow : List (PySem.Str × Nat)} (htg : ∀ i ∈ tgs tg, i ∈ ow.map (·.2)) (len1 : LenE C.F el) (len2 : LenE C.F cd) {σ : L2.St} {H : Hp} {Q : VK} (h : tN C (.comp w src tg cd el (ow.map (·.2))) σ H Q) :
    tLc (tI C w src) (tGB C tg) (tTB C cd) (tEB C el) (ow.map (·.2)) σ H Q := by
  obtain ⟨B, M, env, ds0, env', s, ev, q⟩ := h
  obtain ⟨xs, e1, its, ds, h1, h2, h3, hown, h4, e5⟩ := ev_comp ev
  cases e5
  refine ⟨B, M, env, xs, its, e1, s, h1, h2, fun J Gd H1 B1 M1 s1 wk g1 n1 p hp => ?_⟩
  have B0p : ¬ C.B0 p := fun z => by obtain ⟨_, z⟩ := s1.bl p (s1.lo p z); rw [hp] at z; cases z
  have Hp0 : H p = none := n1.al p hp
  refine ⟨fun i m Hc => m = its.length - i ∧ i ≤ its.length ∧ ∃ acc rest ei, LcI C H B M σ p Gd Hc ei acc ∧ acc.length ≤ i ∧ (∀ j ∈ ow.map (·.2), mutS ei j = none) ∧ compL (fun e => evE C.F el e) (fun e => evT C.F cd e) tg (ow.map (·.2)) (its.drop i) ei = some (rest, env') ∧ acc ++ rest = ds0,
    ⟨its.length, by simp, Nat.zero_le _, [], ds0, e1, ⟨⟨B1, M1, [], s1.lay hp, upd_same, rfl, ?_, s1.mb, s1.lo, ?_, n1.trans (Al.new hp).nx⟩⟩, Nat.le_refl _, hown, h4, rfl⟩, ?_⟩
  · intro z; obtain ⟨_, z⟩ := s1.bl p z; rw [hp] at z; cases z
  · exact wk.stay H1 B1 (fun _ => False) _ (ins p B1) (fun _ => False) s1.bl (fun _ z => z.elim) g1 ⟨fun a o h _ => Al.new hp a o h, fun a h => h.elim (fun e => .inr (e ▸ hp)) .inl, fun _ h => .inl h, fun a h => upd_none h⟩
  rintro i m Hc ⟨rfl, hi', acc, rest, ei, ⟨⟨Bc, Mc, vs, sc', hc1, hc2, hc3, hc4, hc5, hc6, hc7⟩⟩, hal, hnm, hcl, hds⟩
  have nMp : ¬ Mc p := fun z => hc3 (hc4 p z)
  by_cases hlt : i < its.length
  · -- a turn
    refine .inr ⟨wk.go i Hc _ hc6 hlt, fun H' => ∃ acc rest ei, LcI C H B M σ p Gd H' ei acc ∧ acc.length ≤ i + 1 ∧ (∀ j ∈ ow.map (·.2), mutS ei j = none) ∧ compL (fun e => evE C.F el e) (fun e => evT C.F cd e) tg (ow.map (·.2)) (its.drop (i + 1)) ei = some (rest, env') ∧ acc ++ rest = ds0,
      fun H' hN => ⟨its.length - (i + 1), by omega, rfl, hlt, hN⟩, fun v H' hy => ?_⟩
    have hd : its.drop i = its[i] :: its.drop (i + 1) := List.drop_eq_getElem_cons hlt
    rw [hd] at hcl
    obtain ⟨f1, b, f2, k1, k2, k3⟩ := compL_cons hcl
    obtain ⟨al, rv⟩ := wk.yld i Hc _ v H' its[i] hc6 sc'.bl (List.getElem?_eq_getElem hlt) hy
    have g6 : Gd H' (ins p Bc) := wk.stay Hc _ (fun _ => False) H' _ (fun _ => False) sc'.bl (fun _ z => z.elim) hc6 al.nx
    have sA : Sim (C.at (ins p C.B0)) H' (ins p Bc) Mc σ ei := (sc'.al al).insB nMp
    -- behind a turn, whatever it changed
    have fin : ∀ (σ2 : L2.St) (f : Env) (H2 : Hp) (B2 M2 : AP') (acc2 : List D) (vs2 : List V), Sim (C.at (ins p C.B0)) H2 B2 M2 σ2 f → Nx H' (ins p Bc) Mc H2 B2 M2 → L2.wipe σ2 (ow.map (·.2)) = L2.wipe σ (ow.map (·.2)) → f.length = ei.length → RepL C.K H2 B2 acc2 vs2 →
        LcI C H B M σ p Gd (upd H2 p (.lst vs2)) (backE ei f (ow.map (·.2))) acc2 := by
      intro σ2 f H2 B2 M2 acc2 vs2 s2 n2 hw hfl hr
      have B2p : B2 p := s2.lo p (.inl rfl)
      have M2p : ¬ M2 p := fun z => (n2.m p z).elim nMp fun e => by rw [al p _ hc1] at e; cases e
      have eB : B2 = ins p (fun a => B2 a ∧ a ≠ p) := by
        funext a
        refine propext ⟨fun h => ?_, fun h => h.elim (fun e => e ▸ B2p) (·.1)⟩
        by_cases e : a = p
        · exact .inl e
        · exact .inr ⟨h, e⟩
      have s3 : Sim C (upd H2 p (.lst vs2)) B2 M2 σ2 f := (s2.touch B2p M2p ⟨vs, n2.keep p _ (al p _ hc1) nMp⟩).downB fun a h => .inr h
      have nD : Nx Hc (ins p Bc) (ins p Mc) (upd H2 p (.lst vs2)) B2 M2 := by
        have n3 := (al.nx (B := ins p Bc) (M := Mc)).trans n2
        exact ⟨fun a o h nm => by rw [upd_ne (fun e => nm (.inl e))]; exact n3.keep a o h fun z => nm (.inr z), n3.b, fun a h => (n3.m a h).elim (fun z => .inl (.inr z)) .inr, fun a h => n3.al a (upd_none h)⟩
      have s0 : Sim C Hc (ins p Bc) (ins p Mc) σ ei := sc'.moreM (fun a z => .inr z) (fun a z => z.elim .inl fun z => .inr (hc4 a z)) fun a o h z => z.elim (fun e => by have k := (sc'.kp a o h).1; rw [e, hc1] at k; cases k) (sc'.kp a o h).2
      have s4 := Sim.back s0 s3 hnm nD hw hfl
      refine ⟨⟨fun a => B2 a ∧ a ≠ p, M2, vs2, eB ▸ s4, upd_same, ?_, fun z => z.2 rfl, fun a z => ⟨s2.mb a z, fun e => M2p (e ▸ z)⟩, fun a z => ⟨s2.lo a (.inr z), fun e => B0p (e ▸ z)⟩, ?_, ?_⟩⟩
      · rw [← eB]
        exact RepL.nx (M := fun a => a = p) s2.bl (fun a e => by rw [show a = p from e]; exact B2p) touch_nx _ _ hr
      · rw [← eB]
        exact wk.stay Hc _ (ins p Mc) _ B2 M2 sc'.bl (fun a z => z.elim .inl fun z => .inr (hc4 a z)) hc6 nD
      · have n3 := (al.nx (B := ins p Bc) (M := Mc)).trans n2
        refine ⟨fun a o h nm => ?_, fun a h => ?_, fun a h => ?_, fun a h => hc7.al a (n3.al a (upd_none h))⟩
        · have ne : a ≠ p := fun e => by subst e; rw [Hp0] at h; cases h
          rw [upd_ne ne]
          exact n3.keep a o (hc7.keep a o h nm) fun z => (hc7.m a z).elim nm fun e => by rw [e] at h; cases h
        · rcases n3.b a h.1 with z | z
          · rcases z with z | z
            · exact absurd z h.2
            · exact hc7.b a z
          · exact .inr (hc7.al a z)
        · rcases n3.m a h with z | z
          · exact hc7.m a z
          · exact .inr (hc7.al a z)
    have hfb : f1.length = ei.length := by rw [bind_len k1, wipeE_len]
    have hf2 : f2.length = ei.length := by rw [len2.2 _ _ _ k2, hfb]
    refine ⟨ins p C.B0, ins p Bc, Mc, _, f1, its[i], sA.wipe _, rv, k1, fun σ2 s2 w2 => ?_⟩
    have hw2 : L2.wipe σ2 (ow.map (·.2)) = L2.wipe σ (ow.map (·.2)) := by
      rw [w2 _ htg]
      exact wipe_wipe
    refine ⟨hw2, ins p C.B0, ins p Bc, Mc, f1, b, f2, s2, k2, fun H3 B3 M3 s3 n3 => ?_⟩
    have p3 : H3 p = some (.lst vs) := n3.keep p _ (al p _ hc1) nMp
    have r3 : RepL C.K H3 B3 acc vs := RepL.nx (sc'.al al).bl sc'.mb n3 _ _ (hc2.al sc'.bl al)
    cases b with
    | false =>
      refine ⟨acc, rest, _, ?_, by omega, fun j hj => ?_, k3, hds⟩
      · have := fin σ2 f2 H3 B3 M3 acc vs s3 n3 hw2 hf2 r3
        have e : upd H3 p (.lst vs) = H3 := by
          funext a; by_cases e : a = p
          · subst e; rw [upd_same, p3]
          · rw [upd_ne e]
        rw [e] at this; exact this
      · exact back_mut hnm hj
    | true =>
      obtain ⟨y, f3, r, k4, k5, e6⟩ := k3
      subst e6
      refine ⟨ins p C.B0, B3, M3, f2, y, f3, s3, k4, fun z H4 B4 M4 s4 r4 n4 => ?_⟩
      have M3p : ¬ M3 p := fun z => (n3.m p z).elim nMp fun e => by rw [al p _ hc1] at e; cases e
      have p4 : H4 p = some (.lst vs) := n4.keep p _ p3 M3p
      refine ⟨vs, p4, ?_, acc ++ [y], r, _, fin σ2 f3 H4 B4 M4 (acc ++ [y]) (vs ++ [z]) s4 (n3.trans n4) hw2 ?_ ((RepL.nx s3.bl s3.mb n4 _ _ r3).app (RepL.cons r4 RepL.nil)), ?_, fun j hj => back_mut hnm hj, k5, by rw [List.append_assoc]; exact hds⟩
      · rw [r3.len]; exact lim_lt (by omega)
      · rw [len1.1 _ _ _ k4, hf2]
      · simp; omega
  · -- the end
    have e : i = its.length := by omega
    subst e
    refine .inl ⟨wk.stop _ Hc _ hc6 (Nat.le_refl _), ?_⟩
    rw [List.drop_length] at hcl
    cases hcl
    rw [List.append_nil] at hds
    subst hds
    exact q p vs Hc Bc Mc sc' hc1 hc2 hc3 hc4 hc5 Hp0 hc7
theorem r_comp {w : Wk} {src cd el : Ex} {tg : Tg} {own : List Nat} {elt tge iter : Expr} {ifs : List Expr} {scope : Scope} {ow : List (PySem.Str × Nat)} {pos : Pos} (x : XOk X C G lv N sc) (hi : PI X tge iter (tI C w src)) (ok : BlkOk X.N X.env.scope scope ow) (how : ow.map (·.2) = own)
    (hg : ∀ (s : Shared) (H : Hp) (Cc : Addr) (cl : List (PySem.Str × Addr)) (fp : List Addr), PG (X.blk s H scope (compEnvC scope cl Cc X.env) fp) tge (tGB C tg)) (ht : ∀ (s : Shared) (H : Hp) (Cc : Addr) (cl : List (PySem.Str × Addr)) (fp : List Addr), PTs (X.blk s H scope (compEnvC scope cl Cc X.env) fp) ifs (tTB C cd))
    (he : ∀ (s : Shared) (H : Hp) (Cc : Addr) (cl : List (PySem.Str × Addr)) (fp : List Addr), PE (X.blk s H scope (compEnvC scope cl Cc X.env) fp) elt (tEB C el)) (hs : ∀ v, foldedSetIterable iter X.env v = pure v)
    (htg : ∀ i ∈ tgs tg, i ∈ own) (len1 : LenE C.F el) (len2 : LenE C.F cd) : PE X (.ListComp elt [⟨tge, iter, ifs, 0⟩] scope pos) (tN C (.comp w src tg cd el own)) := by
  subst how
  exact (pe_lc x.calm (x.n ▸ x.nd) hi ok hg ht he hs).imp fun σ H Q h => lc_imp htg len1 len2 h
theorem r_setLc {w : Wk} {src cd el : Ex} {tg : Tg} {own : List Nat} {i : Nat} {y : PySem.Str} {py : Pos} {elt tge iter : Expr} {ifs : List Expr} {scope : Scope} {ow : List (PySem.Str × Nat)} {pos spos : Pos} (x : XOk X C G lv N sc) (hy : X.N[i]? = some y) (hyl : X.env.scope.names.lookup y = some .local)
    (hsw : swapsWith (.ListComp elt [⟨tge, iter, ifs, 0⟩] scope pos) (some (.Name y py)) spos.line X.env = pure true) (hi : PI X tge iter (tI C w src)) (ok : BlkOk X.N X.env.scope scope ow) (how : ow.map (·.2) = own)
    (hg : ∀ (s : Shared) (H : Hp) (Cc : Addr) (cl : List (PySem.Str × Addr)) (fp : List Addr), PG (X.blk s H scope (compEnvC scope cl Cc X.env) fp) tge (tGB C tg)) (ht : ∀ (s : Shared) (H : Hp) (Cc : Addr) (cl : List (PySem.Str × Addr)) (fp : List Addr), PTs (X.blk s H scope (compEnvC scope cl Cc X.env) fp) ifs (tTB C cd))
    (he : ∀ (s : Shared) (H : Hp) (Cc : Addr) (cl : List (PySem.Str × Addr)) (fp : List Addr), PE (X.blk s H scope (compEnvC scope cl Cc X.env) fp) elt (tEB C el)) (hs : ∀ v, foldedSetIterable iter X.env v = pure v)
    (htg : ∀ i ∈ tgs tg, i ∈ own) (len1 : LenE C.F el) (len2 : LenE C.F cd) : PS X (.Assign [.Name y py] (.ListComp elt [⟨tge, iter, ifs, 0⟩] scope pos) spos) (tAsg (tN C (.comp w src tg cd el own)) (gName i)) := by
  subst how
  exact (ps_setLc x.calm (x.n ▸ x.nd) hy hyl hsw hi ok hg ht he hs).imp fun D σ H h => lc_imp htg len1 len2 h
end Mn
namespace Mn
open PySem PySem.Spec PyProof.Rows L2 RZ
variable {C : Ctx} {X : Cx} {F : FT} {env env' : Env} {d : D} {G : GS} {lv : Nat} {N : List PySem.Str} {sc : Scope}
/-! ### evaluations taken apart -/
theorem ev_att {cs a f} (h : evE F (.att cs a f) env = some (d, env')) : ∃ c ks xs, evE F a env = some (.obj c ks xs, env') ∧ c ∈ cs ∧ fldD ks xs f = some d := by
  rw [evE] at h
  obtain ⟨⟨x, e1⟩, h1, h⟩ := bind_some h
  cases x <;> simp at h
  obtain ⟨h2, d', h3, rfl, rfl⟩ := h
  exact ⟨_, _, _, h1, h2, h3⟩
theorem ev_sg {f} (h : evE F (.sg f) env = some (d, env')) : ∃ o, env[0]? = some (some Sl.slf) ∧ F "" [.val (.str f)] = some (d, o) ∧ env' = env := by
  rw [evE] at h
  split at h
  · rename_i e
    rw [Option.map_eq_some_iff] at h
    obtain ⟨⟨a, o⟩, h1, h2⟩ := h
    cases h2
    exact ⟨o, e, h1, rfl⟩
  · cases h
theorem ev_mk {c es} (h : evE F (.mk c es) env = some (d, env')) : ∃ ds ks xs, evL F es env = some (ds, env') ∧ F c (ds.map Sl.val) = some (.obj c ks xs, []) ∧ d = .obj c ks xs := by
  rw [evE] at h
  obtain ⟨⟨ds, e1⟩, h1, h⟩ := bind_some h
  obtain ⟨⟨r, os⟩, h2, h⟩ := bind_some h
  cases r <;> cases os <;> simp at h
  obtain ⟨rfl, rfl, rfl⟩ := h
  exact ⟨_, _, _, h1, h2, rfl⟩
theorem ev_mth {c m g a es} (h : evE F (.mth (.own c m g) a es) env = some (d, env')) : ∃ ks xs e1 ds, evE F a env = some (.obj c ks xs, e1) ∧ evL F es e1 = some (ds, env') ∧ m ∉ ks ∧ F g (.val (.obj c ks xs) :: ds.map Sl.val) = some (d, []) := by
  rw [evE] at h
  obtain ⟨⟨x, e1⟩, h1, h⟩ := bind_some h
  obtain ⟨⟨ds, e2⟩, h2, h⟩ := bind_some h
  match x, h1, h with
  | .obj c' ks xs, h1, h =>
    have h : (if c' = c ∧ m ∉ ks then (F g (.val (.obj c' ks xs) :: ds.map Sl.val)).bind fun p => if p.2.isEmpty then some (p.1, e2) else none else none) = some (d, env') := h
    by_cases hc : c' = c ∧ m ∉ ks
    · rw [if_pos hc, Option.bind_eq_some_iff] at h
      obtain ⟨⟨r, os⟩, h3, h4⟩ := h
      obtain ⟨rfl, hm⟩ := hc
      cases os with
      | nil => cases h4; exact ⟨ks, xs, e1, ds, h1, h2, hm, h3⟩
      | cons _ _ => cases h4
    · rw [if_neg hc] at h; cases h
/-! ### fields -/
theorem fld_get {K : PySem.W.Frag} {H : Hp} {B : AP'} : ∀ {ks : List PySem.Str} {xs : List D} {vs : List V} {f : PySem.Str} {d : D}, RepL K H B xs vs → fldD ks xs f = some d → ∃ v, (ks.zip vs).lookup f = some v ∧ Rep K H B d v
  | [], _, _, _, _, _, h => by cases h
  | _ :: _, [], _, _, _, _, h => by cases h
  | k :: ks, x :: xs, vs, f, d, r, h => by
    obtain ⟨v, t, rfl, r1, r2⟩ := r
    unfold fldD at h
    by_cases e : k = f
    · subst e
      rw [if_pos rfl] at h; cases h
      exact ⟨v, by simp, r1⟩
    · rw [if_neg e] at h
      obtain ⟨w, h1, h2⟩ := fld_get r2 h
      refine ⟨w, ?_, h2⟩
      rw [List.zip_cons_cons, List.lookup_cons]
      have : (f == k) = false := by simpa using fun z => e z.symm
      rw [this]
      exact h1
theorem zip_none {ks : List PySem.Str} {vs : List V} {m : PySem.Str} (h : m ∉ ks) : (ks.zip vs).lookup m = none := by
  induction ks generalizing vs with
  | nil => rfl
  | cons k ks ih =>
    cases vs with
    | nil => rfl
    | cons v vs =>
      simp only [List.mem_cons, not_or] at h
      rw [List.zip_cons_cons, List.lookup_cons]
      have : (m == k) = false := by simpa using h.1
      rw [this]
      exact ih h.2
theorem sup_base {e : Expr} {f : PySem.Str} {v : PySem.Env} (h : notSup e = true) : attributeBase e f v (eval e v) = eval e v := by
  unfold attributeBase
  split
  · cases h
  · rfl
/-- o.f -/
theorem r_att {cs : List PySem.Str} {a : Ex} {ea : Expr} {f : PySem.Str} {pos : Pos} (x : XOk X C G lv N sc) (hs : notSup ea = true) (hc : ∀ c ∈ cs, (c, f) ∈ G.ca) (ha : PE X ea (tE C a)) : PE X (.Attribute ea f pos) (tE C (.att cs a f)) := by
  refine (pe_fld ha (sup_base hs)).imp fun σ H Q h => ?_
  obtain ⟨B, M, env, d, env', s, e, q⟩ := h
  obtain ⟨c, ks, xs, h1, h2, h3⟩ := ev_att e
  refine ⟨B, M, env, _, env', s, h1, fun v H1 B1 M1 s1 r1 n1 => ?_⟩
  obtain ⟨p, Cc, dx, vs, rfl, hn, hp, nb, hl, r⟩ := r1
  obtain ⟨w, e1, rw⟩ := fld_get r h3
  obtain ⟨Cc', hn', cl, na⟩ := x.ca _ (hc c h2)
  rw [x.K] at hn'
  have hCC : Cc' = Cc := by
    have := hn'.symm.trans hn
    simpa using this
  subst hCC
  exact ⟨p, Cc', dx, _, w, rfl, hp, cl, na, e1, q w H1 B1 M1 s1 rw n1⟩
/-- self.f, while the object is made -/
theorem r_sg {f y : PySem.Str} {fl : List PySem.Str} {p pos : Pos} (x : XOk X C G lv N sc) (hN : X.N[0]? = some y) (hv : Vis X.env.scope y) (hd : (y == ("__debug__" : PySem.Str)) = false) (hcd : (y == ("__classdict__" : PySem.Str)) = false) (hg : G.slf = some fl) (hf : f ∈ fl) :
    PE X (.Attribute (.Name y p) f pos) (tE C (.sg f)) := by
  refine (pe_fld (pe_var hN hv hd hcd) (sup_base rfl)).imp fun σ H Q h => ?_
  obtain ⟨B, M, env, d, env', s, e, q⟩ := h
  obtain ⟨o, h1, h2, rfl⟩ := ev_sg e
  obtain ⟨a, Cc, dx, fs, v, k1, k2, cl, na, k3, k4⟩ := x.sf fl hg f hf d o h2
  obtain ⟨a', p1, p2⟩ := s.sl 0 h1
  rw [k1] at p1; cases p1
  exact ⟨_, p2, a, Cc, dx, fs, v, rfl, (s.kp a _ k2).1, cl, na, k3, q v H B M s (s.ex d v k4) (Nx.refl _ _ _)⟩
theorem star_all {env : PySem.Env} {pos : Pos} : ∀ {es : List Expr}, es.all nst = true → (backTo pos (starEach es env)).all (fun q => !q.1) = true
  | [], _ => rfl
  | e :: es, h => by
    simp only [List.all_cons, Bool.and_eq_true] at h
    have := star_any (env := env) (pos := pos) (es := e :: es) (by simp [h.1, h.2])
    rw [List.all_eq_not_any_not]
    simpa using this
theorem mth_eval {ea : Expr} {m : PySem.Str} {apos pos : Pos} {es : List Expr} {env : PySem.Env} (hs : notSup ea = true) (hl : (apos.endLine == pos.line) = true) (hn : es.length < 29) (hst : es.all nst = true) :
    eval (.Call (.Attribute ea m apos) es [] pos) env = (do
      let ov ← eval ea env
      standAt apos.atName
      let (f, first) ← holding [ov] (getMethod ov m (plainOf ea env))
      callWith pos f first (backTo pos (starEach es env)) (backToKw pos (keywordEach [] env))) := by
  rw [arm_eval_Call, sup_base hs]
  have hf : methodCallForm (es.length + ([] : List Keyword).length) (backTo pos (starEach es env)) (backToKw pos (keywordEach [] env)) = true := by
    unfold methodCallForm
    rw [star_all hst]
    show (true && true && decide (es.length + 0 + 0 < 30)) = true
    simp; omega
  congr 1
  funext ov
  congr 1
  funext _
  exact mcall_line hf hl
/-- o.m(..) -/
theorem r_mth {c m g : PySem.Str} {mm : PySem.Str × List PySem.Str} {a : Ex} {ea b : Expr} {args : List Expr} {es : Ex} {apos pos : Pos} (x : XOk X C G lv N sc) (hsup : notSup ea = true) (hline : (apos.endLine == pos.line) = true) (hfew : args.length < 20) (hg : G.mt.lookup g = some (args.length + 2, c, mm)) (hmm : mm.1 = m) (h1 : nst b = true) (h2 : args.all nst = true) (ha : PE X ea (tE C a)) (hes : PA X (b :: args) (tL C es))
    (hlen : ∀ env as env', evL C.F es env = some (as, env') → as.length = (b :: args).length) :
    PE X (.Call (.Attribute ea m apos) (b :: args) [] pos) (tE C (.mth (.own c m g) a es)) := by
  constructor
  intro pins s σ H Q I h
  obtain ⟨B, M, env, d, env', sm, e, q⟩ := h
  obtain ⟨ks, xs, e1, ds, k1, k2, k3, k4⟩ := ev_mth e
  subst hmm
  obtain ⟨Cc, fa, fd, ps, k0, c1, c2, c3, F0, lk, l1, b1, _⟩ := (x.mt g _ c mm hg).ex
  have F1 := F0.mono (Nat.le_of_succ_le lk)
  refine methcall_of (pl := plainOf ea X.env) ha I ?_ (mth_eval hsup hline (by rw [List.length_cons]; omega) (by simp only [List.all_cons, h1, h2, Bool.and_self]))
  refine ⟨B, M, env, _, e1, sm, k1, fun v H1 B1 M1 s1 r1 n1 => ?_⟩
  obtain ⟨p, Cc', dx, vs, rfl, hn, hp, nb, hl, r⟩ := r1
  rw [x.K] at c1
  have hCC : Cc = Cc' := by
    have := c1.symm.trans hn
    simpa using this
  subst hCC
  refine ⟨p, Cc, dx, _, fa, rfl, hp, c2, c3, zip_none k3, fun s2 I2 => ?_⟩
  refine PySem.W.callWith_K (first := [.ref p]) (h₀ := X.base) I2.ok.mod.kin c3.kp (thn (hes.run pos pins s2 σ H1 (fun ws H2 => spF X.K C.F g (args.length + 2) (.ref p :: ws) H2 Q E0) I2 ?_) ?_) (star_cons h1) (star_any h2)
  · refine ⟨B1, M1, e1, ds, env', s1, k2, fun ws H2 B2 M2 s2 r2 n2 => ?_⟩
    have ro : Rep C.K H2 B2 (.obj c ks xs) (.ref p) := Rep.nx s1.bl s1.mb n2 _ _ ⟨p, Cc, dx, vs, rfl, hn, hp, nb, hl, r⟩
    rw [x.K]
    refine ⟨B2, .val (.obj c ks xs) :: ds.map Sl.val, [], d, [], s2.bl, ⟨.ref p, ws, rfl, ro, argR_vals r2⟩, List.nodup_nil, ?_, k4, fun v H3 r3 _ keep al => ?_⟩
    · rw [List.length_cons, r2.len, hlen _ _ _ k2, List.length_cons]
    · have a3 : Al H2 H3 := fun z o hz => keep z o hz (by simp)
      exact q v H3 B2 M2 (s2.al a3) r3 (n1.trans (n2.trans a3.nx))
  · rintro us s3 ⟨ws, H2, I3, rv, sp⟩
    refine ⟨I3.kIn, ?_⟩
    exact callG (us := .ref p :: us) (vs := .ref p :: ws) F1 x.qt x.room b1 I3 (.cons rfl rv) sp
theorem ownkS_of {c m g : PySem.Str} {x : D} {rs : List Nat} {so : Option (List Sl)} (h : ownkS F c m g x rs so = some d) : ∃ ks xs ss, x = .obj c ks xs ∧ so = some ss ∧ m ∉ ks ∧ rs.isEmpty = true ∧ F g (.val (.obj c ks xs) :: ss) = some (d, []) := by
  unfold ownkS at h
  split at h
  · rename_i c' ks xs ss
    by_cases hc : c' = c ∧ m ∉ ks ∧ rs.isEmpty = true
    · rw [if_pos hc, Option.bind_eq_some_iff] at h
      obtain ⟨⟨r, os⟩, h3, h4⟩ := h
      obtain ⟨rfl, hm, hr⟩ := hc
      cases os with
      | nil => cases h4; exact ⟨ks, xs, ss, rfl, rfl, hm, hr, h3⟩
      | cons _ _ => cases h4
    · rw [if_neg hc] at h; cases h
  · cases h
theorem ev_mthk {c m g a es} (h : evE F (.mth (.ownk c m g) a es) env = some (d, env')) : ∃ ks xs e1 as ss, evE F a env = some (.obj c ks xs, e1) ∧ evA F es e1 = some (as, env') ∧ argS env' as = some ss ∧ m ∉ ks ∧ (refs as).isEmpty = true ∧ F g (.val (.obj c ks xs) :: ss) = some (d, []) := by
  rw [evE] at h
  obtain ⟨⟨x, e1⟩, h1, h⟩ := bind_some h
  obtain ⟨⟨as, e2⟩, h2, h⟩ := bind_some h
  obtain ⟨d', h3, h⟩ := bind_some h
  cases h
  obtain ⟨ks, xs, ss, rfl, ha, hm, hr, hF⟩ := ownkS_of h3
  exact ⟨ks, xs, e1, as, ss, h1, h2, ha, hm, hr, hF⟩
theorem lnoI_of {p : D × List (List D)} {n : Int} (h : lnoI p = some n) : p = (.int n, []) ∧ 0 ≤ n ∧ wi 62 n = true := by
  unfold lnoI at h
  split at h
  · rw [Option.ite_none_right_eq_some] at h
    obtain ⟨h1, h2⟩ := h
    cases h2
    rw [Bool.and_eq_true, decide_eq_true_eq] at h1
    exact ⟨rfl, h1.1, h1.2⟩
  · cases h
theorem ev_lno {c g a es} (h : evE F (.mth (.lno c g) a es) env = some (d, env')) : ∃ ks xs n, evE F a env = some (.obj c ks xs, env') ∧ F g [.val (.obj c ks xs)] = some (.int n, []) ∧ 0 ≤ n ∧ wi 62 n = true ∧ d = .int n := by
  rw [evE] at h
  obtain ⟨⟨x, e1⟩, h1, h⟩ := bind_some h
  match x, h1, h with
  | .obj c' ks xs, h1, h =>
    have h : (if c' = c then ((F g [.val (.obj c' ks xs)]).bind lnoI).map fun n => (D.int n, e1) else none) = some (d, env') := h
    by_cases hc : c' = c
    · rw [if_pos hc, Option.map_eq_some_iff] at h
      obtain ⟨n, h3, h4⟩ := h
      rw [Option.bind_eq_some_iff] at h3
      obtain ⟨p, h5, h6⟩ := h3
      obtain ⟨rfl, h7, h8⟩ := lnoI_of h6
      subst hc
      cases h4
      exact ⟨ks, xs, n, h1, h5, h7, h8, rfl⟩
    · rw [if_neg hc] at h; cases h
theorem arV {K : PySem.W.Frag} {H : Hp} {B : AP'} {σ : L2.St} {env : Env} : ∀ {as : List Ar} {ss : List Sl} {vs : List V}, (refs as).isEmpty = true → argS env as = some ss → ArL K H B σ as vs → ArgR K H B ss vs [] ∧ vs.length = as.length
  | [], ss, vs, _, h, r => by cases h; rw [show vs = [] from r]; exact ⟨⟨rfl, rfl⟩, rfl⟩
  | .v d :: as, ss, vs, hr, h, r => by
    have h : (argS env as).map (Sl.val d :: ·) = some ss := h
    rw [Option.map_eq_some_iff] at h
    obtain ⟨t, h1, rfl⟩ := h
    obtain ⟨v, u, rfl, r1, r2⟩ := r
    obtain ⟨g1, g2⟩ := arV (as := as) hr h1 r2
    exact ⟨⟨v, u, rfl, r1, g1⟩, by rw [List.length_cons, List.length_cons, g2]⟩
  | .r i :: as, ss, vs, hr, h, r => by cases hr
theorem gP_one {α : Type} {n : Nat} {u : α} {ws : List α} (h : ws.length = n - 1) (hn : 2 ≤ n) : gP 1 (n - 1) (List.range n) [u] ws = u :: ws := by
  unfold gP
  rw [if_pos ⟨rfl, h⟩]
  have : n = ([u] ++ ws).length := by simp; omega
  rw [this, perm_range]
  rfl
/-- o.m(k = .., ..) -/
theorem r_mthk {c m g : PySem.Str} {mm : PySem.Str × List PySem.Str} {a : Ex} {ea : Expr} {kw : Keyword} {kws : List Keyword} {es : Ex} {apos pos : Pos} (x : XOk X C G lv N sc) (hsup : notSup ea = true) (hline : (apos.endLine == pos.line) = true) (hfew : kws.length < 20) (hg : G.mt.lookup g = some (kws.length + 2, c, mm)) (hmm : mm.1 = m) (hk : kwN (kw :: kws) = some mm.2) (ha : PE X ea (tE C a)) (hes : PK X (kw :: kws) (tA C es))
    (hlen : ∀ env as env', evA C.F es env = some (as, env') → as.length = kws.length + 1) :
    PE X (.Call (.Attribute ea m apos) [] (kw :: kws) pos) (tE C (.mth (.ownk c m g) a es)) := by
  subst hmm
  obtain ⟨Cc, fa, fd, ps, k0, c1, c2, c3, F0, lk, l1, b1, kb⟩ := (x.mt g _ c mm hg).ex
  have F1 := F0.mono (Nat.le_of_succ_le lk)
  obtain ⟨w1, w2, w3, w4⟩ := kw_all (env := X.env) (pos := pos) hk
  have KB := kb.1 (by omega)
  constructor
  intro pins s σ H Q I h
  obtain ⟨B, M, env, d, env', sm, e, q⟩ := h
  obtain ⟨ks, xs, e1, as, ss, k1, k2, k2', k3, kr, k4⟩ := ev_mthk e
  have ht : eval (.Call (.Attribute ea mm.1 apos) [] (kw :: kws) pos) X.env = (do
      let ov ← eval ea X.env
      standAt apos.atName
      let (f, first) ← holding [ov] (getMethod ov mm.1 (plainOf ea X.env))
      callWith pos f first (backTo pos (starEach [] X.env)) (backToKw pos (keywordEach (kw :: kws) X.env))) := by
    rw [arm_eval_Call, sup_base hsup]
    have hf : methodCallForm (([] : List Expr).length + (kw :: kws).length) (backTo pos (starEach [] X.env)) (backToKw pos (keywordEach (kw :: kws) X.env)) = true := by
      unfold methodCallForm
      rw [w1]
      have h0 : (backTo pos (starEach [] X.env)).all (fun q => !q.1) = true := rfl
      rw [h0, Bool.true_and, Bool.true_and, decide_eq_true_eq]
      rw [List.length_cons, List.length_nil]
      split <;> omega
    congr 1
    funext ov
    congr 1
    funext _
    exact mcall_line hf hline
  refine PySem.W.methodCall_KW (pl := plainOf ea X.env) (thn (ha.run pins s σ H (fun v1 H1 => ∃ B1 M1, Sim C H1 B1 M1 σ e1 ∧ Rep C.K H1 B1 (.obj c ks xs) v1 ∧ Nx H B M H1 B1 M1) I ⟨B, M, env, _, e1, sm, k1, fun v H1 B1 M1 s1 r1 n1 => ⟨B1, M1, s1, r1, n1⟩⟩) ?_) ht
  rintro u s1 ⟨v1, H1, I1, rx, B1, M1, sm1, r1, n1⟩
  obtain ⟨p, Cc', dx, vs, rfl, hn, hp, nb, hl, r⟩ := r1
  obtain rfl : u = Value.ref p := rx
  rw [x.K] at c1
  have hCC : Cc = Cc' := by
    have := c1.symm.trans hn
    simpa using this
  subst hCC
  refine getmeth_ok I1 hp c2 c3 (zip_none k3) ?_
  refine PySem.W.callWith_KW0 (first := [.ref p]) (h₀ := X.base) I1.ok.mod.kin c3.kp w1 (thn (hes.run pos pins s1 σ H1 (fun ws H2 => ∃ B2 M2, Sim C H2 B2 M2 σ env' ∧ ArL C.K H2 B2 σ as ws ∧ Nx H1 B1 M1 H2 B2 M2) I1 ⟨B1, M1, e1, as, env', sm1, k2, fun vs H2 B2 M2 s2 r2 n2 => ⟨B2, M2, s2, r2, n2⟩⟩) ?_) (by rw [w3]; rfl)
  rintro us s3 ⟨ws, H2, I3, rv, B2, M2, sm2, r2, n2⟩
  refine ⟨I3.kIn, ?_⟩
  rw [w2]
  have ro : Rep C.K H2 B2 (.obj c ks xs) (.ref p) := Rep.nx sm1.bl sm1.mb n2 _ _ ⟨p, Cc, dx, vs, rfl, hn, hp, nb, hl, r⟩
  obtain ⟨ar, al⟩ := arV kr k2' r2
  have wl : ws.length = kws.length + 2 - 1 := by rw [al, hlen _ _ _ k2]; omega
  refine callKG (us := [.ref p]) (vs := [.ref p]) F1 x.qt x.room KB I3 (.cons rfl .nil) rv ?_
  rw [gP_one wl (by omega), x.K]
  refine ⟨B2, .val (.obj c ks xs) :: ss, [], d, [], sm2.bl, ⟨.ref p, ws, rfl, ro, ar⟩, List.nodup_nil, ?_, k4, fun v H3 r3 _ keep al => ?_⟩
  · rw [List.length_cons, wl]; omega
  · have a3 : Al H2 H3 := fun z o hz => keep z o hz (by simp)
    exact q v H3 B2 M2 (sm2.al a3) r3 (n1.trans (n2.trans a3.nx))
theorem Qt.in1 {A : Around} (h : Qt A) : Qt A.in1 := h
theorem lenG {pins : List (Addr × Obj)} {σ : L2.St} {H : Hp} {s : Shared} {Q : VK} {k : Nat} {a Cc dx fa : Addr} {fs : List (PySem.Str × V)} {fd : FuncData} {ps : List PySem.Str} {sp : Sp} (I : Inv X pins σ H s) (ha : H a = some (.ins Cc dx fs)) (hm : Meth X.K Cc "__len__" fa) (F : FnG X.prog X.w X.K X.mg X.base k fa fd ps sp) (qt : Qt X.A) (rm : Room (k + 1) X.A) (bd : Binds X.K fd ps [])
    (h : sp [.ref a] H (fun v H' => ∃ n, v = .int n ∧ 0 ≤ n ∧ n < 2 ^ 63 ∧ Q (.int n) H') E0) : wpAny (model X.prog X.w) X.A (call (.builtin "len") [.ref a]) (EP X pins σ Q) X.xe s := by
  obtain ⟨mA, O, _, _, _, _⟩ := ins_get I.hok ha
  obtain ⟨od, IA, _⟩ := O.look
  have rv : Vals [V.ref a] [Value.ref a] := .cons rfl .nil
  have hl : ([Value.ref a] : List Value).length = ps.length := by rw [← rv.length]; exact F.ln _ _ _ _ h
  have b := bd s [Value.ref a] I.kIn (by rw [List.append_nil]; exact hl)
  rw [List.append_nil] at b
  refine Calls.call_function_entry kind_len plain_len entry_len (args_len1 _) ?_
  unfold Builtin.«len»
  refine wpAny_bind (m := oneArg "len" _) (wpAny_pure ?_)
  refine wpAny_bind (m := callSpecial? (.ref a) (PySem.Str.ofString "__len__")) ?_
  unfold callSpecial? specialOf
  refine wpAny_bind (wpAny_bind (IA.type.here ((PySem.W.looks_findIn I.kIn hm.at_).here ?_)))
  refine wpAny_holding ?_
  refine wpAny_bind ((PySem.W.bind_fn I.kIn (.ref a) (beq_iff_eq.mp hm.fn)).here ?_)
  refine wpAny_bind (wpAny_call (codeAny_mono (F.go X.A.in1 X.stack s H ⟨[.ref a], []⟩ [.ref a] [.ref a] _ E0 qt.in1 rm.in1 I.env0.in1 b rv h) ?_))
  intro r s' hr
  match r, hr with
  | .ok (.ret u), hr =>
    obtain ⟨v, H', J2, rw', n, ev, h0, h1, q3⟩ := I.after hr
    subst ev
    obtain ⟨tk, rfl⟩ := (show ∃ t, u = Value.int n t from rw')
    refine wpAny_pure ?_
    refine wpAny_bind (wpAny_holding (wpAny_pure ?_))
    refine wpAny_bind (wpAny_letGo ?_)
    show wpAny _ _ (if n < 0 then _ else _) _ _ _
    rw [if_neg (by omega)]
    show wpAny _ _ (if n ≥ 2 ^ 63 then _ else _) _ _ _
    rw [if_neg (by omega)]
    exact wpAny_bind (wpAny_mkInt (wpAny_pure ⟨_, rfl, .int n, H', J2.tok _, ⟨_, rfl⟩, q3⟩))
  | .ok .next, hr => exact False.elim hr
  | .ok .brk, hr => exact False.elim hr
  | .ok .cont, hr => exact False.elim hr
  | .error e, hr => exact False.elim hr
theorem call_lno {k : Nat} {Cc fa : Addr} {fd : FuncData} {ps : List PySem.Str} {sp : Sp} (hm : Meth X.K Cc "__len__" fa) (F : FnG X.prog X.w X.K X.mg X.base k fa fd ps sp) (qt : Qt X.A) (rm : Room (k + 1) X.A) (bd : Binds X.K fd ps []) :
    CallR X (.builtin "len") (fun xs H Q => ∃ a dx fs, xs = [.ref a] ∧ H a = some (.ins Cc dx fs) ∧ sp [.ref a] H (fun v H' => ∃ n, v = .int n ∧ 0 ≤ n ∧ n < 2 ^ 63 ∧ Q (.int n) H') E0) := by
  intro pins s σ H xs us Q I r ⟨a, dx, fs, e, ha, h⟩
  subst e
  obtain ⟨u, rfl, ru⟩ := vals1 r
  obtain rfl : u = Value.ref a := ru
  exact lenG I ha hm F qt rm bd h
/-- len(o) by an own __len__ -/
theorem r_lno {c g : PySem.Str} {mm : PySem.Str × List PySem.Str} {e : Ex} {a : Expr} {p pos : Pos} (x : XOk X C G lv N sc) (hg : G.mt.lookup g = some (1, c, mm)) (hmm : mm.1 = "__len__") (gl : Gl X ("len" : PySem.Str)) (hm : X.mg "len" = none) (hn : nst a = true) (ha : PE X a (tE C e)) :
    PE X (.Call (.Name "len" p) [a] [] pos) (tE C (.mth (.lno c g) e .nil)) := by
  obtain ⟨Cc, fa, fd, ps, k0, c1, c2, c3, F0, lk, l1, b1, _⟩ := (x.mt g _ c mm hg).ex
  rw [hmm] at c3
  refine (pe_callB (call_lno c3 F0 x.qt (x.room.mono lk) b1) gl hm (by decide +kernel) (pa_cons ha pa_nil (star_cons hn)) (by decide) (by decide) (star_cons hn) rfl).imp fun σ H Q h => ?_
  obtain ⟨B, M, env, d, env', s, ev, q⟩ := h
  obtain ⟨ks, xs, n, k1, k2, k3, k4, rfl⟩ := ev_lno ev
  refine ⟨B, M, env, _, env', s, k1, fun v H1 B1 M1 s1 r1 n1 => ?_⟩
  obtain ⟨pp, Cc', dx, vs, rfl, hn', hp, nb, hl, r⟩ := r1
  rw [x.K] at c1
  have hCC : Cc = Cc' := by
    have := c1.symm.trans hn'
    simpa using this
  subst hCC
  refine ⟨pp, dx, _, rfl, hp, ?_⟩
  show spF X.K C.F g 1 [V.ref pp] H1 _ E0
  rw [x.K]
  refine ⟨B1, [.val (.obj c ks xs)], [], .int n, [], s1.bl, ⟨.ref pp, [], rfl, ⟨pp, Cc, dx, vs, rfl, hn', hp, nb, hl, r⟩, ⟨rfl, rfl⟩⟩, List.nodup_nil, rfl, k2, fun v H3 r3 _ keep al => ?_⟩
  have a3 : Al H1 H3 := fun z o hz => keep z o hz (by simp)
  have w := wi_lt k4 (by decide)
  exact ⟨n, r3, k3, by omega, q (.int n) H3 B1 M1 (s1.al a3) rfl (n1.trans a3.nx)⟩
/-! ### an object is made -/
theorem makeG {pins : List (Addr × Obj)} {σ : L2.St} {H : Hp} {s : Shared} {Q : VK} {k : Nat} {fa Cc : Addr} {fd : FuncData} {ps : List PySem.Str} {sp : Sp} {us : List Value} {vs : List V} (Mm : Mk X.K Cc fa) (F : FnG X.prog X.w X.K X.mg X.base k fa fd ps sp) (qt : Qt X.A) (rm : Room (k + 1) X.A) (bd : Binds X.K fd ps [])
    (I : Inv X pins σ H s) (rv : Vals vs us) (h : ∀ p dx, H p = none → H dx = none → dx ≠ p → sp (.ref p :: vs) (upd (upd H dx (.own p)) p (.ins Cc dx [])) (fun v H2 => v = .non ∧ Q (.ref p) H2) E0) :
    wpAny (model X.prog X.w) X.A (call (.ref Cc) us) (EP X pins σ Q) X.xe s := by
  have hq := h (s.heap.objs.size + 1) s.heap.objs.size (I.hok.fresh (Nat.le_succ _)) (I.hok.fresh (Nat.le_refl _)) (Nat.ne_of_lt (Nat.lt_succ_self _))
  have J := Inv.made (C := Cc) I
  have rr : Vals (V.ref (s.heap.objs.size + 1) :: vs) (Value.ref (s.heap.objs.size + 1) :: us) := .cons rfl rv
  have hl : (Value.ref (s.heap.objs.size + 1) :: us).length = ps.length := by rw [← rr.length]; exact F.ln _ _ _ _ hq
  have b := bd _ (Value.ref (s.heap.objs.size + 1) :: us) J.kIn (by rw [List.append_nil]; exact hl)
  rw [List.append_nil] at b
  have qm : Qt (X.A.under (.builtin "type.__call__" ⟨.ref Cc :: us, []⟩)) := by
    have : X.A.guards = some [] := qt
    show Around.guards _ = some []
    first | exact this | simp [Around.under, pushGuards, Code.guards, Code.isGuard, guardIds, this]
  refine wpAny_call (make_map (f := fa) I.kIn Mm.makes Mm.init (beq_iff_eq.mp Mm.fn) (codeAny_mono (F.go _ X.stack _ _ ⟨Value.ref (s.heap.objs.size + 1) :: us, []⟩ _ _ _ E0 qm (rm.make Cc us []) (J.env0.make Cc us []) b rr hq) ?_))
  intro r s' hr
  match r, hr with
  | .ok (.ret u), hr =>
    obtain ⟨v, H', J2, rw, ev, q3⟩ := J.after hr
    subst ev
    exact ⟨rw, ⟨V.ref (s.heap.objs.size + 1), H', J2, rfl, q3⟩⟩
  | .ok .next, hr => exact False.elim hr
  | .ok .brk, hr => exact False.elim hr
  | .ok .cont, hr => exact False.elim hr
  | .error e, hr => exact False.elim hr
theorem r_mk {c : PySem.Str} {a : Expr} {args : List Expr} {es : Ex} {p pos : Pos} (x : XOk X C G lv N sc) (hc : G.mks.lookup c = some (args.length + 1)) (hg : Gl X c) (hd : (c == ("__debug__" : PySem.Str)) = false) (h1 : nst a = true) (h2 : args.all nst = true) (hes : PA X (a :: args) (tL C es))
    (hlen : ∀ env as env', evL C.F es env = some (as, env') → as.length = (a :: args).length) : PE X (.Call (.Name c p) (a :: args) [] pos) (tE C (.mk c es)) := by
  obtain ⟨Cc, fa, fd, ps, k, n1, m1, mk1, F1, lk, l1, b1⟩ := (x.mkr c _ hc).ex
  constructor
  intro pins s σ H Q I h
  obtain ⟨B, M, env, d, env', sm, e, q⟩ := h
  obtain ⟨ds, ks, xs, k1, k2, rfl⟩ := ev_mk e
  apply wpAny_Call_Name_kw
  apply ld_glob I hg m1 _ hd
  refine PySem.W.callWith_K (h₀ := X.base) I.ok.mod.kin mk1.kp (thn (hes.run pos pins s σ H (fun ws H2 => ∃ B2 M2, Sim C H2 B2 M2 σ env' ∧ RepL C.K H2 B2 ds ws ∧ Nx H B M H2 B2 M2) I ⟨B, M, env, ds, env', sm, k1, fun ws H2 B2 M2 s2 r2 n2 => ⟨B2, M2, s2, r2, n2⟩⟩) ?_) (star_cons h1) (star_any h2)
  rintro us s1 ⟨ws, H1, I1, rv, B1, M1, s1', r1, nx1⟩
  refine ⟨I1.kIn, ?_⟩
  refine makeG mk1 F1 x.qt (x.room.mono lk) b1 I1 rv fun pp dx hp hdx ne => ?_
  have a1 : Al H1 (upd (upd H1 dx (.own pp)) pp (.ins Cc dx [])) := (Al.new hdx).trans (Al.new (by rw [upd_ne (Ne.symm ne)]; exact hp))
  have bl2 : BL (upd (upd H1 dx (.own pp)) pp (.ins Cc dx [])) (ins pp B1) := fun z hz => hz.elim (fun e => ⟨.i Cc dx [], by rw [e, upd_same]; rfl⟩) fun hz => by
    obtain ⟨o, ho⟩ := s1'.bl z hz
    exact ⟨o, a1 _ _ ho⟩
  have r2 : RepL X.K (upd (upd H1 dx (.own pp)) pp (.ins Cc dx [])) (ins pp B1) ds ws := by
    rw [x.K]
    exact RepL.nx (M := fun _ => False) (M' := fun _ => False) s1'.bl (fun _ z => z.elim) ⟨fun z o hz _ => a1 z o hz, fun z hz => hz.elim (fun e => .inr (e ▸ hp)) .inl, fun _ hz => .inl hz, fun z hz => by
      have := upd_none hz
      exact upd_none this⟩ ds ws r1
  refine ⟨pp, ws, Cc, dx, ins pp B1, ds, ks, xs, rfl, ?_, n1, upd_same, .inl rfl, bl2, r2, k2, fun H' vs hi rx hlk keep al => ⟨rfl, ?_⟩⟩
  · rw [r1.len, hlen _ _ _ k1, List.length_cons]
  have a2 : Al H1 H' := fun z o hz => keep z o (a1 z o hz) fun e => by subst e; rw [hp] at hz; cases hz
  have blH : BL H' (ins pp B1) := fun z hz => hz.elim (fun e => ⟨.i Cc dx (ks.zip vs), by rw [e]; exact hi⟩) fun hz => by
    obtain ⟨o, ho⟩ := s1'.bl z hz
    exact ⟨o, a2 _ _ ho⟩
  have nB : ¬ B1 pp := fun hz => by
    obtain ⟨o, ho⟩ := s1'.bl pp hz
    rw [hp] at ho; cases ho
  refine q (.ref pp) H' B1 M1 (s1'.al a2) ⟨pp, Cc, dx, vs, rfl, by rw [← x.K]; exact n1, hi, nB, hlk, ?_⟩ (nx1.trans a2.nx)
  rw [← x.K]
  exact rx.less blH fun z hz => .inr hz
end Mn
namespace Mn
open PySem PySem.Spec PyProof.Rows L2 RZ
variable {C : Ctx} {X : Cx} {F : FT} {env env' : Env} {d : D} {G : GS} {lv : Nat} {N : List PySem.Str} {sc : Scope}
section
variable {prog : Program} {w : World} {A : Around} {E : Value → Shared → Prop} {s : Shared} {K : PySem.W.Frag} {x C L : Addr} {h₀ : Heap} {m : PySem.Str → Option Value} {ox : Obj} {od : Option Obj}
/-- a special method that is a built-in slot -/
theorem ifBound_B {M : Model} {name : PySem.Str} {id T : String} {args : List Value} {Q : Option Value → Shared → Prop} (X : K.In s.heap) (I : PySem.W.InstAt s.heap x ox C od) (hs : PySem.W.findIn K (.ref C) name = some (some (.builtin id))) (S : Slot T name id)
    (h : wpAny M A (call (.builtin id) (.ref x :: args)) (fun v => Q (some v)) E s) : wpAny M A (callSpecialIfBound? (.ref x) name args) Q E s := by
  simp only [callSpecialIfBound?, bindSpecialIfBound?]
  refine wpAny_holding (wpAny_bind (wpAny_bind (wpAny_bind (I.type.here ((PySem.W.looks_findIn X hs).here ?_)))))
  simp only [S.bind]
  refine wpAny_bind (wpAny_askSetting (wpAny_ite ?_))
  have fin : wpAny M A (call (.builtin id) ([.ref x] ++ args) >>= fun v => pure (some v)) Q E s := wpAny_bind (wpAny_mono h (fun v s' h' => wpAny_pure h') fun _ _ h' => h')
  split
  · exact wpAny_bind (wpAny_pure (wpAny_pure (by exact fin)))
  · exact wpAny_tryCatch (wpAny_bind (wpAny_pure (wpAny_pure (by exact fin))))
/-- two objects of one class, the comparison told by tryCompare -/
theorem rich_one {op : CmpOp} {Q : Value → Shared → Prop} {y : Addr} {oy : Obj} {od' : Option Obj} (hu : A.units < cLine) (I : PySem.W.InstAt s.heap x ox C od) (I' : PySem.W.InstAt s.heap y oy C od')
    (one : wpAny (model prog w) A (tryCompare (.ref x) (cmpInfo op).2.1 (.ref y)) (fun r s' => ∃ v, r = some v ∧ Q v s') E s) : wpAny (model prog w) A (richCompare op (.ref x) (.ref y)) Q E s := by
  unfold richCompare
  simp only [oneThing_ref]
  refine wpAny_holding (wpAny_bind (wpAny_cRoomFor hu ?_))
  refine wpAny_bind (I.type.here (wpAny_bind (I'.type.here ?_)))
  rw [show (Value.ref C != Value.ref C) = false from by simp]
  simp only [Bool.false_eq_true, if_false]
  refine wpAny_bind (wpAny_pure ?_)
  simp only [Bool.false_eq_true, if_false]
  refine wpAny_bind (wpAny_mono one (fun r s' z => ?_) fun _ _ e => e)
  obtain ⟨v, rfl, hq⟩ := z
  exact wpAny_pure hq
end
section
variable {pins : List (Addr × Obj)} {σ : L2.St} {H : Hp} {s : Shared} {Q : VK} {k : Nat} {a b Cc dx dy fa : Addr} {fs gs : List (PySem.Str × V)} {fd : FuncData} {ps : List PySem.Str} {sp : Sp}
theorem eqI (I : Inv X pins σ H s) (ha : H a = some (.ins Cc dx fs)) (hb : H b = some (.ins Cc dy gs)) (hm : Meth X.K Cc "__eq__" fa) (F : FnG X.prog X.w X.K X.mg X.base k fa fd ps sp) (qt : Qt X.A) (rm : Room (k + 1) X.A) (bd : Binds X.K fd ps [])
    (h : sp [.ref a, .ref b] H (fun v H' => ∃ r, v = .bl r ∧ Q (.bl r) H') E0) : wpAny (model X.prog X.w) X.A (compareOp .Eq (.ref a) (.ref b)) (EP X pins σ Q) X.xe s := by
  obtain ⟨mA, O, _⟩ := ins_get I.hok ha
  obtain ⟨mB, O', _⟩ := ins_get I.hok hb
  obtain ⟨od, J, _⟩ := O.look
  obtain ⟨od', J', _⟩ := O'.look
  show wpAny (model X.prog X.w) X.A (richCompare .Eq (.ref a) (.ref b)) (EP X pins σ Q) X.xe s
  refine rich_one rm.units0 J J' ?_
  unfold tryCompare
  have rv : Vals [V.ref a, V.ref b] [Value.ref a, Value.ref b] := .cons rfl (.cons rfl .nil)
  refine wpAny_bind (PySem.W.ifBound_K I.kIn J hm.at_ hm.fn (wpAny_mono (callG F qt (rm.mono (Nat.le_succ k)) bd I rv h) (fun v s' hv => ?_) fun _ _ e => e))
  obtain ⟨x, H', I', rx, r, rfl, q⟩ := hv
  obtain rfl : v = Value.bool r := rx
  exact wpAny_pure ⟨_, rfl, .bl r, H', I', rfl, q⟩
theorem neI (I : Inv X pins σ H s) (ha : H a = some (.ins Cc dx fs)) (hb : H b = some (.ins Cc dy gs)) (ne : NeOk X.K Cc) (hm : Meth X.K Cc "__eq__" fa) (Fg : FnG X.prog X.w X.K X.mg X.base k fa fd ps sp) (qt : Qt X.A) (rm : Room (k + 1) X.A) (bd : Binds X.K fd ps [])
    (h : sp [.ref a, .ref b] H (fun v H' => ∃ r, v = .bl r ∧ Q (.bl (!r)) H') E0) : wpAny (model X.prog X.w) X.A (compareOp .NotEq (.ref a) (.ref b)) (EP X pins σ Q) X.xe s := by
  obtain ⟨mA, O, _⟩ := ins_get I.hok ha
  obtain ⟨mB, O', _⟩ := ins_get I.hok hb
  obtain ⟨od, J, _⟩ := O.look
  obtain ⟨od', J', _⟩ := O'.look
  have rv : Vals [V.ref a, V.ref b] [Value.ref a, Value.ref b] := .cons rfl (.cons rfl .nil)
  have hl : ([Value.ref a, Value.ref b] : List Value).length = ps.length := by rw [← rv.length]; exact Fg.ln _ _ _ _ h
  have bb := bd s [Value.ref a, Value.ref b] I.kIn (by rw [List.append_nil]; exact hl)
  rw [List.append_nil] at bb
  show wpAny (model X.prog X.w) X.A (richCompare .NotEq (.ref a) (.ref b)) (EP X pins σ Q) X.xe s
  refine rich_one rm.units0 J J' ?_
  rw [cmpInfo_NotEq]
  dsimp only
  unfold tryCompare
  refine wpAny_bind (ifBound_B (T := "object") I.kIn J ne.at_ F.cmp_object.ne ?_)
  refine wpAny_call (codeAny_call_builtin F.cmp_object.ne.plain F.cmpEntry_ne (PySem.W.check_slot F.cmpKind_ne F.cmpSplit_ne (J.type.andThen (PySem.W.looks_subIn (t := .ref Cc) I.kIn ne.mro)) (F.cmpArgs_ne _ _) ?_))
  have go := Fg.go X.A.in1 X.stack s H ⟨[.ref a, .ref b], []⟩ [.ref a, .ref b] [.ref a, .ref b] _ E0 qt.in1 rm.in1 I.env0.in1 bb rv h
  unfold Builtin.«object.__ne__»
  refine wpAny_bind (wpAny_pure (a := (Value.ref a, [Value.ref b])) ?_)
  refine wpAny_bind (m := cRoomFor "comparison" [.ref a, .ref b]) (wpAny_cRoomFor (rm.in1).units0 ?_)
  refine wpAny_bind (m := callSpecialIfBound? (.ref a) (PySem.Str.ofString "__eq__") [.ref b]) (PySem.W.ifBound_K I.kIn J hm.at_ hm.fn (wpAny_call (codeAny_mono go ?_)))
  intro r s' hr
  match r, hr with
  | .ok (.ret u), hr =>
    obtain ⟨v, H', J2, rw', r, ev, q3⟩ := I.after hr
    subst ev
    obtain rfl : u = Value.bool r := rw'
    refine wpAny_bind (m := truthy (.bool r)) (wpAny_truthy_bool ?_)
    exact wpAny_pure (wpAny_pure ⟨_, rfl, .bl (!r), H', J2, rfl, q3⟩)
  | .ok .next, hr => exact False.elim hr
  | .ok .brk, hr => exact False.elim hr
  | .ok .cont, hr => exact False.elim hr
  | .error e, hr => exact False.elim hr
end
/-! ### expressions -/
theorem ev_isc {c a es} (h : evE F (.mth (.isc c) a es) env = some (d, env')) : ∃ ks xs, evE F a env = some (.obj c ks xs, env') ∧ d = .bl true := by
  rw [evE] at h
  obtain ⟨⟨x, e1⟩, h1, h⟩ := bind_some h
  obtain ⟨r, h2, h⟩ := bind_some h
  cases h
  unfold iscS at h2
  split at h2
  · rename_i c' ks xs
    by_cases hc : c' = c
    · rw [if_pos hc] at h2; subst hc; cases h2; exact ⟨ks, xs, h1, rfl⟩
    · rw [if_neg hc] at h2; cases h2
  · cases h2
theorem ev_eqo {ng c g a es} (h : evE F (.mth (.eqo ng c g) a es) env = some (d, env')) : ∃ ks xs e1 ls ys r, evE F a env = some (.obj c ks xs, e1) ∧ evL F es e1 = some ([.obj c ls ys], env') ∧ F g [.val (.obj c ks xs), .val (.obj c ls ys)] = some (.bl r, []) ∧ d = .bl (if ng then !r else r) := by
  rw [evE] at h
  obtain ⟨⟨x, e1⟩, h1, h⟩ := bind_some h
  obtain ⟨⟨ds, e2⟩, h2, h⟩ := bind_some h
  obtain ⟨r, h3, h⟩ := bind_some h
  obtain ⟨rfl, rfl⟩ : r = d ∧ e2 = env' := by cases h; exact ⟨rfl, rfl⟩
  obtain ⟨c1, ks, xs, c2, ls, ys, rfl, rfl⟩ : ∃ c1 ks xs c2 ls ys, x = .obj c1 ks xs ∧ ds = [.obj c2 ls ys] := by
    unfold eqoS at h3
    split at h3
    · exact ⟨_, _, _, _, _, _, rfl, rfl⟩
    · cases h3
  have h3 : (if c1 = c ∧ c2 = c then (F g [.val (.obj c1 ks xs), .val (.obj c2 ls ys)]).bind (eqoR ng) else none) = some r := h3
  by_cases hc : c1 = c ∧ c2 = c
  · rw [if_pos hc, Option.bind_eq_some_iff] at h3
    obtain ⟨p, h4, h5⟩ := h3
    obtain ⟨rfl, rfl⟩ := hc
    unfold eqoR at h5
    split at h5
    · cases h5; exact ⟨ks, xs, e1, ls, ys, _, h1, h2, h4, rfl⟩
    · cases h5
  · rw [if_neg hc] at h3; cases h3
/-- isinstance(o, C) of an object of the class -/
theorem call_isc {Cc : Addr} : CallR X (.builtin "isinstance") (fun xs H Q => ∃ a dx fs, xs = [.ref a, .ref Cc] ∧ H a = some (.ins Cc dx fs) ∧ Q (.bl true) H) := by
  intro pins s σ H xs us Q I r ⟨a, dx, fs, e, ha, h⟩
  subst e
  obtain ⟨u1, u2, rfl, r1, r2⟩ := vals2 r
  obtain rfl : u1 = Value.ref a := r1
  obtain rfl : u2 = Value.ref Cc := r2
  obtain ⟨mA, O, _⟩ := ins_get I.hok ha
  obtain ⟨od, J, _⟩ := O.look
  exact PySem.W.isi_call (t := .ref Cc) I.kIn (fun M => J.type) (by simp [PySem.W.isIn]) (fun z => nomatch z) ⟨.bl true, H, I, rfl, h⟩
theorem r_isc {c : PySem.Str} {n : Nat} {e : Ex} {a : Expr} {p p2 pos : Pos} (x : XOk X C G lv N sc) (hc : G.mks.lookup c = some n) (gl : Gl X ("isinstance" : PySem.Str)) (hm : X.mg "isinstance" = none) (hn : nst a = true) (hg : Gl X c) (hd : (c == ("__debug__" : PySem.Str)) = false) (ha : PE X a (tE C e)) :
    PE X (.Call (.Name "isinstance" p) [a, .Name c p2] [] pos) (tE C (.mth (.isc c) e .nil)) := by
  obtain ⟨Cc, fa, fd, ps, k, n1, m1, _⟩ := (x.mkr c _ hc).ex
  refine (pe_callB (call_isc (Cc := Cc)) gl hm (by decide +kernel) (pa_cons ha (pa_cons (pe_glob (v := .ref Cc) hg m1 rfl hd) pa_nil) (star_cons hn)) (by decide) (by decide) (star_cons hn) rfl).imp fun σ H Q h => ?_
  obtain ⟨B, M, env, d, env', s, ev, q⟩ := h
  obtain ⟨ks, xs, k1, rfl⟩ := ev_isc ev
  refine ⟨B, M, env, _, env', s, k1, fun v H1 B1 M1 s1 r1 n1' => ?_⟩
  obtain ⟨pp, Cc', dx, vs, rfl, hn', hp, nb, hl, r⟩ := r1
  rw [x.K] at n1
  have hCC : Cc = Cc' := by
    have := n1.symm.trans hn'
    simpa using this
  subst hCC
  exact ⟨pp, dx, _, rfl, hp, q (.bl true) H1 B1 M1 s1 rfl n1'⟩
/-- o == p, o != p by an own __eq__ -/
theorem op_eqo {ng : Bool} {op : CmpOp} {Cc fa : Addr} {fd : FuncData} {ps : List PySem.Str} {sp : Sp} {k : Nat} (ho : ckQ ng op = true) (ne : NeOk X.K Cc) (hm : Meth X.K Cc "__eq__" fa) (Fg : FnG X.prog X.w X.K X.mg X.base k fa fd ps sp) (qt : Qt X.A) (rm : Room (k + 1) X.A) (bd : Binds X.K fd ps []) :
    OpR X (compareOp op) (fun x y H Q => ∃ a b dx dy fs gs, x = .ref a ∧ y = .ref b ∧ H a = some (.ins Cc dx fs) ∧ H b = some (.ins Cc dy gs) ∧ sp [.ref a, .ref b] H (fun v H' => ∃ r, v = .bl r ∧ Q (.bl (if ng then !r else r)) H') E0) := by
  intro pins s σ H x y v u Q I rx ry h
  obtain ⟨a, b, dx, dy, fs, gs, rfl, rfl, ha, hb, hs⟩ := h
  obtain rfl : v = Value.ref a := rx
  obtain rfl : u = Value.ref b := ry
  unfold ckQ at ho
  split at ho
  · exact eqI I ha hb hm Fg qt rm bd hs
  · exact neI I ha hb ne hm Fg qt rm bd hs
  · cases ho
theorem eqo_T {ng : Bool} {c g : PySem.Str} {mm : PySem.Str × List PySem.Str} {e b : Ex} {Cc : Addr} (hK : X.K = C.K) (c1 : PySem.W.nsIn X.K mainGlobals c = some (some (.ref Cc))) {σ : L2.St} {H : Hp} {Q : VK} (h : tE C (.mth (.eqo ng c g) e (.cons b .nil)) σ H Q) :
    tOp (fun x y H Q => ∃ a b dx dy fs gs, x = .ref a ∧ y = .ref b ∧ H a = some (.ins Cc dx fs) ∧ H b = some (.ins Cc dy gs) ∧ spF X.K C.F g 2 [.ref a, .ref b] H (fun v H' => ∃ r, v = .bl r ∧ Q (.bl (if ng then !r else r)) H') E0) (tE C e) (tE C b) σ H Q := by
  obtain ⟨B, M, env, d, env', s, ev, q⟩ := h
  obtain ⟨ks, xs, e1, ls, ys, rr, k1, k2, k3, rfl⟩ := ev_eqo ev
  rw [evL] at k2
  obtain ⟨⟨y, eb⟩, k4, k2⟩ := bind_some k2
  obtain ⟨⟨ts, ec⟩, k5, k2⟩ := bind_some k2
  rw [evL] at k5
  cases k5; cases k2
  refine ⟨B, M, env, _, e1, s, k1, fun v H1 B1 M1 s1 r1 n1 => ⟨B1, M1, e1, _, _, s1, k4, fun u H2 B2 M2 s2 r2 n2 => ?_⟩⟩
  have r1' := Rep.nx s1.bl s1.mb n2 _ _ r1
  obtain ⟨p1, C1, d1, vs1, rfl, hn1, hp1, nb1, hl1, rr1⟩ := id r1'
  obtain ⟨p2, C2, d2, vs2, rfl, hn2, hp2, nb2, hl2, rr2⟩ := id r2
  rw [hK] at c1
  have h1 : Cc = C1 := by
    have := c1.symm.trans hn1
    simpa using this
  have h2 : Cc = C2 := by
    have := c1.symm.trans hn2
    simpa using this
  subst h1
  subst h2
  refine ⟨p1, p2, d1, d2, _, _, rfl, rfl, hp1, hp2, ?_⟩
  rw [hK]
  refine ⟨B2, [.val (.obj c ks xs), .val (.obj c ls ys)], [], .bl rr, [], s2.bl, ⟨.ref p1, [.ref p2], rfl, r1', ⟨.ref p2, [], rfl, r2, ⟨rfl, rfl⟩⟩⟩, List.nodup_nil, rfl, k3, fun v H3 r3 _ keep al => ?_⟩
  have a3 : Al H2 H3 := fun z o hz => keep z o hz (by simp)
  exact ⟨rr, r3, q (.bl _) H3 B2 M2 (s2.al a3) rfl (n1.trans (n2.trans a3.nx))⟩
theorem r_eqo {ng : Bool} {op : CmpOp} {c g : PySem.Str} {mm : PySem.Str × List PySem.Str} {e b : Ex} {l r : Expr} {pos : Pos} (x : XOk X C G lv N sc) (ho : ckQ ng op = true) (hg : G.mt.lookup g = some (2, c, mm)) (hmm : mm.1 = "__eq__") (hmk : behindInMarks op r = false) (ha : PE X l (tE C e)) (hb : PE X r (tE C b)) :
    PE X (.Compare l [op] [r] pos) (tE C (.mth (.eqo ng c g) e (.cons b .nil))) := by
  obtain ⟨Cc, fa, fd, ps, k0, c1, c2, c3, F0, lk, l1, b1, kb⟩ := (x.mt g _ c mm hg).ex
  have ne := kb.2 hmm
  rw [hmm] at c3
  exact (pe_cmpR (op_eqo ho ne c3 F0 x.qt (x.room.mono lk) b1) ha hb hmk).imp fun σ H Q h => eqo_T (mm := mm) x.K c1 h
theorem r_teqo {ng : Bool} {op : CmpOp} {c g : PySem.Str} {mm : PySem.Str × List PySem.Str} {e b : Ex} {l r : Expr} {pos : Pos} (x : XOk X C G lv N sc) (ho : ckQ ng op = true) (hg : G.mt.lookup g = some (2, c, mm)) (hmm : mm.1 = "__eq__") (hmk : behindInMarks op r = false) (ha : PE X l (tE C e)) (hb : PE X r (tE C b)) :
    PT X (.Compare l [op] [r] pos) (tT C (.tval (.mth (.eqo ng c g) e (.cons b .nil)))) := by
  obtain ⟨Cc, fa, fd, ps, k0, c1, c2, c3, F0, lk, l1, b1, kb⟩ := (x.mt g _ c mm hg).ex
  have ne := kb.2 hmm
  rw [hmm] at c3
  refine (pt_cmpR (op_eqo ho ne c3 F0 x.qt (x.room.mono lk) b1) ha hb hmk).imp fun σ H Q h => ?_
  obtain ⟨B, M, env, k, env', s, ev, q⟩ := h
  obtain ⟨d, h1, h2⟩ := ev_tval ev
  refine eqo_T (mm := mm) x.K c1 ⟨B, M, env, d, env', s, h1, fun v H1 B1 M1 s1 r1 n1 => ?_⟩
  obtain ⟨ks, xs, e1, ls, ys, rr, k1, k2, k3, rfl⟩ := ev_eqo h1
  cases h2
  obtain rfl : v = .bl _ := r1
  exact ⟨_, rfl, q H1 B1 M1 s1 n1⟩
end Mn
/-! texts: their methods, f-strings -/
namespace Mn
open PySem PySem.Spec PyProof.Rows L2 RZ
variable {C : Ctx} {X : Cx} {F : FT} {env env' : Env} {d : D} {G : GS} {lv : Nat} {N : List PySem.Str} {sc : Scope}
theorem ev_tx {m : Mt} {a es : Ex} (hm : ∀ c n g, m ≠ .own c n g) (hm2 : ∀ c n g, m ≠ .ownk c n g) (hm3 : ∀ c g, m ≠ .lno c g) (hm4 : ∀ c, m ≠ .isc c) (hm5 : ∀ n c g, m ≠ .eqo n c g) (h : evE F (.mth m a es) env = some (d, env')) : ∃ x e1 ds, evE F a env = some (x, e1) ∧ evL F es e1 = some (ds, env') ∧ opM m x ds = some d := by
  have h : ((evE F a env).bind fun p => (evL F es p.2).bind fun q => (opM m p.1 q.1).bind fun r => some (r, q.2)) = some (d, env') := by
    rw [← h]
    cases m <;> first | rfl | exact absurd rfl (hm _ _ _) | exact absurd rfl (hm2 _ _ _) | exact absurd rfl (hm3 _ _) | exact absurd rfl (hm4 _) | exact absurd rfl (hm5 _ _ _)
  obtain ⟨⟨x, e1⟩, h1, h⟩ := bind_some h
  obtain ⟨⟨ds, e2⟩, h2, h⟩ := bind_some h
  obtain ⟨r, h3, h⟩ := bind_some h
  cases h
  exact ⟨x, e1, ds, h1, h2, h3⟩
theorem ev_fst {es : Ex} (h : evE F (.fst es) env = some (d, env')) : ∃ ds t, evL F es env = some (ds, env') ∧ catA PySem.Str.empty ds = some t ∧ d = .str t := by
  rw [evE] at h
  obtain ⟨⟨ds, e1⟩, h1, h⟩ := bind_some h
  obtain ⟨t, h2, h⟩ := bind_some h
  cases h
  exact ⟨ds, t, h1, h2, rfl⟩
theorem opM_str {m : Mt} {x : D} {ds : List D} {r : D} (h : opM m x ds = some r) : ∃ a, x = .str a := by
  unfold opM at h
  split at h <;> first | exact ⟨_, rfl⟩ | cases h
def rM (K : PySem.W.Frag) (m : Mt) : V → List V → Hp → VK → Prop := fun x xs H Q => ∃ B d ds r, BL H B ∧ Rep K H B d x ∧ RepL K H B ds xs ∧ opM m d ds = some r ∧ ∀ v H', Al H H' → Rep K H' B r v → Q v H'
theorem mt_of {id : String} {r r' : V → List V → Hp → VK → Prop} (h : MtR X id r) (i : ∀ x xs H Q, r' x xs H Q → r x xs H Q) : MtR X id r' := fun pins s σ H x xs v us Q I rx rs q => h pins s σ H x xs v us Q I rx rs (i x xs H Q q)
theorem repl_strs {K : PySem.W.Frag} {H : Hp} {B : AP'} : ∀ ys : List PySem.Str, RepL K H B (ys.map D.str) (ys.map V.str)
  | [] => rfl
  | y :: ys => ⟨.str y, ys.map V.str, rfl, rfl, repl_strs ys⟩
theorem strs_repl {K : PySem.W.Frag} {H : Hp} {B : AP'} : ∀ {ds : List D} {ys : List PySem.Str} {vs : List V}, strsD ds = some ys → RepL K H B ds vs → vs = ys.map V.str
  | [], ys, vs, h, r => by cases h; exact r
  | .str x :: ds, ys, vs, h, r => by
    have h : (strsD ds).map (x :: ·) = some ys := h
    rw [Option.map_eq_some_iff] at h
    obtain ⟨zs, h1, rfl⟩ := h
    obtain ⟨v, t, rfl, r1, r2⟩ := r
    cases r1
    rw [strs_repl h1 r2]; rfl
  | .non :: _, _, _, h, _ => by cases h
  | .bl _ :: _, _, _, h, _ => by cases h
  | .int _ :: _, _, _, h, _ => by cases h
  | .tup _ :: _, _, _, h, _ => by cases h
  | .lst _ :: _, _, _, h, _ => by cases h
  | .scr _ :: _, _, _, h, _ => by cases h
  | .obj _ _ _ :: _, _, _, h, _ => by cases h
  | .adr _ :: _, _, _, h, _ => by cases h
theorem md_split : MtR X "str.split" (rM X.K .split) := mt_of mt_split fun x xs H Q ⟨B, d, ds, r, bl, rx, rl, e, q⟩ => by
  unfold opM at e; split at e <;> simp only [reduceCtorEq, Option.some.injEq, Option.ite_none_right_eq_some] at *
  obtain ⟨v, rfl, r1⟩ := rl.one; cases r1; cases rx; obtain ⟨⟨e1, e2⟩, rfl⟩ := e
  refine ⟨_, _, rfl, rfl, e1, Nat.le_trans e2 lim_le, fun p hp => q _ _ (Al.new hp) ⟨p, _, rfl, upd_same, fun z => ?_, repl_strs _⟩⟩
  obtain ⟨_, z⟩ := bl _ z; rw [hp] at z; cases z
theorem md_part : MtR X "str.partition" (rM X.K .part) := mt_of mt_partition fun x xs H Q ⟨B, d, ds, r, bl, rx, rl, e, q⟩ => by
  unfold opM at e; split at e <;> simp only [reduceCtorEq, Option.some.injEq, Option.ite_none_right_eq_some] at *
  obtain ⟨v, rfl, r1⟩ := rl.one; cases r1; cases rx; obtain ⟨⟨e1, e2⟩, rfl⟩ := e
  exact ⟨_, _, rfl, rfl, e1, Nat.le_trans e2 lim_le, fun p hp => q _ _ (Al.new hp) ⟨p, _, rfl, .inl (.inl upd_same), ⟨_, _, rfl, rfl, _, _, rfl, rfl, _, _, rfl, rfl, rfl⟩⟩⟩
theorem md_pre : MtR X "str.removeprefix" (rM X.K .pre) := mt_of mt_removeprefix fun x xs H Q ⟨B, d, ds, r, bl, rx, rl, e, q⟩ => by
  unfold opM at e; split at e <;> simp only [reduceCtorEq, Option.some.injEq, Option.ite_none_right_eq_some] at *
  obtain ⟨v, rfl, r1⟩ := rl.one; cases r1; cases rx; obtain ⟨e1, rfl⟩ := e
  exact ⟨_, _, rfl, rfl, Nat.le_trans e1 lim_le, q _ H (Al.refl H) rfl⟩
theorem md_stw : MtR X "str.startswith" (rM X.K .stw) := mt_of mt_startswith fun x xs H Q ⟨B, d, ds, r, bl, rx, rl, e, q⟩ => by
  unfold opM at e; split at e <;> simp only [reduceCtorEq, Option.some.injEq] at *
  obtain ⟨v, rfl, r1⟩ := rl.one; cases r1; cases rx; subst e
  exact ⟨_, _, rfl, rfl, q _ H (Al.refl H) rfl⟩
theorem md_asc : MtR X "str.isascii" (rM X.K .asc) := mt_of mt_isascii fun x xs H Q ⟨B, d, ds, r, bl, rx, rl, e, q⟩ => by
  unfold opM at e; split at e <;> simp only [reduceCtorEq, Option.some.injEq] at *
  cases rl; cases rx; subst e
  exact ⟨_, rfl, rfl, trivial, q _ H (Al.refl H) rfl⟩
theorem md_dig : MtR X "str.isdigit" (rM X.K .dig) := mt_of mt_isdigit fun x xs H Q ⟨B, d, ds, r, bl, rx, rl, e, q⟩ => by
  unfold opM at e; split at e <;> simp only [reduceCtorEq, Option.some.injEq] at *
  cases rl; cases rx; subst e
  exact ⟨_, rfl, rfl, trivial, q _ H (Al.refl H) rfl⟩
theorem md_join : MtR X "str.join" (rM X.K .join) := mt_of mt_join fun x xs H Q ⟨B, d, ds, r, bl, rx, rl, e, q⟩ => by
  unfold opM at e; split at e <;> simp only [reduceCtorEq, Option.some.injEq, Option.bind_eq_some_iff, Option.ite_none_right_eq_some] at *
  · obtain ⟨v, rfl, r1⟩ := rl.one; cases rx; obtain ⟨ys, e1, e2, rfl⟩ := e
    obtain ⟨a, vs, rfl, h1, _, g⟩ := r1
    rw [strs_repl e1 g] at h1
    exact ⟨_, a, ys, rfl, rfl, .inl (.inl (.inl h1)), Nat.le_trans e2 (by decide), q _ H (Al.refl H) rfl⟩
  · obtain ⟨v, rfl, r1⟩ := rl.one; cases rx; obtain ⟨ys, e1, e2, rfl⟩ := e
    obtain ⟨a, vs, rfl, h1, g⟩ := r1
    rw [strs_repl e1 g] at h1
    exact ⟨_, a, ys, rfl, rfl, .inr h1, Nat.le_trans e2 (by decide), q _ H (Al.refl H) rfl⟩
theorem tx_key {m : Mt} {e e1 : Ex} (hK : X.K = C.K) (hm : ∀ c n g, m ≠ .own c n g) (hm2 : ∀ c n g, m ≠ .ownk c n g) (hm3 : ∀ c g, m ≠ .lno c g) (hm4 : ∀ c, m ≠ .isc c) (hm5 : ∀ n c g, m ≠ .eqo n c g) {σ : L2.St} {H : Hp} {Q : VK} (h : tE C (.mth m e (.cons e1 .nil)) σ H Q) : tM1 (rM X.K m) (tE C e) (tE C e1) σ H Q := by
  obtain ⟨B, M, env, d, env', s, ev, q⟩ := h
  obtain ⟨x, ea, ds, k1, k2, k3⟩ := ev_tx hm hm2 hm3 hm4 hm5 ev
  obtain ⟨a, rfl⟩ := opM_str k3
  rw [evL] at k2
  obtain ⟨⟨y, eb⟩, k4, k2⟩ := bind_some k2
  obtain ⟨⟨ys, ec⟩, k5, k2⟩ := bind_some k2
  rw [evL] at k5
  cases k5; cases k2
  refine ⟨B, M, env, _, ea, s, k1, fun v H1 B1 M1 s1 r1 n1 => ⟨⟨a, r1⟩, B1, M1, ea, _, _, s1, k4, fun w H2 B2 M2 s2 r2 n2 => ?_⟩⟩
  rw [hK]
  exact ⟨B2, .str a, [y], d, s2.bl, r1, ⟨w, [], rfl, r2, rfl⟩, k3, fun u H3 a3 r3 => q u H3 B2 M2 (s2.al a3) r3 (n1.trans (n2.trans a3.nx))⟩
theorem tx_key0 {m : Mt} {e : Ex} (hK : X.K = C.K) (hm : ∀ c n g, m ≠ .own c n g) (hm2 : ∀ c n g, m ≠ .ownk c n g) (hm3 : ∀ c g, m ≠ .lno c g) (hm4 : ∀ c, m ≠ .isc c) (hm5 : ∀ n c g, m ≠ .eqo n c g) {σ : L2.St} {H : Hp} {Q : VK} (h : tE C (.mth m e .nil) σ H Q) : tM0 (rM X.K m) (tE C e) σ H Q := by
  obtain ⟨B, M, env, d, env', s, ev, q⟩ := h
  obtain ⟨x, ea, ds, k1, k2, k3⟩ := ev_tx hm hm2 hm3 hm4 hm5 ev
  obtain ⟨a, rfl⟩ := opM_str k3
  rw [evL] at k2
  cases k2
  refine ⟨B, M, env, _, _, s, k1, fun v H1 B1 M1 s1 r1 n1 => ⟨⟨a, r1⟩, ?_⟩⟩
  rw [hK]
  exact ⟨B1, .str a, [], d, s1.bl, r1, rfl, k3, fun u H3 a3 r3 => q u H3 B1 M1 (s1.al a3) r3 (n1.trans a3.nx)⟩
theorem r_tx1 {m : Mt} {e e1 : Ex} {l a : Expr} {x : PySem.Str} {ap cp : Pos} (hK : X.K = C.K) (hx : x = mtN m) (hm : mt1 m = true) (hs : notSup l = true) (hl : (ap.endLine == cp.line) = true) (hn : nst a = true) (h1 : PE X l (tE C e)) (h2 : PE X a (tE C e1)) : PE X (.Call (.Attribute l x ap) [a] [] cp) (tE C (.mth m e (.cons e1 .nil))) := by
  subst hx
  cases m <;> first | (cases hm; done) | skip
  · exact (pe_m1 F.slot_str_split F.type_str_split md_split h1 h2 (star_cons hn) (sup_base hs) hl).imp fun σ H Q h => tx_key hK (by intros; simp) (by intros; simp) (by intros; simp) (by intros; simp) (by intros; simp) h
  · exact (pe_m1 F.slot_str_partition F.type_str_partition md_part h1 h2 (star_cons hn) (sup_base hs) hl).imp fun σ H Q h => tx_key hK (by intros; simp) (by intros; simp) (by intros; simp) (by intros; simp) (by intros; simp) h
  · exact (pe_m1 F.slot_str_removeprefix F.type_str_removeprefix md_pre h1 h2 (star_cons hn) (sup_base hs) hl).imp fun σ H Q h => tx_key hK (by intros; simp) (by intros; simp) (by intros; simp) (by intros; simp) (by intros; simp) h
  · exact (pe_m1 F.slot_str_startswith F.type_str_startswith md_stw h1 h2 (star_cons hn) (sup_base hs) hl).imp fun σ H Q h => tx_key hK (by intros; simp) (by intros; simp) (by intros; simp) (by intros; simp) (by intros; simp) h
  · exact (pe_m1 F.slot_str_join F.type_str_join md_join h1 h2 (star_cons hn) (sup_base hs) hl).imp fun σ H Q h => tx_key hK (by intros; simp) (by intros; simp) (by intros; simp) (by intros; simp) (by intros; simp) h
theorem r_tx0 {m : Mt} {e : Ex} {l : Expr} {x : PySem.Str} {ap cp : Pos} (hK : X.K = C.K) (hx : x = mtN m) (hm : mt0 m = true) (hs : notSup l = true) (hl : (ap.endLine == cp.line) = true) (h1 : PE X l (tE C e)) : PE X (.Call (.Attribute l x ap) [] [] cp) (tE C (.mth m e .nil)) := by
  subst hx
  cases m <;> first | (cases hm; done) | skip
  · exact (pe_m0 F.slot_str_isascii F.type_str_isascii md_asc h1 (sup_base hs) hl).imp fun σ H Q h => tx_key0 hK (by intros; simp) (by intros; simp) (by intros; simp) (by intros; simp) (by intros; simp) h
  · exact (pe_m0 F.slot_str_isdigit F.type_str_isdigit md_dig h1 (sup_base hs) hl).imp fun σ H Q h => tx_key0 hK (by intros; simp) (by intros; simp) (by intros; simp) (by intros; simp) (by intros; simp) h
/-! ### f-strings -/
def tJX (C : Ctx) (x : Ex) (acc : PySem.Str) (σ : L2.St) (H : Hp) (Q : PySem.Str → Hp → Prop) : Prop := ∃ B M env ds env' out, Sim C H B M σ env ∧ evL C.F x env = some (ds, env') ∧ catA acc ds = some out ∧ ∀ H' B' M', Sim C H' B' M' σ env' → Nx H B M H' B' M' → Q out H'
theorem j_nil {acc : PySem.Str} {σ : L2.St} {H : Hp} {Q : PySem.Str → Hp → Prop} (h : tJX C .nil acc σ H Q) : tJs [] acc σ H Q := by
  obtain ⟨B, M, env, ds, env', out, s, e, c, q⟩ := h
  rw [evL] at e; cases e; cases c
  exact q H B M s (Nx.refl _ _ _)
theorem evL_consJ {e es : Ex} {ds : List D} (h : evL F (.cons e es) env = some (ds, env')) : ∃ y ea ys, evE F e env = some (y, ea) ∧ evL F es ea = some (ys, env') ∧ ds = y :: ys := by
  rw [evL] at h
  obtain ⟨⟨y, ea⟩, k4, h⟩ := bind_some h
  obtain ⟨⟨ys, ec⟩, k5, h⟩ := bind_some h
  cases h
  exact ⟨y, ea, ys, k4, k5, rfl⟩
theorem j_fmt {e es : Ex} {ts : List TE} (ih : ∀ acc σ H Q, tJX C es acc σ H Q → tJs ts acc σ H Q) {acc : PySem.Str} {σ : L2.St} {H : Hp} {Q : PySem.Str → Hp → Prop} (h : tJX C (.cons e es) acc σ H Q) : tJs (tFmt (tE C e) :: ts) acc σ H Q := by
  obtain ⟨B, M, env, ds, env', out, s, ev, c, q⟩ := h
  obtain ⟨y, ea, ys, k1, k2, rfl⟩ := evL_consJ ev
  refine ⟨B, M, env, y, ea, s, k1, fun v H1 B1 M1 s1 r1 n1 => ?_⟩
  cases y <;> first | (cases c; done) | skip
  · rename_i i
    have c : (if i.natAbs.log2 < 1920 ∧ (acc ++ PySem.Str.ofString (toString i)).length ≤ lim then catA (acc ++ PySem.Str.ofString (toString i)) ys else none) = some out := c
    rw [Option.ite_none_right_eq_some] at c
    cases r1
    exact .inr ⟨i, rfl, c.1.1, _, rfl, Nat.le_trans c.1.2 lim_le, ih _ _ _ _ ⟨B1, M1, ea, ys, env', out, s1, k2, c.2, fun H' B' M' s' n' => q H' B' M' s' (n1.trans n')⟩⟩
  · rename_i x
    have c : (if x.length ≤ lim ∧ (acc ++ x).length ≤ lim then catA (acc ++ x) ys else none) = some out := c
    rw [Option.ite_none_right_eq_some] at c
    cases r1
    exact .inl ⟨x, rfl, Nat.le_trans c.1.1 lim_le, _, rfl, Nat.le_trans c.1.2 lim_le, ih _ _ _ _ ⟨B1, M1, ea, ys, env', out, s1, k2, c.2, fun H' B' M' s' n' => q H' B' M' s' (n1.trans n')⟩⟩
theorem j_con {x : PySem.Str} {es : Ex} {ts : List TE} (ih : ∀ acc σ H Q, tJX C es acc σ H Q → tJs ts acc σ H Q) {acc : PySem.Str} {σ : L2.St} {H : Hp} {Q : PySem.Str → Hp → Prop} (h : tJX C (.cons (.con (.str x)) es) acc σ H Q) : tJs (tC (.str x) :: ts) acc σ H Q := by
  obtain ⟨B, M, env, ds, env', out, s, ev, c, q⟩ := h
  obtain ⟨y, ea, ys, k1, k2, rfl⟩ := evL_consJ ev
  rw [evE] at k1; cases k1
  have c : (if x.length ≤ lim ∧ (acc ++ x).length ≤ lim then catA (acc ++ x) ys else none) = some out := c
  rw [Option.ite_none_right_eq_some] at c
  exact ⟨x, rfl, Nat.le_trans c.1.2 lim_le, ih _ _ _ _ ⟨B, M, env, ys, env', out, s, k2, c.2, q⟩⟩
theorem r_fst {es : Ex} {v1 v2 : Expr} {rest : List Expr} {ts : List TE} {pos : Pos} (hj : PJ X (v1 :: v2 :: rest) ts) (hi : ∀ acc σ H Q, tJX C es acc σ H Q → tJs ts acc σ H Q) : PE X (.JoinedStr (v1 :: v2 :: rest) pos) (tE C (.fst es)) :=
  (pe_joined hj).imp fun σ H Q h => by
    obtain ⟨B, M, env, d, env', s, ev, q⟩ := h
    obtain ⟨ds, t, k1, k2, rfl⟩ := ev_fst ev
    exact hi _ _ _ _ ⟨B, M, env, ds, env', t, s, k1, k2, fun H' B' M' s' n' => q (.str t) H' B' M' s' rfl n'⟩
end Mn
namespace Mn
open PySem L2 RZ
variable {C : Ctx} {X : Cx} {F : FT} {env env' : Env} {d : D} {G : GS} {lv : Nat} {N : List PySem.Str} {sc : Scope}
theorem putBack_len : ∀ {is : List Nat} {outs : List (List D)} {env env' : Env}, putBack is outs env = some env' → env'.length = env.length
  | [], [], _, _, h => by cases h; rfl
  | [], _ :: _, _, _, h => by cases h
  | _ :: _, [], _, _, h => by cases h
  | i :: is, xs :: r, env, env', h => by
    have h' : putBack is r (setM env i xs) = some env' := h
    rw [putBack_len h', setM_len]
structure LenA (F : FT) (x : Ex) : Prop where
  e : ∀ env d env', evE F x env = some (d, env') → env'.length = env.length
  t : ∀ env d env', evT F x env = some (d, env') → env'.length = env.length
  l : ∀ env d env', evL F x env = some (d, env') → env'.length = env.length
  a : ∀ env d env', evA F x env = some (d, env') → env'.length = env.length
  o : ∀ env d env', evO F x env = some (d, env') → env'.length = env.length
  r : ∀ env d env', evAr F x env = some (d, env') → env'.length = env.length
theorem compL_len {el : Env → Option (D × Env)} {cd : Env → Option (Bool × Env)} {tg : Tg} {own : List Nat} (h1 : ∀ env d env', el env = some (d, env') → env'.length = env.length) (h2 : ∀ env d env', cd env = some (d, env') → env'.length = env.length) :
    ∀ {xs ds : List D} {env env' : Env}, compL el cd tg own xs env = some (ds, env') → env'.length = env.length
  | [], ds, env, env', h => by cases h; rfl
  | x :: xs, ds, env, env', h => by
    obtain ⟨e1, b, e2, k1, k2, k3⟩ := compL_cons h
    have l1 := bind_len k1
    rw [wipeE_len] at l1
    have l2 := h2 _ _ _ k2
    cases b with
    | true =>
      obtain ⟨y, e3, r, k4, k5, _⟩ := k3
      have := compL_len h1 h2 k5
      rw [this, backE_len, h1 _ _ _ k4, l2, l1]
    | false =>
      have := compL_len h1 h2 k3
      rw [this, backE_len, l2, l1]
theorem len_all (F : FT) : ∀ x : Ex, LenA F x := by
  intro x
  induction x with
  | var i =>
    refine ⟨?_, ?_, ?_, ?_, ?_, ?_⟩
    · intro env d env' h; rw [evE] at h; split at h <;> first | (cases h; done) | (cases h; simp)
    · (intro env d env' h; rw [evT] at h <;> first | (cases h; done) | (intros; contradiction))
    · (intro env d env' h; rw [evL] at h <;> first | (cases h; done) | (intros; contradiction))
    · (intro env d env' h; rw [evA] at h <;> first | (cases h; done) | (intros; contradiction))
    · (intro env d env' h; rw [evO] at h <;> first | (cases h; done) | (intros; contradiction))
    · (intro env d env' h; rw [evAr] at h <;> first | (cases h; done) | (intros; contradiction))
  | con d =>
    refine ⟨?_, ?_, ?_, ?_, ?_, ?_⟩
    · intro env d env' h; rw [evE] at h; first | (cases h; rfl) | (obtain ⟨x, h1, h⟩ := bind_some h; cases h; rfl)
    · (intro env d env' h; rw [evT] at h <;> first | (cases h; done) | (intros; contradiction))
    · (intro env d env' h; rw [evL] at h <;> first | (cases h; done) | (intros; contradiction))
    · (intro env d env' h; rw [evA] at h <;> first | (cases h; done) | (intros; contradiction))
    · (intro env d env' h; rw [evO] at h <;> first | (cases h; done) | (intros; contradiction))
    · (intro env d env' h; rw [evAr] at h <;> first | (cases h; done) | (intros; contradiction))
  | glo x =>
    refine ⟨?_, ?_, ?_, ?_, ?_, ?_⟩
    · intro env d env' h; rw [evE] at h; first | (cases h; rfl) | (obtain ⟨x, h1, h⟩ := bind_some h; cases h; rfl)
    · (intro env d env' h; rw [evT] at h <;> first | (cases h; done) | (intros; contradiction))
    · (intro env d env' h; rw [evL] at h <;> first | (cases h; done) | (intros; contradiction))
    · (intro env d env' h; rw [evA] at h <;> first | (cases h; done) | (intros; contradiction))
    · (intro env d env' h; rw [evO] at h <;> first | (cases h; done) | (intros; contradiction))
    · (intro env d env' h; rw [evAr] at h <;> first | (cases h; done) | (intros; contradiction))
  | ixv i e ih =>
    refine ⟨?_, ?_, ?_, ?_, ?_, ?_⟩
    · intro env d env' h; obtain ⟨k, x, y, _, h1, _⟩ := ev_ixv h; exact ih.e _ _ _ h1
    · (intro env d env' h; rw [evT] at h <;> first | (cases h; done) | (intros; contradiction))
    · (intro env d env' h; rw [evL] at h <;> first | (cases h; done) | (intros; contradiction))
    · (intro env d env' h; rw [evA] at h <;> first | (cases h; done) | (intros; contradiction))
    · (intro env d env' h; rw [evO] at h <;> first | (cases h; done) | (intros; contradiction))
    · (intro env d env' h; rw [evAr] at h <;> first | (cases h; done) | (intros; contradiction))
  | lenv i =>
    refine ⟨?_, ?_, ?_, ?_, ?_, ?_⟩
    · intro env d env' h; obtain ⟨x, _, _, h3⟩ := ev_lenv h; rw [h3]
    · (intro env d env' h; rw [evT] at h <;> first | (cases h; done) | (intros; contradiction))
    · (intro env d env' h; rw [evL] at h <;> first | (cases h; done) | (intros; contradiction))
    · (intro env d env' h; rw [evA] at h <;> first | (cases h; done) | (intros; contradiction))
    · (intro env d env' h; rw [evO] at h <;> first | (cases h; done) | (intros; contradiction))
    · (intro env d env' h; rw [evAr] at h <;> first | (cases h; done) | (intros; contradiction))
  | popv i e ih =>
    refine ⟨?_, ?_, ?_, ?_, ?_, ?_⟩
    · intro env d env' h; obtain ⟨_, _, _, _, _, _, h1, _, _, _, _, rfl⟩ := ev_popv h; rw [setM_len]; exact ih.e _ _ _ h1
    · (intro env d env' h; rw [evT] at h <;> first | (cases h; done) | (intros; contradiction))
    · (intro env d env' h; rw [evL] at h <;> first | (cases h; done) | (intros; contradiction))
    · (intro env d env' h; rw [evA] at h <;> first | (cases h; done) | (intros; contradiction))
    · (intro env d env' h; rw [evO] at h <;> first | (cases h; done) | (intros; contradiction))
    · (intro env d env' h; rw [evAr] at h <;> first | (cases h; done) | (intros; contradiction))
  | calln f g es ih =>
    refine ⟨?_, ?_, ?_, ?_, ?_, ?_⟩
    · intro env d env' h; obtain ⟨ds, xs, ys, h1, _⟩ := ev_calln h; exact ih.l _ _ _ h1
    · (intro env d env' h; rw [evT] at h <;> first | (cases h; done) | (intros; contradiction))
    · (intro env d env' h; rw [evL] at h <;> first | (cases h; done) | (intros; contradiction))
    · (intro env d env' h; rw [evA] at h <;> first | (cases h; done) | (intros; contradiction))
    · (intro env d env' h; rw [evO] at h <;> first | (cases h; done) | (intros; contradiction))
    · (intro env d env' h; rw [evAr] at h <;> first | (cases h; done) | (intros; contradiction))
  | lrng a ih =>
    refine ⟨?_, ?_, ?_, ?_, ?_, ?_⟩
    · intro env d env' h; obtain ⟨n, h1, _⟩ := ev_lrng h; exact ih.e _ _ _ h1
    · (intro env d env' h; rw [evT] at h <;> first | (cases h; done) | (intros; contradiction))
    · (intro env d env' h; rw [evL] at h <;> first | (cases h; done) | (intros; contradiction))
    · (intro env d env' h; rw [evA] at h <;> first | (cases h; done) | (intros; contradiction))
    · (intro env d env' h; rw [evO] at h <;> first | (cases h; done) | (intros; contradiction))
    · (intro env d env' h; rw [evAr] at h <;> first | (cases h; done) | (intros; contradiction))
  | bin o a b iha ihb =>
    refine ⟨?_, ?_, ?_, ?_, ?_, ?_⟩
    · intro env d env' h; obtain ⟨x, e1, y, h1, h2, _⟩ := ev_bin h; rw [ihb.e _ _ _ h2, iha.e _ _ _ h1]
    · (intro env d env' h; rw [evT] at h <;> first | (cases h; done) | (intros; contradiction))
    · (intro env d env' h; rw [evL] at h <;> first | (cases h; done) | (intros; contradiction))
    · (intro env d env' h; rw [evA] at h <;> first | (cases h; done) | (intros; contradiction))
    · (intro env d env' h; rw [evO] at h <;> first | (cases h; done) | (intros; contradiction))
    · (intro env d env' h; rw [evAr] at h <;> first | (cases h; done) | (intros; contradiction))
  | neg a ih =>
    refine ⟨?_, ?_, ?_, ?_, ?_, ?_⟩
    · intro env d env' h; obtain ⟨i, h1, _⟩ := ev_neg h; exact ih.e _ _ _ h1
    · (intro env d env' h; rw [evT] at h <;> first | (cases h; done) | (intros; contradiction))
    · (intro env d env' h; rw [evL] at h <;> first | (cases h; done) | (intros; contradiction))
    · (intro env d env' h; rw [evA] at h <;> first | (cases h; done) | (intros; contradiction))
    · (intro env d env' h; rw [evO] at h <;> first | (cases h; done) | (intros; contradiction))
    · (intro env d env' h; rw [evAr] at h <;> first | (cases h; done) | (intros; contradiction))
  | chn o o' a b c iha ihb ihc =>
    refine ⟨?_, ?_, ?_, ?_, ?_, ?_⟩
    · intro env d env' h
      obtain ⟨x, e1, y, e2, r, h1, h2, _, h4⟩ := ev_chn h
      rcases h4 with ⟨_, _, rfl⟩ | ⟨_, z, r', h5, _, _⟩
      · rw [ihb.e _ _ _ h2, iha.e _ _ _ h1]
      · rw [ihc.e _ _ _ h5, ihb.e _ _ _ h2, iha.e _ _ _ h1]
    · (intro env d env' h; rw [evT] at h <;> first | (cases h; done) | (intros; contradiction))
    · (intro env d env' h; rw [evL] at h <;> first | (cases h; done) | (intros; contradiction))
    · (intro env d env' h; rw [evA] at h <;> first | (cases h; done) | (intros; contradiction))
    · (intro env d env' h; rw [evO] at h <;> first | (cases h; done) | (intros; contradiction))
    · (intro env d env' h; rw [evAr] at h <;> first | (cases h; done) | (intros; contradiction))
  | cmp o a b iha ihb =>
    refine ⟨?_, ?_, ?_, ?_, ?_, ?_⟩
    · intro env d env' h; obtain ⟨x, e1, y, r, h1, h2, _⟩ := ev_cmp h; rw [ihb.e _ _ _ h2, iha.e _ _ _ h1]
    · (intro env d env' h; rw [evT] at h <;> first | (cases h; done) | (intros; contradiction))
    · (intro env d env' h; rw [evL] at h <;> first | (cases h; done) | (intros; contradiction))
    · (intro env d env' h; rw [evA] at h <;> first | (cases h; done) | (intros; contradiction))
    · (intro env d env' h; rw [evO] at h <;> first | (cases h; done) | (intros; contradiction))
    · (intro env d env' h; rw [evAr] at h <;> first | (cases h; done) | (intros; contradiction))
  | vand a b iha ihb =>
    refine ⟨?_, ?_, ?_, ?_, ?_, ?_⟩
    · intro env d env' h; obtain ⟨k, e1, h1, h2⟩ := ev_vand h; cases k with | true => rw [ihb.e _ _ _ h2, iha.e _ _ _ h1] | false => obtain ⟨_, h3⟩ := h2; rw [h3, iha.e _ _ _ h1]
    · (intro env d env' h; rw [evT] at h <;> first | (cases h; done) | (intros; contradiction))
    · (intro env d env' h; rw [evL] at h <;> first | (cases h; done) | (intros; contradiction))
    · (intro env d env' h; rw [evA] at h <;> first | (cases h; done) | (intros; contradiction))
    · (intro env d env' h; rw [evO] at h <;> first | (cases h; done) | (intros; contradiction))
    · (intro env d env' h; rw [evAr] at h <;> first | (cases h; done) | (intros; contradiction))
  | vor a b iha ihb =>
    refine ⟨?_, ?_, ?_, ?_, ?_, ?_⟩
    · intro env d env' h; obtain ⟨k, e1, h1, h2⟩ := ev_vor h; cases k with | false => rw [ihb.e _ _ _ h2, iha.e _ _ _ h1] | true => obtain ⟨_, h3⟩ := h2; rw [h3, iha.e _ _ _ h1]
    · (intro env d env' h; rw [evT] at h <;> first | (cases h; done) | (intros; contradiction))
    · (intro env d env' h; rw [evL] at h <;> first | (cases h; done) | (intros; contradiction))
    · (intro env d env' h; rw [evA] at h <;> first | (cases h; done) | (intros; contradiction))
    · (intro env d env' h; rw [evO] at h <;> first | (cases h; done) | (intros; contradiction))
    · (intro env d env' h; rw [evAr] at h <;> first | (cases h; done) | (intros; contradiction))
  | vnot a ih =>
    refine ⟨?_, ?_, ?_, ?_, ?_, ?_⟩
    · intro env d env' h; obtain ⟨i, h1, _⟩ := ev_vnot h; exact ih.e _ _ _ h1
    · (intro env d env' h; rw [evT] at h <;> first | (cases h; done) | (intros; contradiction))
    · (intro env d env' h; rw [evL] at h <;> first | (cases h; done) | (intros; contradiction))
    · (intro env d env' h; rw [evA] at h <;> first | (cases h; done) | (intros; contradiction))
    · (intro env d env' h; rw [evO] at h <;> first | (cases h; done) | (intros; contradiction))
    · (intro env d env' h; rw [evAr] at h <;> first | (cases h; done) | (intros; contradiction))
  | tand a b iha ihb =>
    refine ⟨?_, ?_, ?_, ?_, ?_, ?_⟩
    · (intro env d env' h; rw [evE] at h <;> first | (cases h; done) | (intros; contradiction))
    · intro env d env' h; obtain ⟨k, e1, h1, h2⟩ := ev_tand h; cases k with | true => rw [ihb.t _ _ _ h2, iha.t _ _ _ h1] | false => obtain ⟨_, h3⟩ := h2; rw [h3, iha.t _ _ _ h1]
    · (intro env d env' h; rw [evL] at h <;> first | (cases h; done) | (intros; contradiction))
    · (intro env d env' h; rw [evA] at h <;> first | (cases h; done) | (intros; contradiction))
    · (intro env d env' h; rw [evO] at h <;> first | (cases h; done) | (intros; contradiction))
    · (intro env d env' h; rw [evAr] at h <;> first | (cases h; done) | (intros; contradiction))
  | tor a b iha ihb =>
    refine ⟨?_, ?_, ?_, ?_, ?_, ?_⟩
    · (intro env d env' h; rw [evE] at h <;> first | (cases h; done) | (intros; contradiction))
    · intro env d env' h; obtain ⟨k, e1, h1, h2⟩ := ev_tor h; cases k with | false => rw [ihb.t _ _ _ h2, iha.t _ _ _ h1] | true => obtain ⟨_, h3⟩ := h2; rw [h3, iha.t _ _ _ h1]
    · (intro env d env' h; rw [evL] at h <;> first | (cases h; done) | (intros; contradiction))
    · (intro env d env' h; rw [evA] at h <;> first | (cases h; done) | (intros; contradiction))
    · (intro env d env' h; rw [evO] at h <;> first | (cases h; done) | (intros; contradiction))
    · (intro env d env' h; rw [evAr] at h <;> first | (cases h; done) | (intros; contradiction))
  | tnot a ih =>
    refine ⟨?_, ?_, ?_, ?_, ?_, ?_⟩
    · (intro env d env' h; rw [evE] at h <;> first | (cases h; done) | (intros; contradiction))
    · intro env d env' h; obtain ⟨i, h1, _⟩ := ev_tnot h; exact ih.t _ _ _ h1
    · (intro env d env' h; rw [evL] at h <;> first | (cases h; done) | (intros; contradiction))
    · (intro env d env' h; rw [evA] at h <;> first | (cases h; done) | (intros; contradiction))
    · (intro env d env' h; rw [evO] at h <;> first | (cases h; done) | (intros; contradiction))
    · (intro env d env' h; rw [evAr] at h <;> first | (cases h; done) | (intros; contradiction))
  | tvar i =>
    refine ⟨?_, ?_, ?_, ?_, ?_, ?_⟩
    · (intro env d env' h; rw [evE] at h <;> first | (cases h; done) | (intros; contradiction))
    · intro env d env' h; obtain ⟨x, _, _, h3⟩ := ev_tvar h; rw [h3]
    · (intro env d env' h; rw [evL] at h <;> first | (cases h; done) | (intros; contradiction))
    · (intro env d env' h; rw [evA] at h <;> first | (cases h; done) | (intros; contradiction))
    · (intro env d env' h; rw [evO] at h <;> first | (cases h; done) | (intros; contradiction))
    · (intro env d env' h; rw [evAr] at h <;> first | (cases h; done) | (intros; contradiction))
  | tval a ih =>
    refine ⟨?_, ?_, ?_, ?_, ?_, ?_⟩
    · (intro env d env' h; rw [evE] at h <;> first | (cases h; done) | (intros; contradiction))
    · intro env d env' h; obtain ⟨x, h1, _⟩ := ev_tval h; exact ih.e _ _ _ h1
    · (intro env d env' h; rw [evL] at h <;> first | (cases h; done) | (intros; contradiction))
    · (intro env d env' h; rw [evA] at h <;> first | (cases h; done) | (intros; contradiction))
    · intro env d env' h; rw [evO] at h; obtain ⟨⟨x, e1⟩, h1, h⟩ := bind_some h; cases x <;> first | (cases h; done) | (cases h; exact ih.e _ _ _ h1)
    · intro env d env' h; rw [evAr] at h; obtain ⟨⟨x, e1⟩, h1, h⟩ := bind_some h; cases h; exact ih.e _ _ _ h1
  | tyes =>
    refine ⟨?_, ?_, ?_, ?_, ?_, ?_⟩
    · (intro env d env' h; rw [evE] at h <;> first | (cases h; done) | (intros; contradiction))
    · intro env d env' h; rw [evT] at h; cases h; rfl
    · (intro env d env' h; rw [evL] at h <;> first | (cases h; done) | (intros; contradiction))
    · (intro env d env' h; rw [evA] at h <;> first | (cases h; done) | (intros; contradiction))
    · (intro env d env' h; rw [evO] at h <;> first | (cases h; done) | (intros; contradiction))
    · (intro env d env' h; rw [evAr] at h <;> first | (cases h; done) | (intros; contradiction))
  | ite c a b ihc iha ihb =>
    refine ⟨?_, ?_, ?_, ?_, ?_, ?_⟩
    · intro env d env' h; obtain ⟨k, e1, h1, h2⟩ := ev_ite h; cases k with | true => rw [iha.e _ _ _ h2, ihc.t _ _ _ h1] | false => rw [ihb.e _ _ _ h2, ihc.t _ _ _ h1]
    · (intro env d env' h; rw [evT] at h <;> first | (cases h; done) | (intros; contradiction))
    · (intro env d env' h; rw [evL] at h <;> first | (cases h; done) | (intros; contradiction))
    · (intro env d env' h; rw [evA] at h <;> first | (cases h; done) | (intros; contradiction))
    · (intro env d env' h; rw [evO] at h <;> first | (cases h; done) | (intros; contradiction))
    · (intro env d env' h; rw [evAr] at h <;> first | (cases h; done) | (intros; contradiction))
  | tup es ih =>
    refine ⟨?_, ?_, ?_, ?_, ?_, ?_⟩
    · intro env d env' h; obtain ⟨xs, h1, _⟩ := ev_tup h; exact ih.l _ _ _ h1
    · (intro env d env' h; rw [evT] at h <;> first | (cases h; done) | (intros; contradiction))
    · (intro env d env' h; rw [evL] at h <;> first | (cases h; done) | (intros; contradiction))
    · (intro env d env' h; rw [evA] at h <;> first | (cases h; done) | (intros; contradiction))
    · (intro env d env' h; rw [evO] at h <;> first | (cases h; done) | (intros; contradiction))
    · (intro env d env' h; rw [evAr] at h <;> first | (cases h; done) | (intros; contradiction))
  | lst es ih =>
    refine ⟨?_, ?_, ?_, ?_, ?_, ?_⟩
    · intro env d env' h; obtain ⟨xs, h1, _⟩ := ev_lst h; exact ih.l _ _ _ h1
    · (intro env d env' h; rw [evT] at h <;> first | (cases h; done) | (intros; contradiction))
    · (intro env d env' h; rw [evL] at h <;> first | (cases h; done) | (intros; contradiction))
    · (intro env d env' h; rw [evA] at h <;> first | (cases h; done) | (intros; contradiction))
    · (intro env d env' h; rw [evO] at h <;> first | (cases h; done) | (intros; contradiction))
    · (intro env d env' h; rw [evAr] at h <;> first | (cases h; done) | (intros; contradiction))
  | nil =>
    refine ⟨?_, ?_, ?_, ?_, ?_, ?_⟩
    · (intro env d env' h; rw [evE] at h <;> first | (cases h; done) | (intros; contradiction))
    · (intro env d env' h; rw [evT] at h <;> first | (cases h; done) | (intros; contradiction))
    · intro env d env' h; rw [evL] at h; cases h; rfl
    · intro env d env' h; rw [evA] at h; cases h; rfl
    · intro env d env' h; rw [evO] at h; cases h; rfl
    · (intro env d env' h; rw [evAr] at h <;> first | (cases h; done) | (intros; contradiction))
  | cons e es ihe ihs =>
    refine ⟨?_, ?_, ?_, ?_, ?_, ?_⟩
    · (intro env d env' h; rw [evE] at h <;> first | (cases h; done) | (intros; contradiction))
    · (intro env d env' h; rw [evT] at h <;> first | (cases h; done) | (intros; contradiction))
    · intro env d env' h; obtain ⟨x, e1, xs, h1, h2, _⟩ := ev_cons h; rw [ihs.l _ _ _ h2, ihe.e _ _ _ h1]
    · intro env d env' h; obtain ⟨x, e1, xs, h1, h2, _⟩ := ev_acons h; rw [ihs.a _ _ _ h2, ihe.r _ _ _ h1]
    · (intro env d env' h; rw [evO] at h <;> first | (cases h; done) | (intros; contradiction))
    · (intro env d env' h; rw [evAr] at h <;> first | (cases h; done) | (intros; contradiction))
  | ref i =>
    refine ⟨?_, ?_, ?_, ?_, ?_, ?_⟩
    · (intro env d env' h; rw [evE] at h <;> first | (cases h; done) | (intros; contradiction))
    · (intro env d env' h; rw [evT] at h <;> first | (cases h; done) | (intros; contradiction))
    · (intro env d env' h; rw [evL] at h <;> first | (cases h; done) | (intros; contradiction))
    · (intro env d env' h; rw [evA] at h <;> first | (cases h; done) | (intros; contradiction))
    · (intro env d env' h; rw [evO] at h <;> first | (cases h; done) | (intros; contradiction))
    · intro env d env' h; rw [evAr] at h; obtain ⟨x, h1, h⟩ := bind_some h; cases h; rfl
  | ix a i iha ihb =>
    refine ⟨?_, ?_, ?_, ?_, ?_, ?_⟩
    · intro env d env' h; obtain ⟨x, e1, y, h1, h2, _⟩ := ev_ix h; rw [ihb.e _ _ _ h2, iha.e _ _ _ h1]
    · (intro env d env' h; rw [evT] at h <;> first | (cases h; done) | (intros; contradiction))
    · (intro env d env' h; rw [evL] at h <;> first | (cases h; done) | (intros; contradiction))
    · (intro env d env' h; rw [evA] at h <;> first | (cases h; done) | (intros; contradiction))
    · (intro env d env' h; rw [evO] at h <;> first | (cases h; done) | (intros; contradiction))
    · (intro env d env' h; rw [evAr] at h <;> first | (cases h; done) | (intros; contradiction))
  | slc a lo hi iha ihb ihc =>
    refine ⟨?_, ?_, ?_, ?_, ?_, ?_⟩
    · intro env d env' h; obtain ⟨x, e1, l, e2, u, h1, h2, h3, _⟩ := ev_slc h; rw [ihc.o _ _ _ h3, ihb.o _ _ _ h2, iha.e _ _ _ h1]
    · (intro env d env' h; rw [evT] at h <;> first | (cases h; done) | (intros; contradiction))
    · (intro env d env' h; rw [evL] at h <;> first | (cases h; done) | (intros; contradiction))
    · (intro env d env' h; rw [evA] at h <;> first | (cases h; done) | (intros; contradiction))
    · (intro env d env' h; rw [evO] at h <;> first | (cases h; done) | (intros; contradiction))
    · (intro env d env' h; rw [evAr] at h <;> first | (cases h; done) | (intros; contradiction))
  | rev a ih =>
    refine ⟨?_, ?_, ?_, ?_, ?_, ?_⟩
    · intro env d env' h; obtain ⟨xs, h1, _⟩ := ev_rev h; exact ih.e _ _ _ h1
    · (intro env d env' h; rw [evT] at h <;> first | (cases h; done) | (intros; contradiction))
    · (intro env d env' h; rw [evL] at h <;> first | (cases h; done) | (intros; contradiction))
    · (intro env d env' h; rw [evA] at h <;> first | (cases h; done) | (intros; contradiction))
    · (intro env d env' h; rw [evO] at h <;> first | (cases h; done) | (intros; contradiction))
    · (intro env d env' h; rw [evAr] at h <;> first | (cases h; done) | (intros; contradiction))
  | call f pm es ih =>
    refine ⟨?_, ?_, ?_, ?_, ?_, ?_⟩
    · intro env d env' h; obtain ⟨as, e1, bs, ss, outs, h1, _, _, _, _, h6⟩ := ev_call h; rw [putBack_len h6, ih.a _ _ _ h1]
    · (intro env d env' h; rw [evT] at h <;> first | (cases h; done) | (intros; contradiction))
    · (intro env d env' h; rw [evL] at h <;> first | (cases h; done) | (intros; contradiction))
    · (intro env d env' h; rw [evA] at h <;> first | (cases h; done) | (intros; contradiction))
    · (intro env d env' h; rw [evO] at h <;> first | (cases h; done) | (intros; contradiction))
    · (intro env d env' h; rw [evAr] at h <;> first | (cases h; done) | (intros; contradiction))
  | blt f es ih =>
    refine ⟨?_, ?_, ?_, ?_, ?_, ?_⟩
    · intro env d env' h; obtain ⟨xs, h1, _⟩ := ev_blt h; exact ih.l _ _ _ h1
    · (intro env d env' h; rw [evT] at h <;> first | (cases h; done) | (intros; contradiction))
    · (intro env d env' h; rw [evL] at h <;> first | (cases h; done) | (intros; contradiction))
    · (intro env d env' h; rw [evA] at h <;> first | (cases h; done) | (intros; contradiction))
    · (intro env d env' h; rw [evO] at h <;> first | (cases h; done) | (intros; contradiction))
    · (intro env d env' h; rw [evAr] at h <;> first | (cases h; done) | (intros; contradiction))
  | comp w src tg cd el own ihs ihc ihe =>
    refine ⟨?_, ?_, ?_, ?_, ?_, ?_⟩
    · intro env d env' h; obtain ⟨xs, e1, its, ds, h1, _, _, _, h4, _⟩ := ev_comp h; rw [compL_len ihe.e ihc.t h4, ihs.l _ _ _ h1]
    · (intro env d env' h; rw [evT] at h <;> first | (cases h; done) | (intros; contradiction))
    · (intro env d env' h; rw [evL] at h <;> first | (cases h; done) | (intros; contradiction))
    · (intro env d env' h; rw [evA] at h <;> first | (cases h; done) | (intros; contradiction))
    · (intro env d env' h; rw [evO] at h <;> first | (cases h; done) | (intros; contradiction))
    · (intro env d env' h; rw [evAr] at h <;> first | (cases h; done) | (intros; contradiction))
  | att cs e f ih =>
    refine ⟨?_, ?_, ?_, ?_, ?_, ?_⟩
    · intro env d env' h; obtain ⟨c, ks, xs, h1, _⟩ := ev_att h; exact ih.e _ _ _ h1
    · (intro env d env' h; rw [evT] at h <;> first | (cases h; done) | (intros; contradiction))
    · (intro env d env' h; rw [evL] at h <;> first | (cases h; done) | (intros; contradiction))
    · (intro env d env' h; rw [evA] at h <;> first | (cases h; done) | (intros; contradiction))
    · (intro env d env' h; rw [evO] at h <;> first | (cases h; done) | (intros; contradiction))
    · (intro env d env' h; rw [evAr] at h <;> first | (cases h; done) | (intros; contradiction))
  | sg f =>
    refine ⟨?_, ?_, ?_, ?_, ?_, ?_⟩
    · intro env d env' h; obtain ⟨o, _, _, rfl⟩ := ev_sg h; rfl
    · (intro env d env' h; rw [evT] at h <;> first | (cases h; done) | (intros; contradiction))
    · (intro env d env' h; rw [evL] at h <;> first | (cases h; done) | (intros; contradiction))
    · (intro env d env' h; rw [evA] at h <;> first | (cases h; done) | (intros; contradiction))
    · (intro env d env' h; rw [evO] at h <;> first | (cases h; done) | (intros; contradiction))
    · (intro env d env' h; rw [evAr] at h <;> first | (cases h; done) | (intros; contradiction))
  | mk c es ih =>
    refine ⟨?_, ?_, ?_, ?_, ?_, ?_⟩
    · intro env d env' h; obtain ⟨ds, ks, xs, h1, _⟩ := ev_mk h; exact ih.l _ _ _ h1
    · (intro env d env' h; rw [evT] at h <;> first | (cases h; done) | (intros; contradiction))
    · (intro env d env' h; rw [evL] at h <;> first | (cases h; done) | (intros; contradiction))
    · (intro env d env' h; rw [evA] at h <;> first | (cases h; done) | (intros; contradiction))
    · (intro env d env' h; rw [evO] at h <;> first | (cases h; done) | (intros; contradiction))
    · (intro env d env' h; rw [evAr] at h <;> first | (cases h; done) | (intros; contradiction))
  | mth m e es ihe ihs =>
    refine ⟨?_, ?_, ?_, ?_, ?_, ?_⟩
    · intro env d env' h
      cases m with
      | own c m g => obtain ⟨ks, xs, e1, ds, h1, h2, _⟩ := ev_mth h; rw [ihs.l _ _ _ h2, ihe.e _ _ _ h1]
      | ownk c m g => obtain ⟨ks, xs, e1, as, ss, h1, h2, _⟩ := ev_mthk h; rw [ihs.a _ _ _ h2, ihe.e _ _ _ h1]
      | lno c g => obtain ⟨ks, xs, n, h1, _⟩ := ev_lno h; exact ihe.e _ _ _ h1
      | isc c => obtain ⟨ks, xs, h1, _⟩ := ev_isc h; exact ihe.e _ _ _ h1
      | eqo ng c g => obtain ⟨ks, xs, e1, ls, ys, r, h1, h2, _⟩ := ev_eqo h; rw [ihs.l _ _ _ h2, ihe.e _ _ _ h1]
      | _ => obtain ⟨x, e1, ds, h1, h2, _⟩ := ev_tx (by intros; simp) (by intros; simp) (by intros; simp) (by intros; simp) (by intros; simp) h; rw [ihs.l _ _ _ h2, ihe.e _ _ _ h1]
    · (intro env d env' h; rw [evT] at h <;> first | (cases h; done) | (intros; contradiction))
    · (intro env d env' h; rw [evL] at h <;> first | (cases h; done) | (intros; contradiction))
    · (intro env d env' h; rw [evA] at h <;> first | (cases h; done) | (intros; contradiction))
    · (intro env d env' h; rw [evO] at h <;> first | (cases h; done) | (intros; contradiction))
    · (intro env d env' h; rw [evAr] at h <;> first | (cases h; done) | (intros; contradiction))
  | fst es ih =>
    refine ⟨?_, ?_, ?_, ?_, ?_, ?_⟩
    · intro env d env' h; obtain ⟨ds, t, h1, _⟩ := ev_fst h; exact ih.l _ _ _ h1
    · (intro env d env' h; rw [evT] at h <;> first | (cases h; done) | (intros; contradiction))
    · (intro env d env' h; rw [evL] at h <;> first | (cases h; done) | (intros; contradiction))
    · (intro env d env' h; rw [evA] at h <;> first | (cases h; done) | (intros; contradiction))
    · (intro env d env' h; rw [evO] at h <;> first | (cases h; done) | (intros; contradiction))
    · (intro env d env' h; rw [evAr] at h <;> first | (cases h; done) | (intros; contradiction))
  | opq =>
    refine ⟨?_, ?_, ?_, ?_, ?_, ?_⟩
    · (intro env d env' h; rw [evE] at h <;> first | (cases h; done) | (intros; contradiction))
    · (intro env d env' h; rw [evT] at h <;> first | (cases h; done) | (intros; contradiction))
    · (intro env d env' h; rw [evL] at h <;> first | (cases h; done) | (intros; contradiction))
    · (intro env d env' h; rw [evA] at h <;> first | (cases h; done) | (intros; contradiction))
    · (intro env d env' h; rw [evO] at h <;> first | (cases h; done) | (intros; contradiction))
    · (intro env d env' h; rw [evAr] at h <;> first | (cases h; done) | (intros; contradiction))
theorem len_E (F : FT) (x : Ex) : LenE F x := ⟨(len_all F x).e, (len_all F x).t⟩
end Mn
namespace Mn
open PySem L2 RZ
variable {C : Ctx} {X : Cx} {F : FT} {env env' : Env} {d : D} {G : GS} {lv : Nat} {N : List PySem.Str} {sc : Scope}
theorem folded {e : Expr} {env : PySem.Env} (h : notSet e = true) (v : Value) : foldedSetIterable e env v = pure v := by cases e <;> first | rfl | cases h
theorem blk_of (x : XOk X C G lv N sc) {scope : Scope} {own : List (PySem.Str × Nat)} (h : blkC N sc scope own = true) : BlkOk X.N X.env.scope scope own := by
  have b := blkOk_by h
  exact ⟨b.kind, b.uniq, by rw [x.n]; exact b.ix, fun y hy e => x.cf _ (b.free y hy e), by rw [x.n]; exact b.own⟩
theorem r_glo (x : XOk X C G lv N sc) {y : PySem.Str} {p : Pos} (hg : Gl X y) (hd : (y == ("__debug__" : PySem.Str)) = false) (hc : y ∈ G.co) : PE X (.Name y p) (tE C (.glo y)) := by
  refine ⟨fun pins s σ H Q I h => ?_⟩
  obtain ⟨B, M, env, d, env', s', e, q⟩ := h
  rw [evE] at e
  obtain ⟨⟨d', o⟩, h1, h⟩ := bind_some e
  cases h
  obtain ⟨v, u, h2, h3, h4⟩ := x.co y hc _ _ h1
  exact ld_glob I hg h2 ⟨v, H, I, h3, q v H B M s' (x.K ▸ h4 _ _) (Nx.refl _ _ _)⟩ hd
theorem ckA_len : ∀ {x : Ex} {xs : List Expr} {env : Env} {as : List Ar} {env' : Env}, ckA G N sc x xs = true → evA F x env = some (as, env') → as.length = xs.length := by
  intro x
  induction x with
  | nil => intro xs env as env' h e; rw [evA] at e; cases e; cases xs with
    | nil => rfl
    | cons _ _ => rw [ckA] at h <;> first | cases h | (intros; contradiction)
  | cons e es ihe ihs =>
    intro xs env as env' h ev
    cases xs with
    | nil => rw [ckA] at h <;> first | cases h | (intros; contradiction)
    | cons y ys =>
      rw [ckA] at h
      simp only [Bool.and_eq_true] at h
      obtain ⟨x, e1, r, h1, h2, rfl⟩ := ev_acons ev
      simp [ihs h.2 h2]
  | _ => intro xs env as env' h; rw [ckA] at h <;> first | cases h | (intros; contradiction)
theorem ckL_len : ∀ {x : Ex} {xs : List Expr} {env : Env} {as : List D} {env' : Env}, ckL G N sc x xs = true → evL F x env = some (as, env') → as.length = xs.length := by
  intro x
  induction x with
  | nil => intro xs env as env' h e; rw [evL] at e; cases e; cases xs with
    | nil => rfl
    | cons _ _ => rw [ckL] at h <;> first | cases h | (intros; contradiction)
  | cons e es ihe ihs =>
    intro xs env as env' h ev
    cases xs with
    | nil => rw [ckL] at h <;> first | cases h | (intros; contradiction)
    | cons y ys =>
      rw [ckL] at h
      simp only [Bool.and_eq_true] at h
      obtain ⟨x, e1, r, h1, h2, rfl⟩ := ev_cons ev
      simp [ihs h.2 h2]
  | _ => intro xs env as env' h; rw [ckL] at h <;> first | cases h | (intros; contradiction)
theorem ckA_nst : ∀ {x : Ex} {xs : List Expr}, ckA G N sc x xs = true → xs.all nst = true := by
  intro x
  induction x with
  | nil => intro xs h; cases xs with
    | nil => rfl
    | cons _ _ => rw [ckA] at h <;> first | cases h | (intros; contradiction)
  | cons e es ihe ihs =>
    intro xs h
    cases xs with
    | nil => rfl
    | cons y ys =>
      rw [ckA] at h
      simp only [Bool.and_eq_true] at h
      simp [h.1.1, ihs h.2]
  | _ => intro xs h; rw [ckA] at h <;> first | cases h | (intros; contradiction)
theorem ckA_split : ∀ {x : Ex} {xs ys : List Expr}, ckA G N sc x (xs ++ ys) = true → ckA G N sc (takeX xs.length x) xs = true ∧ ckA G N sc (dropX xs.length x) ys = true := by
  intro x xs
  induction xs generalizing x with
  | nil => intro ys h; exact ⟨by simp [takeX, ckA], by simpa [dropX] using h⟩
  | cons z zs ih =>
    intro ys h
    cases x with
    | cons e es =>
      rw [List.cons_append, ckA] at h
      simp only [Bool.and_eq_true] at h
      obtain ⟨h1, h2⟩ := ih h.2
      refine ⟨?_, h2⟩
      show ckA G N sc (.cons e (takeX zs.length es)) (z :: zs) = true
      rw [ckA, h.1.1, h.1.2, h1]; rfl
    | _ => rw [List.cons_append, ckA] at h <;> first | cases h | (intros; contradiction)
theorem ckL_nst : ∀ {x : Ex} {xs : List Expr}, ckL G N sc x xs = true → xs.all nst = true := by
  intro x
  induction x with
  | nil => intro xs h; cases xs with
    | nil => rfl
    | cons _ _ => rw [ckL] at h <;> first | cases h | (intros; contradiction)
  | cons e es ihe ihs =>
    intro xs h
    cases xs with
    | nil => rfl
    | cons y ys =>
      rw [ckL] at h
      simp only [Bool.and_eq_true] at h
      simp [h.1.1, ihs h.2]
  | _ => intro xs h; rw [ckL] at h <;> first | cases h | (intros; contradiction)
/-- an argument by itself -/
inductive ArOk (X : Cx) (C : Ctx) : Ex → Expr → Prop where
  | ref {i : Nat} {y : PySem.Str} {p : Pos} (hN : X.N[i]? = some y) (hv : Vis X.env.scope y) (hd : (y == ("__debug__" : PySem.Str)) = false) (hcd : (y == ("__classdict__" : PySem.Str)) = false) : ArOk X C (.ref i) (.Name y p)
  | val {e : Ex} {x : Expr} (h : PE X x (tE C e)) : ArOk X C (.tval e) x
structure Snd (x : Ex) : Prop where
  j : ∀ {C : Ctx} {X : Cx} {G : GS} {lv : Nat} {N : List PySem.Str} {sc : Scope} (_ : XOk X C G lv N sc) {ys : List Expr}, ckJ G N sc x ys = true → ∃ ts, PJ X ys ts ∧ ∀ acc σ H Q, tJX C x acc σ H Q → tJs ts acc σ H Q
  e : ∀ {C : Ctx} {X : Cx} {G : GS} {lv : Nat} {N : List PySem.Str} {sc : Scope} (_ : XOk X C G lv N sc) {ex : Expr}, ckE G N sc x ex = true → PE X ex (tE C x)
  n : ∀ {C : Ctx} {X : Cx} {G : GS} {lv : Nat} {N : List PySem.Str} {sc : Scope} (_ : XOk X C G lv N sc) {ex : Expr}, (match x with | .lst _ => true | .comp _ _ _ _ _ _ => true | .bin .add _ _ => true | .blt .list _ => true | _ => false) = true → ckE G N sc x ex = true → PE X ex (tN C x)
  t : ∀ {C : Ctx} {X : Cx} {G : GS} {lv : Nat} {N : List PySem.Str} {sc : Scope} (_ : XOk X C G lv N sc) {ex : Expr}, ckT G N sc x ex = true → PT X ex (tT C x)
  w : ∀ {C : Ctx} {X : Cx} {G : GS} {lv : Nat} {N : List PySem.Str} {sc : Scope} (_ : XOk X C G lv N sc) {op : BoolOp} {es : List Expr} {p : Pos}, ckT G N sc x (.BoolOp op es p) = true → PW X (.BoolOp op es p) (tT C x)
  l : ∀ {C : Ctx} {X : Cx} {G : GS} {lv : Nat} {N : List PySem.Str} {sc : Scope} (_ : XOk X C G lv N sc) {ex : List Expr}, ckL G N sc x ex = true → PA X ex (tL C x)
  a : ∀ {C : Ctx} {X : Cx} {G : GS} {lv : Nat} {N : List PySem.Str} {sc : Scope} (_ : XOk X C G lv N sc) {xs ys : List Expr}, ckA G N sc x (xs ++ ys) = true → PA X xs (tA C (takeX xs.length x))
  k : ∀ {C : Ctx} {X : Cx} {G : GS} {lv : Nat} {N : List PySem.Str} {sc : Scope} (_ : XOk X C G lv N sc) {xs : List Expr} {ys : List Keyword}, ckA G N sc x (xs ++ ys.map (·.value)) = true → PK X ys (tA C (dropX xs.length x))
  r : ∀ {C : Ctx} {X : Cx} {G : GS} {lv : Nat} {N : List PySem.Str} {sc : Scope} (_ : XOk X C G lv N sc) {ex : Expr}, ckAr G N sc x ex = true → ArOk X C x ex
  o : ∀ {C : Ctx} {X : Cx} {G : GS} {lv : Nat} {N : List PySem.Str} {sc : Scope} (_ : XOk X C G lv N sc) {ex : Option Expr}, ckO G N sc x ex = true → PO X ex (tO C x)
  d : ∀ {C : Ctx} {X : Cx} {G : GS} {lv : Nat} {N : List PySem.Str} {sc : Scope} (_ : XOk X C G lv N sc) {l r r' : Expr} {op op' : CmpOp} {p : Pos}, ckE G N sc x (.Compare l [op, op'] [r, r'] p) = true → PT X (.Compare l [op, op'] [r, r'] p) (tT C (.tval x))
  c : ∀ {C : Ctx} {X : Cx} {G : GS} {lv : Nat} {N : List PySem.Str} {sc : Scope} (_ : XOk X C G lv N sc) {l r : Expr} {op : CmpOp} {p : Pos}, ckE G N sc x (.Compare l [op] [r] p) = true → PT X (.Compare l [op] [r] p) (tT C (.tval x))
  s : ∀ {C : Ctx} {X : Cx} {G : GS} {lv : Nat} {N : List PySem.Str} {sc : Scope} (_ : XOk X C G lv N sc) {a : Expr} (e : Ex), x = .cons e .nil → ckE G N sc e a = true → PE X a (tE C e)
  i : ∀ {C : Ctx} {X : Cx} {G : GS} {lv : Nat} {N : List PySem.Str} {sc : Scope} (_ : XOk X C G lv N sc) {wk : Wk} {it tg : Expr}, ckI G N sc wk x it tg = true → PI X tg it (tI C wk x) ∧ notSet it = true
theorem r_pand {b : Ex} {y : Expr} {r : List Expr} {p : Pos} (ih : Snd b) (xo : XOk X C G lv N sc) (h : (match r with | [] => ckE G N sc b y | _ :: _ => ckE G N sc b (.BoolOp .And (y :: r) p)) = true) : PE X (.BoolOp .And (y :: r) p) (tE C b) := by
  cases r with
  | nil => exact pe_one (ih.e xo h)
  | cons z zs => exact ih.e xo h
theorem r_por {b : Ex} {y : Expr} {r : List Expr} {p : Pos} (ih : Snd b) (xo : XOk X C G lv N sc) (h : (match r with | [] => ckE G N sc b y | _ :: _ => ckE G N sc b (.BoolOp .Or (y :: r) p)) = true) : PE X (.BoolOp .Or (y :: r) p) (tE C b) := by
  cases r with
  | nil => exact pe_one (ih.e xo h)
  | cons z zs => exact ih.e xo h
theorem r_wand {b : Ex} {y : Expr} {r : List Expr} {p : Pos} (ih : Snd b) (xo : XOk X C G lv N sc) (h : (match r with | [] => ckT G N sc b y | _ :: _ => ckT G N sc b (.BoolOp .And (y :: r) p)) = true) : PW X (.BoolOp .And (y :: r) p) (tT C b) := by
  cases r with
  | nil => exact pw_and1 (ih.t xo h)
  | cons z zs => exact ih.w xo h
theorem r_wor {b : Ex} {y : Expr} {r : List Expr} {p : Pos} (ih : Snd b) (xo : XOk X C G lv N sc) (h : (match r with | [] => ckT G N sc b y | _ :: _ => ckT G N sc b (.BoolOp .Or (y :: r) p)) = true) : PW X (.BoolOp .Or (y :: r) p) (tT C b) := by
  cases r with
  | nil => exact pw_or1 (ih.t xo h)
  | cons z zs => exact ih.w xo h
theorem takeX_full : ∀ {x : Ex} {xs : List Expr}, ckA G N sc x xs = true → takeX xs.length x = x := by
  intro x
  induction x with
  | nil => intro xs h; cases xs with
    | nil => rfl
    | cons _ _ => rw [ckA] at h <;> first | cases h | (intros; contradiction)
  | cons e es ihe ihs =>
    intro xs h
    cases xs with
    | nil => rw [ckA] at h <;> first | cases h | (intros; contradiction)
    | cons y ys =>
      rw [ckA] at h
      simp only [Bool.and_eq_true] at h
      show Ex.cons e (takeX ys.length es) = _
      rw [ihs h.2]
  | _ => intro xs h; rw [ckA] at h <;> first | cases h | (intros; contradiction)
theorem r_callA (xo : XOk X C G lv N sc) {es : Ex} (ih : Snd es) {f : PySem.Str} {pm : List Nat} {args : List Expr} {kws : List Keyword} {p pos : Pos} (hg : gl sc f = true) (ho : okN f = true) (h1 : (match G.fn.lookup f with
      | some (n, kf) => decide (pm.length = n) && (match kws with
        | [] => decide (pm = List.range args.length) && !args.isEmpty
        | _ :: _ => (match kwN kws with | some ks => decide ((args.length, ks, pm) ∈ kf) | none => false))
      | none => false) = true) (h2 : ckA G N sc es (args ++ kws.map (·.value)) = true) : PE X (.Call (.Name f p) args kws pos) (tE C (.call f pm es)) := by
  split at h1
  · rename_i n kf hf
    simp only [Bool.and_eq_true, decide_eq_true_eq] at h1
    obtain ⟨hl, h1⟩ := h1
    cases kws with
    | nil =>
      simp only [Bool.and_eq_true, decide_eq_true_eq, Bool.not_eq_true', List.map_nil, List.append_nil] at h1 h2
      cases args with
      | nil => simp at h1
      | cons a args =>
        have hn := ckA_nst h2
        simp only [List.all_cons, Bool.and_eq_true] at hn
        have pa := ih.a xo (xs := a :: args) (ys := []) (by rw [List.append_nil]; exact h2)
        rw [takeX_full h2] at pa
        rw [h1.1]
        exact r_call xo hf (xo.gl _ hg) (okN_of ho).1 (by rw [← hl, h1.1, List.length_range]) hn.1 hn.2 pa fun env as env' e => ckA_len h2 e
    | cons k ks' =>
      simp only at h1
      split at h1
      · rename_i ks hk
        have hsp := ckA_split h2
        have hn := ckA_nst hsp.1
        refine r_callK xo hf (xo.gl _ hg) (okN_of ho).1 hl (of_decide_eq_true h1) hk hn (ih.a xo h2) (ih.k xo h2) (fun env as env' e => ?_) (fun env as env' e => ckA_len hsp.1 e)
        rw [ckA_len h2 e, List.length_append, List.length_map]
      · cases h1
  · cases h1
theorem r_bltA (xo : XOk X C G lv N sc) {f : BF} {es : Ex} (ih : Snd es) {y : PySem.Str} {a : Expr} {args : List Expr} {p pos : Pos} (hf : ∀ t, f ≠ .isi t) (h : (match f with
      | .isi t => false
      | .gcd => decide ((y, "math.gcd") ∈ G.mf) && gl sc y && okN y && ckL G N sc es (a :: args)
      | .isqrt => decide ((y, "math.isqrt") ∈ G.mf) && gl sc y && okN y && ckL G N sc es (a :: args)
      | f => decide (y = bfN f) && gl sc y && decide (y ∈ G.bl) && ckL G N sc es (a :: args)) = true) : PE X (.Call (.Name y p) (a :: args) [] pos) (tE C (.blt f es)) := by
  have go : ∀ {b : Bool}, (b && ckL G N sc es (a :: args)) = true → nst a = true ∧ args.all nst = true ∧ PA X (a :: args) (tL C es) := fun {b} h => by
    simp only [Bool.and_eq_true] at h
    have hn := ckL_nst h.2
    simp only [List.all_cons, Bool.and_eq_true] at hn
    exact ⟨hn.1, hn.2, ih.l xo h.2⟩
  obtain ⟨n1, n2, pa⟩ : nst a = true ∧ args.all nst = true ∧ PA X (a :: args) (tL C es) := by
    cases f <;> first | exact go h | exact absurd rfl (hf _)
  cases f <;> simp only [Bool.and_eq_true, decide_eq_true_eq] at h <;> try (exact absurd rfl (hf _))
  case abs => obtain ⟨⟨⟨rfl, h1⟩, h2⟩, h3⟩ := h; exact r_bltB xo.K cf_abs (xo.gl _ h1) (xo.bl _ h2) (by decide +kernel) (by decide) (by decide) n1 n2 pa
  case int => obtain ⟨⟨⟨rfl, h1⟩, h2⟩, h3⟩ := h; exact r_bltT xo.K cf_int (xo.gl _ h1) (xo.bl _ h2) (by decide +kernel) (by decide) (by decide) n1 n2 pa
  case len => obtain ⟨⟨⟨rfl, h1⟩, h2⟩, h3⟩ := h; exact r_bltB xo.K cf_len (xo.gl _ h1) (xo.bl _ h2) (by decide +kernel) (by decide) (by decide) n1 n2 pa
  case sum => obtain ⟨⟨⟨rfl, h1⟩, h2⟩, h3⟩ := h; exact r_bltB xo.K (cf_sum xo.calm) (xo.gl _ h1) (xo.bl _ h2) (by decide +kernel) (by decide) (by decide) n1 n2 pa
  case max => obtain ⟨⟨⟨rfl, h1⟩, h2⟩, h3⟩ := h; exact r_bltB xo.K (cf_max xo.calm) (xo.gl _ h1) (xo.bl _ h2) (by decide +kernel) (by decide) (by decide) n1 n2 pa
  case min => obtain ⟨⟨⟨rfl, h1⟩, h2⟩, h3⟩ := h; exact r_bltB xo.K (cf_min xo.calm) (xo.gl _ h1) (xo.bl _ h2) (by decide +kernel) (by decide) (by decide) n1 n2 pa
  case all => obtain ⟨⟨⟨rfl, h1⟩, h2⟩, h3⟩ := h; exact r_bltB xo.K (cf_all xo.calm) (xo.gl _ h1) (xo.bl _ h2) (by decide +kernel) (by decide) (by decide) n1 n2 pa
  case any => obtain ⟨⟨⟨rfl, h1⟩, h2⟩, h3⟩ := h; exact r_bltB xo.K (cf_any xo.calm) (xo.gl _ h1) (xo.bl _ h2) (by decide +kernel) (by decide) (by decide) n1 n2 pa
  case list => obtain ⟨⟨⟨rfl, h1⟩, h2⟩, h3⟩ := h; exact r_bltT xo.K cf_list (xo.gl _ h1) (xo.bl _ h2) (by decide +kernel) (by decide) (by decide) n1 n2 pa
  case tuple => obtain ⟨⟨⟨rfl, h1⟩, h2⟩, h3⟩ := h; exact r_bltT xo.K cf_tuple (xo.gl _ h1) (xo.bl _ h2) (by decide +kernel) (by decide) (by decide) n1 n2 pa
  case str => obtain ⟨⟨⟨rfl, h1⟩, h2⟩, h3⟩ := h; exact r_bltT xo.K cf_str (xo.gl _ h1) (xo.bl _ h2) (by decide +kernel) (by decide) (by decide) n1 n2 pa
  case repr => obtain ⟨⟨⟨rfl, h1⟩, h2⟩, h3⟩ := h; exact r_bltB xo.K (cf_repr xo.qt xo.room.units) (xo.gl _ h1) (xo.bl _ h2) (by decide +kernel) (by decide) (by decide) n1 n2 pa
  case gcd => obtain ⟨⟨⟨h0, h1⟩, h2⟩, h3⟩ := h; exact r_bltM xo.K cf_gcd (xo.gl _ h1) (xo.mf _ h0) (okN_of h2).1 n1 n2 pa
  case isqrt => obtain ⟨⟨⟨h0, h1⟩, h2⟩, h3⟩ := h; exact r_bltM xo.K cf_isqrt (xo.gl _ h1) (xo.mf _ h0) (okN_of h2).1 n1 n2 pa
end Mn
namespace Mn
open PySem L2 RZ
variable {C : Ctx} {X : Cx} {F : FT} {env env' : Env} {d : D} {G : GS} {lv : Nat} {N : List PySem.Str} {sc : Scope}
theorem PI.or {tg x : Expr} {I J : TI} (h : PI X tg x I) (k : PI X tg x J) : PI X tg x (fun σ H R => I σ H R ∨ J σ H R) :=
  ⟨fun pins s σ H R i z => z.elim (h.run pins s σ H R i) (k.run pins s σ H R i)⟩
theorem r_zipP {x y : Expr} {p pos tpos : Pos} {elts : List Expr} {kk : Nat} {e es : Ex} (hK : X.K = C.K) (hg : Gl X "zip") (hm : X.mg "zip" = none) (n1 : nst x = true) (n2 : nst y = true) (h1 : PE X x (tE C e)) (h2 : PA X [y] (tL C es)) :
    PI X (.Tuple elts kk tpos) (.Call (.Name "zip" p) [x, y] [] pos) (tI C .zip (.cons e es)) :=
  (PI.or (pi_zipA hg hm (r_cons n1 h1 h2) (star_cons n1) (star_any (es := [y]) (by simp [n2]))) (pi_zipM hg hm (r_cons n1 h1 h2) (star_cons n1) (star_any (es := [y]) (by simp [n2])))).imp fun σ H R h => by
    obtain ⟨B, M, env, xs, its, env', s, ev, w, q⟩ := h
    unfold walk at w
    split at w <;> first | (cases w; done) | contradiction | skip
    · cases w
      refine .inl ⟨B, M, env, _, env', s, ev, fun vs H1 B1 M1 s1 r1 n1 => ?_⟩
      obtain ⟨v1, v2, rfl, r2, r3⟩ := r1.two
      obtain ⟨a, vs, rfl, c1, c2, c5⟩ := r2
      obtain ⟨b, ws, rfl, c3, c4, c6⟩ := r3
      exact ⟨a, b, vs, ws, rfl, .inl ⟨.inl (.inl c1), .inl (.inl c3), (by rw [hK]; exact q _ _ H1 B1 M1 s1 wlk_zip ⟨⟨vs, c1, c2, c5⟩, ⟨ws, c3, c4, c6⟩⟩ n1)⟩⟩
    · cases w
      refine .inl ⟨B, M, env, _, env', s, ev, fun vs H1 B1 M1 s1 r1 n1 => ?_⟩
      obtain ⟨v1, v2, rfl, r2, r3⟩ := r1.two
      obtain ⟨a, vs, rfl, c1, c2⟩ := r2
      obtain ⟨b, ws, rfl, c3, c4⟩ := r3
      exact ⟨a, b, vs, ws, rfl, .inr ⟨hK ▸ c1, hK ▸ c3, (by rw [hK]; exact q _ _ H1 B1 M1 s1 wlk_zipT ⟨⟨vs, c1, c2⟩, ⟨ws, c3, c4⟩⟩ n1)⟩⟩
    · cases w
      refine .inr ⟨B, M, env, _, env', s, ev, fun vs H1 B1 M1 s1 r1 n1 => ?_⟩
      obtain ⟨v1, v2, rfl, r2, r3⟩ := r1.two
      obtain ⟨a, vs, rfl, c1, c2⟩ := r2
      obtain ⟨b, ws, rfl, c3, c4, c6⟩ := r3
      exact ⟨a, b, vs, ws, rfl, hK ▸ c1, .inl (.inl c3), (by rw [hK]; exact q _ _ H1 B1 M1 s1 wlk_zipM ⟨⟨vs, c1, c2⟩, ⟨ws, c3, c4, c6⟩⟩ n1)⟩
theorem map_own (N : List PySem.Str) (own : List Nat) : (own.map fun i => (N.getD i "", i)).map (·.2) = own := by
  induction own with
  | nil => rfl
  | cons i r ih => rw [List.map_cons, List.map_cons, ih]
theorem ev_comp_is {w : Wk} {src cd el : Ex} {tg : Tg} {own : List Nat} {env : Env} {d : D} {env' : Env} (h : evE F (.comp w src tg cd el own) env = some (d, env')) : ∃ xs, d = .lst xs := let ⟨_, _, _, ds, _, _, _, _, _, e⟩ := ev_comp h; ⟨ds, e⟩
theorem _root_.L2.PTs.imp {X : Cx} {e : List Expr} {t t' : TT} (h : PTs X e t) (i : ∀ σ H Q, t' σ H Q → t σ H Q) : PTs X e t' := ⟨fun pins s σ H Q I q => h.run pins s σ H Q I (i σ H Q q)⟩
theorem r_ifs (xo : XOk X C G lv N sc) {cd : Ex} {ifs : List Expr} (h : (match ifs with | [] => (match cd with | .tyes => true | _ => false) | [c] => ckT G N sc cd c | _ => false) = true) (ih : Snd cd) : PTs X ifs (tTB C cd) := by
  cases ifs with
  | nil =>
    cases cd <;> first | (cases h; done) | skip
    refine pts_nil.imp fun σ H Q hq => ?_
    obtain ⟨B0, B, M, env, k, env', s, e, q⟩ := hq
    rw [evT] at e; cases e
    exact q H B M s (Nx.refl _ _ _)
  | cons c cs =>
    cases cs with
    | nil => exact pts_one (pt_B fun B0 => ih.t xo.at h)
    | cons _ _ => cases h
theorem r_tvcmp (xo : XOk X C G lv N sc) {o : CO} {a b : Ex} {op : CmpOp} {l r : Expr} {p : Pos} (ih : Snd (.cmp o a b)) (h1 : ckC o op = true) (h2 : ckE G N sc a l = true) (h3 : ckE G N sc b r = true) : PT X (.Compare l [op] [r] p) (tT C (.tval (.cmp o a b))) :=
  ih.c xo (by simp [ckE, h1, h2, h3])
theorem r_bltAll (xo : XOk X C G lv N sc) {f : BF} {es : Ex} {y : PySem.Str} {a : Expr} {args : List Expr} {p pos : Pos} (h : (match f with
      | .isi t => decide (y = ("isinstance" : PySem.Str)) && gl sc y && decide (y ∈ G.bl) && (match args with
        | [.Name z _] => decide (z = PySem.Str.ofString t) && gl sc z && okN z && decide (z ∈ G.bl) && decide (bootBuiltins z = some (.type t)) && (match es with | .cons e .nil => nst a && ckE G N sc e a | _ => false)
        | _ => false)
      | .gcd => decide ((y, "math.gcd") ∈ G.mf) && gl sc y && okN y && ckL G N sc es (a :: args)
      | .isqrt => decide ((y, "math.isqrt") ∈ G.mf) && gl sc y && okN y && ckL G N sc es (a :: args)
      | f => decide (y = bfN f) && gl sc y && decide (y ∈ G.bl) && ckL G N sc es (a :: args)) = true) (ih : Snd es) : PE X (.Call (.Name y p) (a :: args) [] pos) (tE C (.blt f es)) := by
  cases f with
  | isi t =>
    simp only [Bool.and_eq_true, decide_eq_true_eq] at h
    obtain ⟨⟨⟨rfl, h1⟩, h2⟩, h⟩ := h
    split at h
    · rename_i z zp
      rw [Bool.and_eq_true, Bool.and_eq_true, Bool.and_eq_true, Bool.and_eq_true, Bool.and_eq_true] at h
      obtain ⟨⟨⟨⟨⟨h3, h4⟩, h5⟩, h6⟩, h7⟩, h8⟩ := h
      cases es with
      | cons e e2 =>
        cases e2 with
        | nil =>
          simp only [Bool.and_eq_true] at h8
          exact r_isi xo.K (xo.gl _ h1) (xo.bl _ h2) (xo.gl _ h4) (xo.bl _ (of_decide_eq_true h6)) (of_decide_eq_true h7) (okN_of h5).2.2 (okN_of h5).1 h8.1 (ih.s xo _ rfl h8.2)
        | _ => cases h8
      | _ => cases h8
    · cases h
  | _ => exact r_bltA xo ih (fun _ z => by cases z) h
/-! ### what kinds of expressions can be read as what -/
def isJ : Ex → Bool | .nil => true | .cons _ _ => true | _ => false
def isTt : Ex → Bool | .tnot _ => true | .tand _ _ => true | .tor _ _ => true | .tvar _ => true | .tval _ => true | _ => false
def isWw : Ex → Bool | .tand _ _ => true | .tor _ _ => true | .tval _ => true | _ => false
def isOo : Ex → Bool | .nil => true | .tval _ => true | _ => false
def isAa : Ex → Bool | .ref _ => true | .tval _ => true | _ => false
def isIi : Ex → Bool | .cons _ _ => true | _ => false
def isCc : Ex → Bool | .cmp _ _ _ => true | .mth (.eqo _ _ _) _ _ => true | _ => false
theorem invJ {G : GS} {N : List PySem.Str} {sc : Scope} {x : Ex} {ys : List Expr} (h : ckJ G N sc x ys = true) : isJ x = true := by
  unfold ckJ at h; split at h <;> first | rfl | (cases h; done)
theorem invL {G : GS} {N : List PySem.Str} {sc : Scope} {x : Ex} {ys : List Expr} (h : ckL G N sc x ys = true) : isJ x = true := by
  unfold ckL at h; split at h <;> first | rfl | (cases h; done)
theorem invA {G : GS} {N : List PySem.Str} {sc : Scope} {x : Ex} {ys : List Expr} (h : ckA G N sc x ys = true) : isJ x = true := by
  unfold ckA at h; split at h <;> first | rfl | (cases h; done)
theorem invT {G : GS} {N : List PySem.Str} {sc : Scope} {x : Ex} {ys : Expr} (h : ckT G N sc x ys = true) : isTt x = true := by
  unfold ckT at h; split at h <;> first | rfl | (cases h; done)
theorem invW {G : GS} {N : List PySem.Str} {sc : Scope} {x : Ex} {op : BoolOp} {es : List Expr} {p : Pos} (h : ckT G N sc x (.BoolOp op es p) = true) : isWw x = true := by
  unfold ckT at h; split at h <;> first | rfl | (cases h; done) | (rename_i hq; cases hq; done)
theorem invO {G : GS} {N : List PySem.Str} {sc : Scope} {x : Ex} {ys : Option Expr} (h : ckO G N sc x ys = true) : isOo x = true := by
  unfold ckO at h; split at h <;> first | rfl | (cases h; done)
theorem invAr {G : GS} {N : List PySem.Str} {sc : Scope} {x : Ex} {ys : Expr} (h : ckAr G N sc x ys = true) : isAa x = true := by
  unfold ckAr at h; split at h <;> first | rfl | (cases h; done)
theorem invI {G : GS} {N : List PySem.Str} {sc : Scope} {wk : Wk} {x : Ex} {a b : Expr} (h : ckI G N sc wk x a b = true) : isIi x = true := by
  unfold ckI at h; split at h <;> first | rfl | (cases h; done)
theorem invC {G : GS} {N : List PySem.Str} {sc : Scope} {x : Ex} {l r : Expr} {op : CmpOp} {p : Pos} (h : ckE G N sc x (.Compare l [op] [r] p) = true) : isCc x = true := by
  unfold ckE at h; split at h <;> first | rfl | (cases h; done) | (rename_i hq; cases hq; done)
def isDd : Ex → Bool | .chn _ _ _ _ _ => true | _ => false
theorem invD {G : GS} {N : List PySem.Str} {sc : Scope} {x : Ex} {l r r' : Expr} {op op' : CmpOp} {p : Pos} (h : ckE G N sc x (.Compare l [op, op'] [r, r'] p) = true) : isDd x = true := by
  unfold ckE at h; split at h <;> first | rfl | (cases h; done) | (rename_i hq; cases hq; done)
def InvE (G : GS) (N : List PySem.Str) (sc : Scope) : Ex → Expr → Prop
  | .var i, ex => ∃ x z1, ex = .Name x z1 ∧ (nm N sc i x) = true
  | .con d, ex => ∃ c z1 z2, ex = .Constant c z1 z2 ∧ (ckK d c) = true
  | .glo x, ex => ∃ y z1, ex = .Name y z1 ∧ (decide (x = y) && gl sc x && okN x && decide (x ∈ G.co)) = true
  | .ixv i e, ex => ∃ x z1 s z2, ex = .Subscript (.Name x z1) s z2 ∧ (nm N sc i x && notSl s && ckE G N sc e s) = true
  | .lenv i, ex => ∃ f z1 x z2 z3, ex = .Call (.Name f z1) [.Name x z2] [] z3 ∧ (decide (f = ("len" : PySem.Str)) && gl sc f && decide (f ∈ G.bl) && nm N sc i x) = true
  | .popv i e, ex => ∃ y z1 m ap l cp, ex = .Call (.Attribute (.Name y z1) m ap) [l] [] cp ∧ (decide (m = ("pop" : PySem.Str)) && nm N sc i y && nst l && (ap.endLine == cp.line) && ckE G N sc e l) = true
  | .bin o a b, ex => ∃ l op r z1, ex = .BinOp l op r z1 ∧ (ckB o op && ckE G N sc a l && ckE G N sc b r) = true
  | .neg a, ex => ∃ l z1, ex = .UnaryOp .USub l z1 ∧ (ckE G N sc a l) = true
  | .cmp o a b, ex => ∃ l op r z1, ex = .Compare l [op] [r] z1 ∧ (ckC o op && ckE G N sc a l && ckE G N sc b r) = true
  | .chn o o' a b c, ex => ∃ l op op' r r' z1, ex = .Compare l [op, op'] [r, r'] z1 ∧ (ckC o op && ckC o' op' && ckE G N sc a l && ckE G N sc b r && ckE G N sc c r') = true
  | .vand a b, ex => ∃ x y r p, ex = .BoolOp .And (x :: y :: r) p ∧ (ckE G N sc a x && (match r with | [] => ckE G N sc b y | _ :: _ => ckE G N sc b (.BoolOp .And (y :: r) p))) = true
  | .vor a b, ex => ∃ x y r p, ex = .BoolOp .Or (x :: y :: r) p ∧ (ckE G N sc a x && (match r with | [] => ckE G N sc b y | _ :: _ => ckE G N sc b (.BoolOp .Or (y :: r) p))) = true
  | .vnot a, ex => ∃ l z1, ex = .UnaryOp .Not l z1 ∧ (ckE G N sc a l) = true
  | .ite c a b, ex => ∃ t l r z1, ex = .IfExp t l r z1 ∧ (ckT G N sc c t && ckE G N sc a l && ckE G N sc b r) = true
  | .tup es, ex => ∃ xs z1 z2, ex = .Tuple xs z1 z2 ∧ (ckL G N sc es xs) = true
  | .lst es, ex => ∃ xs z1, ex = .List xs z1 ∧ (ckL G N sc es xs) = true
  | .ix a i, ex => ∃ l s z1, ex = .Subscript l s z1 ∧ (notSl s && ckE G N sc a l && ckE G N sc i s) = true
  | .slc a lo hi, ex => ∃ l x y z1 z2, ex = .Subscript l (.Slice x y none z1) z2 ∧ (ckE G N sc a l && ckO G N sc lo x && ckO G N sc hi y) = true
  | .rev a, ex => ∃ l i z1 z2 z3 z4 z5, ex = .Subscript l (.Slice none none (some (.UnaryOp .USub (.Constant (.int i) z1 z2) z3)) z4) z5 ∧ (decide (i = 1) && ckE G N sc a l) = true
  | .att cs e f, ex => ∃ l g z1, ex = .Attribute l g z1 ∧ (decide (f = g) && notSup l && cs.all (fun c => decide ((c, f) ∈ G.ca)) && ckE G N sc e l) = true
  | .sg f, ex => ∃ x z1 g z2, ex = .Attribute (.Name x z1) g z2 ∧ (decide (f = g) && nm N sc 0 x && (match G.slf with | some fl => decide (f ∈ fl) | none => false)) = true
  | .mk c es, ex => ∃ x z1 a args z2, ex = .Call (.Name x z1) (a :: args) [] z2 ∧ (decide (c = x) && gl sc c && okN c && decide (G.mks.lookup c = some (args.length + 1)) && nst a && args.all nst && ckL G N sc es (a :: args)) = true
  | .fst es, ex => ∃ ys z1, ex = .JoinedStr ys z1 ∧ ((match ys with | _ :: _ :: _ => true | _ => false) && ckJ G N sc es ys) = true
  | .call f pm es, ex => ∃ x z1 args kws z2, ex = .Call (.Name x z1) args kws z2 ∧ (  decide (f = x) && gl sc f && okN f && (match G.fn.lookup f with
        | some (n, kf) => decide (pm.length = n) && (match kws with
          | [] => decide (pm = List.range args.length) && !args.isEmpty
          | _ :: _ => (match kwN kws with | some ks => decide ((args.length, ks, pm) ∈ kf) | none => false))
        | none => false) && ckA G N sc es (args ++ kws.map (·.value))) = true
  | .calln f g es, ex => ∃ x z1 y z2 a args z3 z4, ex = .Call (.Name x z1) [.Call (.Name y z2) (a :: args) [] z3] [] z4 ∧ (decide (f = x) && gl sc f && okN f && decide (g = y) && gl sc g && okN g && (match G.fn.lookup f with | some (n, _) => decide (n = 1) | none => false) && decide (G.nw.lookup g = some (args.length + 1)) && ckL G N sc es (a :: args)) = true
  | .lrng e, ex => ∃ x z1 y z2 a z3 z4, ex = .Call (.Name x z1) [.Call (.Name y z2) [a] [] z3] [] z4 ∧ (decide (x = ("list" : PySem.Str)) && gl sc x && decide (x ∈ G.bl) && decide (y = ("range" : PySem.Str)) && gl sc y && decide (y ∈ G.bl) && nst a && ckE G N sc e a) = true
  | .blt f es, ex => ∃ x z1 a args z2, ex = .Call (.Name x z1) (a :: args) [] z2 ∧ (  (match f with
        | .isi t => decide (x = ("isinstance" : PySem.Str)) && gl sc x && decide (x ∈ G.bl) && (match args with
          | [.Name y _] => decide (y = PySem.Str.ofString t) && gl sc y && okN y && decide (y ∈ G.bl) && decide (bootBuiltins y = some (.type t)) && (match es with | .cons e .nil => nst a && ckE G N sc e a | _ => false)
          | _ => false)
        | .gcd => decide ((x, "math.gcd") ∈ G.mf) && gl sc x && okN x && ckL G N sc es (a :: args)
        | .isqrt => decide ((x, "math.isqrt") ∈ G.mf) && gl sc x && okN x && ckL G N sc es (a :: args)
        | f => decide (x = bfN f) && gl sc x && decide (x ∈ G.bl) && ckL G N sc es (a :: args))) = true
  | .comp w src tg cd el own, ex => ∃ elt tge iter ifs scope z1, ex = .ListComp elt [⟨tge, iter, ifs, 0⟩] scope z1 ∧ (  ckI G N sc w src iter tge && ckTg N scope tg tge && blkC N sc scope (own.map fun i => (N.getD i "", i)) && (tgs tg).all (fun i => decide (i ∈ own)) &&
        (match ifs with | [] => (match cd with | .tyes => true | _ => false) | [c] => ckT G N scope cd c | _ => false) && ckE G N scope el elt) = true
  | .mth _ _ _, _ => True
  | _, _ => False
theorem ckE_inv {G : GS} {N : List PySem.Str} {sc : Scope} {x : Ex} {ex : Expr} (h : ckE G N sc x ex = true) : InvE G N sc x ex := by
  unfold ckE at h
  split at h <;> first | (cases h; done) | exact trivial | skip
  all_goals first | exact ⟨_, _, rfl, h⟩ | exact ⟨_, _, _, rfl, h⟩ | exact ⟨_, _, _, _, rfl, h⟩ | exact ⟨_, _, _, _, _, rfl, h⟩ | exact ⟨_, _, _, _, _, _, rfl, h⟩ | exact ⟨_, _, _, _, _, _, _, rfl, h⟩ | exact ⟨_, _, _, _, _, _, _, _, rfl, h⟩
theorem snd_all : ∀ x : Ex, Snd x := by
  intro x
  induction x with
  | var i =>
    refine ⟨?_, ?_, ?_, ?_, ?_, ?_, ?_, ?_, ?_, ?_, ?_, ?_, ?_, ?_⟩
    · intro C X G lv N sc xo ys h; cases invJ h
    · intro C X G lv N sc xo ex h; replace h := ckE_inv h; obtain ⟨_, _, rfl, h⟩ := h
      obtain ⟨h1, h2, h3, h4⟩ := nmOk xo h
      exact r_var h1 h2 h3 h4
    · intro C X G lv N sc xo ex hn h; cases hn
    · intro C X G lv N sc xo ex h; cases invT h
    · intro C X G lv N sc xo op es p h; cases invW h
    · intro C X G lv N sc xo ex h; cases invL h
    · intro C X G lv N sc xo xs ys h; cases invA h
    · intro C X G lv N sc xo xs ys h; cases invA h
    · intro C X G lv N sc xo ex h; cases invAr h
    · intro C X G lv N sc xo ex h; cases invO h
    · intro C X G lv N sc xo l r r' op op' p h; cases invD h
    · intro C X G lv N sc xo l r op p h; cases invC h
    · intro C X G lv N sc xo a e he h; cases he
    · intro C X G lv N sc xo wk it tg h; cases invI h
  | con d =>
    refine ⟨?_, ?_, ?_, ?_, ?_, ?_, ?_, ?_, ?_, ?_, ?_, ?_, ?_, ?_⟩
    · intro C X G lv N sc xo ys h; cases invJ h
    · intro C X G lv N sc xo ex h; replace h := ckE_inv h; obtain ⟨_, _, _, rfl, h⟩ := h
      exact r_con h
    · intro C X G lv N sc xo ex hn h; cases hn
    · intro C X G lv N sc xo ex h; cases invT h
    · intro C X G lv N sc xo op es p h; cases invW h
    · intro C X G lv N sc xo ex h; cases invL h
    · intro C X G lv N sc xo xs ys h; cases invA h
    · intro C X G lv N sc xo xs ys h; cases invA h
    · intro C X G lv N sc xo ex h; cases invAr h
    · intro C X G lv N sc xo ex h; cases invO h
    · intro C X G lv N sc xo l r r' op op' p h; cases invD h
    · intro C X G lv N sc xo l r op p h; cases invC h
    · intro C X G lv N sc xo a e he h; cases he
    · intro C X G lv N sc xo wk it tg h; cases invI h
  | glo y =>
    refine ⟨?_, ?_, ?_, ?_, ?_, ?_, ?_, ?_, ?_, ?_, ?_, ?_, ?_, ?_⟩
    · intro C X G lv N sc xo ys h; cases invJ h
    · intro C X G lv N sc xo ex h; replace h := ckE_inv h; obtain ⟨_, _, rfl, h⟩ := h
      simp only [Bool.and_eq_true, decide_eq_true_eq] at h
      obtain ⟨⟨⟨rfl, h2⟩, h3⟩, h4⟩ := h
      exact r_glo xo (xo.gl _ h2) (okN_of h3).1 h4
    · intro C X G lv N sc xo ex hn h; cases hn
    · intro C X G lv N sc xo ex h; cases invT h
    · intro C X G lv N sc xo op es p h; cases invW h
    · intro C X G lv N sc xo ex h; cases invL h
    · intro C X G lv N sc xo xs ys h; cases invA h
    · intro C X G lv N sc xo xs ys h; cases invA h
    · intro C X G lv N sc xo ex h; cases invAr h
    · intro C X G lv N sc xo ex h; cases invO h
    · intro C X G lv N sc xo l r r' op op' p h; cases invD h
    · intro C X G lv N sc xo l r op p h; cases invC h
    · intro C X G lv N sc xo a e he h; cases he
    · intro C X G lv N sc xo wk it tg h; cases invI h
  | ixv i e ih =>
    refine ⟨?_, ?_, ?_, ?_, ?_, ?_, ?_, ?_, ?_, ?_, ?_, ?_, ?_, ?_⟩
    · intro C X G lv N sc xo ys h; cases invJ h
    · intro C X G lv N sc xo ex h; replace h := ckE_inv h; obtain ⟨_, _, _, _, rfl, h⟩ := h
      simp only [Bool.and_eq_true, decide_eq_true_eq] at h
      obtain ⟨h1, h2, h3, h4⟩ := nmOk xo h.1.1
      exact r_ixv xo.K h1 h2 h3 h4 h.1.2 (ih.e xo h.2)
    · intro C X G lv N sc xo ex hn h; cases hn
    · intro C X G lv N sc xo ex h; cases invT h
    · intro C X G lv N sc xo op es p h; cases invW h
    · intro C X G lv N sc xo ex h; cases invL h
    · intro C X G lv N sc xo xs ys h; cases invA h
    · intro C X G lv N sc xo xs ys h; cases invA h
    · intro C X G lv N sc xo ex h; cases invAr h
    · intro C X G lv N sc xo ex h; cases invO h
    · intro C X G lv N sc xo l r r' op op' p h; cases invD h
    · intro C X G lv N sc xo l r op p h; cases invC h
    · intro C X G lv N sc xo a e he h; cases he
    · intro C X G lv N sc xo wk it tg h; cases invI h
  | lenv i =>
    refine ⟨?_, ?_, ?_, ?_, ?_, ?_, ?_, ?_, ?_, ?_, ?_, ?_, ?_, ?_⟩
    · intro C X G lv N sc xo ys h; cases invJ h
    · intro C X G lv N sc xo ex h; replace h := ckE_inv h; obtain ⟨_, _, _, _, _, rfl, h⟩ := h
      simp only [Bool.and_eq_true, decide_eq_true_eq] at h
      obtain ⟨⟨⟨rfl, g1⟩, g2⟩, g3⟩ := h
      obtain ⟨h1, h2, h3, h4⟩ := nmOk xo g3
      exact r_lenv xo.K (xo.gl _ g1) (xo.bl _ g2) h1 h2 h3 h4
    · intro C X G lv N sc xo ex hn h; cases hn
    · intro C X G lv N sc xo ex h; cases invT h
    · intro C X G lv N sc xo op es p h; cases invW h
    · intro C X G lv N sc xo ex h; cases invL h
    · intro C X G lv N sc xo xs ys h; cases invA h
    · intro C X G lv N sc xo xs ys h; cases invA h
    · intro C X G lv N sc xo ex h; cases invAr h
    · intro C X G lv N sc xo ex h; cases invO h
    · intro C X G lv N sc xo l r r' op op' p h; cases invD h
    · intro C X G lv N sc xo l r op p h; cases invC h
    · intro C X G lv N sc xo a e he h; cases he
    · intro C X G lv N sc xo wk it tg h; cases invI h
  | popv i e ih =>
    refine ⟨?_, ?_, ?_, ?_, ?_, ?_, ?_, ?_, ?_, ?_, ?_, ?_, ?_, ?_⟩
    · intro C X G lv N sc xo ys h; cases invJ h
    · intro C X G lv N sc xo ex h; replace h := ckE_inv h; obtain ⟨_, _, _, _, _, _, rfl, h⟩ := h
      rw [Bool.and_eq_true, Bool.and_eq_true, Bool.and_eq_true, Bool.and_eq_true, decide_eq_true_eq] at h
      obtain ⟨⟨⟨⟨rfl, g3⟩, g4⟩, g5⟩, g6⟩ := h
      obtain ⟨h1, h2, h3, h4⟩ := nmOk xo g3
      exact r_popv h1 h2 h3 h4 g4 g5 (ih.e xo g6)
    · intro C X G lv N sc xo ex hn h; cases hn
    · intro C X G lv N sc xo ex h; cases invT h
    · intro C X G lv N sc xo op es p h; cases invW h
    · intro C X G lv N sc xo ex h; cases invL h
    · intro C X G lv N sc xo xs ys h; cases invA h
    · intro C X G lv N sc xo xs ys h; cases invA h
    · intro C X G lv N sc xo ex h; cases invAr h
    · intro C X G lv N sc xo ex h; cases invO h
    · intro C X G lv N sc xo l r r' op op' p h; cases invD h
    · intro C X G lv N sc xo l r op p h; cases invC h
    · intro C X G lv N sc xo a e he h; cases he
    · intro C X G lv N sc xo wk it tg h; cases invI h
  | bin o a b iha ihb =>
    refine ⟨?_, ?_, ?_, ?_, ?_, ?_, ?_, ?_, ?_, ?_, ?_, ?_, ?_, ?_⟩
    · intro C X G lv N sc xo ys h; cases invJ h
    · intro C X G lv N sc xo ex h; replace h := ckE_inv h; obtain ⟨_, _, _, _, rfl, h⟩ := h
      simp only [Bool.and_eq_true, decide_eq_true_eq] at h
      rw [ckB_eq h.1.1]
      exact r_bin xo.K (iha.e xo h.1.2) (ihb.e xo h.2)
    · intro C X G lv N sc xo ex hn h
      cases o <;> first | (cases hn; done) | skip
      replace h := ckE_inv h; obtain ⟨_, _, _, _, rfl, h⟩ := h
      simp only [Bool.and_eq_true, decide_eq_true_eq] at h
      rw [ckB_eq h.1.1]
      exact r_catN (iha.e xo h.1.2) (ihb.e xo h.2)
    · intro C X G lv N sc xo ex h; cases invT h
    · intro C X G lv N sc xo op es p h; cases invW h
    · intro C X G lv N sc xo ex h; cases invL h
    · intro C X G lv N sc xo xs ys h; cases invA h
    · intro C X G lv N sc xo xs ys h; cases invA h
    · intro C X G lv N sc xo ex h; cases invAr h
    · intro C X G lv N sc xo ex h; cases invO h
    · intro C X G lv N sc xo l r r' op op' p h; cases invD h
    · intro C X G lv N sc xo l r op p h; cases invC h
    · intro C X G lv N sc xo a e he h; cases he
    · intro C X G lv N sc xo wk it tg h; cases invI h
  | neg a ih =>
    refine ⟨?_, ?_, ?_, ?_, ?_, ?_, ?_, ?_, ?_, ?_, ?_, ?_, ?_, ?_⟩
    · intro C X G lv N sc xo ys h; cases invJ h
    · intro C X G lv N sc xo ex h; replace h := ckE_inv h; obtain ⟨_, _, rfl, h⟩ := h
      exact r_neg (ih.e xo h)
    · intro C X G lv N sc xo ex hn h; cases hn
    · intro C X G lv N sc xo ex h; cases invT h
    · intro C X G lv N sc xo op es p h; cases invW h
    · intro C X G lv N sc xo ex h; cases invL h
    · intro C X G lv N sc xo xs ys h; cases invA h
    · intro C X G lv N sc xo xs ys h; cases invA h
    · intro C X G lv N sc xo ex h; cases invAr h
    · intro C X G lv N sc xo ex h; cases invO h
    · intro C X G lv N sc xo l r r' op op' p h; cases invD h
    · intro C X G lv N sc xo l r op p h; cases invC h
    · intro C X G lv N sc xo a e he h; cases he
    · intro C X G lv N sc xo wk it tg h; cases invI h
  | cmp o a b iha ihb =>
    refine ⟨?_, ?_, ?_, ?_, ?_, ?_, ?_, ?_, ?_, ?_, ?_, ?_, ?_, ?_⟩
    · intro C X G lv N sc xo ys h; cases invJ h
    · intro C X G lv N sc xo ex h; replace h := ckE_inv h; obtain ⟨_, _, _, _, rfl, h⟩ := h
      simp only [Bool.and_eq_true, decide_eq_true_eq] at h
      rw [ckC_eq h.1.1]
      exact r_cmp xo.K xo.hu (iha.e xo h.1.2) (ihb.e xo h.2) (nomk _ h.2)
    · intro C X G lv N sc xo ex hn h; cases hn
    · intro C X G lv N sc xo ex h; cases invT h
    · intro C X G lv N sc xo op es p h; cases invW h
    · intro C X G lv N sc xo ex h; cases invL h
    · intro C X G lv N sc xo xs ys h; cases invA h
    · intro C X G lv N sc xo xs ys h; cases invA h
    · intro C X G lv N sc xo ex h; cases invAr h
    · intro C X G lv N sc xo ex h; cases invO h
    · intro C X G lv N sc xo l r r' op op' p h; cases invD h
    · intro C X G lv N sc xo l r op p h; rw [ckE] at h; rw [Bool.and_eq_true, Bool.and_eq_true] at h; rw [ckC_eq h.1.1]; exact r_tcmp xo.K xo.hu (iha.e xo h.1.2) (ihb.e xo h.2) (nomk _ h.2)
    · intro C X G lv N sc xo a e he h; cases he
    · intro C X G lv N sc xo wk it tg h; cases invI h
  | chn o o' a b c iha ihb ihc =>
    refine ⟨?_, ?_, ?_, ?_, ?_, ?_, ?_, ?_, ?_, ?_, ?_, ?_, ?_, ?_⟩
    · intro C X G lv N sc xo ys h; cases invJ h
    · intro C X G lv N sc xo ex h; replace h := ckE_inv h; obtain ⟨_, _, _, _, _, _, rfl, h⟩ := h
      rw [Bool.and_eq_true, Bool.and_eq_true, Bool.and_eq_true, Bool.and_eq_true] at h
      rw [ckC_eq h.1.1.1.1, ckC_eq h.1.1.1.2]
      exact r_chn xo.K xo.hu (iha.e xo h.1.1.2) (ihb.e xo h.1.2) (ihc.e xo h.2) (nomk _ h.2)
    · intro C X G lv N sc xo ex hn h; cases hn
    · intro C X G lv N sc xo ex h; cases invT h
    · intro C X G lv N sc xo op es p h; cases invW h
    · intro C X G lv N sc xo ex h; cases invL h
    · intro C X G lv N sc xo xs ys h; cases invA h
    · intro C X G lv N sc xo xs ys h; cases invA h
    · intro C X G lv N sc xo ex h; cases invAr h
    · intro C X G lv N sc xo ex h; cases invO h
    · intro C X G lv N sc xo l r r' op op' p h; rw [ckE] at h; rw [Bool.and_eq_true, Bool.and_eq_true, Bool.and_eq_true, Bool.and_eq_true] at h; rw [ckC_eq h.1.1.1.1, ckC_eq h.1.1.1.2]; exact r_tchn xo.K xo.hu (iha.e xo h.1.1.2) (ihb.e xo h.1.2) (ihc.e xo h.2) (nomk _ h.2)
    · intro C X G lv N sc xo l r op p h; cases invC h
    · intro C X G lv N sc xo a e he h; cases he
    · intro C X G lv N sc xo wk it tg h; cases invI h
  | vand a b iha ihb =>
    refine ⟨?_, ?_, ?_, ?_, ?_, ?_, ?_, ?_, ?_, ?_, ?_, ?_, ?_, ?_⟩
    · intro C X G lv N sc xo ys h; cases invJ h
    · intro C X G lv N sc xo ex h; replace h := ckE_inv h; obtain ⟨_, _, _, _, rfl, h⟩ := h
      rw [Bool.and_eq_true] at h
      exact r_vand (iha.e xo h.1) (r_pand ihb xo h.2)
    · intro C X G lv N sc xo ex hn h; cases hn
    · intro C X G lv N sc xo ex h; cases invT h
    · intro C X G lv N sc xo op es p h; cases invW h
    · intro C X G lv N sc xo ex h; cases invL h
    · intro C X G lv N sc xo xs ys h; cases invA h
    · intro C X G lv N sc xo xs ys h; cases invA h
    · intro C X G lv N sc xo ex h; cases invAr h
    · intro C X G lv N sc xo ex h; cases invO h
    · intro C X G lv N sc xo l r r' op op' p h; cases invD h
    · intro C X G lv N sc xo l r op p h; cases invC h
    · intro C X G lv N sc xo a e he h; cases he
    · intro C X G lv N sc xo wk it tg h; cases invI h
  | vor a b iha ihb =>
    refine ⟨?_, ?_, ?_, ?_, ?_, ?_, ?_, ?_, ?_, ?_, ?_, ?_, ?_, ?_⟩
    · intro C X G lv N sc xo ys h; cases invJ h
    · intro C X G lv N sc xo ex h; replace h := ckE_inv h; obtain ⟨_, _, _, _, rfl, h⟩ := h
      rw [Bool.and_eq_true] at h
      exact r_vor (iha.e xo h.1) (r_por ihb xo h.2)
    · intro C X G lv N sc xo ex hn h; cases hn
    · intro C X G lv N sc xo ex h; cases invT h
    · intro C X G lv N sc xo op es p h; cases invW h
    · intro C X G lv N sc xo ex h; cases invL h
    · intro C X G lv N sc xo xs ys h; cases invA h
    · intro C X G lv N sc xo xs ys h; cases invA h
    · intro C X G lv N sc xo ex h; cases invAr h
    · intro C X G lv N sc xo ex h; cases invO h
    · intro C X G lv N sc xo l r r' op op' p h; cases invD h
    · intro C X G lv N sc xo l r op p h; cases invC h
    · intro C X G lv N sc xo a e he h; cases he
    · intro C X G lv N sc xo wk it tg h; cases invI h
  | vnot a ih =>
    refine ⟨?_, ?_, ?_, ?_, ?_, ?_, ?_, ?_, ?_, ?_, ?_, ?_, ?_, ?_⟩
    · intro C X G lv N sc xo ys h; cases invJ h
    · intro C X G lv N sc xo ex h; replace h := ckE_inv h; obtain ⟨_, _, rfl, h⟩ := h
      exact r_vnot (ih.e xo h)
    · intro C X G lv N sc xo ex hn h; cases hn
    · intro C X G lv N sc xo ex h; cases invT h
    · intro C X G lv N sc xo op es p h; cases invW h
    · intro C X G lv N sc xo ex h; cases invL h
    · intro C X G lv N sc xo xs ys h; cases invA h
    · intro C X G lv N sc xo xs ys h; cases invA h
    · intro C X G lv N sc xo ex h; cases invAr h
    · intro C X G lv N sc xo ex h; cases invO h
    · intro C X G lv N sc xo l r r' op op' p h; cases invD h
    · intro C X G lv N sc xo l r op p h; cases invC h
    · intro C X G lv N sc xo a e he h; cases he
    · intro C X G lv N sc xo wk it tg h; cases invI h
  | tand a b iha ihb =>
    refine ⟨?_, ?_, ?_, ?_, ?_, ?_, ?_, ?_, ?_, ?_, ?_, ?_, ?_, ?_⟩
    · intro C X G lv N sc xo ys h; cases invJ h
    · intro C X G lv N sc xo ex h; exact (ckE_inv h).elim
    · intro C X G lv N sc xo ex hn h; cases hn
    · intro C X G lv N sc xo ex h; unfold ckT at h; split at h <;> first | (cases h; done) | (rename_i hq; cases hq; done) | (rename_i hq _; cases hq; done) | (rename_i hq _ _; cases hq; done) | (rename_i hq _ _ _; cases hq; done) | skip
      rename_i hq; cases hq
      rw [Bool.and_eq_true] at h
      exact (r_tand (iha.t xo h.1) (r_wand ihb xo h.2)).pt
    · intro C X G lv N sc xo op es p h; unfold ckT at h; split at h <;> first | (cases h; done) | (rename_i hq _; cases hq; done) | (rename_i hq _ _; cases hq; done) | (rename_i hq _ _ _; cases hq; done) | (rename_i hq; cases hq; done) | skip
      rename_i hq hq2; cases hq; cases hq2
      rw [Bool.and_eq_true] at h
      exact r_tand (iha.t xo h.1) (r_wand ihb xo h.2)
    · intro C X G lv N sc xo ex h; cases invL h
    · intro C X G lv N sc xo xs ys h; cases invA h
    · intro C X G lv N sc xo xs ys h; cases invA h
    · intro C X G lv N sc xo ex h; cases invAr h
    · intro C X G lv N sc xo ex h; cases invO h
    · intro C X G lv N sc xo l r r' op op' p h; cases invD h
    · intro C X G lv N sc xo l r op p h; cases invC h
    · intro C X G lv N sc xo a e he h; cases he
    · intro C X G lv N sc xo wk it tg h; cases invI h
  | tor a b iha ihb =>
    refine ⟨?_, ?_, ?_, ?_, ?_, ?_, ?_, ?_, ?_, ?_, ?_, ?_, ?_, ?_⟩
    · intro C X G lv N sc xo ys h; cases invJ h
    · intro C X G lv N sc xo ex h; exact (ckE_inv h).elim
    · intro C X G lv N sc xo ex hn h; cases hn
    · intro C X G lv N sc xo ex h; unfold ckT at h; split at h <;> first | (cases h; done) | (rename_i hq; cases hq; done) | (rename_i hq _; cases hq; done) | (rename_i hq _ _; cases hq; done) | (rename_i hq _ _ _; cases hq; done) | skip
      rename_i hq; cases hq
      rw [Bool.and_eq_true] at h
      exact (r_tor (iha.t xo h.1) (r_wor ihb xo h.2)).pt
    · intro C X G lv N sc xo op es p h; unfold ckT at h; split at h <;> first | (cases h; done) | (rename_i hq _; cases hq; done) | (rename_i hq _ _; cases hq; done) | (rename_i hq _ _ _; cases hq; done) | (rename_i hq; cases hq; done) | skip
      rename_i hq hq2; cases hq; cases hq2
      rw [Bool.and_eq_true] at h
      exact r_tor (iha.t xo h.1) (r_wor ihb xo h.2)
    · intro C X G lv N sc xo ex h; cases invL h
    · intro C X G lv N sc xo xs ys h; cases invA h
    · intro C X G lv N sc xo xs ys h; cases invA h
    · intro C X G lv N sc xo ex h; cases invAr h
    · intro C X G lv N sc xo ex h; cases invO h
    · intro C X G lv N sc xo l r r' op op' p h; cases invD h
    · intro C X G lv N sc xo l r op p h; cases invC h
    · intro C X G lv N sc xo a e he h; cases he
    · intro C X G lv N sc xo wk it tg h; cases invI h
  | tnot a ih =>
    refine ⟨?_, ?_, ?_, ?_, ?_, ?_, ?_, ?_, ?_, ?_, ?_, ?_, ?_, ?_⟩
    · intro C X G lv N sc xo ys h; cases invJ h
    · intro C X G lv N sc xo ex h; exact (ckE_inv h).elim
    · intro C X G lv N sc xo ex hn h; cases hn
    · intro C X G lv N sc xo ex h; unfold ckT at h; split at h <;> first | (cases h; done) | (rename_i hq; cases hq; done) | (rename_i hq _; cases hq; done) | (rename_i hq _ _; cases hq; done) | (rename_i hq _ _ _; cases hq; done) | skip
      rename_i hq; cases hq
      exact r_tnot (ih.t xo h)
    · intro C X G lv N sc xo op es p h; cases invW h
    · intro C X G lv N sc xo ex h; cases invL h
    · intro C X G lv N sc xo xs ys h; cases invA h
    · intro C X G lv N sc xo xs ys h; cases invA h
    · intro C X G lv N sc xo ex h; cases invAr h
    · intro C X G lv N sc xo ex h; cases invO h
    · intro C X G lv N sc xo l r r' op op' p h; cases invD h
    · intro C X G lv N sc xo l r op p h; cases invC h
    · intro C X G lv N sc xo a e he h; cases he
    · intro C X G lv N sc xo wk it tg h; cases invI h
  | tvar i =>
    refine ⟨?_, ?_, ?_, ?_, ?_, ?_, ?_, ?_, ?_, ?_, ?_, ?_, ?_, ?_⟩
    · intro C X G lv N sc xo ys h; cases invJ h
    · intro C X G lv N sc xo ex h; exact (ckE_inv h).elim
    · intro C X G lv N sc xo ex hn h; cases hn
    · intro C X G lv N sc xo ex h; unfold ckT at h; split at h <;> first | (cases h; done) | (rename_i hq; cases hq; done) | (rename_i hq _; cases hq; done) | (rename_i hq _ _; cases hq; done) | (rename_i hq _ _ _; cases hq; done) | skip
      rename_i hq; cases hq
      obtain ⟨h1, h2, h3, h4⟩ := nmOk xo h
      exact r_tvar xo.K h1 h2 h3 h4
    · intro C X G lv N sc xo op es p h; cases invW h
    · intro C X G lv N sc xo ex h; cases invL h
    · intro C X G lv N sc xo xs ys h; cases invA h
    · intro C X G lv N sc xo xs ys h; cases invA h
    · intro C X G lv N sc xo ex h; cases invAr h
    · intro C X G lv N sc xo ex h; cases invO h
    · intro C X G lv N sc xo l r r' op op' p h; cases invD h
    · intro C X G lv N sc xo l r op p h; cases invC h
    · intro C X G lv N sc xo a e he h; cases he
    · intro C X G lv N sc xo wk it tg h; cases invI h
  | tval a ih =>
    refine ⟨?_, ?_, ?_, ?_, ?_, ?_, ?_, ?_, ?_, ?_, ?_, ?_, ?_, ?_⟩
    · intro C X G lv N sc xo ys h; cases invJ h
    · intro C X G lv N sc xo ex h; exact (ckE_inv h).elim
    · intro C X G lv N sc xo ex hn h; cases hn
    · intro C X G lv N sc xo ex h; unfold ckT at h; split at h <;> first | (cases h; done) | (rename_i hq; cases hq; done) | (rename_i hq _; cases hq; done) | (rename_i hq _ _; cases hq; done) | (rename_i hq _ _ _; cases hq; done) | skip
      · rename_i hq; cases hq
        simp only [Bool.and_eq_true] at h
        exact r_tvcmp xo ih h.1.1 h.1.2 h.2
      · rename_i hq; cases hq
        exact ih.d xo (by rw [ckE]; exact h)
      · rename_i hq; cases hq
        exact ih.c xo (by rw [ckE]; exact h)
      · rename_i hq _ _ _; cases hq
        rw [Bool.and_eq_true] at h
        exact r_tval xo.K h.1 (ih.e xo h.2)
    · intro C X G lv N sc xo op es p h; unfold ckT at h; first | (cases h; done) | (split at h <;> first | (cases h; done) | (rename_i hq _; cases hq; done) | (rename_i hq _ _; cases hq; done) | (rename_i hq _ _ _; cases hq; done) | (rename_i hq; cases hq; done) | (rename_i hq; cases hq; simp [plain] at h; done) | (simp [plain] at h; done))
    · intro C X G lv N sc xo ex h; cases invL h
    · intro C X G lv N sc xo xs ys h; cases invA h
    · intro C X G lv N sc xo xs ys h; cases invA h
    · intro C X G lv N sc xo ex h; rw [ckAr] at h; exact .val (ih.e xo h)
    · intro C X G lv N sc xo ex h; cases ex with | none => (rw [ckO] at h <;> first | (cases h; done) | (intros; contradiction)) | some e => (rw [ckO] at h; exact r_osome (ih.e xo h))
    · intro C X G lv N sc xo l r r' op op' p h; cases invD h
    · intro C X G lv N sc xo l r op p h; cases invC h
    · intro C X G lv N sc xo a e he h; cases he
    · intro C X G lv N sc xo wk it tg h; cases invI h
  | tyes =>
    refine ⟨?_, ?_, ?_, ?_, ?_, ?_, ?_, ?_, ?_, ?_, ?_, ?_, ?_, ?_⟩
    · intro C X G lv N sc xo ys h; cases invJ h
    · intro C X G lv N sc xo ex h; exact (ckE_inv h).elim
    · intro C X G lv N sc xo ex hn h; cases hn
    · intro C X G lv N sc xo ex h; cases invT h
    · intro C X G lv N sc xo op es p h; cases invW h
    · intro C X G lv N sc xo ex h; cases invL h
    · intro C X G lv N sc xo xs ys h; cases invA h
    · intro C X G lv N sc xo xs ys h; cases invA h
    · intro C X G lv N sc xo ex h; cases invAr h
    · intro C X G lv N sc xo ex h; cases invO h
    · intro C X G lv N sc xo l r r' op op' p h; cases invD h
    · intro C X G lv N sc xo l r op p h; cases invC h
    · intro C X G lv N sc xo a e he h; cases he
    · intro C X G lv N sc xo wk it tg h; cases invI h
  | ite c a b ihc iha ihb =>
    refine ⟨?_, ?_, ?_, ?_, ?_, ?_, ?_, ?_, ?_, ?_, ?_, ?_, ?_, ?_⟩
    · intro C X G lv N sc xo ys h; cases invJ h
    · intro C X G lv N sc xo ex h; replace h := ckE_inv h; obtain ⟨_, _, _, _, rfl, h⟩ := h
      simp only [Bool.and_eq_true, decide_eq_true_eq] at h
      exact r_ite (ihc.t xo h.1.1) (iha.e xo h.1.2) (ihb.e xo h.2)
    · intro C X G lv N sc xo ex hn h; cases hn
    · intro C X G lv N sc xo ex h; cases invT h
    · intro C X G lv N sc xo op es p h; cases invW h
    · intro C X G lv N sc xo ex h; cases invL h
    · intro C X G lv N sc xo xs ys h; cases invA h
    · intro C X G lv N sc xo xs ys h; cases invA h
    · intro C X G lv N sc xo ex h; cases invAr h
    · intro C X G lv N sc xo ex h; cases invO h
    · intro C X G lv N sc xo l r r' op op' p h; cases invD h
    · intro C X G lv N sc xo l r op p h; cases invC h
    · intro C X G lv N sc xo a e he h; cases he
    · intro C X G lv N sc xo wk it tg h; cases invI h
  | tup es ih =>
    refine ⟨?_, ?_, ?_, ?_, ?_, ?_, ?_, ?_, ?_, ?_, ?_, ?_, ?_, ?_⟩
    · intro C X G lv N sc xo ys h; cases invJ h
    · intro C X G lv N sc xo ex h; replace h := ckE_inv h; obtain ⟨_, _, _, rfl, h⟩ := h
      exact r_tup (ih.l xo h)
    · intro C X G lv N sc xo ex hn h; cases hn
    · intro C X G lv N sc xo ex h; cases invT h
    · intro C X G lv N sc xo op es p h; cases invW h
    · intro C X G lv N sc xo ex h; cases invL h
    · intro C X G lv N sc xo xs ys h; cases invA h
    · intro C X G lv N sc xo xs ys h; cases invA h
    · intro C X G lv N sc xo ex h; cases invAr h
    · intro C X G lv N sc xo ex h; cases invO h
    · intro C X G lv N sc xo l r r' op op' p h; cases invD h
    · intro C X G lv N sc xo l r op p h; cases invC h
    · intro C X G lv N sc xo a e he h; cases he
    · intro C X G lv N sc xo wk it tg h; cases invI h
  | lst es ih =>
    refine ⟨?_, ?_, ?_, ?_, ?_, ?_, ?_, ?_, ?_, ?_, ?_, ?_, ?_, ?_⟩
    · intro C X G lv N sc xo ys h; cases invJ h
    · intro C X G lv N sc xo ex h; replace h := ckE_inv h; obtain ⟨_, _, rfl, h⟩ := h
      exact nE (fun _ _ _ h => ev_lst_is h) (r_lst (ih.l xo h))
    · intro C X G lv N sc xo ex hn h; replace h := ckE_inv h; obtain ⟨_, _, rfl, h⟩ := h
      exact r_lst (ih.l xo h)
    · intro C X G lv N sc xo ex h; cases invT h
    · intro C X G lv N sc xo op es p h; cases invW h
    · intro C X G lv N sc xo ex h; cases invL h
    · intro C X G lv N sc xo xs ys h; cases invA h
    · intro C X G lv N sc xo xs ys h; cases invA h
    · intro C X G lv N sc xo ex h; cases invAr h
    · intro C X G lv N sc xo ex h; cases invO h
    · intro C X G lv N sc xo l r r' op op' p h; cases invD h
    · intro C X G lv N sc xo l r op p h; cases invC h
    · intro C X G lv N sc xo a e he h; cases he
    · intro C X G lv N sc xo wk it tg h; cases invI h
  | nil =>
    refine ⟨?_, ?_, ?_, ?_, ?_, ?_, ?_, ?_, ?_, ?_, ?_, ?_, ?_, ?_⟩
    · intro C X G lv N sc xo ys h
      cases ys with
      | nil => exact ⟨[], .nil, fun acc σ H Q h => j_nil h⟩
      | cons _ _ => (rw [ckJ] at h <;> first | (cases h; done) | (intros; contradiction))
    · intro C X G lv N sc xo ex h; exact (ckE_inv h).elim
    · intro C X G lv N sc xo ex hn h; cases hn
    · intro C X G lv N sc xo ex h; cases invT h
    · intro C X G lv N sc xo op es p h; cases invW h
    · intro C X G lv N sc xo ex h; cases ex with | nil => exact r_nil | cons _ _ => (rw [ckL] at h <;> first | (cases h; done) | (intros; contradiction))
    · intro C X G lv N sc xo xs ys h; cases xs with | nil => exact r_anil | cons _ _ => (rw [List.cons_append, ckA] at h <;> first | (cases h; done) | (intros; contradiction))
    · intro C X G lv N sc xo xs ys h; cases xs with
      | nil => cases ys with
        | nil => exact r_knil
        | cons _ _ => (rw [List.nil_append, List.map_cons, ckA] at h <;> first | (cases h; done) | (intros; contradiction))
      | cons _ _ => (rw [List.cons_append, ckA] at h <;> first | (cases h; done) | (intros; contradiction))
    · intro C X G lv N sc xo ex h; cases invAr h
    · intro C X G lv N sc xo ex h; cases ex with | none => exact r_onone | some _ => (rw [ckO] at h <;> first | (cases h; done) | (intros; contradiction))
    · intro C X G lv N sc xo l r r' op op' p h; cases invD h
    · intro C X G lv N sc xo l r op p h; cases invC h
    · intro C X G lv N sc xo a e he h; cases he
    · intro C X G lv N sc xo wk it tg h; cases invI h
  | cons e es ihe ihs =>
    refine ⟨?_, ?_, ?_, ?_, ?_, ?_, ?_, ?_, ?_, ?_, ?_, ?_, ?_, ?_⟩
    · intro C X G lv N sc xo ys h
      unfold ckJ at h
      split at h <;> first | (cases h; done) | (rename_i hq; cases hq; done) | (rename_i hq _; cases hq; done) | skip
      · rename_i hq; cases hq
        simp only [Bool.and_eq_true, decide_eq_true_eq] at h
        obtain ⟨⟨rfl, h1⟩, h2⟩ := h
        obtain ⟨ts, g1, g2⟩ := ihs.j xo h2
        exact ⟨_, .cons (pe_fmt (ihe.e xo h1)) g1, fun acc σ H Q h => j_fmt g2 h⟩
      · rename_i hq; cases hq
        simp only [Bool.and_eq_true, decide_eq_true_eq] at h
        obtain ⟨rfl, h2⟩ := h
        obtain ⟨ts, g1, g2⟩ := ihs.j xo h2
        exact ⟨_, .cons pe_str g1, fun acc σ H Q h => j_con g2 h⟩
    · intro C X G lv N sc xo ex h; exact (ckE_inv h).elim
    · intro C X G lv N sc xo ex hn h; cases hn
    · intro C X G lv N sc xo ex h; cases invT h
    · intro C X G lv N sc xo op es p h; cases invW h
    · intro C X G lv N sc xo ex h; cases ex with
      | nil => (rw [ckL] at h <;> first | (cases h; done) | (intros; contradiction))
      | cons y ys =>
        rw [ckL] at h
        simp only [Bool.and_eq_true] at h
        exact r_cons h.1.1 (ihe.e xo h.1.2) (ihs.l xo h.2)
    · intro C X G lv N sc xo xs ys h; cases xs with
      | nil => exact r_anil
      | cons y zs =>
        rw [List.cons_append, ckA] at h
        simp only [Bool.and_eq_true] at h
        cases ihe.r xo h.1.2 with
        | ref h1 h2 h3 h4 => exact r_acons_ref h1 h2 h3 h4 (ihs.a xo h.2)
        | val h1 => exact r_acons h.1.1 h1 (ihs.a xo h.2)
    · intro C X G lv N sc xo xs ys h; cases xs with
      | nil =>
        cases ys with
        | nil => (rw [List.nil_append, List.map_nil, ckA] at h <;> first | (cases h; done) | (intros; contradiction))
        | cons k ks =>
          obtain ⟨nm, v, kp⟩ := k
          rw [List.nil_append, List.map_cons, ckA] at h
          simp only [Bool.and_eq_true] at h
          have hk := ihs.k xo (xs := []) (ys := ks) h.2
          cases ihe.r xo h.1.2 with
          | ref h1 h2 h3 h4 => exact r_kcons_ref h1 h2 h3 h4 hk
          | val h1 => exact r_kcons h1 hk
      | cons y zs =>
        rw [List.cons_append, ckA] at h
        simp only [Bool.and_eq_true] at h
        exact ihs.k xo h.2
    · intro C X G lv N sc xo ex h; cases invAr h
    · intro C X G lv N sc xo ex h; cases invO h
    · intro C X G lv N sc xo l r r' op op' p h; cases invD h
    · intro C X G lv N sc xo l r op p h; cases invC h
    · intro C X G lv N sc xo a e he h; cases he; exact ihe.e xo h
    · intro C X G lv N sc xo wk it tg h; unfold ckI at h; split at h <;> first | (cases h; done) | skip
      · rename_i hq; cases hq
        rw [Bool.and_eq_true] at h
        exact ⟨r_seq xo.K (ihe.e xo h.2), h.1⟩
      · rename_i hq; cases hq
        simp only [Bool.and_eq_true, decide_eq_true_eq] at h
        obtain ⟨⟨⟨⟨⟨⟨rfl, h1⟩, h2⟩, h3⟩, h4⟩, h5⟩, h6⟩ := h
        exact ⟨r_zipP xo.K (xo.gl _ h1) (xo.bl _ h2) h3 h4 (ihe.e xo h5) (ihs.l xo (by simp [ckL, h4, h6])), rfl⟩
      · rename_i hq; cases hq
        simp only [Bool.and_eq_true, decide_eq_true_eq] at h
        obtain ⟨⟨⟨⟨rfl, h1⟩, h2⟩, h3⟩, h5⟩ := h
        exact ⟨r_enum xo.K (xo.gl _ h1) (xo.bl _ h2) h3 (ihe.e xo h5), rfl⟩
      · rename_i hq; cases hq
        simp only [Bool.and_eq_true, decide_eq_true_eq] at h
        obtain ⟨⟨⟨⟨⟨⟨⟨rfl, h1⟩, h2⟩, rfl⟩, rfl⟩, hk⟩, h3⟩, h5⟩ := h
        exact ⟨r_enumS hk xo.K (xo.gl _ h1) (xo.bl _ h2) h3 (ihe.e xo h5), rfl⟩
      · rename_i hq; cases hq
        simp only [Bool.and_eq_true, decide_eq_true_eq] at h
        obtain ⟨⟨⟨⟨⟨⟨rfl, h1⟩, h2⟩, h3⟩, h4⟩, h5⟩, h6⟩ := h
        exact ⟨r_rng2 (xo.gl _ h1) (xo.bl _ h2) h3 h4 (ihe.e xo h5) (ihs.l xo (by simp [ckL, h4, h6])), rfl⟩
      · rename_i hq; cases hq
        simp only [Bool.and_eq_true, decide_eq_true_eq] at h
        obtain ⟨⟨⟨⟨rfl, h1⟩, h2⟩, h3⟩, h5⟩ := h
        exact ⟨r_rng (xo.gl _ h1) (xo.bl _ h2) h3 (ihe.e xo h5), rfl⟩
  | ref i =>
    refine ⟨?_, ?_, ?_, ?_, ?_, ?_, ?_, ?_, ?_, ?_, ?_, ?_, ?_, ?_⟩
    · intro C X G lv N sc xo ys h; cases invJ h
    · intro C X G lv N sc xo ex h; exact (ckE_inv h).elim
    · intro C X G lv N sc xo ex hn h; cases hn
    · intro C X G lv N sc xo ex h; cases invT h
    · intro C X G lv N sc xo op es p h; cases invW h
    · intro C X G lv N sc xo ex h; cases invL h
    · intro C X G lv N sc xo xs ys h; cases invA h
    · intro C X G lv N sc xo xs ys h; cases invA h
    · intro C X G lv N sc xo ex h; unfold ckAr at h; split at h <;> first | (cases h; done) | (rename_i hq; cases hq; done) | (rename_i hq _; cases hq; done) | skip
      rename_i hq; cases hq
      obtain ⟨h1, h2, h3, h4⟩ := nmOk xo h
      exact .ref h1 h2 h3 h4
    · intro C X G lv N sc xo ex h; cases invO h
    · intro C X G lv N sc xo l r r' op op' p h; cases invD h
    · intro C X G lv N sc xo l r op p h; cases invC h
    · intro C X G lv N sc xo a e he h; cases he
    · intro C X G lv N sc xo wk it tg h; cases invI h
  | ix a i iha ihb =>
    refine ⟨?_, ?_, ?_, ?_, ?_, ?_, ?_, ?_, ?_, ?_, ?_, ?_, ?_, ?_⟩
    · intro C X G lv N sc xo ys h; cases invJ h
    · intro C X G lv N sc xo ex h; replace h := ckE_inv h; obtain ⟨_, _, _, rfl, h⟩ := h
      simp only [Bool.and_eq_true, decide_eq_true_eq] at h
      exact r_ix xo.K h.1.1 (iha.e xo h.1.2) (ihb.e xo h.2)
    · intro C X G lv N sc xo ex hn h; cases hn
    · intro C X G lv N sc xo ex h; cases invT h
    · intro C X G lv N sc xo op es p h; cases invW h
    · intro C X G lv N sc xo ex h; cases invL h
    · intro C X G lv N sc xo xs ys h; cases invA h
    · intro C X G lv N sc xo xs ys h; cases invA h
    · intro C X G lv N sc xo ex h; cases invAr h
    · intro C X G lv N sc xo ex h; cases invO h
    · intro C X G lv N sc xo l r r' op op' p h; cases invD h
    · intro C X G lv N sc xo l r op p h; cases invC h
    · intro C X G lv N sc xo a e he h; cases he
    · intro C X G lv N sc xo wk it tg h; cases invI h
  | slc a lo hi iha ihb ihc =>
    refine ⟨?_, ?_, ?_, ?_, ?_, ?_, ?_, ?_, ?_, ?_, ?_, ?_, ?_, ?_⟩
    · intro C X G lv N sc xo ys h; cases invJ h
    · intro C X G lv N sc xo ex h; replace h := ckE_inv h; obtain ⟨_, _, _, _, _, rfl, h⟩ := h
      simp only [Bool.and_eq_true, decide_eq_true_eq] at h
      exact r_slc xo.K (iha.e xo h.1.1) (ihb.o xo h.1.2) (ihc.o xo h.2)
    · intro C X G lv N sc xo ex hn h; cases hn
    · intro C X G lv N sc xo ex h; cases invT h
    · intro C X G lv N sc xo op es p h; cases invW h
    · intro C X G lv N sc xo ex h; cases invL h
    · intro C X G lv N sc xo xs ys h; cases invA h
    · intro C X G lv N sc xo xs ys h; cases invA h
    · intro C X G lv N sc xo ex h; cases invAr h
    · intro C X G lv N sc xo ex h; cases invO h
    · intro C X G lv N sc xo l r r' op op' p h; cases invD h
    · intro C X G lv N sc xo l r op p h; cases invC h
    · intro C X G lv N sc xo a e he h; cases he
    · intro C X G lv N sc xo wk it tg h; cases invI h
  | rev a ih =>
    refine ⟨?_, ?_, ?_, ?_, ?_, ?_, ?_, ?_, ?_, ?_, ?_, ?_, ?_, ?_⟩
    · intro C X G lv N sc xo ys h; cases invJ h
    · intro C X G lv N sc xo ex h; replace h := ckE_inv h; obtain ⟨_, _, _, _, _, _, _, rfl, h⟩ := h
      simp only [Bool.and_eq_true, decide_eq_true_eq] at h
      obtain ⟨rfl, h2⟩ := h
      exact r_rev xo.K (ih.e xo h2)
    · intro C X G lv N sc xo ex hn h; cases hn
    · intro C X G lv N sc xo ex h; cases invT h
    · intro C X G lv N sc xo op es p h; cases invW h
    · intro C X G lv N sc xo ex h; cases invL h
    · intro C X G lv N sc xo xs ys h; cases invA h
    · intro C X G lv N sc xo xs ys h; cases invA h
    · intro C X G lv N sc xo ex h; cases invAr h
    · intro C X G lv N sc xo ex h; cases invO h
    · intro C X G lv N sc xo l r r' op op' p h; cases invD h
    · intro C X G lv N sc xo l r op p h; cases invC h
    · intro C X G lv N sc xo a e he h; cases he
    · intro C X G lv N sc xo wk it tg h; cases invI h
  | call f pm es ih =>
    refine ⟨?_, ?_, ?_, ?_, ?_, ?_, ?_, ?_, ?_, ?_, ?_, ?_, ?_, ?_⟩
    · intro C X G lv N sc xo ys h; cases invJ h
    · intro C X G lv N sc xo ex h; replace h := ckE_inv h; obtain ⟨_, _, _, _, _, rfl, h⟩ := h
      rw [Bool.and_eq_true, Bool.and_eq_true, Bool.and_eq_true, Bool.and_eq_true] at h
      obtain ⟨⟨⟨⟨h0, h1⟩, h2⟩, h3⟩, h4⟩ := h
      have h0 := of_decide_eq_true h0
      subst h0
      exact r_callA xo ih h1 h2 h3 h4
    · intro C X G lv N sc xo ex hn h; cases hn
    · intro C X G lv N sc xo ex h; cases invT h
    · intro C X G lv N sc xo op es p h; cases invW h
    · intro C X G lv N sc xo ex h; cases invL h
    · intro C X G lv N sc xo xs ys h; cases invA h
    · intro C X G lv N sc xo xs ys h; cases invA h
    · intro C X G lv N sc xo ex h; cases invAr h
    · intro C X G lv N sc xo ex h; cases invO h
    · intro C X G lv N sc xo l r r' op op' p h; cases invD h
    · intro C X G lv N sc xo l r op p h; cases invC h
    · intro C X G lv N sc xo a e he h; cases he
    · intro C X G lv N sc xo wk it tg h; cases invI h
  | calln f g es ih =>
    refine ⟨?_, ?_, ?_, ?_, ?_, ?_, ?_, ?_, ?_, ?_, ?_, ?_, ?_, ?_⟩
    · intro C X G lv N sc xo ys h; cases invJ h
    · intro C X G lv N sc xo ex h; replace h := ckE_inv h; obtain ⟨_, _, _, _, _, _, _, _, rfl, h⟩ := h
      simp only [Bool.and_eq_true, decide_eq_true_eq] at h
      obtain ⟨⟨⟨⟨⟨⟨⟨⟨rfl, h1⟩, h2⟩, rfl⟩, h4⟩, h5⟩, h6⟩, h7⟩, h8⟩ := h
      have hn := ckL_nst h8
      simp only [List.all_cons, Bool.and_eq_true] at hn
      split at h6
      · rename_i n kf hf
        exact r_calln xo hf (of_decide_eq_true h6) h7 (xo.gl _ h1) (okN_of h2).1 (xo.gl _ h4) (okN_of h5).1 hn.1 hn.2 (ih.l xo h8) fun env as env' e => ckL_len h8 e
      · cases h6
    · intro C X G lv N sc xo ex hn h; cases hn
    · intro C X G lv N sc xo ex h; cases invT h
    · intro C X G lv N sc xo op es p h; cases invW h
    · intro C X G lv N sc xo ex h; cases invL h
    · intro C X G lv N sc xo xs ys h; cases invA h
    · intro C X G lv N sc xo xs ys h; cases invA h
    · intro C X G lv N sc xo ex h; cases invAr h
    · intro C X G lv N sc xo ex h; cases invO h
    · intro C X G lv N sc xo l r r' op op' p h; cases invD h
    · intro C X G lv N sc xo l r op p h; cases invC h
    · intro C X G lv N sc xo a e he h; cases he
    · intro C X G lv N sc xo wk it tg h; cases invI h
  | lrng a ih =>
    refine ⟨?_, ?_, ?_, ?_, ?_, ?_, ?_, ?_, ?_, ?_, ?_, ?_, ?_, ?_⟩
    · intro C X G lv N sc xo ys h; cases invJ h
    · intro C X G lv N sc xo ex h; replace h := ckE_inv h; obtain ⟨_, _, _, _, _, _, _, rfl, h⟩ := h
      simp only [Bool.and_eq_true, decide_eq_true_eq] at h
      obtain ⟨⟨⟨⟨⟨⟨⟨rfl, h1⟩, h2⟩, rfl⟩, h4⟩, h5⟩, h6⟩, h7⟩ := h
      exact r_lrng xo (xo.gl _ h1) (xo.bl _ h2) (xo.gl _ h4) (xo.bl _ h5) h6 (ih.e xo h7)
    · intro C X G lv N sc xo ex hn h; cases hn
    · intro C X G lv N sc xo ex h; cases invT h
    · intro C X G lv N sc xo op es p h; cases invW h
    · intro C X G lv N sc xo ex h; cases invL h
    · intro C X G lv N sc xo xs ys h; cases invA h
    · intro C X G lv N sc xo xs ys h; cases invA h
    · intro C X G lv N sc xo ex h; cases invAr h
    · intro C X G lv N sc xo ex h; cases invO h
    · intro C X G lv N sc xo l r r' op op' p h; cases invD h
    · intro C X G lv N sc xo l r op p h; cases invC h
    · intro C X G lv N sc xo a e he h; cases he
    · intro C X G lv N sc xo wk it tg h; cases invI h
  | blt f es ih =>
    refine ⟨?_, ?_, ?_, ?_, ?_, ?_, ?_, ?_, ?_, ?_, ?_, ?_, ?_, ?_⟩
    · intro C X G lv N sc xo ys h; cases invJ h
    · intro C X G lv N sc xo ex h; replace h := ckE_inv h; obtain ⟨_, _, _, _, _, rfl, h⟩ := h
      exact r_bltAll xo h ih
    · intro C X G lv N sc xo ex hn h
      cases f <;> first | (cases hn; done) | skip
      replace h := ckE_inv h; obtain ⟨_, _, _, _, _, rfl, h⟩ := h
      simp only [Bool.and_eq_true, decide_eq_true_eq] at h
      obtain ⟨⟨⟨rfl, g1⟩, g2⟩, g3⟩ := h
      have hn := ckL_nst g3
      simp only [List.all_cons, Bool.and_eq_true] at hn
      exact r_listN xo.K (xo.gl _ g1) (xo.bl _ g2) hn.1 hn.2 (ih.l xo g3)
    · intro C X G lv N sc xo ex h; cases invT h
    · intro C X G lv N sc xo op es p h; cases invW h
    · intro C X G lv N sc xo ex h; cases invL h
    · intro C X G lv N sc xo xs ys h; cases invA h
    · intro C X G lv N sc xo xs ys h; cases invA h
    · intro C X G lv N sc xo ex h; cases invAr h
    · intro C X G lv N sc xo ex h; cases invO h
    · intro C X G lv N sc xo l r r' op op' p h; cases invD h
    · intro C X G lv N sc xo l r op p h; cases invC h
    · intro C X G lv N sc xo a e he h; cases he
    · intro C X G lv N sc xo wk it tg h; cases invI h
  | comp w src tg cd el own ihs ihc ihe =>
    have hn : ∀ {C : Ctx} {X : Cx} {G : GS} {lv : Nat} {N : List PySem.Str} {sc : Scope} (_ : XOk X C G lv N sc) {ex : Expr}, ckE G N sc (.comp w src tg cd el own) ex = true → PE X ex (tN C (.comp w src tg cd el own)) := by
      intro C X G lv N sc xo ex h; replace h := ckE_inv h; obtain ⟨_, _, _, _, _, _, rfl, h⟩ := h
      rw [Bool.and_eq_true, Bool.and_eq_true, Bool.and_eq_true, Bool.and_eq_true, Bool.and_eq_true] at h
      obtain ⟨⟨⟨⟨⟨h1, h2⟩, h3⟩, h4⟩, h5⟩, h6⟩ := h
      have hk := (blkOk_by h3).kind
      have hi := ihs.i xo h1
      refine r_comp xo hi.1 (blk_of xo h3) (map_own _ _) (fun s H Cc cl fp => pg_B fun B0 => r_tg (xo.blk hk s H Cc cl fp).at h2) (fun s H Cc cl fp => ?_) (fun s H Cc cl fp => pe_B fun B0 => ihe.e (xo.blk hk s H Cc cl fp).at h6) (folded hi.2) (fun i hi => of_decide_eq_true (List.all_eq_true.mp h4 i hi)) (len_E _ _) (len_E _ _)
      exact r_ifs (xo.blk hk s H Cc cl fp) h5 ihc
    refine ⟨?_, ?_, ?_, ?_, ?_, ?_, ?_, ?_, ?_, ?_, ?_, ?_, ?_, ?_⟩
    · intro C X G lv N sc xo ys h; cases invJ h
    · intro C X G lv N sc xo ex h; exact nE (fun _ _ _ h => ev_comp_is h) (hn xo h)
    · intro C X G lv N sc xo ex _ h; exact hn xo h
    · intro C X G lv N sc xo ex h; cases invT h
    · intro C X G lv N sc xo op es p h; cases invW h
    · intro C X G lv N sc xo ex h; cases invL h
    · intro C X G lv N sc xo xs ys h; cases invA h
    · intro C X G lv N sc xo xs ys h; cases invA h
    · intro C X G lv N sc xo ex h; cases invAr h
    · intro C X G lv N sc xo ex h; cases invO h
    · intro C X G lv N sc xo l r r' op op' p h; cases invD h
    · intro C X G lv N sc xo l r op p h; cases invC h
    · intro C X G lv N sc xo a e he h; cases he
    · intro C X G lv N sc xo wk it tg h; cases invI h
  | att cs e f ih =>
    refine ⟨?_, ?_, ?_, ?_, ?_, ?_, ?_, ?_, ?_, ?_, ?_, ?_, ?_, ?_⟩
    · intro C X G lv N sc xo ys h; cases invJ h
    · intro C X G lv N sc xo ex h; replace h := ckE_inv h; obtain ⟨_, _, _, rfl, h⟩ := h
      simp only [Bool.and_eq_true, decide_eq_true_eq] at h
      obtain ⟨⟨⟨rfl, h1⟩, h2⟩, h3⟩ := h
      exact r_att xo h1 (fun c hc => by simpa using (List.all_eq_true.1 h2) c hc) (ih.e xo h3)
    · intro C X G lv N sc xo ex hn h; cases hn
    · intro C X G lv N sc xo ex h; cases invT h
    · intro C X G lv N sc xo op es p h; cases invW h
    · intro C X G lv N sc xo ex h; cases invL h
    · intro C X G lv N sc xo xs ys h; cases invA h
    · intro C X G lv N sc xo xs ys h; cases invA h
    · intro C X G lv N sc xo ex h; cases invAr h
    · intro C X G lv N sc xo ex h; cases invO h
    · intro C X G lv N sc xo l r r' op op' p h; cases invD h
    · intro C X G lv N sc xo l r op p h; cases invC h
    · intro C X G lv N sc xo a e he h; cases he
    · intro C X G lv N sc xo wk it tg h; cases invI h
  | sg f =>
    refine ⟨?_, ?_, ?_, ?_, ?_, ?_, ?_, ?_, ?_, ?_, ?_, ?_, ?_, ?_⟩
    · intro C X G lv N sc xo ys h; cases invJ h
    · intro C X G lv N sc xo ex h; replace h := ckE_inv h; obtain ⟨_, _, _, _, rfl, h⟩ := h
      simp only [Bool.and_eq_true, decide_eq_true_eq] at h
      obtain ⟨⟨rfl, h1⟩, h2⟩ := h
      obtain ⟨g1, g2, g3, g4⟩ := nmOk xo h1
      split at h2
      · rename_i fl hfl
        exact r_sg xo g1 g2 g3 g4 hfl (of_decide_eq_true h2)
      · cases h2
    · intro C X G lv N sc xo ex hn h; cases hn
    · intro C X G lv N sc xo ex h; cases invT h
    · intro C X G lv N sc xo op es p h; cases invW h
    · intro C X G lv N sc xo ex h; cases invL h
    · intro C X G lv N sc xo xs ys h; cases invA h
    · intro C X G lv N sc xo xs ys h; cases invA h
    · intro C X G lv N sc xo ex h; cases invAr h
    · intro C X G lv N sc xo ex h; cases invO h
    · intro C X G lv N sc xo l r r' op op' p h; cases invD h
    · intro C X G lv N sc xo l r op p h; cases invC h
    · intro C X G lv N sc xo a e he h; cases he
    · intro C X G lv N sc xo wk it tg h; cases invI h
  | mk c es ih =>
    refine ⟨?_, ?_, ?_, ?_, ?_, ?_, ?_, ?_, ?_, ?_, ?_, ?_, ?_, ?_⟩
    · intro C X G lv N sc xo ys h; cases invJ h
    · intro C X G lv N sc xo ex h; replace h := ckE_inv h; obtain ⟨_, _, _, _, _, rfl, h⟩ := h
      simp only [Bool.and_eq_true, decide_eq_true_eq] at h
      obtain ⟨⟨⟨⟨⟨⟨rfl, h1⟩, h2⟩, h3⟩, h4⟩, h5⟩, h6⟩ := h
      exact r_mk xo h3 (xo.gl _ h1) (okN_of h2).1 h4 h5 (ih.l xo h6) fun env as env' e => ckL_len h6 e
    · intro C X G lv N sc xo ex hn h; cases hn
    · intro C X G lv N sc xo ex h; cases invT h
    · intro C X G lv N sc xo op es p h; cases invW h
    · intro C X G lv N sc xo ex h; cases invL h
    · intro C X G lv N sc xo xs ys h; cases invA h
    · intro C X G lv N sc xo xs ys h; cases invA h
    · intro C X G lv N sc xo ex h; cases invAr h
    · intro C X G lv N sc xo ex h; cases invO h
    · intro C X G lv N sc xo l r r' op op' p h; cases invD h
    · intro C X G lv N sc xo l r op p h; cases invC h
    · intro C X G lv N sc xo a e he h; cases he
    · intro C X G lv N sc xo wk it tg h; cases invI h
  | mth m e es ihe ihs =>
    refine ⟨?_, ?_, ?_, ?_, ?_, ?_, ?_, ?_, ?_, ?_, ?_, ?_, ?_, ?_⟩
    · intro C X G lv N sc xo ys h; cases invJ h
    · intro C X G lv N sc xo ex h; unfold ckE at h; split at h <;> first | (cases h; done) | (rename_i hq; cases hq; done) | (rename_i hq _; cases hq; done) | skip
      · rename_i hq; cases hq
        rw [Bool.and_eq_true, Bool.and_eq_true, Bool.and_eq_true, Bool.and_eq_true, Bool.and_eq_true, Bool.and_eq_true, Bool.and_eq_true, Bool.and_eq_true] at h
        obtain ⟨⟨⟨⟨⟨⟨⟨⟨h0, h1⟩, h2⟩, h3⟩, h4⟩, h5⟩, h6⟩, h7⟩, h8⟩ := h
        split at h4
        · rename_i t ht
          simp only [Bool.and_eq_true, decide_eq_true_eq] at h4
          obtain ⟨⟨t1, t2⟩, t3⟩ := h4
          obtain rfl := of_decide_eq_true h0
          exact r_mth (mm := t.2.2) xo h1 h2 (of_decide_eq_true h3) (by rw [ht, ← t1, ← t2]) t3 h5 h6 (ihe.e xo h7) (ihs.l xo h8) fun env as env' e => ckL_len h8 e
        · cases h4
      · rename_i hq; cases hq
        rw [Bool.and_eq_true, Bool.and_eq_true, Bool.and_eq_true, Bool.and_eq_true, Bool.and_eq_true, Bool.and_eq_true] at h
        obtain ⟨⟨⟨⟨⟨⟨h0, h1⟩, h2⟩, h3⟩, h4⟩, h5⟩, h6⟩ := h
        split at h4
        · rename_i t ht
          simp only [Bool.and_eq_true, decide_eq_true_eq] at h4
          obtain ⟨⟨⟨t1, t2⟩, t3⟩, t4⟩ := h4
          obtain rfl := of_decide_eq_true h0
          exact r_mthk (mm := t.2.2) xo h1 h2 (of_decide_eq_true h3) (by rw [ht, ← t1, ← t2]) t3 t4 (ihe.e xo h5) (ihs.k xo (xs := []) h6) fun env as env' e => by rw [ckA_len h6 e, List.length_map, List.length_cons]
        · cases h4
      · rename_i hq; cases hq
        rw [Bool.and_eq_true, Bool.and_eq_true, Bool.and_eq_true, Bool.and_eq_true, Bool.and_eq_true] at h
        obtain ⟨⟨⟨⟨⟨h0, h1⟩, h2⟩, h3⟩, h4⟩, h5⟩ := h
        split at h4
        · rename_i t ht
          simp only [Bool.and_eq_true, decide_eq_true_eq] at h4
          obtain ⟨⟨t1, t2⟩, t3⟩ := h4
          obtain rfl := of_decide_eq_true h0
          exact r_lno (mm := t.2.2) xo (by rw [ht, ← t1, ← t2]) t3 (xo.gl _ h1) (xo.bl _ (of_decide_eq_true h2)) h3 (ihe.e xo h5)
        · cases h4
      · rename_i hq; cases hq
        rw [Bool.and_eq_true, Bool.and_eq_true, Bool.and_eq_true, Bool.and_eq_true, Bool.and_eq_true, Bool.and_eq_true, Bool.and_eq_true, Bool.and_eq_true] at h
        obtain ⟨⟨⟨⟨⟨⟨⟨⟨h0, h1⟩, h2⟩, h3⟩, h4⟩, h5⟩, h6⟩, h7⟩, h8⟩ := h
        obtain rfl := of_decide_eq_true h0
        obtain rfl := of_decide_eq_true h4
        obtain ⟨n, hn⟩ := Option.isSome_iff_exists.1 h7
        exact r_isc xo hn (xo.gl _ h1) (xo.bl _ (of_decide_eq_true h2)) h3 (xo.gl _ h5) (okN_of h6).1 (ihe.e xo h8)
      · rename_i hq; cases hq
        rw [Bool.and_eq_true, Bool.and_eq_true, Bool.and_eq_true] at h
        obtain ⟨⟨⟨h0, h4⟩, h5⟩, h6⟩ := h
        split at h4
        · rename_i t ht
          simp only [Bool.and_eq_true, decide_eq_true_eq] at h4
          obtain ⟨⟨t1, t2⟩, t3⟩ := h4
          exact r_eqo (mm := t.2.2) xo h0 (by rw [ht, ← t1, ← t2]) t3 (nomk _ h6) (ihe.e xo h5) (ihs.s xo _ rfl h6)
        · cases h4
      · rename_i hq; cases hq
        rw [Bool.and_eq_true, Bool.and_eq_true, Bool.and_eq_true, Bool.and_eq_true] at h
        obtain ⟨⟨⟨⟨h1, h2⟩, h3⟩, h4⟩, h5⟩ := h
        split at h5
        · rw [Bool.and_eq_true] at h5
          obtain ⟨h6, h7⟩ := h5
          cases es <;> first | (cases h7; done) | skip
          exact r_tx0 xo.K (of_decide_eq_true h1) h6 h2 h3 (ihe.e xo h4)
        · rw [Bool.and_eq_true] at h5
          obtain ⟨h6, h7⟩ := h5
          cases es with
          | cons e1 r =>
            cases r with
            | nil =>
              simp only [Bool.and_eq_true] at h7
              exact r_tx1 xo.K (of_decide_eq_true h1) h6 h2 h3 h7.1 (ihe.e xo h4) (ihs.s xo _ rfl h7.2)
            | _ => cases h7
          | _ => cases h7
        · cases h5
    · intro C X G lv N sc xo ex hn h; cases hn
    · intro C X G lv N sc xo ex h; cases invT h
    · intro C X G lv N sc xo op es p h; cases invW h
    · intro C X G lv N sc xo ex h; cases invL h
    · intro C X G lv N sc xo xs ys h; cases invA h
    · intro C X G lv N sc xo xs ys h; cases invA h
    · intro C X G lv N sc xo ex h; cases invAr h
    · intro C X G lv N sc xo ex h; cases invO h
    · intro C X G lv N sc xo l r r' op op' p h; cases invD h
    · intro C X G lv N sc xo l r op p h; unfold ckE at h; split at h <;> first | (cases h; done) | (rename_i hq; cases hq; done) | (rename_i hq _; cases hq; done) | skip
      rename_i hq; cases hq
      rename_i hq; cases hq
      rw [Bool.and_eq_true, Bool.and_eq_true, Bool.and_eq_true] at h
      obtain ⟨⟨⟨h0, h4⟩, h5⟩, h6⟩ := h
      split at h4
      · rename_i t ht
        simp only [Bool.and_eq_true, decide_eq_true_eq] at h4
        obtain ⟨⟨t1, t2⟩, t3⟩ := h4
        exact r_teqo (mm := t.2.2) xo h0 (by rw [ht, ← t1, ← t2]) t3 (nomk _ h6) (ihe.e xo h5) (ihs.s xo _ rfl h6)
      · cases h4
    · intro C X G lv N sc xo a e he h; cases he
    · intro C X G lv N sc xo wk it tg h; cases invI h
  | fst es ih =>
    refine ⟨?_, ?_, ?_, ?_, ?_, ?_, ?_, ?_, ?_, ?_, ?_, ?_, ?_, ?_⟩
    · intro C X G lv N sc xo ys h; cases invJ h
    · intro C X G lv N sc xo ex h; replace h := ckE_inv h; obtain ⟨_, _, rfl, h⟩ := h
      rw [Bool.and_eq_true] at h
      obtain ⟨h1, h2⟩ := h
      obtain ⟨ts, g1, g2⟩ := ih.j xo h2
      split at h1
      · exact r_fst g1 g2
      · cases h1
    · intro C X G lv N sc xo ex hn h; cases hn
    · intro C X G lv N sc xo ex h; cases invT h
    · intro C X G lv N sc xo op es p h; cases invW h
    · intro C X G lv N sc xo ex h; cases invL h
    · intro C X G lv N sc xo xs ys h; cases invA h
    · intro C X G lv N sc xo xs ys h; cases invA h
    · intro C X G lv N sc xo ex h; cases invAr h
    · intro C X G lv N sc xo ex h; cases invO h
    · intro C X G lv N sc xo l r r' op op' p h; cases invD h
    · intro C X G lv N sc xo l r op p h; cases invC h
    · intro C X G lv N sc xo a e he h; cases he
    · intro C X G lv N sc xo wk it tg h; cases invI h
  | opq =>
    refine ⟨?_, ?_, ?_, ?_, ?_, ?_, ?_, ?_, ?_, ?_, ?_, ?_, ?_, ?_⟩
    · intro C X G lv N sc xo ys h; cases invJ h
    · intro C X G lv N sc xo ex h; exact (ckE_inv h).elim
    · intro C X G lv N sc xo ex hn h; cases hn
    · intro C X G lv N sc xo ex h; cases invT h
    · intro C X G lv N sc xo op es p h; cases invW h
    · intro C X G lv N sc xo ex h; cases invL h
    · intro C X G lv N sc xo xs ys h; cases invA h
    · intro C X G lv N sc xo xs ys h; cases invA h
    · intro C X G lv N sc xo ex h; cases invAr h
    · intro C X G lv N sc xo ex h; cases invO h
    · intro C X G lv N sc xo l r r' op op' p h; cases invD h
    · intro C X G lv N sc xo l r op p h; cases invC h
    · intro C X G lv N sc xo a e he h; cases he
    · intro C X G lv N sc xo wk it tg h; cases invI h
end Mn
namespace Mn
open PySem L2 RZ
variable {C : Ctx} {X : Cx} {F : FT} {env env' : Env} {d : D} {G : GS} {lv : Nat} {N : List PySem.Str} {sc : Scope}
/-- a def's own frame -/
structure XS (X : Cx) (C : Ctx) (G : GS) (lv : Nat) (N : List PySem.Str) (sc : Scope) : Prop extends XOk X C G lv N sc where
  sce : X.env.scope = sc
  hp : PassesOwn (model X.prog X.w) X.A X.env X.xe
def Want (C : Ctx) (D : Ends) (H : Hp) (B M : AP') (fl : Fl) (env' : Env) : Prop :=
  match fl with
  | .nx => ∀ σ' H' B' M', Sim C H' B' M' σ' env' → Nx H B M H' B' M' → D.nx σ' H'
  | .rt d => ∀ v σ' H' B' M', Sim C H' B' M' σ' env' → Rep C.K H' B' d v → Nx H B M H' B' M' → D.rt v H'
  | .bk => ∀ σ' H' B' M', Sim C H' B' M' σ' env' → Nx H B M H' B' M' → D.bk σ' H'
  | .ct => ∀ σ' H' B' M', Sim C H' B' M' σ' env' → Nx H B M H' B' M' → D.ct σ' H'
def tS (C : Ctx) (x : Sm) : TS := fun D σ H => ∃ B M env fl env', Sim C H B M σ env ∧ evS C.F C.fuel x env = some (fl, env') ∧ Want C D H B M fl env'
theorem q_nil : PSs X [] (tS C .nil) := pss_nil.imp fun D σ H h => by
  obtain ⟨B, M, env, fl, env', s, e, q⟩ := h
  rw [evS] at e; cases e
  exact q σ H B M s (Nx.refl _ _ _)
theorem q_seq {s r : Sm} {st : Stmt} {sts : List Stmt} (h1 : PS X st (tS C s)) (h2 : PSs X sts (tS C r)) : PSs X (st :: sts) (tS C (.seq s r)) := (pss_cons h1 h2).imp fun D σ H h => by
  obtain ⟨B, M, env, fl, env', s, e, q⟩ := h
  rw [evS] at e
  obtain ⟨⟨f, e1⟩, g1, e⟩ := bind_some e
  refine ⟨B, M, env, f, e1, s, g1, ?_⟩
  cases f with
  | nx =>
    intro σ1 H1 B1 M1 s1 n1
    refine ⟨B1, M1, e1, fl, env', s1, e, ?_⟩
    cases fl with
    | nx => exact fun σ2 H2 B2 M2 s2 n2 => q σ2 H2 B2 M2 s2 (n1.trans n2)
    | rt d => exact fun v σ2 H2 B2 M2 s2 r2 n2 => q v σ2 H2 B2 M2 s2 r2 (n1.trans n2)
    | bk => exact fun σ2 H2 B2 M2 s2 n2 => q σ2 H2 B2 M2 s2 (n1.trans n2)
    | ct => exact fun σ2 H2 B2 M2 s2 n2 => q σ2 H2 B2 M2 s2 (n1.trans n2)
  | rt d => cases e; exact q
  | bk => cases e; exact q
  | ct => cases e; exact q
theorem evS_asg {fuel : Nat} {i : Nat} {x : Ex} {fl : Fl} (h : evS F fuel (.asg i x) env = some (fl, env')) : ∃ d e1, evE F x env = some (d, e1) ∧ putS e1 i (.val d) = some env' ∧ fl = .nx := by
  rw [evS] at h
  obtain ⟨⟨d, e1⟩, g1, h⟩ := bind_some h
  obtain ⟨e2, g2, h⟩ := bind_some h
  cases h
  exact ⟨d, e1, g1, g2, rfl⟩
theorem evS_own {fuel : Nat} {i : Nat} {x : Ex} {fl : Fl} (h : evS F fuel (.own i x) env = some (fl, env')) : ∃ xs e1, evE F x env = some (.lst xs, e1) ∧ putS e1 i (.own xs) = some env' ∧ fl = .nx := by
  rw [evS] at h
  obtain ⟨⟨d, e1⟩, g1, h⟩ := bind_some h
  cases d <;> first | (cases h; done) | skip
  obtain ⟨e2, g2, h⟩ := bind_some h
  cases h
  exact ⟨_, e1, g1, g2, rfl⟩
theorem asg_imp {i : Nat} {x : Ex} {D : Ends} {σ : L2.St} {H : Hp} (h : tS C (.asg i x) D σ H) : tAsg (tE C x) (gName i) D σ H := by
  obtain ⟨B, M, env, fl, env', s, e, q⟩ := h
  obtain ⟨d, e1, g1, g2, rfl⟩ := evS_asg e
  exact ⟨B, M, env, d, e1, s, g1, fun v H1 B1 M1 s1 r1 n1 => q _ H1 B1 M1 (s1.putVal g2 r1) n1⟩
theorem own_imp {i : Nat} {x : Ex} {D : Ends} {σ : L2.St} {H : Hp} (h : tS C (.own i x) D σ H) : tAsg (tN C x) (gName i) D σ H := by
  obtain ⟨B, M, env, fl, env', s, e, q⟩ := h
  obtain ⟨xs, e1, g1, g2, rfl⟩ := evS_own e
  refine ⟨B, M, env, xs, e1, s, g1, fun p vs H1 B1 M1 s1 hp r1 nb mb lo h0 n1 => q _ H1 _ _ (s1.putOwn g2 hp r1 nb mb lo) ?_⟩
  exact ⟨n1.keep, fun a z => z.elim (fun e => .inr (e ▸ h0)) (n1.b a), fun a z => z.elim (fun e => .inr (e ▸ h0)) (n1.m a), n1.al⟩
theorem asgN_imp {i : Nat} {x : Ex} (hl : ∀ env d env', evE C.F x env = some (d, env') → ∃ xs, d = .lst xs) {D : Ends} {σ : L2.St} {H : Hp} (h : tAsg (tE C x) (gName i) D σ H) : tAsg (tN C x) (gName i) D σ H := by
  obtain ⟨B, M, env, d, env', s, ev, q⟩ := h
  obtain ⟨xs, rfl⟩ := hl _ _ _ ev
  refine ⟨B, M, env, xs, env', s, ev, fun p vs H' B' M' s' hp r nb mb lo _ n => ?_⟩
  exact q _ _ B' M' (s'.less (fun a z => .inr z) mb lo) ⟨p, vs, rfl, hp, nb, r.less s'.bl fun a z => .inr z⟩ n
/-- does CPython store such a comprehension's list ahead of its frame's end? -/
def swp (sc : Scope) (y : PySem.Str) (py : Pos) : Expr → Option Bool
  | .ListComp _ _ s p => some (isL sc y && py.line == p.line && !(s.names.any fun (n, k) => n == y && (k == .local || k == .cell)))
  | .SetComp .. => none
  | .DictComp .. => none
  | _ => some false
theorem isL_iff {sc : Scope} {y : PySem.Str} : isL sc y = (sc.names.lookup y == some .local) := by
  unfold isL kindIs
  cases sc.names.lookup y with
  | none => rfl
  | some k => cases k <;> rfl
theorem swp_ok (xs : XS X C G lv N sc) {y : PySem.Str} {py : Pos} {e : Expr} {b : Bool} {l : Nat} (h : swp sc y py e = some b) : swapsWith e (some (.Name y py)) l X.env = pure b := by
  have hb : X.env.blockKind = .function := by unfold PySem.Env.blockKind; rw [xs.kind]; rfl
  have hk : X.env.kindOf y = sc.names.lookup y := by unfold PySem.Env.kindOf; rw [xs.sce]
  cases e <;> first | (cases h; rfl) | (cases h; done) | skip
  simp only [swp, Option.some.injEq] at h
  subst h
  unfold swapsWith
  simp only [hb, hk, Expr.pos, isL_iff]
  rfl
theorem q_asg (xs : XS X C G lv N sc) {i : Nat} {x : Ex} {y : PySem.Str} {py pos : Pos} {e : Expr} (hN : N[i]? = some y) (hl : loc sc y = true) (hs : swp sc y py e = some false) (he : PE X e (tE C x)) : PS X (.Assign [.Name y py] e pos) (tS C (.asg i x)) := by
  obtain ⟨h3, h4⟩ := xs.loc y hl
  exact (ps_set (xs.n ▸ xs.nd) (by rw [xs.n]; exact hN) h3 he (swp_ok xs hs) h4).imp fun D σ H h => asg_imp h
theorem q_own (xs : XS X C G lv N sc) {i : Nat} {x : Ex} {y : PySem.Str} {py pos : Pos} {e : Expr} (hN : N[i]? = some y) (hl : loc sc y = true) (hs : swp sc y py e = some false) (he : PE X e (tN C x)) : PS X (.Assign [.Name y py] e pos) (tS C (.own i x)) := by
  obtain ⟨h3, h4⟩ := xs.loc y hl
  exact (ps_set (xs.n ▸ xs.nd) (by rw [xs.n]; exact hN) h3 he (swp_ok xs hs) h4).imp fun D σ H h => own_imp h
def ckIfs (G : GS) (N : List PySem.Str) (sc : Scope) (cd : Ex) (ifs : List Expr) : Bool := match ifs with | [] => (match cd with | .tyes => true | _ => false) | [c] => ckT G N sc cd c | _ => false
theorem ck_comp {w : Wk} {src cd el : Ex} {tg : Tg} {own : List Nat} {e : Expr} (h : ckE G N sc (.comp w src tg cd el own) e = true) :
    ∃ elt tge iter ifs scope pos, e = .ListComp elt [⟨tge, iter, ifs, 0⟩] scope pos ∧ (((((ckI G N sc w src iter tge = true ∧ ckTg N scope tg tge = true) ∧ blkC N sc scope (own.map fun i => (N.getD i "", i)) = true) ∧ (tgs tg).all (fun i => decide (i ∈ own)) = true) ∧
      ckIfs G N scope cd ifs = true) ∧ ckE G N scope el elt = true) := by
  unfold ckE at h
  split at h <;> first | (cases h; done) | (rename_i hq; cases hq; done) | skip
  rename_i hq; cases hq
  rw [Bool.and_eq_true, Bool.and_eq_true, Bool.and_eq_true, Bool.and_eq_true, Bool.and_eq_true] at h
  exact ⟨_, _, _, _, _, _, rfl, h⟩
/-- y = [.. for ..] on one line -/
theorem q_setLc (xs : XS X C G lv N sc) {w : Wk} {src cd el : Ex} {tg : Tg} {own : List Nat} {i : Nat} {y : PySem.Str} {py pos : Pos} {e : Expr} (hN : N[i]? = some y) (hs : swp sc y py e = some true) (h : ckE G N sc (.comp w src tg cd el own) e = true) :
    PS X (.Assign [.Name y py] e pos) (tAsg (tN C (.comp w src tg cd el own)) (gName i)) := by
  have sw := swp_ok xs (l := pos.line) hs
  have hyl : X.env.scope.names.lookup y = some .local := by
    cases e <;> first | (cases hs; done) | skip
    simp only [swp, Option.some.injEq, Bool.and_eq_true] at hs
    exact xs.isL y hs.1.1
  have xo := xs.toXOk
  obtain ⟨elt, tge, iter, ifs, scope, lpos, rfl, hh⟩ := ck_comp h
  obtain ⟨⟨⟨⟨⟨h1, h2⟩, h3⟩, h4⟩, h5⟩, h6⟩ := hh
  have hk := (blkOk_by h3).kind
  have hi := (snd_all src).i xo h1
  exact r_setLc xo (by rw [xs.n]; exact hN) hyl sw hi.1 (blk_of xo h3) (map_own _ _) (fun s H Cc cl fp => pg_B fun B0 => r_tg (xo.blk hk s H Cc cl fp).at h2) (fun s H Cc cl fp => r_ifs (xo.blk hk s H Cc cl fp) h5 (snd_all cd))
    (fun s H Cc cl fp => pe_B fun B0 => (snd_all el).e (xo.blk hk s H Cc cl fp).at h6) (folded hi.2) (fun i hi => of_decide_eq_true (List.all_eq_true.mp h4 i hi)) (len_E _ _) (len_E _ _)
theorem evS_unp {fuel : Nat} {is : List Nat} {x : Ex} {fl : Fl} (h : evS F fuel (.unp is x) env = some (fl, env')) : ∃ d e1, evE F x env = some (d, e1) ∧ bindT (.many is) d e1 = some env' ∧ fl = .nx := by
  rw [evS] at h
  obtain ⟨⟨d, e1⟩, g1, h⟩ := bind_some h
  cases d <;> first | (cases h; done) | skip
  all_goals
    obtain ⟨e2, g2, h⟩ := bind_some h
    cases h
    exact ⟨_, e1, g1, g2, rfl⟩
def notTC : Expr → Bool | .Tuple .. => false | .SetComp .. => false | .DictComp .. => false | _ => true
/-- are the stores of such a pair in the text's own order? -/
def ckU (sc : Scope) (es : List Expr) : Expr → Bool
  | .Tuple vs _ _ => (!(es.length == 2 || es.length == 3) || es.any (fun | .Name x _ => kindIs sc x (fun | .cell => true | .free => true | _ => false) | _ => false)) || vs.all (foldedForSure 8)
  | e => notTC e
/-- targets within targets are stored one behind the other -/
def ckV (es : List Expr) : Expr → Bool
  | .Tuple _ _ _ => es.any (fun | .Tuple _ _ _ => true | _ => false)
  | e => notTC e
theorem fm_lt {α β : Type} {f : α → Option β} : ∀ {l : List α}, (∃ a ∈ l, f a = none) → (l.filterMap f).length < l.length
  | [], ⟨a, h, _⟩ => by cases h
  | b :: l, ⟨a, h, e⟩ => by
    rw [List.filterMap_cons]
    rcases List.mem_cons.1 h with rfl | h
    · rw [e]
      exact Nat.lt_of_le_of_lt (List.length_filterMap_le f l) (Nat.lt_succ_self _)
    · have := fm_lt ⟨a, h, e⟩
      cases f b with
      | none => exact Nat.lt_succ_of_lt this
      | some c => exact Nat.succ_lt_succ this
theorem ckU_ok (xs : XS X C G lv N sc) {es : List Expr} {k : Nat} {tp : Pos} {e : Expr} (h : ckU sc es e = true) : swappedStores [.Tuple es k tp] e X.env = pure none := by
  cases e <;> first | rfl | skip
  rename_i vs k2 vp
  have h : ((!(es.length == 2 || es.length == 3) || es.any (fun | .Name x _ => kindIs sc x (fun | .cell => true | .free => true | _ => false) | _ => false)) || vs.all (foldedForSure 8)) = true := h
  unfold swappedStores
  simp only
  split
  · rfl
  rename_i c1
  split
  · rfl
  by_cases hf : vs.all (foldedForSure 8) = true
  · split
    · rfl
    · rfl
  have h : (!(es.length == 2 || es.length == 3) || es.any (fun | .Name x _ => kindIs sc x (fun | .cell => true | .free => true | _ => false) | _ => false)) = true := by
    rw [Bool.or_eq_true] at h
    exact h.resolve_right hf
  have c3 : es.any (fun | .Name x _ => kindIs sc x (fun | .cell => true | .free => true | _ => false) | _ => false) = true := by
    rw [Bool.or_eq_true] at h
    rcases h with h | h
    · exact absurd (by rw [h]; rfl) c1
    · exact h
  rw [List.any_eq_true] at c3
  obtain ⟨t, ht, hk⟩ := c3
  have lt : (es.filterMap fun
    | .Name id pos => if X.env.kindOf id == some .local && pos.line == (es.head?.map (·.pos.line)).getD 0 then some id else none
    | _ => none).length < es.length := by
    refine fm_lt ⟨t, ht, ?_⟩
    cases t <;> first | rfl | skip
    rename_i x xp
    have hk : kindIs sc x (fun | .cell => true | .free => true | _ => false) = true := hk
    obtain ⟨kd, e1, e2⟩ := kind_of hk
    have hc : X.env.scope.names.lookup x = some .cell ∨ X.env.scope.names.lookup x = some .free := xs.cf x (by cases kd <;> first | exact .inl e1 | exact .inr e1 | cases e2)
    have : (X.env.kindOf x == some NameKind.local) = false := by
      show (X.env.scope.names.lookup x == some NameKind.local) = false
      rcases hc with hc | hc <;> rw [hc] <;> rfl
    show (if (X.env.kindOf x == some NameKind.local && _) = true then some x else none) = none
    rw [this, Bool.false_and]
    rfl
  rw [if_pos (by
    rw [Bool.or_eq_true]
    left
    rw [bne_iff_ne]
    exact Nat.ne_of_lt lt)]
theorem ckV_ok {es : List Expr} {k : Nat} {tp : Pos} {e : Expr} {env : PySem.Env} (h : ckV es e = true) : swappedStores [.Tuple es k tp] e env = pure none := by
  cases e <;> first | rfl | skip
  rename_i vs k2 vp
  have h : es.any (fun | .Tuple _ _ _ => true | _ => false) = true := h
  unfold swappedStores
  simp only
  split
  · rfl
  rename_i c1
  split
  · rfl
  rw [List.any_eq_true] at h
  obtain ⟨t, ht, hk⟩ := h
  have lt : (es.filterMap fun
    | .Name id pos => if env.kindOf id == some .local && pos.line == (es.head?.map (·.pos.line)).getD 0 then some id else none
    | _ => none).length < es.length := by
    refine fm_lt ⟨t, ht, ?_⟩
    cases t <;> first | rfl | cases hk
  rw [if_pos (by
    rw [Bool.or_eq_true]
    left
    rw [bne_iff_ne]
    exact Nat.ne_of_lt lt)]
theorem evS_unt {fuel : Nat} {a b : Tg} {x : Ex} {fl : Fl} (h : evS F fuel (.unt a b x) env = some (fl, env')) : ∃ d e1, evE F x env = some (d, e1) ∧ bindT (.two a b) d e1 = some env' ∧ fl = .nx := by
  rw [evS] at h
  obtain ⟨⟨d, e1⟩, g1, h⟩ := bind_some h
  obtain ⟨e2, g2, h⟩ := bind_some h
  cases h
  exact ⟨d, e1, g1, g2, rfl⟩
theorem q_unt (xs : XS X C G lv N sc) {a b : Tg} {x : Ex} {es : List Expr} {k : Nat} {tp pos : Pos} {e : Expr} (ht : ckTg N sc (.two a b) (.Tuple es k tp) = true) (hn : ckV es e = true) (he : PE X e (tE C x)) : PS X (.Assign [.Tuple es k tp] e pos) (tS C (.unt a b x)) := by
  have g := r_tg (C := C) xs.toXOk (tg := .two a b) (e := .Tuple es k tp) ht
  refine (ps_asg he g ?_ (ckV_ok hn) rfl).imp fun D σ H h => ?_
  · show swapsWith e (some (.Tuple es k tp)) pos.line X.env = pure false
    cases e <;> first | rfl | cases hn
  · obtain ⟨B, M, env, fl, env', s, ev, q⟩ := h
    obtain ⟨ds, e1, g1, g2, rfl⟩ := evS_unt ev
    exact ⟨B, M, env, _, e1, s, g1, fun v H1 B1 M1 s1 r1 n1 => ⟨B1, M1, e1, env', ds, s1, r1, g2, fun σ' s' _ => q σ' H1 B1 M1 s' n1⟩⟩
theorem q_unp (xs : XS X C G lv N sc) {is : List Nat} {x : Ex} {es : List Expr} {k : Nat} {tp pos : Pos} {e : Expr} (ht : ckTgN N sc is es = true) (hn : ckU sc es e = true) (he : PE X e (tE C x)) : PS X (.Assign [.Tuple es k tp] e pos) (tS C (.unp is x)) := by
  have g := r_tg (C := C) xs.toXOk (tg := .many is) (e := .Tuple es k tp) ht
  refine (ps_asg he g ?_ (ckU_ok xs hn) rfl).imp fun D σ H h => ?_
  · show swapsWith e (some (.Tuple es k tp)) pos.line X.env = pure false
    cases e <;> first | rfl | cases hn
  · obtain ⟨B, M, env, fl, env', s, ev, q⟩ := h
    obtain ⟨ds, e1, g1, g2, rfl⟩ := evS_unp ev
    exact ⟨B, M, env, _, e1, s, g1, fun v H1 B1 M1 s1 r1 n1 => ⟨B1, M1, e1, env', ds, s1, r1, g2, fun σ' s' _ => q σ' H1 B1 M1 s' n1⟩⟩
theorem q_ret {x : Ex} {e : Expr} {pos : Pos} (he : PE X e (tE C x)) : PS X (.Return (some e) pos) (tS C (.ret x)) := (ps_ret he).imp fun D σ H h => by
  obtain ⟨B, M, env, fl, env', s, ev, q⟩ := h
  rw [evS] at ev
  obtain ⟨⟨d, e1⟩, g1, ev⟩ := bind_some ev
  cases ev
  exact ⟨B, M, env, d, _, s, g1, fun v H1 B1 M1 s1 r1 n1 => q v σ H1 B1 M1 s1 r1 n1⟩
theorem q_retn {pos : Pos} : PS X (.Return none pos) (tS C .retn) := ps_retN.imp fun D σ H h => by
  obtain ⟨B, M, env, fl, env', s, ev, q⟩ := h
  rw [evS] at ev; cases ev
  exact q .non σ H B M s rfl (Nx.refl _ _ _)
theorem q_pas {pos : Pos} : PS X (.Pass pos) (tS C .pas) := ps_pass.imp fun D σ H h => by
  obtain ⟨B, M, env, fl, env', s, ev, q⟩ := h
  rw [evS] at ev; cases ev
  exact q σ H B M s (Nx.refl _ _ _)
theorem q_doc {z j p pos} : PS X (.Expr (.Constant (.str z) j p) pos) (tS C .pas) := ps_doc.imp fun D σ H h => by
  obtain ⟨B, M, env, fl, env', s, ev, q⟩ := h
  rw [evS] at ev; cases ev
  exact q σ H B M s (Nx.refl _ _ _)
theorem q_brk {pos : Pos} : PS X (.Break pos) (tS C .brk) := ps_break.imp fun D σ H h => by
  obtain ⟨B, M, env, fl, env', s, ev, q⟩ := h
  rw [evS] at ev; cases ev
  exact q σ H B M s (Nx.refl _ _ _)
theorem q_cnt {pos : Pos} : PS X (.Continue pos) (tS C .cnt) := ps_continue.imp fun D σ H h => by
  obtain ⟨B, M, env, fl, env', s, ev, q⟩ := h
  rw [evS] at ev; cases ev
  exact q σ H B M s (Nx.refl _ _ _)
theorem q_never {st : Stmt} : PS X st (tS C .never) := ps_never.imp fun D σ H h => by
  obtain ⟨B, M, env, fl, env', s, ev, q⟩ := h
  rw [evS] at ev; cases ev
theorem q_exp {x : Ex} {e : Expr} {pos : Pos} (hs : swapsWith e none pos.line X.env = pure false) (he : PE X e (tE C x)) : PS X (.Expr e pos) (tS C (.exp x)) := (ps_expr he hs).imp fun D σ H h => by
  obtain ⟨B, M, env, fl, env', s, ev, q⟩ := h
  rw [evS] at ev
  obtain ⟨⟨d, e1⟩, g1, ev⟩ := bind_some ev
  cases ev
  exact ⟨B, M, env, d, _, s, g1, fun v H1 B1 M1 s1 r1 n1 => q σ H1 B1 M1 s1 n1⟩
theorem evS_iff {fuel : Nat} {c : Ex} {t u : Sm} {fl : Fl} (h : evS F fuel (.iff c t u) env = some (fl, env')) : ∃ k e1, evT F c env = some (k, e1) ∧ (if k = true then evS F fuel t e1 = some (fl, env') else evS F fuel u e1 = some (fl, env')) := by
  rw [evS] at h
  obtain ⟨⟨k, e1⟩, g1, h⟩ := bind_some h
  refine ⟨k, e1, g1, ?_⟩
  cases k <;> exact h
/-- what is wanted, from a later state on -/
theorem later {H H1 : Hp} {B M B1 M1 : AP'} {D : Ends} {fl : Fl} {env' : Env} (n1 : Nx H B M H1 B1 M1) (q : Want C D H B M fl env') : Want C D H1 B1 M1 fl env' := by
  cases fl with
  | nx => exact fun σ2 H2 B2 M2 s2 n2 => q σ2 H2 B2 M2 s2 (n1.trans n2)
  | rt d => exact fun v σ2 H2 B2 M2 s2 r2 n2 => q v σ2 H2 B2 M2 s2 r2 (n1.trans n2)
  | bk => exact fun σ2 H2 B2 M2 s2 n2 => q σ2 H2 B2 M2 s2 (n1.trans n2)
  | ct => exact fun σ2 H2 B2 M2 s2 n2 => q σ2 H2 B2 M2 s2 (n1.trans n2)
theorem q_if {c : Ex} {t u : Sm} {ec : Expr} {st su : List Stmt} {pos : Pos} (hc : PT X ec (tT C c)) (ht : PSs X st (tS C t)) (hu : PSs X su (tS C u)) : PS X (.If ec st su pos) (tS C (.iff c t u)) := (ps_if hc ht hu).imp fun D σ H h => by
  obtain ⟨B, M, env, fl, env', s, ev, q⟩ := h
  obtain ⟨k, e1, g1, g2⟩ := evS_iff ev
  refine ⟨B, M, env, k, e1, s, g1, fun H1 B1 M1 s1 n1 => ?_⟩
  cases k <;> exact ⟨B1, M1, e1, fl, env', s1, g2, later n1 q⟩
/-- x.append(e) -/
theorem evS_app {fuel : Nat} {i : Nat} {x : Ex} {fl : Fl} (h : evS F fuel (.app i x) env = some (fl, env')) : ∃ ys d e1 xs, mutS env i = some ys ∧ evE F x env = some (d, e1) ∧ mutS e1 i = some xs ∧ xs.length < lim ∧ env' = setM e1 i (xs ++ [d]) ∧ fl = .nx := by
  rw [evS] at h
  obtain ⟨ys, g0, h⟩ := bind_some h
  obtain ⟨⟨d, e1⟩, g1, h⟩ := bind_some h
  obtain ⟨xs, g2, h⟩ := bind_some h
  split at h
  · cases h; exact ⟨ys, d, e1, xs, g0, g1, g2, by assumption, rfl, rfl⟩
  · cases h
theorem q_app (xs : XS X C G lv N sc) {i : Nat} {x : Ex} {y : PySem.Str} {py ap cp pos : Pos} {e : Expr} (hN : X.N[i]? = some y) (hv : Vis X.env.scope y) (hd : (y == ("__debug__" : PySem.Str)) = false) (hcd : (y == ("__classdict__" : PySem.Str)) = false) (hn : nst e = true) (hline : (ap.endLine == cp.line) = true) (he : PE X e (tE C x)) :
    PS X (.Expr (.Call (.Attribute (.Name y py) "append" ap) [e] [] cp) pos) (tS C (.app i x)) :=
  (ps_expr (pe_bm PySem.F.plainAttrs_list PySem.F.slot_list_append PySem.F.type_list_append mt_append (pe_var hN hv hd hcd) (pa_cons he pa_nil (star_cons hn)) rfl (by rw [star_cons hn]; rfl) hline (star_cons hn) rfl) rfl).imp fun D σ H h => by
    obtain ⟨B, M, env, fl, env', s, ev, q⟩ := h
    obtain ⟨ys, d, e1, zs, g0, g1, g2, g3, rfl, rfl⟩ := evS_app ev
    obtain ⟨a, vs, c1, c2, c3, c4⟩ := s.mut g0
    refine ⟨.ref a, c1, .inl ⟨rfl, vs, .inl (.inl c2)⟩, B, M, env, d, e1, s, g1, fun v H1 B1 M1 s1 r1 n1 => ?_⟩
    obtain ⟨a', ws, k1, k2, k3, k4⟩ := s1.mut g2
    rw [c1] at k1; cases k1
    refine ⟨a, ws, v, rfl, rfl, k2, by rw [k3.len]; exact lim_lt g3, ?_⟩
    obtain ⟨s2, n2⟩ := s1.setM g2 c1 (k3.app (RepL.cons r1 RepL.nil)) ⟨ws, k2⟩
    exact q σ _ B1 M1 s2 (n1.trans n2)
/-- x[k] = e -/
theorem evS_seti {fuel : Nat} {i : Nat} {x k : Ex} {fl : Fl} (h : evS F fuel (.seti i k x) env = some (fl, env')) : ∃ d e1 j e2 xs ys, evE F x env = some (d, e1) ∧ evE F k e1 = some (.int j, e2) ∧ mutS e1 i ≠ none ∧ mutS e2 i = some xs ∧ setJ xs j d = some ys ∧ env' = setM e2 i ys ∧ fl = .nx := by
  rw [evS] at h
  obtain ⟨⟨d, e1⟩, g1, h⟩ := bind_some h
  obtain ⟨z, g0, h⟩ := bind_some h
  obtain ⟨⟨w, e2⟩, g2, h⟩ := bind_some h
  cases w <;> first | (cases h; done) | skip
  obtain ⟨xs, g3, h⟩ := bind_some h
  obtain ⟨ys, g4, h⟩ := bind_some h
  cases h
  exact ⟨d, e1, _, e2, xs, ys, g1, g2, by rw [g0]; exact Option.some_ne_none _, g3, g4, rfl, rfl⟩
theorem q_seti (xs : XS X C G lv N sc) {i : Nat} {x k : Ex} {y : PySem.Str} {py sp pos : Pos} {e ek : Expr} (hN : X.N[i]? = some y) (hv : Vis X.env.scope y) (hd : (y == ("__debug__" : PySem.Str)) = false) (hcd : (y == ("__classdict__" : PySem.Str)) = false) (hs : notSl ek = true) (hn : notTC e = true) (he : PE X e (tE C x)) (hk : PE X ek (tE C k)) :
    PS X (.Assign [.Subscript (.Name y py) ek sp] e pos) (tS C (.seti i k x)) := by
  refine (ps_asg he (pg_sub (pe_var hN hv hd hcd) hk set_list (fun v => by cases ek <;> first | rfl | cases hs)) ?_ ?_ rfl).imp fun D σ H h => ?_
  · show swapsWith e (some (.Subscript (.Name y py) ek sp)) pos.line X.env = pure false
    cases e <;> first | rfl | cases hn
  · cases e <;> first | rfl | cases hn
  · obtain ⟨B, M, env, fl, env', s, ev, q⟩ := h
    obtain ⟨d, e1, j, e2, zs, ys, g1, g2, g0, g3, g4, rfl, rfl⟩ := evS_seti ev
    refine ⟨B, M, env, d, e1, s, g1, fun v H1 B1 M1 s1 r1 n1 => ?_⟩
    obtain ⟨w, hw⟩ : ∃ w, mutS e1 i = some w := by
      cases z : mutS e1 i with
      | none => exact absurd z g0
      | some w => exact ⟨w, rfl⟩
    obtain ⟨a, vs, c1, c2, c3, c4⟩ := s1.mut hw
    refine ⟨.ref a, c1, B1, M1, e1, _, e2, s1, g2, fun u H2 B2 M2 s2 r2 n2 => ?_⟩
    cases r2
    obtain ⟨a', ws, k1, k2, k3, k4⟩ := s2.mut g3
    rw [c1] at k1; cases k1
    simp only [setJ, Option.map_eq_some_iff] at g4
    obtain ⟨m, g4, rfl⟩ := g4
    refine ⟨a, ws, j, m, rfl, rfl, k2, by rw [k3.len]; exact g4, ?_⟩
    obtain ⟨s3, n3⟩ := s2.setM g3 c1 (RepL.set (Rep.nx s1.bl s1.mb n2 _ _ r1) k3) ⟨ws, k2⟩
    exact q σ _ B2 M2 s3 ((n1.trans n2).trans n3)
end Mn
namespace Mn
open PySem L2 RZ
variable {C : Ctx} {X : Cx} {F : FT} {env env' : Env} {d : D} {G : GS} {lv : Nat} {N : List PySem.Str} {sc : Scope}
theorem putOwn2 {H : Hp} {B M : AP'} {σ : L2.St} {p : Addr} {vs : List V} (s : Sim C H B M σ env) {i : Nat} {xs : List D} (h : putS env i (.own xs) = some env') (hp : H p = some (.lst vs)) (hB : B p) (hM : ¬ M p) (h0 : ¬ C.B0 p) (r : RepL C.K H B xs vs) : Sim C H B (ins p M) (σ.set i (some (.ref p))) env' := by
  have eB : B = ins p (fun a => B a ∧ a ≠ p) := by
    funext a
    refine propext ⟨fun h => ?_, fun h => h.elim (fun e => e ▸ hB) (·.1)⟩
    by_cases e : a = p
    · exact .inl e
    · exact .inr ⟨h, e⟩
  have s' : Sim C H (ins p (fun a => B a ∧ a ≠ p)) M σ env := eB ▸ s
  have := s'.putOwn h hp (eB ▸ r) (fun z => z.2 rfl) (fun a z => ⟨s.mb a z, fun e => hM (e ▸ z)⟩) (fun a z => ⟨s.lo a z, fun e => h0 (e ▸ z)⟩)
  rw [← eB] at this
  exact this
theorem Nx.insB {H H1 : Hp} {B M B1 M1 : AP'} {p : Addr} (n : Nx H B M H1 B1 M1) (hp : H p = none) : Nx H B M H1 (ins p B1) M1 := ⟨n.keep, fun a h => h.elim (fun e => .inr (e ▸ hp)) (n.b a), n.m, n.al⟩
theorem Nx.insM {H H1 : Hp} {B M B1 M1 : AP'} {p : Addr} (n : Nx H B M H1 B1 M1) (hp : H p = none) : Nx H B M H1 B1 (ins p M1) := ⟨n.keep, n.b, fun a h => h.elim (fun e => .inr (e ▸ hp)) (n.m a), n.al⟩
def tNB (C : Ctx) (x : Ex) : TE := fun σ H Q => ∃ B0, tN (C.at B0) x σ H Q
theorem pe_NB {e : Expr} {x : Ex} (h : ∀ B0, PE X e (tN (C.at B0) x)) : PE X e (tNB C x) := ⟨fun pins s σ H Q I ⟨B0, q⟩ => (h B0).run pins s σ H Q I q⟩
theorem evS_par {fuel : Nat} {i j : Nat} {oi oj : Bool} {a b : Ex} {fl : Fl} (h : evS F fuel (.par i j oi oj a b) env = some (fl, env')) : ∃ x e1 y e2 e3, evE F a env = some (x, e1) ∧ evE F b e1 = some (y, e2) ∧ putX oi e2 i x = some e3 ∧ putX oj e3 j y = some env' ∧ fl = .nx := by
  rw [evS] at h
  obtain ⟨⟨x, e1⟩, g1, h⟩ := bind_some h
  obtain ⟨⟨y, e2⟩, g2, h⟩ := bind_some h
  obtain ⟨e3, g3, h⟩ := bind_some h
  obtain ⟨e4, g4, h⟩ := bind_some h
  cases h
  exact ⟨x, e1, y, e2, e3, g1, g2, g3, g4, rfl⟩
/-- the reading of one side of a, b = .. -/
def tX (C : Ctx) (o : Bool) (x : Ex) : TE := if o then tNB C x else tEB C x
theorem par_imp {i j : Nat} {oi oj : Bool} {a b : Ex} {D : Ends} {σ : L2.St} {H : Hp} (h : tS C (.par i j oi oj a b) D σ H) : tPar i j (tCons (tX C oi a) (tCons (tX C oj b) tNil)) D σ H := by
  obtain ⟨B, M, env, fl, env', s, ev, q⟩ := h
  obtain ⟨x, e1, y, e2, e3, g1, g2, g3, g4, rfl⟩ := evS_par ev
  cases oi with
  | false =>
    simp only [putX, Bool.false_eq_true, if_false] at g3
    refine ⟨C.B0, B, M, env, x, e1, s, g1, fun v H1 B1 M1 s1 r1 n1 => ?_⟩
    cases oj with
    | false =>
      simp only [putX, Bool.false_eq_true, if_false] at g4
      refine ⟨C.B0, B1, M1, e1, y, e2, s1, g2, fun w H2 B2 M2 s2 r2 n2 => ⟨v, w, rfl, ?_⟩⟩
      exact q _ H2 B2 M2 ((s2.putVal g3 (Rep.nx s1.bl s1.mb n2 _ _ r1)).putVal g4 r2) (n1.trans n2)
    | true =>
      simp only [putX, if_true] at g4
      cases y <;> first | (cases g4; done) | skip
      refine ⟨C.B0, B1, M1, e1, _, e2, s1, g2, fun p vs H2 B2 M2 s2 hp r2 nb mb lo h0 n2 => ⟨v, .ref p, rfl, ?_⟩⟩
      have n3 := n2.insB h0
      have hp0 := n1.al p h0
      exact q _ H2 _ _ (putOwn2 (s2.putVal g3 (Rep.nx s1.bl s1.mb n3 _ _ r1)) g4 hp (.inl rfl) (fun z => nb (mb p z)) (fun z => nb (lo p z)) r2) ((n1.trans n3).insM hp0)
  | true =>
    simp only [putX, if_true] at g3
    cases x <;> first | (cases g3; done) | skip
    refine ⟨C.B0, B, M, env, _, e1, s, g1, fun p vs H1 B1 M1 s1 hp r1 nb mb lo h0 n1 => ?_⟩
    have nM : ¬ M1 p := fun z => nb (mb p z)
    have nC : ¬ C.B0 p := fun z => nb (lo p z)
    have s1' : Sim (C.at (ins p C.B0)) H1 (ins p B1) M1 σ e1 := Sim.insB (C := C) s1 nM
    have n1' := n1.insB h0
    cases oj with
    | false =>
      simp only [putX, Bool.false_eq_true, if_false] at g4
      refine ⟨ins p C.B0, ins p B1, M1, e1, y, e2, s1', g2, fun w H2 B2 M2 s2 r2 n2 => ⟨.ref p, w, rfl, ?_⟩⟩
      have nM2 : ¬ M2 p := fun z => (n2.m p z).elim nM fun e => by rw [hp] at e; cases e
      have s3 := putOwn2 (s2.downB fun a z => .inr z) g3 (n2.keep p _ hp nM) (s2.lo p (.inl rfl)) nM2 nC (RepL.nx s1.bl s1.mb n2 _ _ r1)
      exact q _ H2 _ _ (s3.putVal g4 r2) ((n1'.trans n2).insM h0)
    | true =>
      simp only [putX, if_true] at g4
      cases y <;> first | (cases g4; done) | skip
      refine ⟨ins p C.B0, ins p B1, M1, e1, _, e2, s1', g2, fun p2 vs2 H2 B2 M2 s2 hp2 r2 nb2 mb2 lo2 h02 n2 => ⟨.ref p, .ref p2, rfl, ?_⟩⟩
      have n3 := n2.insB h02
      have B2p : B2 p := lo2 p (.inl rfl)
      have ne : p2 ≠ p := fun e => nb2 (e ▸ B2p)
      have nM2 : ¬ M2 p := fun z => (n2.m p z).elim nM fun e => by rw [hp] at e; cases e
      have s3 := putOwn2 (s2.downB fun a z => .inr z) g3 (n2.keep p _ hp nM) (.inr B2p) nM2 nC (RepL.nx s1.bl s1.mb n3 _ _ r1)
      have hp20 : H p2 = none := n1.al p2 h02
      exact q _ H2 _ _ (putOwn2 s3 g4 hp2 (.inl rfl) (fun z => z.elim ne fun z => nb2 (mb2 p2 z)) (fun z => nb2 (lo2 p2 (.inr z))) r2) (((n1'.trans n3).insM h0).insM hp20)
def swS (sc : Scope) (x y : PySem.Str) (px py : Pos) (a b : Expr) : Bool :=
  isL sc x && isL sc y && py.line == px.line && !(x == y) && nst a && nst b && !(foldedForSure 8 a && foldedForSure 8 b) && !(constantsAlone 8 a && constantsAlone 8 b)
theorem swS_ok (xs : XS X C G lv N sc) {x y : PySem.Str} {px py tp vp : Pos} {k k2 : Nat} {a b : Expr} (h : swS sc x y px py a b = true) : swappedStores [.Tuple [.Name x px, .Name y py] k tp] (.Tuple [a, b] k2 vp) X.env = pure (some [x, y]) := by
  have hb : X.env.blockKind = .function := by unfold PySem.Env.blockKind; rw [xs.kind]; rfl
  unfold swS at h
  simp only [Bool.and_eq_true, Bool.not_eq_true'] at h
  obtain ⟨⟨⟨⟨⟨⟨⟨h1, h2⟩, h3⟩, h4⟩, h5⟩, h6⟩, h7⟩, h8⟩ := h
  have kx : X.env.kindOf x = some .local := xs.isL x h1
  have ky : X.env.kindOf y = some .local := xs.isL y h2
  have ne : x ≠ y := by simpa using h4
  have h3' : py.line = px.line := by simpa using h3
  unfold swappedStores
  simp only [hb, List.length_cons, List.length_nil, List.head?_cons, Option.map_some, Option.getD_some, Expr.pos]
  refine (if_neg (by decide)).trans ?_
  refine (if_neg ?_).trans ?_
  · simp only [List.any_cons, List.any_nil, Bool.or_false, Bool.not_eq_true, Bool.or_eq_false_iff]
    refine ⟨?_, ?_⟩
    · cases a <;> first | rfl | cases h5
    · cases b <;> first | rfl | cases h6
  simp only [List.filterMap_cons, List.filterMap_nil, kx, ky, h3', beq_self_eq_true, Bool.and_self, if_true]
  refine (if_neg ?_).trans ?_
  · simp [List.eraseDups_cons, ne.symm]
  refine (if_neg ?_).trans ?_
  · simp only [List.all_cons, List.all_nil, Bool.and_true, h7]; decide
  refine (if_neg ?_).trans rfl
  simp only [List.all_cons, List.all_nil, Bool.and_true, h8]; decide
/-- a, b = e, f -/
theorem q_par (xs : XS X C G lv N sc) {i j : Nat} {oi oj : Bool} {x y : PySem.Str} {px py tp vp pos : Pos} {k k2 : Nat} {a b : Expr} {ea eb : Ex} (hi : N[i]? = some x) (hj : N[j]? = some y) (hij : i ≠ j) (hs : swS sc x y px py a b = true) (na : nst a = true) (nb : nst b = true)
    (ha : PE X a (tX C oi ea)) (hb : PE X b (tX C oj eb)) : PS X (.Assign [.Tuple [.Name x px, .Name y py] k tp] (.Tuple [a, b] k2 vp) pos) (tS C (.par i j oi oj ea eb)) := by
  have h := hs
  unfold swS at h
  simp only [Bool.and_eq_true] at h
  exact (ps_par xs.calm (xs.n ▸ xs.nd) (by rw [xs.n]; exact hi) (by rw [xs.n]; exact hj) hij (xs.isL x h.1.1.1.1.1.1.1) (xs.isL y h.1.1.1.1.1.1.2) (pa_cons ha (pa_cons hb pa_nil (star_cons nb)) (star_cons na)) (swS_ok xs hs) rfl).imp fun D σ H h => par_imp h
/-- a, b, c = e, f, g -/
def swS3 (sc : Scope) (x y z : PySem.Str) (px py pz : Pos) (a b c : Expr) : Bool :=
  isL sc x && isL sc y && isL sc z && py.line == px.line && pz.line == px.line && !(x == y) && !(x == z) && !(y == z) && nst a && nst b && nst c && !(foldedForSure 8 a && foldedForSure 8 b && foldedForSure 8 c) && !(constantsAlone 8 a && constantsAlone 8 b && constantsAlone 8 c)
theorem swS3_ok (xs : XS X C G lv N sc) {x y z : PySem.Str} {px py pz tp vp : Pos} {k k2 : Nat} {a b c : Expr} (h : swS3 sc x y z px py pz a b c = true) : swappedStores [.Tuple [.Name x px, .Name y py, .Name z pz] k tp] (.Tuple [a, b, c] k2 vp) X.env = pure (some [x, y, z]) := by
  have hb : X.env.blockKind = .function := by unfold PySem.Env.blockKind; rw [xs.kind]; rfl
  unfold swS3 at h
  simp only [Bool.and_eq_true, Bool.not_eq_true'] at h
  obtain ⟨⟨⟨⟨⟨⟨⟨⟨⟨⟨⟨⟨h1, h2⟩, hz⟩, h3⟩, hzl⟩, h4⟩, hxz⟩, hyz⟩, h5⟩, h6⟩, hcn⟩, h7⟩, h8⟩ := h
  have kx : X.env.kindOf x = some .local := xs.isL x h1
  have ky : X.env.kindOf y = some .local := xs.isL y h2
  have kz : X.env.kindOf z = some .local := xs.isL z hz
  have ne : x ≠ y := by simpa using h4
  have ne2 : x ≠ z := by simpa using hxz
  have ne3 : y ≠ z := by simpa using hyz
  have h3' : py.line = px.line := by simpa using h3
  have h3'' : pz.line = px.line := by simpa using hzl
  unfold swappedStores
  simp only [hb, List.length_cons, List.length_nil, List.head?_cons, Option.map_some, Option.getD_some, Expr.pos]
  refine (if_neg (by decide)).trans ?_
  refine (if_neg ?_).trans ?_
  · simp only [List.any_cons, List.any_nil, Bool.or_false, Bool.not_eq_true, Bool.or_eq_false_iff]
    refine ⟨?_, ?_, ?_⟩
    · cases a <;> first | rfl | cases h5
    · cases b <;> first | rfl | cases h6
    · cases c <;> first | rfl | cases hcn
  simp only [List.filterMap_cons, List.filterMap_nil, kx, ky, kz, h3', h3'', beq_self_eq_true, Bool.and_self, if_true]
  refine (if_neg ?_).trans ?_
  · simp [List.eraseDups_cons, ne.symm, ne2.symm, ne3.symm]
  refine (if_neg ?_).trans ?_
  · simp only [List.all_cons, List.all_nil, Bool.and_true, ← Bool.and_assoc, h7]; decide
  refine (if_neg ?_).trans rfl
  simp only [List.all_cons, List.all_nil, Bool.and_true, ← Bool.and_assoc, h8]; decide
theorem unpS_cons {i : Nat} {is : List Nat} {d : D} {ds : List D} {env env' : Env} (h : unpS (i :: is) (d :: ds) env = some env') : ∃ e, putS env i (.val d) = some e ∧ unpS is ds e = some env' := by
  unfold unpS at h
  obtain ⟨e, g1, g2⟩ := bind_some h
  exact ⟨e, g1, g2⟩
theorem par3_imp {i j l : Nat} {es : Ex} {D : Ends} {σ : L2.St} {H : Hp} (h : tS C (.par3 i j l es) D σ H) : tPar3 i j l (tL C es) D σ H := by
  obtain ⟨B, M, env, fl, env', s, ev, q⟩ := h
  rw [evS] at ev
  obtain ⟨⟨xs, e1⟩, g1, ev⟩ := bind_some ev
  obtain ⟨e2, g2, ev⟩ := bind_some ev
  cases ev
  match xs, g2 with
  | [], g2 => cases g2
  | [x], g2 =>
    obtain ⟨_, _, g2⟩ := unpS_cons g2
    cases g2
  | [x, y], g2 =>
    obtain ⟨_, _, g2⟩ := unpS_cons g2
    obtain ⟨_, _, g2⟩ := unpS_cons g2
    cases g2
  | x :: y :: z :: w :: r, g2 =>
    obtain ⟨_, _, g2⟩ := unpS_cons g2
    obtain ⟨_, _, g2⟩ := unpS_cons g2
    obtain ⟨_, _, g2⟩ := unpS_cons g2
    cases g2
  | [x, y, z], g2 =>
    obtain ⟨e3, g3, g2⟩ := unpS_cons g2
    obtain ⟨e4, g4, g2⟩ := unpS_cons g2
    obtain ⟨e5, g5, g2⟩ := unpS_cons g2
    cases g2
    refine ⟨B, M, env, _, e1, s, g1, fun vs H1 B1 M1 s1 r1 n1 => ?_⟩
    obtain ⟨u, _, rfl, ru, r1⟩ := r1
    obtain ⟨v, _, rfl, rv, r1⟩ := r1
    obtain ⟨w, _, rfl, rw', r1⟩ := r1
    cases r1
    exact ⟨u, v, w, rfl, q _ H1 B1 M1 (((s1.putVal g3 ru).putVal g4 rv).putVal g5 rw') n1⟩
theorem q_par3 (xs : XS X C G lv N sc) {i j l : Nat} {x y z : PySem.Str} {px py pz tp vp pos : Pos} {k k2 : Nat} {a b c : Expr} {es : Ex} (hi : N[i]? = some x) (hj : N[j]? = some y) (hl : N[l]? = some z) (hij : i ≠ j) (hil : i ≠ l) (hjl : j ≠ l) (hs : swS3 sc x y z px py pz a b c = true)
    (ha : PA X [a, b, c] (tL C es)) : PS X (.Assign [.Tuple [.Name x px, .Name y py, .Name z pz] k tp] (.Tuple [a, b, c] k2 vp) pos) (tS C (.par3 i j l es)) := by
  have h := hs
  unfold swS3 at h
  simp only [Bool.and_eq_true] at h
  exact (ps_par3 xs.calm (xs.n ▸ xs.nd) (by rw [xs.n]; exact hi) (by rw [xs.n]; exact hj) (by rw [xs.n]; exact hl) hij hil hjl (xs.isL x h.1.1.1.1.1.1.1.1.1.1.1.1) (xs.isL y h.1.1.1.1.1.1.1.1.1.1.1.2) (xs.isL z h.1.1.1.1.1.1.1.1.1.1.2) ha (swS3_ok xs hs) rfl).imp fun D σ H h => par3_imp h
/-! ### three at once, some of them lists of one's own -/
inductive Hv where
  | v (d : D) (w : V) | o (xs : List D) (p : Addr)
def Hv.w : Hv → V
  | .v _ w => w
  | .o _ p => .ref p
/-- a value that is held until it is stored -/
def Hold (C : Ctx) (E : AP') (H0 H : Hp) (B M : AP') : Hv → Prop
  | .v d w => Rep C.K H B d w
  | .o xs p => (∃ vs, H p = some (.lst vs) ∧ RepL C.K H B xs vs) ∧ E p ∧ ¬ M p ∧ ¬ C.B0 p ∧ H0 p = none
def Apart : Hv → Hv → Prop
  | .o _ p, .o _ q => p ≠ q
  | _, _ => True
def Fit (o : Bool) (d : D) : Hv → Prop
  | .v d' _ => o = false ∧ d' = d
  | .o xs _ => o = true ∧ d = .lst xs
theorem Hold.nx {E : AP'} {H0 H H' : Hp} {B M B' M' : AP'} {h : Hv} (x : Hold C E H0 H B M h) (bl : BL H B) (mb : ∀ a, M a → B a) (n : Nx H B M H' B' M') : Hold C E H0 H' B' M' h := by
  cases h with
  | v d w => exact Rep.nx bl mb n _ _ x
  | o xs p =>
    obtain ⟨⟨vs, hp, r⟩, e, m, c, z⟩ := x
    exact ⟨⟨vs, n.keep p _ hp m, RepL.nx bl mb n _ _ r⟩, e, fun q => (n.m p q).elim m fun y => (by rw [hp] at y; cases y), c, z⟩
theorem Hold.up {E E' : AP'} {H0 H : Hp} {B M : AP'} {h : Hv} (x : Hold C E H0 H B M h) (e : ∀ a, E a → E' a) : Hold C E' H0 H B M h := by
  cases h with
  | v d w => exact x
  | o xs p => obtain ⟨y, g, m, c, z⟩ := x; exact ⟨y, e _ g, m, c, z⟩
/-- one more value -/
theorem hold_step {E : AP'} {H0 H : Hp} {B0 M0 B M : AP'} {σ : L2.St} {o : Bool} {x : Ex} {e1 : Env} {Q : V → Hp → Prop} {hs : List Hv} (s : Sim (C.at E) H B M σ env) (hE : ∀ a, C.B0 a → E a) (n : Nx H0 B0 M0 H B M) (hh : ∀ h ∈ hs, Hold C E H0 H B M h) (ev : evE C.F x env = some (d, e1)) (fits : o = true → ∃ xs, d = .lst xs)
    (k : ∀ h H1 B1 M1 E1, Sim (C.at E1) H1 B1 M1 σ e1 → (∀ a, C.B0 a → E1 a) → Nx H0 B0 M0 H1 B1 M1 → (∀ g ∈ hs, Hold C E1 H0 H1 B1 M1 g ∧ Apart g h) → Hold C E1 H0 H1 B1 M1 h → Fit o d h → Q h.w H1) : tX C o x σ H Q := by
  cases o with
  | false =>
    refine ⟨E, B, M, env, d, e1, s, ev, fun v H1 B1 M1 s1 r1 n1 => k (.v d v) H1 B1 M1 E s1 hE (n.trans n1) (fun g m => ⟨(hh g m).nx s.bl s.mb n1, by cases g <;> trivial⟩) r1 ⟨rfl, rfl⟩⟩
  | true =>
    obtain ⟨xs, rfl⟩ := fits rfl
    refine ⟨E, B, M, env, xs, e1, s, ev, fun p vs H1 B1 M1 s1 hp r1 nb mb lo h0 n1 => ?_⟩
    have nM : ¬ M1 p := fun z => nb (mb p z)
    have nE : ¬ E p := fun z => nb (lo p z)
    have s1' : Sim (C.at (ins p E)) H1 (ins p B1) M1 σ e1 := Sim.insB (C := C.at E) s1 nM
    have n1' := n1.insB h0
    refine k (.o xs p) H1 (ins p B1) M1 (ins p E) s1' (fun a z => .inr (hE a z)) (n.trans n1') (fun g m => ⟨((hh g m).nx s.bl s.mb n1').up fun a z => .inr z, ?_⟩) ⟨⟨vs, hp, r1⟩, .inl rfl, nM, fun z => nE (hE p z), n.al p h0⟩ ⟨rfl, rfl⟩
    have := hh g m
    cases g with
    | v _ _ => trivial
    | o ys q =>
      have this : _ ∧ E q ∧ _ := this
      exact fun e => nE (e ▸ this.2.1)
/-- a value that was held is stored -/
theorem hold_put {E : AP'} {H0 H : Hp} {B0 M0 B M : AP'} {σ : L2.St} {o : Bool} {h : Hv} {i : Nat} (s : Sim C H B M σ env) (hEB : ∀ a, E a → B a) (n : Nx H0 B0 M0 H B M) (x : Hold C E H0 H B M h) (f : Fit o d h) (g : putX o env i d = some env') :
    ∃ M', Sim C H B M' (σ.set i (some h.w)) env' ∧ Nx H0 B0 M0 H B M' ∧ ∀ y, Hold C E H0 H B M y → Apart h y → Hold C E H0 H B M' y := by
  cases h with
  | v d' w =>
    obtain ⟨rfl, rfl⟩ := f
    exact ⟨M, s.putVal g x, n, fun y z _ => z⟩
  | o xs p =>
    obtain ⟨rfl, rfl⟩ := f
    obtain ⟨⟨vs, hp, r⟩, e, m, c, z⟩ := x
    refine ⟨ins p M, putOwn2 s g hp (hEB p e) m c r, n.insM z, fun y hy ap => ?_⟩
    cases y with
    | v _ _ => exact hy
    | o ys q =>
      obtain ⟨y1, y2, y3, y4, y5⟩ := hy
      exact ⟨y1, y2, fun w => w.elim (fun e => ap e.symm) y3, y4, y5⟩
theorem putX_fit {o : Bool} {i : Nat} (g : putX o env i d = some env') : o = true → ∃ xs, d = .lst xs := by
  rintro rfl
  unfold putX at g
  cases d <;> first | exact ⟨_, rfl⟩ | cases g
theorem evS_par3o {fuel : Nat} {i j l : Nat} {oi oj ol : Bool} {a b c : Ex} {fl : Fl} (h : evS F fuel (.par3o i j l oi oj ol a b c) env = some (fl, env')) : ∃ x e1 y e2 z e3 e4 e5, evE F a env = some (x, e1) ∧ evE F b e1 = some (y, e2) ∧ evE F c e2 = some (z, e3) ∧ putX oi e3 i x = some e4 ∧ putX oj e4 j y = some e5 ∧ putX ol e5 l z = some env' ∧ fl = .nx := by
  rw [evS] at h
  obtain ⟨⟨x, e1⟩, g1, h⟩ := bind_some h
  obtain ⟨⟨y, e2⟩, g2, h⟩ := bind_some h
  obtain ⟨⟨z, e3⟩, g3, h⟩ := bind_some h
  obtain ⟨e4, g4, h⟩ := bind_some h
  obtain ⟨e5, g5, h⟩ := bind_some h
  obtain ⟨e6, g6, h⟩ := bind_some h
  cases h
  exact ⟨x, e1, y, e2, z, e3, e4, e5, g1, g2, g3, g4, g5, g6, rfl⟩
theorem par3o_imp {i j l : Nat} {oi oj ol : Bool} {a b c : Ex} {D : Ends} {σ : L2.St} {H : Hp} (h : tS C (.par3o i j l oi oj ol a b c) D σ H) : tPar3 i j l (tCons (tX C oi a) (tCons (tX C oj b) (tCons (tX C ol c) tNil))) D σ H := by
  obtain ⟨B, M, env, fl, env', s, ev, q⟩ := h
  obtain ⟨x, e1, y, e2, z, e3, e4, e5, g1, g2, g3, p1, p2, p3, rfl⟩ := evS_par3o ev
  refine hold_step (C := C) (E := C.B0) (hs := []) (H0 := H) (B0 := B) (M0 := M) s (fun _ z => z) (Nx.refl _ _ _) (fun _ m => by cases m) g1 (putX_fit p1) fun h1 H1 B1 M1 E1 s1 hE1 n1 _ d1 f1 => ?_
  refine hold_step (C := C) (E := E1) (hs := [h1]) s1 hE1 n1 (fun g m => by rw [List.mem_singleton.1 m]; exact d1) g2 (putX_fit p2) fun h2 H2 B2 M2 E2 s2 hE2 n2 a2 d2 f2 => ?_
  obtain ⟨d12, ap12⟩ := a2 h1 List.mem_cons_self
  refine hold_step (C := C) (E := E2) (hs := [h1, h2]) s2 hE2 n2 (fun g m => by
    rcases List.mem_cons.1 m with rfl | m
    · exact d12
    · rw [List.mem_singleton.1 m]; exact d2) g3 (putX_fit p3) fun h3 H3 B3 M3 E3 s3 hE3 n3 a3 d3 f3 => ?_
  obtain ⟨d13, ap13⟩ := a3 h1 List.mem_cons_self
  obtain ⟨d23, ap23⟩ := a3 h2 (List.mem_cons_of_mem _ List.mem_cons_self)
  refine ⟨h1.w, h2.w, h3.w, rfl, ?_⟩
  obtain ⟨M4, s4, n4, k4⟩ := hold_put (s3.downB hE3) s3.lo n3 d13 f1 p1
  obtain ⟨M5, s5, n5, k5⟩ := hold_put s4 s3.lo n4 (k4 _ d23 ap12) f2 p2
  obtain ⟨M6, s6, n6, _⟩ := hold_put s5 s3.lo n5 (k5 _ (k4 _ d3 ap13) ap23) f3 p3
  exact q _ H3 B3 M6 s6 n6
theorem q_par3o (xs : XS X C G lv N sc) {i j l : Nat} {oi oj ol : Bool} {x y z : PySem.Str} {px py pz tp vp pos : Pos} {k k2 : Nat} {a b c : Expr} {ea eb ec : Ex} (hi : N[i]? = some x) (hj : N[j]? = some y) (hl : N[l]? = some z) (hij : i ≠ j) (hil : i ≠ l) (hjl : j ≠ l) (hs : swS3 sc x y z px py pz a b c = true)
    (na : nst a = true) (nb : nst b = true) (nc : nst c = true) (ha : PE X a (tX C oi ea)) (hb : PE X b (tX C oj eb)) (hc : PE X c (tX C ol ec)) : PS X (.Assign [.Tuple [.Name x px, .Name y py, .Name z pz] k tp] (.Tuple [a, b, c] k2 vp) pos) (tS C (.par3o i j l oi oj ol ea eb ec)) := by
  have h := hs
  unfold swS3 at h
  simp only [Bool.and_eq_true] at h
  exact (ps_par3 xs.calm (xs.n ▸ xs.nd) (by rw [xs.n]; exact hi) (by rw [xs.n]; exact hj) (by rw [xs.n]; exact hl) hij hil hjl (xs.isL x h.1.1.1.1.1.1.1.1.1.1.1.1) (xs.isL y h.1.1.1.1.1.1.1.1.1.1.1.2) (xs.isL z h.1.1.1.1.1.1.1.1.1.1.2) (pa_cons ha (pa_cons hb (pa_cons hc pa_nil (star_cons nc)) (star_cons nb)) (star_cons na)) (swS3_ok xs hs) rfl).imp fun D σ H h => par3o_imp h
/-! ### loops -/
theorem q_whl (xs : XS X C G lv N sc) {c : Ex} {b : Sm} {ec : Expr} {sb : List Stmt} {pos : Pos} (hc : PT X ec (tT C c)) (hb : PSs X sb (tS C b)) : PS X (.While ec sb [] pos) (tS C (.whl c b)) := (ps_while xs.hp hc hb).imp fun D σ H h => by
  obtain ⟨B, M, env, fl, env', s, ev, q⟩ := h
  rw [evS] at ev
  refine ⟨fun m σ' H' => ∃ B' M' e', Sim C H' B' M' σ' e' ∧ Nx H B M H' B' M' ∧ whlN (fun e => evT C.F c e) (fun e => evS C.F C.fuel b e) m e' = some (fl, env'), ⟨C.fuel, B, M, env, s, Nx.refl _ _ _, ev⟩, ?_⟩
  rintro m σ1 H1 ⟨B1, M1, e1, s1, n1, w1⟩
  cases m with
  | zero => cases w1
  | succ m =>
    unfold whlN at w1
    obtain ⟨⟨k, e2⟩, g1, w1⟩ := bind_some w1
    refine ⟨B1, M1, e1, k, e2, s1, g1, fun H2 B2 M2 s2 n2 => ?_⟩
    cases k with
    | false =>
      cases w1
      exact q σ1 H2 B2 M2 s2 (n1.trans n2)
    | true =>
      obtain ⟨⟨f, e3⟩, g2, w1⟩ := bind_some w1
      refine ⟨fun σ' H' => ∃ B' M' e', Sim C H' B' M' σ' e' ∧ Nx H B M H' B' M' ∧ whlN (fun e => evT C.F c e) (fun e => evS C.F C.fuel b e) m e' = some (fl, env'), fun σ' H' h => ⟨m, Nat.lt_succ_self m, h⟩, B2, M2, e2, f, e3, s2, g2, ?_⟩
      cases f with
      | nx => exact fun σ3 H3 B3 M3 s3 n3 => ⟨B3, M3, e3, s3, (n1.trans n2).trans n3, w1⟩
      | ct => exact fun σ3 H3 B3 M3 s3 n3 => ⟨B3, M3, e3, s3, (n1.trans n2).trans n3, w1⟩
      | bk => cases w1; exact fun σ3 H3 B3 M3 s3 n3 => q σ3 H3 B3 M3 s3 ((n1.trans n2).trans n3)
      | rt d => cases w1; exact fun v σ3 H3 B3 M3 s3 r3 n3 => q v σ3 H3 B3 M3 s3 r3 ((n1.trans n2).trans n3)
theorem evS_for {fuel : Nat} {w : Wk} {src : Ex} {tg : Tg} {b : Sm} {fl : Fl} (h : evS F fuel (.for_ w src tg b) env = some (fl, env')) : ∃ xs e1 its, evL F src env = some (xs, e1) ∧ walk w xs = some its ∧ forL tg (fun e => evS F fuel b e) its e1 = some (fl, env') := by
  rw [evS] at h
  obtain ⟨⟨xs, e1⟩, g1, h⟩ := bind_some h
  obtain ⟨its, g2, h⟩ := bind_some h
  split at h
  · exact ⟨xs, e1, its, g1, g2, h⟩
  · cases h
theorem q_for (xs : XS X C G lv N sc) {w : Wk} {src : Ex} {tg : Tg} {b : Sm} {te it : Expr} {sb : List Stmt} {pos : Pos} (hi : PI X te it (tI C w src)) (hs : notSet it = true) (hg : PG X te (tG C tg)) (hb : PSs X sb (tS C b)) : PS X (.For te it sb [] pos) (tS C (.for_ w src tg b)) :=
  (ps_for xs.hp xs.calm hi hg hb (folded hs)).imp fun D σ H h => by
    obtain ⟨B, M, env, fl, env', s, ev, q⟩ := h
    obtain ⟨zs, e1, its, g1, g2, g3⟩ := evS_for ev
    refine ⟨B, M, env, zs, its, e1, s, g1, g2, fun J Gd H1 B1 M1 s1 wk k1 n1 => ?_⟩
    refine ⟨fun i m σ' H' => m = its.length - i ∧ i ≤ its.length ∧ ∃ B' M' e', Sim C H' B' M' σ' e' ∧ Gd H' B' ∧ Nx H B M H' B' M' ∧ forL tg (fun e => evS C.F C.fuel b e) (its.drop i) e' = some (fl, env'),
      ⟨its.length, rfl, Nat.zero_le _, B1, M1, e1, s1, k1, n1, g3⟩, ?_⟩
    rintro i m σ2 H2 ⟨rfl, hi, B2, M2, e2, s2, k2, n2, w2⟩
    by_cases hlt : i < its.length
    · rw [List.drop_eq_getElem_cons hlt] at w2
      unfold forL at w2
      obtain ⟨e3, g4, w2⟩ := bind_some w2
      obtain ⟨⟨f, e4⟩, g5, w2⟩ := bind_some w2
      refine .inr ⟨wk.go i H2 B2 k2 hlt, fun σ' H' => ∃ B' M' e', Sim C H' B' M' σ' e' ∧ Gd H' B' ∧ Nx H B M H' B' M' ∧ forL tg (fun e => evS C.F C.fuel b e) (its.drop (i + 1)) e' = some (fl, env'),
        fun σ' H' h => ⟨its.length - (i + 1), by omega, rfl, hlt, h⟩, fun v H3 hy => ?_⟩
      obtain ⟨al, rv⟩ := wk.yld i H2 B2 v H3 _ k2 s2.bl (List.getElem?_eq_getElem hlt) hy
      have s3 := s2.al al
      have n3 := n2.trans (al.nx (B := B2) (M := M2))
      have k3 : Gd H3 B2 := wk.stay H2 B2 M2 H3 B2 M2 s2.bl s2.mb k2 al.nx
      refine ⟨B2, M2, e2, e3, its[i], s3, rv, g4, fun σ4 s4 _ => ⟨B2, M2, e3, f, e4, s4, g5, ?_⟩⟩
      cases f with
      | nx => exact fun σ5 H5 B5 M5 s5 n5 => ⟨B5, M5, e4, s5, wk.stay H3 B2 M2 H5 B5 M5 s4.bl s4.mb k3 n5, n3.trans n5, w2⟩
      | ct => exact fun σ5 H5 B5 M5 s5 n5 => ⟨B5, M5, e4, s5, wk.stay H3 B2 M2 H5 B5 M5 s4.bl s4.mb k3 n5, n3.trans n5, w2⟩
      | bk => cases w2; exact fun σ5 H5 B5 M5 s5 n5 => q σ5 H5 B5 M5 s5 (n3.trans n5)
      | rt d => cases w2; exact fun v σ5 H5 B5 M5 s5 r5 n5 => q v σ5 H5 B5 M5 s5 r5 (n3.trans n5)
    · have e : i = its.length := by omega
      subst e
      rw [List.drop_length] at w2
      cases w2
      exact .inl ⟨wk.stop _ H2 B2 k2 (Nat.le_refl _), q σ2 H2 B2 M2 s2 n2⟩
end Mn
namespace Mn
open PySem L2 RZ
variable {C : Ctx} {X : Cx} {F : FT} {env env' : Env} {d : D} {G : GS} {lv : Nat} {N : List PySem.Str} {sc : Scope}
def isNew : Ex → Bool | .lst _ => true | .comp _ _ _ _ _ _ => true | .bin .add _ _ => true | .blt .list _ => true | _ => false
def isComp : Ex → Bool | .comp _ _ _ _ _ _ => true | _ => false
def notComp : Expr → Bool | .ListComp .. => false | .SetComp .. => false | .DictComp .. => false | _ => true
def ckX (G : GS) (N : List PySem.Str) (sc : Scope) (o : Bool) (x : Ex) (e : Expr) : Bool := (!o || isNew x) && ckE G N sc x e
def ckAs (G : GS) (N : List PySem.Str) (sc : Scope) (i : Nat) (y : PySem.Str) (py : Pos) (x : Ex) (e : Expr) : Bool :=
  decide (N[i]? = some y) && loc sc y && (match swp sc y py e with | some false => true | some true => isComp x | none => false) && ckE G N sc x e
mutual
def ckS (G : GS) (N : List PySem.Str) (sc : Scope) : Sm → Stmt → Bool
  | .asg i x, .Assign [.Name y py] e _ => ckAs G N sc i y py x e
  | .own i x, .Assign [.Name y py] e _ => ckAs G N sc i y py x e && isNew x
  | .unp is x, .Assign [.Tuple es _ _] e _ => ckTgN N sc is es && ckU sc es e && ckE G N sc x e
  | .unt a b x, .Assign [.Tuple es k tp] e _ => ckTg N sc (.two a b) (.Tuple es k tp) && ckV es e && ckE G N sc x e
  | .par i j oi oj a b, .Assign [.Tuple [.Name x px, .Name y py] _ _] (.Tuple [ea, eb] _ _) _ => decide (N[i]? = some x) && decide (N[j]? = some y) && decide (i ≠ j) && swS sc x y px py ea eb && nst ea && nst eb && ckX G N sc oi a ea && ckX G N sc oj b eb
  | .par3 i j l es, .Assign [.Tuple [.Name x px, .Name y py, .Name z pz] _ _] (.Tuple [ea, eb, ec] _ _) _ => decide (N[i]? = some x) && decide (N[j]? = some y) && decide (N[l]? = some z) && decide (i ≠ j) && decide (i ≠ l) && decide (j ≠ l) && swS3 sc x y z px py pz ea eb ec && ckL G N sc es [ea, eb, ec]
  | .par3o i j l oi oj ol a b c, .Assign [.Tuple [.Name x px, .Name y py, .Name z pz] _ _] (.Tuple [ea, eb, ec] _ _) _ => decide (N[i]? = some x) && decide (N[j]? = some y) && decide (N[l]? = some z) && decide (i ≠ j) && decide (i ≠ l) && decide (j ≠ l) && swS3 sc x y z px py pz ea eb ec && nst ea && nst eb && nst ec && ckX G N sc oi a ea && ckX G N sc oj b eb && ckX G N sc ol c ec
  | .app i x, .Expr (.Call (.Attribute (.Name y _) m ap) [e] [] cp) _ => decide (m = ("append" : PySem.Str)) && nm N sc i y && nst e && (ap.endLine == cp.line) && ckE G N sc x e
  | .seti i k x, .Assign [.Subscript (.Name y _) ek _] e _ => nm N sc i y && notSl ek && notTC e && ckE G N sc x e && ckE G N sc k ek
  | .ret x, .Return (some e) _ => ckE G N sc x e
  | .retn, .Return none _ => true
  | .iff c t u, .If ec st su _ => ckT G N sc c ec && ckSs G N sc t st && ckSs G N sc u su
  | .whl c b, .While ec sb [] _ => ckT G N sc c ec && ckSs G N sc b sb
  | .for_ w src tg b, .For te it sb [] _ => ckI G N sc w src it te && ckTg N sc tg te && ckSs G N sc b sb
  | .brk, .Break _ => true
  | .cnt, .Continue _ => true
  | .pas, .Pass _ => true
  | .pas, .Expr (.Constant (.str _) _ _) _ => true
  | .exp x, .Expr e _ => notComp e && ckE G N sc x e
  | .never, _ => true
  | _, _ => false
def ckSs (G : GS) (N : List PySem.Str) (sc : Scope) : Sm → List Stmt → Bool
  | .nil, [] => true
  | .seq s r, st :: sts => ckS G N sc s st && ckSs G N sc r sts
  | _, _ => false
end
theorem new_e {x : Ex} (h : isNew x = true) (xo : XOk X C G lv N sc) {ex : Expr} (hc : ckE G N sc x ex = true) : PE X ex (tN C x) := by
  refine (snd_all x).n xo ?_ hc
  cases x <;> first | rfl | (cases h; done) | (rename_i o a b; cases o <;> first | rfl | cases h) | (rename_i o a; cases o <;> first | rfl | cases h)
theorem ckX_ok (xo : XOk X C G lv N sc) {o : Bool} {x : Ex} {e : Expr} (h : ckX G N sc o x e = true) : PE X e (tX C o x) := by
  unfold ckX at h
  rw [Bool.and_eq_true] at h
  cases o with
  | true => exact pe_NB fun B0 => new_e (by simpa using h.1) xo.at h.2
  | false => exact pe_B fun B0 => (snd_all x).e xo.at h.2
theorem q_asgA (xs : XS X C G lv N sc) {i : Nat} {x : Ex} {y : PySem.Str} {py pos : Pos} {e : Expr} (h : ckAs G N sc i y py x e = true) : PS X (.Assign [.Name y py] e pos) (tS C (.asg i x)) := by
  unfold ckAs at h
  simp only [Bool.and_eq_true, decide_eq_true_eq] at h
  obtain ⟨⟨⟨h1, h2⟩, h3⟩, h4⟩ := h
  split at h3
  · exact q_asg xs h1 h2 (by assumption) ((snd_all x).e xs.toXOk h4)
  · cases x <;> first | (cases h3; done) | skip
    exact (q_setLc xs h1 (by assumption) h4).imp fun D σ H h => asgN_imp (fun _ _ _ h => ev_comp_is h) (asg_imp h)
  · cases h3
theorem q_ownA (xs : XS X C G lv N sc) {i : Nat} {x : Ex} {y : PySem.Str} {py pos : Pos} {e : Expr} (h : ckAs G N sc i y py x e = true) (hn : isNew x = true) : PS X (.Assign [.Name y py] e pos) (tS C (.own i x)) := by
  unfold ckAs at h
  simp only [Bool.and_eq_true, decide_eq_true_eq] at h
  obtain ⟨⟨⟨h1, h2⟩, h3⟩, h4⟩ := h
  split at h3
  · exact q_own xs h1 h2 (by assumption) (new_e hn xs.toXOk h4)
  · cases x <;> first | (cases h3; done) | skip
    exact (q_setLc xs h1 (by assumption) h4).imp fun D σ H h => own_imp h
  · cases h3
structure SndS (x : Sm) : Prop where
  s : ∀ {C : Ctx} {X : Cx} {G : GS} {lv : Nat} {N : List PySem.Str} {sc : Scope} (_ : XS X C G lv N sc) {st : Stmt}, ckS G N sc x st = true → PS X st (tS C x)
  l : ∀ {C : Ctx} {X : Cx} {G : GS} {lv : Nat} {N : List PySem.Str} {sc : Scope} (_ : XS X C G lv N sc) {st : List Stmt}, ckSs G N sc x st = true → PSs X st (tS C x)
theorem sndS_all : ∀ x : Sm, SndS x := by
  intro x
  induction x with
  | nil =>
    refine ⟨?_, ?_⟩
    · intro C X G lv N sc xs st h; unfold ckS at h; first | (cases h; done) | (split at h <;> first | (cases h; done) | (rename_i hq; cases hq; done) | (rename_i hq _; cases hq; done))
    · intro C X G lv N sc xs st h; cases st with | nil => exact q_nil | cons _ _ => (rw [ckSs] at h <;> first | (cases h; done) | (intros; contradiction))
  | seq s r ihs ihr =>
    refine ⟨?_, ?_⟩
    · intro C X G lv N sc xs st h; unfold ckS at h; first | (cases h; done) | (split at h <;> first | (cases h; done) | (rename_i hq; cases hq; done) | (rename_i hq _; cases hq; done))
    · intro C X G lv N sc xs st h; cases st with
      | nil => (rw [ckSs] at h <;> first | (cases h; done) | (intros; contradiction))
      | cons y ys =>
        rw [ckSs] at h
        rw [Bool.and_eq_true] at h
        exact q_seq (ihs.s xs h.1) (ihr.l xs h.2)
  | asg i x =>
    refine ⟨?_, ?_⟩
    · intro C X G lv N sc xs st h; unfold ckS at h; first | (cases h; done) | skip
      split at h <;> first | (cases h; done) | (rename_i hq; cases hq; done) | (rename_i hq _; cases hq; done) | skip
      rename_i hq; cases hq
      exact q_asgA xs h
    · intro C X G lv N sc xs st h; rw [ckSs] at h <;> first | (cases h; done) | (intros; contradiction)
  | own i x =>
    refine ⟨?_, ?_⟩
    · intro C X G lv N sc xs st h; unfold ckS at h; first | (cases h; done) | skip
      split at h <;> first | (cases h; done) | (rename_i hq; cases hq; done) | (rename_i hq _; cases hq; done) | skip
      rename_i hq; cases hq
      rw [Bool.and_eq_true] at h
      exact q_ownA xs h.1 h.2
    · intro C X G lv N sc xs st h; rw [ckSs] at h <;> first | (cases h; done) | (intros; contradiction)
  | unp is x =>
    refine ⟨?_, ?_⟩
    · intro C X G lv N sc xs st h; unfold ckS at h; first | (cases h; done) | skip
      split at h <;> first | (cases h; done) | (rename_i hq; cases hq; done) | (rename_i hq _; cases hq; done) | skip
      rename_i hq; cases hq
      simp only [Bool.and_eq_true, decide_eq_true_eq] at h
      exact q_unp xs h.1.1 h.1.2 ((snd_all x).e xs.toXOk h.2)
    · intro C X G lv N sc xs st h; rw [ckSs] at h <;> first | (cases h; done) | (intros; contradiction)
  | unt a b x =>
    refine ⟨?_, ?_⟩
    · intro C X G lv N sc xs st h; unfold ckS at h; first | (cases h; done) | skip
      split at h <;> first | (cases h; done) | (rename_i hq; cases hq; done) | (rename_i hq _; cases hq; done) | skip
      rename_i hq; cases hq
      simp only [Bool.and_eq_true] at h
      exact q_unt xs h.1.1 h.1.2 ((snd_all x).e xs.toXOk h.2)
    · intro C X G lv N sc xs st h; rw [ckSs] at h <;> first | (cases h; done) | (intros; contradiction)
  | par i j oi oj a b =>
    refine ⟨?_, ?_⟩
    · intro C X G lv N sc xs st h; unfold ckS at h; first | (cases h; done) | skip
      split at h <;> first | (cases h; done) | (rename_i hq; cases hq; done) | (rename_i hq _; cases hq; done) | skip
      rename_i hq; cases hq
      simp only [Bool.and_eq_true, decide_eq_true_eq] at h
      obtain ⟨⟨⟨⟨⟨⟨⟨h1, h2⟩, h3⟩, h4⟩, h5⟩, h6⟩, h7⟩, h8⟩ := h
      exact q_par xs h1 h2 h3 h4 h5 h6 (ckX_ok xs.toXOk h7) (ckX_ok xs.toXOk h8)
    · intro C X G lv N sc xs st h; rw [ckSs] at h <;> first | (cases h; done) | (intros; contradiction)
  | par3 i j l es =>
    refine ⟨?_, ?_⟩
    · intro C X G lv N sc xs st h; unfold ckS at h; first | (cases h; done) | skip
      split at h <;> first | (cases h; done) | (rename_i hq; cases hq; done) | (rename_i hq _; cases hq; done) | skip
      rename_i hq; cases hq
      simp only [Bool.and_eq_true, decide_eq_true_eq] at h
      obtain ⟨⟨⟨⟨⟨⟨⟨h1, h2⟩, h3⟩, h4⟩, h5⟩, h6⟩, h7⟩, h8⟩ := h
      exact q_par3 xs h1 h2 h3 h4 h5 h6 h7 ((snd_all es).l xs.toXOk h8)
    · intro C X G lv N sc xs st h; rw [ckSs] at h <;> first | (cases h; done) | (intros; contradiction)
  | par3o i j l oi oj ol a b c =>
    refine ⟨?_, ?_⟩
    · intro C X G lv N sc xs st h; unfold ckS at h; first | (cases h; done) | skip
      split at h <;> first | (cases h; done) | (rename_i hq; cases hq; done) | (rename_i hq _; cases hq; done) | skip
      rename_i hq; cases hq
      simp only [Bool.and_eq_true, decide_eq_true_eq] at h
      obtain ⟨⟨⟨⟨⟨⟨⟨⟨⟨⟨⟨⟨h1, h2⟩, h3⟩, h4⟩, h5⟩, h6⟩, h7⟩, n1⟩, n2⟩, n3⟩, c1⟩, c2⟩, c3⟩ := h
      exact q_par3o xs h1 h2 h3 h4 h5 h6 h7 n1 n2 n3 (ckX_ok xs.toXOk c1) (ckX_ok xs.toXOk c2) (ckX_ok xs.toXOk c3)
    · intro C X G lv N sc xs st h; rw [ckSs] at h <;> first | (cases h; done) | (intros; contradiction)
  | app i x =>
    refine ⟨?_, ?_⟩
    · intro C X G lv N sc xs st h; unfold ckS at h; first | (cases h; done) | skip
      split at h <;> first | (cases h; done) | (rename_i hq; cases hq; done) | (rename_i hq _; cases hq; done) | skip
      rename_i hq; cases hq
      simp only [Bool.and_eq_true, decide_eq_true_eq] at h
      obtain ⟨⟨⟨⟨rfl, h2⟩, h3⟩, h4⟩, h5⟩ := h
      obtain ⟨g1, g2, g3, g4⟩ := nmOk xs.toXOk h2
      exact q_app xs g1 g2 g3 g4 h3 h4 ((snd_all x).e xs.toXOk h5)
    · intro C X G lv N sc xs st h; rw [ckSs] at h <;> first | (cases h; done) | (intros; contradiction)
  | seti i k x =>
    refine ⟨?_, ?_⟩
    · intro C X G lv N sc xs st h; unfold ckS at h; first | (cases h; done) | skip
      split at h <;> first | (cases h; done) | (rename_i hq; cases hq; done) | (rename_i hq _; cases hq; done) | skip
      rename_i hq; cases hq
      simp only [Bool.and_eq_true, decide_eq_true_eq] at h
      obtain ⟨⟨⟨⟨h1, h2⟩, h3⟩, h4⟩, h5⟩ := h
      obtain ⟨g1, g2, g3, g4⟩ := nmOk xs.toXOk h1
      exact q_seti xs g1 g2 g3 g4 h2 h3 ((snd_all x).e xs.toXOk h4) ((snd_all k).e xs.toXOk h5)
    · intro C X G lv N sc xs st h; rw [ckSs] at h <;> first | (cases h; done) | (intros; contradiction)
  | ret x =>
    refine ⟨?_, ?_⟩
    · intro C X G lv N sc xs st h; unfold ckS at h; first | (cases h; done) | skip
      split at h <;> first | (cases h; done) | (rename_i hq; cases hq; done) | (rename_i hq _; cases hq; done) | skip
      rename_i hq; cases hq
      exact q_ret ((snd_all x).e xs.toXOk h)
    · intro C X G lv N sc xs st h; rw [ckSs] at h <;> first | (cases h; done) | (intros; contradiction)
  | retn =>
    refine ⟨?_, ?_⟩
    · intro C X G lv N sc xs st h; unfold ckS at h; first | (cases h; done) | skip
      split at h <;> first | (cases h; done) | (rename_i hq; cases hq; done) | (rename_i hq _; cases hq; done) | skip
      rename_i hq; cases hq
      exact q_retn
    · intro C X G lv N sc xs st h; rw [ckSs] at h <;> first | (cases h; done) | (intros; contradiction)
  | iff c t u iht ihu =>
    refine ⟨?_, ?_⟩
    · intro C X G lv N sc xs st h; unfold ckS at h; first | (cases h; done) | skip
      split at h <;> first | (cases h; done) | (rename_i hq; cases hq; done) | (rename_i hq _; cases hq; done) | skip
      rename_i hq; cases hq
      simp only [Bool.and_eq_true, decide_eq_true_eq] at h
      exact q_if ((snd_all c).t xs.toXOk h.1.1) (iht.l xs h.1.2) (ihu.l xs h.2)
    · intro C X G lv N sc xs st h; rw [ckSs] at h <;> first | (cases h; done) | (intros; contradiction)
  | whl c b ihb =>
    refine ⟨?_, ?_⟩
    · intro C X G lv N sc xs st h; unfold ckS at h; first | (cases h; done) | skip
      split at h <;> first | (cases h; done) | (rename_i hq; cases hq; done) | (rename_i hq _; cases hq; done) | skip
      rename_i hq; cases hq
      simp only [Bool.and_eq_true, decide_eq_true_eq] at h
      exact q_whl xs ((snd_all c).t xs.toXOk h.1) (ihb.l xs h.2)
    · intro C X G lv N sc xs st h; rw [ckSs] at h <;> first | (cases h; done) | (intros; contradiction)
  | for_ w src tg b ihb =>
    refine ⟨?_, ?_⟩
    · intro C X G lv N sc xs st h; unfold ckS at h; first | (cases h; done) | skip
      split at h <;> first | (cases h; done) | (rename_i hq; cases hq; done) | (rename_i hq _; cases hq; done) | skip
      rename_i hq; cases hq
      simp only [Bool.and_eq_true, decide_eq_true_eq] at h
      obtain ⟨g1, g2⟩ := (snd_all src).i xs.toXOk h.1.1
      exact q_for xs g1 g2 (r_tg xs.toXOk h.1.2) (ihb.l xs h.2)
    · intro C X G lv N sc xs st h; rw [ckSs] at h <;> first | (cases h; done) | (intros; contradiction)
  | brk =>
    refine ⟨?_, ?_⟩
    · intro C X G lv N sc xs st h; unfold ckS at h; first | (cases h; done) | skip
      split at h <;> first | (cases h; done) | (rename_i hq; cases hq; done) | (rename_i hq _; cases hq; done) | skip
      rename_i hq; cases hq
      exact q_brk
    · intro C X G lv N sc xs st h; rw [ckSs] at h <;> first | (cases h; done) | (intros; contradiction)
  | cnt =>
    refine ⟨?_, ?_⟩
    · intro C X G lv N sc xs st h; unfold ckS at h; first | (cases h; done) | skip
      split at h <;> first | (cases h; done) | (rename_i hq; cases hq; done) | (rename_i hq _; cases hq; done) | skip
      rename_i hq; cases hq
      exact q_cnt
    · intro C X G lv N sc xs st h; rw [ckSs] at h <;> first | (cases h; done) | (intros; contradiction)
  | pas =>
    refine ⟨?_, ?_⟩
    · intro C X G lv N sc xs st h; unfold ckS at h; split at h <;> first | (cases h; done) | (rename_i hq; cases hq; done) | (rename_i hq _; cases hq; done) | exact q_pas | exact q_doc
    · intro C X G lv N sc xs st h; rw [ckSs] at h <;> first | (cases h; done) | (intros; contradiction)
  | exp x =>
    refine ⟨?_, ?_⟩
    · intro C X G lv N sc xs st h; unfold ckS at h; split at h <;> first | (cases h; done) | (rename_i hq; cases hq; done) | (rename_i hq _; cases hq; done) | skip
      rename_i hq; cases hq
      rw [Bool.and_eq_true] at h
      refine q_exp ?_ ((snd_all x).e xs.toXOk h.2)
      rename_i e _
      cases e <;> first | rfl | cases h.1
    · intro C X G lv N sc xs st h; rw [ckSs] at h <;> first | (cases h; done) | (intros; contradiction)
  | never =>
    refine ⟨?_, ?_⟩
    · intro C X G lv N sc xs st h; exact q_never
    · intro C X G lv N sc xs st h; rw [ckSs] at h <;> first | (cases h; done) | (intros; contradiction)
  | sset f x =>
    refine ⟨?_, ?_⟩
    · intro C X G lv N sc xs st h; unfold ckS at h; first | (cases h; done) | (split at h <;> first | (cases h; done) | (rename_i hq; cases hq; done) | (rename_i hq _; cases hq; done))
    · intro C X G lv N sc xs st h; rw [ckSs] at h <;> first | (cases h; done) | (intros; contradiction)
end Mn
/-! an object's making: __init__, its statements one by one -/
namespace Mn
open PySem L2 RZ
variable {C : Ctx} {X : Cx} {env env' : Env} {G : GS} {lv : Nat} {N : List PySem.Str} {sc : Scope}
def mkC (C : Ctx) (p Cc dx : Addr) (ks : List PySem.Str) (xs : List D) (vs : List V) : Ctx :=
  { C with F := sfF C.F ks xs, K0 := fun a => if a = p then some (Cc, dx, ks.zip vs) else none, X0 := xs.zip vs }
theorem fld_zip : ∀ {ks : List PySem.Str} {xs : List D} {vs : List V} {f : PySem.Str} {d : D}, vs.length = xs.length → fldD ks xs f = some d → ∃ v, (ks.zip vs).lookup f = some v ∧ (d, v) ∈ xs.zip vs
  | [], _, _, _, _, _, h => by cases h
  | _ :: _, [], _, _, _, _, h => by cases h
  | k :: ks, x :: xs, [], f, d, l, h => by simp at l
  | k :: ks, x :: xs, v :: vs, f, d, l, h => by
    unfold fldD at h
    by_cases e : k = f
    · subst e
      rw [if_pos rfl] at h; cases h
      exact ⟨v, by simp, by simp⟩
    · rw [if_neg e] at h
      obtain ⟨w, h1, h2⟩ := fld_zip (vs := vs) (by simpa using l) h
      refine ⟨w, ?_, by rw [List.zip_cons_cons]; exact List.mem_cons_of_mem _ h2⟩
      rw [List.zip_cons_cons, List.lookup_cons]
      have : (f == k) = false := by simpa using fun z => e z.symm
      rw [this]
      exact h1
/-- no name of the text is the empty one -/
def noE (G : GS) : Bool := (G.fn.lookup ("" : PySem.Str)).isNone && (G.nw.lookup ("" : PySem.Str)).isNone && (G.mt.lookup ("" : PySem.Str)).isNone && (G.mks.lookup ("" : PySem.Str)).isNone && decide (("" : PySem.Str) ∉ G.co)
theorem sfF_ne {F : FT} {ks : List PySem.Str} {xs : List D} {n : PySem.Str} {ss : List Sl} (h : n ≠ "") : sfF F ks xs n ss = F n ss := by
  unfold sfF; rw [if_neg h]
theorem spF_sf {K : PySem.W.Frag} {F : FT} {ks : List PySem.Str} {xs : List D} {f : PySem.Str} {n : Nat} (h : f ≠ "") : spF K (sfF F ks xs) f n = spF K F f n := by
  unfold spF
  simp only [sfF_ne h]
theorem spN_sf {K : PySem.W.Frag} {F : FT} {ks : List PySem.Str} {xs : List D} {f : PySem.Str} {n : Nat} (h : f ≠ "") : spN K (sfF F ks xs) f n = spN K F f n := by
  unfold spN
  simp only [sfF_ne h]
theorem spM_sf {K : PySem.W.Frag} {F : FT} {ks : List PySem.Str} {xs : List D} {f : PySem.Str} {n : Nat} (h : f ≠ "") : spM K (sfF F ks xs) f n = spM K F f n := by
  unfold spM
  simp only [sfF_ne h]
theorem xs_mk {p Cc dx : Addr} {c : PySem.Str} {fl ks : List PySem.Str} {xs : List D} {vs : List V} (x : XS X C G lv N sc) (ne : noE G = true) (hcl : ∀ f ∈ fl, (c, f) ∈ G.ca) (hn : PySem.W.nsIn X.K mainGlobals c = some (some (.ref Cc))) (hP : C.P 0 = some p) (hl : vs.length = xs.length) :
    XS X (mkC C p Cc dx ks xs vs) { G with slf := some fl } lv N sc := by
  unfold noE at ne
  simp only [Bool.and_eq_true, decide_eq_true_eq, Option.isNone_iff_eq_none] at ne
  obtain ⟨⟨⟨⟨n1, n2⟩, n3⟩, n4⟩, n5⟩ := ne
  refine { n := x.n, nd := x.nd, calm := x.calm, K := x.K, kind := x.kind, vis := x.vis, loc := x.loc, isL := x.isL, cf := x.cf, gl := x.gl, room := x.room, qt := x.qt, bl := x.bl, mf := x.mf, fn := ?_, nw := ?_, co := ?_, ca := x.ca, mt := ?_, mkr := ?_, sf := ?_, sce := x.sce, hp := x.hp }
  · intro f n kf h
    have hf : f ≠ "" := fun e => by subst e; rw [n1] at h; cases h
    obtain ⟨fa, fd, ps, h1, h2, h3, h4⟩ := (x.fn f n kf h).ex
    exact ⟨fa, fd, ps, h1, h2, by show FnG _ _ _ _ _ _ _ _ _ (spF X.K (sfF C.F ks xs) f n); rw [spF_sf hf]; exact h3, h4⟩
  · intro f n h
    have hf : f ≠ "" := fun e => by subst e; rw [n2] at h; cases h
    obtain ⟨fa, fd, ps, h1, h2, h3, h4⟩ := (x.nw f n h).ex
    exact ⟨fa, fd, ps, h1, h2, by show FnG _ _ _ _ _ _ _ _ _ (spN X.K (sfF C.F ks xs) f n); rw [spN_sf hf]; exact h3, h4⟩
  · intro y hy d o e
    have hf : y ≠ "" := fun z => by subst z; exact n5 hy
    exact x.co y hy d o (by rw [← e]; exact (sfF_ne (ks := ks) (xs := xs) hf).symm)
  · intro g n c' m h
    have hf : g ≠ "" := fun e => by subst e; rw [n3] at h; cases h
    obtain ⟨Cx', fa, fd, ps, k, h1, h2, h3, h4, h5⟩ := (x.mt g n c' m h).ex
    exact ⟨Cx', fa, fd, ps, k, h1, h2, h3, by show FnG _ _ _ _ _ _ _ _ _ (spF X.K (sfF C.F ks xs) g n); rw [spF_sf hf]; exact h4, h5⟩
  · intro c' n h
    have hf : c' ≠ "" := fun e => by subst e; rw [n4] at h; cases h
    obtain ⟨Cx', fa, fd, ps, k, h1, h2, h3, h4, h5⟩ := (x.mkr c' n h).ex
    exact ⟨Cx', fa, fd, ps, k, h1, h2, h3, by show FnG _ _ _ _ _ _ _ _ _ (spM X.K (sfF C.F ks xs) c' n); rw [spM_sf hf]; exact h4, h5⟩
  · intro fl' hfl f hf d o e
    cases hfl
    have e' : (fldD ks xs f).map (fun d => (d, ([] : List (List D)))) = some (d, o) := e
    rw [Option.map_eq_some_iff] at e'
    obtain ⟨d', e1, e2⟩ := e'
    cases e2
    obtain ⟨v, h1, h2⟩ := fld_zip hl e1
    obtain ⟨Cc', hn', cl, na⟩ := x.ca _ (hcl f hf)
    have hCC : Cc' = Cc := by
      have := hn'.symm.trans hn
      simpa using this
    subst hCC
    exact ⟨p, Cc', dx, ks.zip vs, v, hP, if_pos rfl, cl, na, h1, h2⟩
/-- a field is set -/
theorem putF_new {f : PySem.Str} {v : V} : ∀ {ks : List PySem.Str} {vs : List V}, f ∉ ks → ks.length = vs.length → putF f v (ks.zip vs) = (ks ++ [f]).zip (vs ++ [v])
  | [], [], _, _ => rfl
  | [], _ :: _, _, h => by simp at h
  | _ :: _, [], _, h => by simp at h
  | k :: ks, w :: vs, h, l => by
    simp only [List.mem_cons, not_or] at h
    show (if k = f then (k, v) :: ks.zip vs else (k, w) :: putF f v (ks.zip vs)) = _
    rw [if_neg (fun e => h.1 e.symm), putF_new h.2 (by simpa using l)]
    rfl
theorem Sim.mkset {p Cc dx : Addr} {ks : List PySem.Str} {xs : List D} {vs : List V} {H : Hp} {B M : AP'} {σ : L2.St} {f : PySem.Str} {d : D} {v : V} (s : Sim (mkC C p Cc dx ks xs vs) H B M σ env) (hB : B p) (hl : vs.length = xs.length) (r : Rep C.K H B d v) :
    Sim (mkC C p Cc dx (ks ++ [f]) (xs ++ [d]) (vs ++ [v])) (upd H p (.ins Cc dx ((ks ++ [f]).zip (vs ++ [v])))) B M σ env := by
  have k0 := s.kp p (Cc, dx, ks.zip vs) (if_pos rfl)
  have tn : Nx H B (fun a => a = p) (upd H p (.ins Cc dx ((ks ++ [f]).zip (vs ++ [v])))) B (fun a => a = p) :=
    ⟨fun a o h nm => by rw [upd_ne (show a ≠ p from nm)]; exact h, fun _ h => .inl h, fun _ h => .inl h, fun a h => upd_none h⟩
  have bM : ∀ a, a = p → B a := fun a e => by rw [e]; exact hB
  have nx : ∀ {d' : D} {v' : V}, Rep C.K H B d' v' → Rep C.K (upd H p (.ins Cc dx ((ks ++ [f]).zip (vs ++ [v])))) B d' v' := fun {d' v'} r => Rep.nx s.bl bM tn d' v' r
  have nxl : ∀ {d' : List D} {v' : List V}, RepL C.K H B d' v' → RepL C.K (upd H p (.ins Cc dx ((ks ++ [f]).zip (vs ++ [v])))) B d' v' := fun {d' v'} r => RepL.nx s.bl bM tn d' v' r
  have ne : ∀ {a : Addr}, M a → a ≠ p := fun m e => k0.2 (e ▸ m)
  refine ⟨s.len, fun a h => ?_, s.mb, s.lo, fun i d h => let ⟨v, e, r⟩ := s.val i d h; ⟨v, e, nx r⟩, fun i xs h => ?_, fun i xs h => ?_, s.inj, fun a o h => ?_, fun d' v' h => ?_, s.sl⟩
  · by_cases e : a = p
    · subst e; exact ⟨.i Cc dx _, upd_same⟩
    · rw [upd_ne e]; exact s.bl a h
  · obtain ⟨a, vs, e, q, r, m, n⟩ := s.own i xs h
    exact ⟨a, vs, e, by rw [upd_ne (ne m)]; exact q, nxl r, m, n⟩
  · obtain ⟨a, vs, p', e, q, r, m⟩ := s.par i xs h
    exact ⟨a, vs, p', e, by rw [upd_ne (ne m)]; exact q, nxl r, m⟩
  · have h : (if a = p then some (Cc, dx, (ks ++ [f]).zip (vs ++ [v])) else none) = some o := h
    by_cases e : a = p
    · rw [if_pos e] at h; cases h
      exact ⟨by rw [e, upd_same], by rw [e]; exact k0.2⟩
    · rw [if_neg e] at h; cases h
  · have h : (d', v') ∈ (xs ++ [d]).zip (vs ++ [v]) := h
    rw [List.zip_append hl.symm] at h
    rcases List.mem_append.1 h with h | h
    · exact nx (s.ex d' v' h)
    · simp at h
      obtain ⟨rfl, rfl⟩ := h
      exact nx r
def ckM (c : PySem.Str) (fl : List PySem.Str) (G : GS) (N : List PySem.Str) (sc : Scope) : Sm → List Stmt → Bool
  | .nil, [] => true
  | .seq (.sset f e) r, .Assign [.Attribute (.Name x _) g _] v _ :: rest => decide (f = g) && nm N sc 0 x && decide ((c, f) ∈ G.ca) && notTC v && ckE { G with slf := some fl } N sc e v && ckM c fl G N sc r rest
  | .seq (.sset _ _) _, _ => false
  | .seq s r, st :: rest => ckS { G with slf := some fl } N sc s st && ckM c fl G N sc r rest
  | _, _ => false
/-- the reading of what is left of a making -/
def tM (C : Ctx) (p Cc dx : Addr) (its : Sm) : TS := fun D σ H => ∃ (ks : List PySem.Str) (xs : List Mn.D) (vs : List V) (B M : AP') (env : Env) (ks' : List PySem.Str) (xs' : List Mn.D) (H0 : Hp), Sim (mkC C p Cc dx ks xs vs) H B M σ env ∧ vs.length = xs.length ∧ ks.length = xs.length ∧ ks'.length < 900 ∧ evM C.F C.fuel its env ks xs = some (ks', xs') ∧
  (∀ a o, H0 a = some o → a ≠ p → H a = some o) ∧ (∀ a, H a = none → H0 a = none) ∧ (∀ a, M a → H0 a = none) ∧
  ∀ σ' H' us, H' p = some (.ins Cc dx (ks'.zip us)) → us.length = xs'.length → ks'.length = xs'.length → RepL C.K H' C.B0 xs' us → (∀ a o, H0 a = some o → a ≠ p → H' a = some o) → (∀ a, H' a = none → H0 a = none) → D.nx σ' H'
/-- a statement under any of a family of readings -/
theorem ps_ex {ι : Type} {st : Stmt} {t : ι → TS} (h : ∀ i, PS X st (t i)) : PS X st (fun D σ H => ∃ i, t i D σ H) :=
  ⟨fun pins s σ H D I ⟨i, q⟩ => (h i).run pins s σ H D I q⟩
theorem ps_when {st : Stmt} {t : TS} {p : Prop} (h : p → PS X st t) : PS X st (fun D σ H => p ∧ t D σ H) :=
  ⟨fun pins s σ H D I ⟨i, q⟩ => (h i).run pins s σ H D I q⟩
theorem repl_zip {K : PySem.W.Frag} {H : Hp} {B : AP'} : ∀ {xs : List D} {vs : List V}, vs.length = xs.length → (∀ d v, (d, v) ∈ xs.zip vs → Rep K H B d v) → RepL K H B xs vs
  | [], [], _, _ => rfl
  | [], _ :: _, l, _ => by simp at l
  | _ :: _, [], l, _ => by simp at l
  | x :: xs, v :: vs, l, h => ⟨v, vs, rfl, h x v (by simp), repl_zip (by simpa using l) fun d v' m => h d v' (by rw [List.zip_cons_cons]; exact List.mem_cons_of_mem _ m)⟩
/-- one statement of a making, not a field's -/
def tMs (C : Ctx) (p Cc dx : Addr) (s : Sm) : TS := fun D σ H => ∃ i : List PySem.Str × List Mn.D × List V, i.2.2.length = i.2.1.length ∧ tS (mkC C p Cc dx i.1 i.2.1 i.2.2) s D σ H
theorem s_mks {p Cc dx : Addr} {c : PySem.Str} {fl : List PySem.Str} (x : XS X C G lv N sc) (ne : noE G = true) (hcl : ∀ f ∈ fl, (c, f) ∈ G.ca) (hn : PySem.W.nsIn X.K mainGlobals c = some (some (.ref Cc))) (hP : C.P 0 = some p) {s : Sm} {st : Stmt} (h : ckS { G with slf := some fl } N sc s st = true) : PS X st (tMs C p Cc dx s) :=
  ps_ex fun i => ps_when fun hl => (sndS_all s).s (xs_mk x ne hcl hn hP hl) h
theorem m_step {p Cc dx : Addr} {s r : Sm} {st : Stmt} {sts : List Stmt} (h1 : PS X st (tMs C p Cc dx s)) (h2 : PSs X sts (tM C p Cc dx r))
    (hs : ∀ env ks xs ks' xs', evM C.F C.fuel (.seq s r) env ks xs = some (ks', xs') → ∃ e1, evS (sfF C.F ks xs) C.fuel s env = some (.nx, e1) ∧ evM C.F C.fuel r e1 ks xs = some (ks', xs')) : PSs X (st :: sts) (tM C p Cc dx (.seq s r)) := (pss_cons h1 h2).imp fun D σ H h => by
  obtain ⟨ks, xs, vs, B, M, env, ks', xs', H0, sm, l1, l2, l3, ev, k1, k2, k3, q⟩ := h
  obtain ⟨e1, g1, g3⟩ := hs _ _ _ _ _ ev
  refine ⟨(ks, xs, vs), l1, B, M, env, .nx, e1, sm, g1, fun σ1 H1 B1 M1 s1 n1 => ?_⟩
  refine ⟨ks, xs, vs, B1, M1, e1, ks', xs', H0, s1, l1, l2, l3, g3, ?_, ?_, ?_, q⟩
  · exact fun a o h ne => n1.keep a o (k1 a o h ne) fun m => by rw [k3 a m] at h; cases h
  · exact fun a h => k2 a (n1.al a h)
  · exact fun a m => (n1.m a m).elim (k3 a) (k2 a)
theorem evM_sset {F : FT} {fuel : Nat} {f : PySem.Str} {e : Ex} {r : Sm} {env : Env} {ks : List PySem.Str} {xs : List D} {ks' : List PySem.Str} {xs' : List D} (h : evM F fuel (.seq (.sset f e) r) env ks xs = some (ks', xs')) :
    ∃ d t, evE (sfF F ks xs) e env = some (d, some .slf :: t) ∧ f ∉ ks ∧ evM F fuel r (some .slf :: t) (ks ++ [f]) (xs ++ [d]) = some (ks', xs') := by
  rw [evM] at h
  obtain ⟨⟨d, e1⟩, h1, h⟩ := bind_some h
  match e1, h1, h with
  | some .slf :: t, h1, h =>
    have h : (if f ∈ ks then none else evM F fuel r (some .slf :: t) (ks ++ [f]) (xs ++ [d])) = some (ks', xs') := h
    by_cases q : f ∈ ks
    · rw [if_pos q] at h; cases h
    · rw [if_neg q] at h; exact ⟨d, t, h1, q, h⟩
  | [], _, h => cases h
  | none :: _, _, h => cases h
  | some (.val _) :: _, _, h => cases h
  | some (.own _) :: _, _, h => cases h
  | some (.par _) :: _, _, h => cases h
theorem evM_len : ∀ {its : Sm} {F : FT} {fuel : Nat} {env : Env} {ks : List PySem.Str} {xs : List D} {ks' : List PySem.Str} {xs' : List D}, evM F fuel its env ks xs = some (ks', xs') → ks.length ≤ ks'.length
  | .nil, F, fuel, env, ks, xs, ks', xs', h => by cases h; exact Nat.le_refl _
  | .seq (.sset f e) r, F, fuel, env, ks, xs, ks', xs', h => by
    obtain ⟨d, t, _, q, h⟩ := evM_sset h
    have := evM_len h
    simp at this; omega
  | .seq .nil r, F, fuel, env, ks, xs, ks', xs', h => by
    obtain ⟨⟨fl, e1⟩, _, h⟩ := bind_some h
    cases fl <;> first | exact evM_len (its := r) h | cases h
  | .seq (.seq _ _) r, F, fuel, env, ks, xs, ks', xs', h => by
    obtain ⟨⟨fl, e1⟩, _, h⟩ := bind_some h
    cases fl <;> first | exact evM_len (its := r) h | cases h
  | .seq (.asg _ _) r, F, fuel, env, ks, xs, ks', xs', h => by
    obtain ⟨⟨fl, e1⟩, _, h⟩ := bind_some h
    cases fl <;> first | exact evM_len (its := r) h | cases h
  | .seq (.own _ _) r, F, fuel, env, ks, xs, ks', xs', h => by
    obtain ⟨⟨fl, e1⟩, _, h⟩ := bind_some h
    cases fl <;> first | exact evM_len (its := r) h | cases h
  | .seq (.unp _ _) r, F, fuel, env, ks, xs, ks', xs', h => by
    obtain ⟨⟨fl, e1⟩, _, h⟩ := bind_some h
    cases fl <;> first | exact evM_len (its := r) h | cases h
  | .seq (.par _ _ _ _ _ _) r, F, fuel, env, ks, xs, ks', xs', h => by
    obtain ⟨⟨fl, e1⟩, _, h⟩ := bind_some h
    cases fl <;> first | exact evM_len (its := r) h | cases h
  | .seq (.par3 _ _ _ _) r, F, fuel, env, ks, xs, ks', xs', h => by
    obtain ⟨⟨fl, e1⟩, _, h⟩ := bind_some h
    cases fl <;> first | exact evM_len (its := r) h | cases h
  | .seq (.unt _ _ _) r, F, fuel, env, ks, xs, ks', xs', h => by
    obtain ⟨⟨fl, e1⟩, _, h⟩ := bind_some h
    cases fl <;> first | exact evM_len (its := r) h | cases h
  | .seq (.par3o _ _ _ _ _ _ _ _ _) r, F, fuel, env, ks, xs, ks', xs', h => by
    obtain ⟨⟨fl, e1⟩, _, h⟩ := bind_some h
    cases fl <;> first | exact evM_len (its := r) h | cases h
  | .seq (.app _ _) r, F, fuel, env, ks, xs, ks', xs', h => by
    obtain ⟨⟨fl, e1⟩, _, h⟩ := bind_some h
    cases fl <;> first | exact evM_len (its := r) h | cases h
  | .seq (.seti _ _ _) r, F, fuel, env, ks, xs, ks', xs', h => by
    obtain ⟨⟨fl, e1⟩, _, h⟩ := bind_some h
    cases fl <;> first | exact evM_len (its := r) h | cases h
  | .seq (.ret _) r, F, fuel, env, ks, xs, ks', xs', h => by
    obtain ⟨⟨fl, e1⟩, _, h⟩ := bind_some h
    cases fl <;> first | exact evM_len (its := r) h | cases h
  | .seq .retn r, F, fuel, env, ks, xs, ks', xs', h => by
    obtain ⟨⟨fl, e1⟩, _, h⟩ := bind_some h
    cases fl <;> first | exact evM_len (its := r) h | cases h
  | .seq (.iff _ _ _) r, F, fuel, env, ks, xs, ks', xs', h => by
    obtain ⟨⟨fl, e1⟩, _, h⟩ := bind_some h
    cases fl <;> first | exact evM_len (its := r) h | cases h
  | .seq (.whl _ _) r, F, fuel, env, ks, xs, ks', xs', h => by
    obtain ⟨⟨fl, e1⟩, _, h⟩ := bind_some h
    cases fl <;> first | exact evM_len (its := r) h | cases h
  | .seq (.for_ _ _ _ _) r, F, fuel, env, ks, xs, ks', xs', h => by
    obtain ⟨⟨fl, e1⟩, _, h⟩ := bind_some h
    cases fl <;> first | exact evM_len (its := r) h | cases h
  | .seq .brk r, F, fuel, env, ks, xs, ks', xs', h => by
    obtain ⟨⟨fl, e1⟩, _, h⟩ := bind_some h
    cases fl <;> first | exact evM_len (its := r) h | cases h
  | .seq .cnt r, F, fuel, env, ks, xs, ks', xs', h => by
    obtain ⟨⟨fl, e1⟩, _, h⟩ := bind_some h
    cases fl <;> first | exact evM_len (its := r) h | cases h
  | .seq .pas r, F, fuel, env, ks, xs, ks', xs', h => by
    obtain ⟨⟨fl, e1⟩, _, h⟩ := bind_some h
    cases fl <;> first | exact evM_len (its := r) h | cases h
  | .seq (.exp _) r, F, fuel, env, ks, xs, ks', xs', h => by
    obtain ⟨⟨fl, e1⟩, _, h⟩ := bind_some h
    cases fl <;> first | exact evM_len (its := r) h | cases h
  | .seq .never r, F, fuel, env, ks, xs, ks', xs', h => by
    obtain ⟨⟨fl, e1⟩, _, h⟩ := bind_some h
    cases fl <;> first | exact evM_len (its := r) h | cases h
theorem evM_gen {F : FT} {fuel : Nat} {s r : Sm} {env : Env} {ks : List PySem.Str} {xs : List D} {ks' : List PySem.Str} {xs' : List D} (hn : ∀ f e, s ≠ .sset f e) (h : evM F fuel (.seq s r) env ks xs = some (ks', xs')) :
    ∃ e1, evS (sfF F ks xs) fuel s env = some (.nx, e1) ∧ evM F fuel r e1 ks xs = some (ks', xs') := by
  rw [evM.eq_3 _ _ _ _ _ _ _ (by intro f e z; exact hn f e z)] at h
  obtain ⟨⟨fl, e1⟩, h1, h⟩ := bind_some h
  cases fl with
  | nx => exact ⟨e1, h1, h⟩
  | rt d => cases h
  | bk => cases h
  | ct => cases h
theorem m_nil {p Cc dx : Addr} : PSs X [] (tM C p Cc dx .nil) := pss_nil.imp fun D σ H h => by
  obtain ⟨ks, xs, vs, B, M, env, ks', xs', H0, sm, l1, l2, l3, ev, k1, k2, k3, q⟩ := h
  cases ev
  exact q σ H vs (sm.kp p (Cc, dx, ks.zip vs) (if_pos rfl)).1 l1 l2 ((repl_zip l1 fun d v m => sm.ex d v m).less sm.bl sm.lo) k1 k2
theorem m_sset {p Cc dx : Addr} {c y : PySem.Str} {fl : List PySem.Str} (x : XS X C G lv N sc) (ne : noE G = true) (hcl : ∀ f ∈ fl, (c, f) ∈ G.ca) (hn : PySem.W.nsIn X.K mainGlobals c = some (some (.ref Cc))) (hP : C.P 0 = some p) (hB : C.B0 p) {f : PySem.Str} {e : Ex} {r : Sm} {ev : Expr} {yp gp pos : Pos} {sts : List Stmt}
    (hy : X.N[0]? = some y) (hv : Vis X.env.scope y) (hd : (y == ("__debug__" : PySem.Str)) = false) (hcd : (y == ("__classdict__" : PySem.Str)) = false) (hf : (c, f) ∈ G.ca) (ht : notTC ev = true) (h1 : ckE { G with slf := some fl } N sc e ev = true) (h2 : PSs X sts (tM C p Cc dx r)) :
    PSs X (.Assign [.Attribute (.Name y yp) f gp] ev pos :: sts) (tM C p Cc dx (.seq (.sset f e) r)) := by
  have hs : swapsWith ev (some (.Attribute (.Name y yp) f gp)) pos.line X.env = pure false := by
    cases ev <;> first | rfl | cases ht
  have P1 : PS X (.Assign [.Attribute (.Name y yp) f gp] ev pos) (fun D σ H => ∃ i : List PySem.Str × List Mn.D × List V, i.2.2.length = i.2.1.length ∧ sFld X.K (tVar 0) (tE (mkC C p Cc dx i.1 i.2.1 i.2.2) e) f D σ H) :=
    ps_ex fun i => ps_when fun hl => ps_fld (pe_var hy hv hd hcd) ((snd_all e).e (xs_mk x ne hcl hn hP hl).toXOk h1) hs
  refine (pss_cons P1 h2).imp fun D σ H h => ?_
  obtain ⟨ks, xs, vs, B, M, env, ks', xs', H0, sm, l1, l2, l3, ev, k1, k2, k3, q⟩ := h
  obtain ⟨d, t, g1, g2, g3⟩ := evM_sset ev
  refine ⟨(ks, xs, vs), l1, B, M, env, d, _, sm, g1, fun v H1 B1 M1 s1 r1 n1 => ?_⟩
  obtain ⟨p', p1, p2⟩ := s1.sl 0 rfl
  have hP' : (mkC C p Cc dx ks xs vs).P 0 = some p := hP
  rw [hP'] at p1; cases p1
  obtain ⟨Cc', hn', cl, na⟩ := x.ca _ hf
  have hCC : Cc' = Cc := by
    have := hn'.symm.trans hn
    simpa using this
  subst hCC
  have kp := s1.kp p (Cc', dx, ks.zip vs) (if_pos rfl)
  have ll := evM_len g3
  rw [List.length_append] at ll
  have zl : (ks.zip vs).length = ks.length := by rw [List.length_zip]; omega
  refine ⟨.ref p, p2, p, Cc', dx, ks.zip vs, rfl, kp.1, cl, na, by rw [zl]; omega, ?_⟩
  rw [putF_new g2 (by omega)]
  have hp0 : ∀ {H : Hp} {o : HO} {a : Addr}, a ≠ p → upd H p o a = H a := fun h => upd_ne h
  refine ⟨ks ++ [f], xs ++ [d], vs ++ [v], B1, M1, _, ks', xs', H0, s1.mkset (s1.lo p hB) l1 r1, ?_, ?_, l3, g3, ?_, ?_, ?_, q⟩
  · rw [List.length_append, List.length_append, l1]; rfl
  · rw [List.length_append, List.length_append, l2]; rfl
  · exact fun a o h ne => by rw [upd_ne ne]; exact n1.keep a o (k1 a o h ne) fun m => by rw [k3 a m] at h; cases h
  · intro a h
    exact k2 a (n1.al a (upd_none h))
  · exact fun a m => (n1.m a m).elim (k3 a) (k2 a)
theorem ckM_sset {c : PySem.Str} {fl : List PySem.Str} {f : PySem.Str} {e : Ex} {r : Sm} {st : Stmt} {sts : List Stmt} (h : ckM c fl G N sc (.seq (.sset f e) r) (st :: sts) = true) :
    ∃ y yp gp ev pos, st = .Assign [.Attribute (.Name y yp) f gp] ev pos ∧ nm N sc 0 y = true ∧ (c, f) ∈ G.ca ∧ notTC ev = true ∧ ckE { G with slf := some fl } N sc e ev = true ∧ ckM c fl G N sc r sts = true := by
  unfold ckM at h
  split at h
  · rename_i heq1 heq2; cases heq1
  · rename_i heq1 heq2; cases heq1; cases heq2
    simp only [Bool.and_eq_true, decide_eq_true_eq] at h
    obtain ⟨⟨⟨⟨⟨rfl, h2⟩, h3⟩, h4⟩, h5⟩, h6⟩ := h
    exact ⟨_, _, _, _, _, rfl, h2, h3, h4, h5, h6⟩
  · cases h
  · rename_i hq heq1 heq2; cases heq1; exact absurd rfl (hq _ _)
  · cases h
theorem q_make {p Cc dx : Addr} {c : PySem.Str} {fl : List PySem.Str} (x : XS X C G lv N sc) (ne : noE G = true) (hcl : ∀ f ∈ fl, (c, f) ∈ G.ca) (hn : PySem.W.nsIn X.K mainGlobals c = some (some (.ref Cc))) (hP : C.P 0 = some p) (hB : C.B0 p) :
    ∀ (its : Sm) {sts : List Stmt}, ckM c fl G N sc its sts = true → PSs X sts (tM C p Cc dx its)
  | .nil, [], _ => m_nil
  | .nil, _ :: _, h => by cases h
  | .seq s r, [], h => by cases s <;> cases h
  | .seq s r, st :: sts, h => by
    by_cases hs : ∃ f e, s = .sset f e
    · obtain ⟨f, e, rfl⟩ := hs
      obtain ⟨y, yp, gp, ev, pos, rfl, h2, h3, h4, h5, h6⟩ := ckM_sset h
      obtain ⟨g1, g2, g3, g4⟩ := nmOk x.toXOk h2
      exact m_sset x ne hcl hn hP hB g1 g2 g3 g4 h3 h4 h5 (q_make x ne hcl hn hP hB r h6)
    · have hs' : ∀ f e, s ≠ .sset f e := fun f e z => hs ⟨f, e, z⟩
      have h' : ckS { G with slf := some fl } N sc s st = true ∧ ckM c fl G N sc r sts = true := by
        rw [← Bool.and_eq_true, ← h]
        cases s <;> first | rfl | exact absurd rfl (hs' _ _)
      exact m_step (s_mks x ne hcl hn hP h'.1) (q_make x ne hcl hn hP hB r h'.2) fun env ks xs ks' xs' e => evM_gen hs' e
  | .asg _ _, _, h => by cases h
  | .own _ _, _, h => by cases h
  | .unp _ _, _, h => by cases h
  | .par _ _ _ _ _ _, _, h => by cases h
  | .par3 _ _ _ _, _, h => by cases h
  | .unt _ _ _, _, h => by cases h
  | .par3o _ _ _ _ _ _ _ _ _, _, h => by cases h
  | .app _ _, _, h => by cases h
  | .seti _ _ _, _, h => by cases h
  | .ret _, _, h => by cases h
  | .retn, _, h => by cases h
  | .iff _ _ _, _, h => by cases h
  | .whl _ _, _, h => by cases h
  | .for_ _ _ _ _, _, h => by cases h
  | .brk, _, h => by cases h
  | .cnt, _, h => by cases h
  | .pas, _, h => by cases h
  | .exp _, _, h => by cases h
  | .never, _, h => by cases h
  | .sset _ _, _, h => by cases h
def mlen : Sm → Nat | .seq _ r => mlen r + 1 | _ => 0
theorem evM_cap : ∀ {its : Sm} {F : FT} {fuel : Nat} {env : Env} {ks : List PySem.Str} {xs : List D} {ks' : List PySem.Str} {xs' : List D}, evM F fuel its env ks xs = some (ks', xs') → ks'.length ≤ ks.length + mlen its
  | .nil, F, fuel, env, ks, xs, ks', xs', h => by cases h; exact Nat.le_refl _
  | .seq s r, F, fuel, env, ks, xs, ks', xs', h => by
    show _ ≤ _ + (mlen r + 1)
    by_cases hs : ∃ f e, s = .sset f e
    · obtain ⟨f, e, rfl⟩ := hs
      obtain ⟨d, t, _, _, h⟩ := evM_sset h
      have := evM_cap h
      simp at this; omega
    · obtain ⟨e1, _, h⟩ := evM_gen (fun f e z => hs ⟨f, e, z⟩) h
      have := evM_cap h
      omega
  | .asg _ _, _, _, _, _, _, _, _, h => by cases h
  | .own _ _, _, _, _, _, _, _, _, h => by cases h
  | .unp _ _, _, _, _, _, _, _, _, h => by cases h
  | .par _ _ _ _ _ _, _, _, _, _, _, _, _, h => by cases h
  | .par3 _ _ _ _, _, _, _, _, _, _, _, h => by cases h
  | .unt _ _ _, _, _, _, _, _, _, _, h => by cases h
  | .par3o _ _ _ _ _ _ _ _ _, _, _, _, _, _, _, _, h => by cases h
  | .app _ _, _, _, _, _, _, _, _, h => by cases h
  | .seti _ _ _, _, _, _, _, _, _, _, h => by cases h
  | .ret _, _, _, _, _, _, _, _, h => by cases h
  | .retn, _, _, _, _, _, _, _, h => by cases h
  | .iff _ _ _, _, _, _, _, _, _, _, h => by cases h
  | .whl _ _, _, _, _, _, _, _, _, h => by cases h
  | .for_ _ _ _ _, _, _, _, _, _, _, _, h => by cases h
  | .brk, _, _, _, _, _, _, _, h => by cases h
  | .cnt, _, _, _, _, _, _, _, h => by cases h
  | .pas, _, _, _, _, _, _, _, h => by cases h
  | .exp _, _, _, _, _, _, _, _, h => by cases h
  | .never, _, _, _, _, _, _, _, h => by cases h
  | .sset _ _, _, _, _, _, _, _, _, h => by cases h
end Mn
namespace Mn
open PySem L2 RZ
variable {K : PySem.W.Frag} {H H' : Hp} {B B' : AP'}
theorem argR_len : ∀ {ss : List Sl} {vs : List V} {ps : List Addr}, ArgR K H B ss vs ps → vs.length = ss.length
  | [], vs, ps, h => by rw [h.1]; rfl
  | .val d :: r, vs, ps, h => by
    obtain ⟨v, t, rfl, _, q⟩ := h
    rw [List.length_cons, List.length_cons, argR_len q]
  | .par xs :: r, vs, ps, h => by
    obtain ⟨a, t, q, ws, rfl, rfl, _, _, _, z⟩ := h
    rw [List.length_cons, List.length_cons, argR_len z]
  | .own _ :: _, _, _, h => h.elim
  | .slf :: _, _, _, h => h.elim
theorem argR_val : ∀ {ss : List Sl} {vs : List V} {ps : List Addr} {i : Nat} {d : D}, ArgR K H B ss vs ps → ss[i]? = some (.val d) → ∃ v, vs[i]? = some v ∧ Rep K H B d v
  | [], vs, ps, i, d, h, e => by simp at e
  | .val d' :: r, vs, ps, i, d, h, e => by
    obtain ⟨v, t, rfl, g, q⟩ := h
    cases i with
    | zero => simp at e; subst e; exact ⟨v, rfl, g⟩
    | succ i => rw [List.getElem?_cons_succ] at e ⊢; exact argR_val q e
  | .par xs :: r, vs, ps, i, d, h, e => by
    obtain ⟨a, t, q, ws, rfl, rfl, _, _, _, z⟩ := h
    cases i with
    | zero => simp at e
    | succ i => rw [List.getElem?_cons_succ] at e ⊢; exact argR_val z e
  | .own _ :: _, _, _, _, _, h, _ => h.elim
theorem argR_own : ∀ {ss : List Sl} {vs : List V} {ps : List Addr} {i : Nat} {xs : List D}, ArgR K H B ss vs ps → ss[i]? = some (.own xs) → False
  | [], vs, ps, i, d, h, e => by simp at e
  | .val d' :: r, vs, ps, i, d, h, e => by
    obtain ⟨v, t, rfl, g, q⟩ := h
    cases i with
    | zero => simp at e
    | succ i => rw [List.getElem?_cons_succ] at e; exact argR_own q e
  | .par xs :: r, vs, ps, i, d, h, e => by
    obtain ⟨a, t, q, ws, rfl, rfl, _, _, _, z⟩ := h
    cases i with
    | zero => simp at e
    | succ i => rw [List.getElem?_cons_succ] at e; exact argR_own z e
  | .own _ :: _, _, _, _, _, h, _ => h.elim
theorem argR_par : ∀ {ss : List Sl} {vs : List V} {ps : List Addr} {i : Nat} {xs : List D}, ArgR K H B ss vs ps → ss[i]? = some (.par xs) →
    ∃ a ws, vs[i]? = some (.ref a) ∧ a ∈ ps ∧ H a = some (.lst ws) ∧ RepL K H B xs ws ∧ B a
  | [], vs, ps, i, d, h, e => by simp at e
  | .val d' :: r, vs, ps, i, d, h, e => by
    obtain ⟨v, t, rfl, g, q⟩ := h
    cases i with
    | zero => simp at e
    | succ i => rw [List.getElem?_cons_succ] at e ⊢; exact argR_par q e
  | .par xs :: r, vs, ps, i, d, h, e => by
    obtain ⟨a, t, q, ws, rfl, rfl, h1, h2, h3, z⟩ := h
    cases i with
    | zero => simp at e; subst e; exact ⟨a, ws, rfl, by simp, h1, h2, h3⟩
    | succ i =>
      rw [List.getElem?_cons_succ] at e ⊢
      obtain ⟨a', ws', g1, g2, g3⟩ := argR_par z e
      exact ⟨a', ws', g1, by simp [g2], g3⟩
  | .own _ :: _, _, _, _, _, h, _ => h.elim
theorem argR_inj : ∀ {ss : List Sl} {vs : List V} {ps : List Addr} {i j : Nat} {xs ys : List D} {a : Addr}, ArgR K H B ss vs ps → ps.Nodup → ss[i]? = some (.par xs) → ss[j]? = some (.par ys) →
    vs[i]? = some (.ref a) → vs[j]? = some (.ref a) → i = j
  | [], vs, ps, i, j, d, _, _, h, _, e, _, _, _ => by simp at e
  | .val d' :: r, vs, ps, i, j, d, _, _, h, nd, e, e', f, f' => by
    obtain ⟨v, t, rfl, g, q⟩ := h
    cases i with
    | zero => simp at e
    | succ i => cases j with
      | zero => simp at e'
      | succ j =>
        rw [List.getElem?_cons_succ] at e e' f f'
        rw [argR_inj q nd e e' f f']
  | .par xs :: r, vs, ps, i, j, d, _, a, h, nd, e, e', f, f' => by
    obtain ⟨a', t, q, ws, rfl, rfl, h1, h2, h3, z⟩ := h
    rw [List.nodup_cons] at nd
    cases i with
    | zero => cases j with
      | zero => rfl
      | succ j =>
        rw [List.getElem?_cons_succ] at e' f'
        obtain ⟨b, _, g1, g2, _⟩ := argR_par z e'
        rw [f'] at g1; cases g1
        rw [List.getElem?_cons_zero] at f; cases f
        exact absurd g2 nd.1
    | succ i => cases j with
      | zero =>
        rw [List.getElem?_cons_succ] at e f
        obtain ⟨b, _, g1, g2, _⟩ := argR_par z e
        rw [f] at g1; cases g1
        rw [List.getElem?_cons_zero] at f'; cases f'
        exact absurd g2 nd.1
      | succ j =>
        rw [List.getElem?_cons_succ] at e e' f f'
        rw [argR_inj z nd.2 e e' f f']
  | .own _ :: _, _, _, _, _, _, _, _, h, _, _, _, _, _ => h.elim
theorem outs_ok {H2 : Hp} : ∀ {ss : List Sl} {vs : List V} {ps : List Addr} {e : Env} {outs : List (List D)}, ArgR K H B ss vs ps → outsOf ss e = some outs →
    (∀ (i : Nat) (xs : List D), e[i]? = some (some (.par xs)) → ∃ a ws, vs[i]? = some (.ref a) ∧ H2 a = some (.lst ws) ∧ RepL K H2 B' xs ws) → OutR K H2 B' outs ps
  | [], vs, ps, e, outs, h, g, f => by
    cases g
    rw [h.2]
    unfold OutR; trivial
  | .val d :: r, vs, ps, [], outs, h, g, f => by cases g
  | .val d :: r, vs, ps, s :: e, outs, h, g, f => by
    obtain ⟨v, t, rfl, _, q⟩ := h
    refine outs_ok q (e := e) ?_ fun i xs hi => ?_
    · rw [← g]; rfl
    · obtain ⟨a, ws, z⟩ := f (i + 1) xs (by rw [List.getElem?_cons_succ]; exact hi)
      rw [List.getElem?_cons_succ] at z
      exact ⟨a, ws, z⟩
  | .par xs :: r, vs, ps, [], outs, h, g, f => by cases g
  | .par xs :: r, vs, ps, none :: e, outs, h, g, f => by cases g
  | .par xs :: r, vs, ps, some (.val _) :: e, outs, h, g, f => by cases g
  | .par xs :: r, vs, ps, some (.own _) :: e, outs, h, g, f => by cases g
  | .par xs :: r, vs, ps, some (.par ys) :: e, outs, h, g, f => by
    obtain ⟨a, t, q, ws, rfl, rfl, h1, h2, h3, z⟩ := h
    have g' : (outsOf r e).map (ys :: ·) = some outs := g
    rw [Option.map_eq_some_iff] at g'
    obtain ⟨os, g1, rfl⟩ := g'
    obtain ⟨a', ws', e1, e2, e3⟩ := f 0 ys rfl
    rw [List.getElem?_cons_zero] at e1; cases e1
    have rest : OutR K H2 B' os q := outs_ok z g1 fun i xs hi => by
      obtain ⟨a, ws, z⟩ := f (i + 1) xs (by rw [List.getElem?_cons_succ]; exact hi)
      rw [List.getElem?_cons_succ] at z
      exact ⟨a, ws, z⟩
    unfold OutR
    exact ⟨_, _, ws', rfl, e2, e3, rest⟩
  | .own _ :: _, _, _, _, _, h, _, _ => h.elim
theorem env_get {α : Type} {ss : List α} {n i : Nat} {s : α} (h : (ss.map some ++ List.replicate n none)[i]? = some (some s)) : ss[i]? = some s := by
  rw [List.getElem?_append] at h
  split at h
  · rw [List.getElem?_map] at h
    cases q : ss[i]? with
    | none => rw [q] at h; cases h
    | some x => rw [q] at h; cases h; rfl
  · rw [List.getElem?_replicate] at h
    split at h <;> cases h
theorem get_env {α : Type} {ss : List α} {n i : Nat} {s : α} (h : ss[i]? = some s) : (ss.map some ++ List.replicate n none)[i]? = some (some s) := by
  rw [List.getElem?_append_left, List.getElem?_map, h]; rfl
  rw [List.length_map]
  exact (List.getElem?_eq_some_iff.1 h).1
def Pof (vs : List V) (i : Nat) : Option Addr := match vs[i]? with | some (.ref a) => some a | _ => none
theorem Pof_get {vs : List V} {i : Nat} {a : Addr} (h : vs[i]? = some (.ref a)) : Pof vs i = some a := by unfold Pof; rw [h]
theorem get_Pof {vs : List V} {i : Nat} {a : Addr} (h : Pof vs i = some a) : vs[i]? = some (.ref a) := by
  unfold Pof at h
  split at h
  · cases h; assumption
  · cases h
theorem mutS_get {env : Env} {i : Nat} {xs : List D} (h : mutS env i = some xs) : env[i]? = some (some (.own xs)) ∨ env[i]? = some (some (.par xs)) := by
  unfold mutS at h
  split at h
  · cases h; exact .inl (by assumption)
  · cases h; exact .inr (by assumption)
  · cases h
theorem sim0 {ss : List Sl} {vs : List V} {ps : List Addr} {N : List PySem.Str} {F : FT} {fuel : Nat} (bl : BL H B) (h : ArgR K H B ss vs ps) (nd : ps.Nodup) :
    Sim ⟨K, Pof vs, B, F, fuel, fun _ => none, []⟩ H B (fun a => a ∈ ps) (L2.start N vs) (ss.map some ++ List.replicate (N.length - ss.length) none) where
  len := by
    show (vs.map some ++ _).length = _
    rw [List.length_append, List.length_append, List.length_map, List.length_map, List.length_replicate, List.length_replicate, argR_len h]
  bl := bl
  mb := by
    have : ∀ {ss : List Sl} {vs : List V} {ps : List Addr}, ArgR K H B ss vs ps → ∀ a, a ∈ ps → B a := by
      intro ss
      induction ss with
      | nil => intro vs ps h a m; rw [h.2] at m; cases m
      | cons s r ih =>
        intro vs ps h a m
        cases s with
        | val d => obtain ⟨v, t, rfl, _, q⟩ := h; exact ih q a m
        | own _ => exact h.elim
        | slf => exact h.elim
        | par xs =>
          obtain ⟨a', t, q, ws, rfl, rfl, h1, h2, h3, z⟩ := h
          rcases List.mem_cons.1 m with rfl | m
          · exact h3
          · exact ih z a m
    exact this h
  lo := fun _ z => z
  val := fun i d e => by
    obtain ⟨v, e1, r⟩ := argR_val h (env_get e)
    exact ⟨v, get_env e1, r⟩
  own := fun i xs e => (argR_own h (env_get e)).elim
  par := fun i xs e => by
    obtain ⟨a, ws, e1, m, e2, r, b⟩ := argR_par h (env_get e)
    exact ⟨a, ws, Pof_get e1, get_env e1, e2, r, m⟩
  inj := fun i j xs ys a m m' e e' => by
    rcases mutS_get m with q | q
    · exact (argR_own h (env_get q)).elim
    · rcases mutS_get m' with q' | q'
      · exact (argR_own h (env_get q')).elim
      · exact argR_inj h nd (env_get q) (env_get q') (env_get e) (env_get e')
  kp := fun _ _ h => nomatch h
  ex := fun _ _ h => nomatch h
  sl := fun i e => by
    have : ∀ {ss : List Sl} {vs : List V} {ps : List Addr} {i : Nat}, ArgR K H B ss vs ps → ss[i]? ≠ some .slf := by
      intro ss
      induction ss with
      | nil => intro vs ps i h e; simp at e
      | cons s r ih =>
        intro vs ps i h e
        cases s with
        | val d =>
          obtain ⟨v, t, rfl, _, q⟩ := h
          cases i with
          | zero => simp at e
          | succ i => rw [List.getElem?_cons_succ] at e; exact ih q e
        | own _ => exact h.elim
        | slf => exact h.elim
        | par xs =>
          obtain ⟨a', t, q, ws, rfl, rfl, h1, h2, h3, z⟩ := h
          cases i with
          | zero => simp at e
          | succ i => rw [List.getElem?_cons_succ] at e; exact ih z e
    exact (this h (env_get e)).elim
theorem vals_slot {ds : List D} {i : Nat} {s : Sl} (h : (ds.map Sl.val)[i]? = some s) : ∃ d, s = .val d := by
  rw [List.getElem?_map] at h
  cases q : ds[i]? with
  | none => rw [q] at h; cases h
  | some d => rw [q] at h; exact ⟨d, (by simpa using h.symm)⟩
/-- at a making's begin -/
theorem simM {x Cc dx : Addr} {ds : List D} {ws : List V} {N : List PySem.Str} {F : FT} {fuel : Nat} (bl : BL H B) (hx : H x = some (.ins Cc dx [])) (r : RepL K H B ds ws) :
    Sim (mkC ⟨K, Pof (.ref x :: ws), B, F, fuel, fun _ => none, []⟩ x Cc dx [] [] []) H B (fun _ => False) (L2.start N (.ref x :: ws)) (some .slf :: ((ds.map Sl.val).map some ++ List.replicate (N.length - (ds.map Sl.val).length - 1) none)) where
  len := by
    show ((V.ref x :: ws).map some ++ _).length = _
    rw [List.length_append, List.length_map, List.length_replicate, List.length_cons, List.length_cons, List.length_append, List.length_map, List.length_map, List.length_replicate, r.len]
    omega
  bl := bl
  mb := fun _ z => z.elim
  lo := fun _ z => z
  val := fun i d e => by
    cases i with
    | zero => simp at e
    | succ i =>
      rw [List.getElem?_cons_succ] at e
      obtain ⟨v, e1, r⟩ := argR_val (argR_vals r) (env_get e)
      exact ⟨v, get_env (ss := V.ref x :: ws) (i := i + 1) e1, r⟩
  own := fun i xs e => by
    cases i with
    | zero => simp at e
    | succ i =>
      rw [List.getElem?_cons_succ] at e
      obtain ⟨d, z⟩ := vals_slot (env_get e)
      cases z
  par := fun i xs e => by
    cases i with
    | zero => simp at e
    | succ i =>
      rw [List.getElem?_cons_succ] at e
      obtain ⟨d, z⟩ := vals_slot (env_get e)
      cases z
  inj := fun i j xs ys a m m' e e' => by
    cases i with
    | zero => cases m
    | succ i =>
      rcases mutS_get m with q | q
      · rw [List.getElem?_cons_succ] at q
        obtain ⟨d, z⟩ := vals_slot (env_get q)
        cases z
      · rw [List.getElem?_cons_succ] at q
        obtain ⟨d, z⟩ := vals_slot (env_get q)
        cases z
  kp := fun a o h => by
    have h : (if a = x then some (Cc, dx, (([] : List PySem.Str).zip ([] : List V))) else none) = some o := h
    by_cases e : a = x
    · rw [if_pos e] at h; cases h; subst e; exact ⟨hx, fun z => z⟩
    · rw [if_neg e] at h; cases h
  ex := fun _ _ h => nomatch h
  sl := fun i e => by
    cases i with
    | zero => exact ⟨x, rfl, rfl⟩
    | succ i =>
      rw [List.getElem?_cons_succ] at e
      obtain ⟨d, z⟩ := vals_slot (env_get e)
      cases z
/-! ### the defs of a text, one above the other -/
variable {P : Program} {w : World} {mg : PySem.Str → Option Value} {base : Heap} {G : GS} {T : List (PySem.Str × FDef)} {fuel : Nat}
/-- a def, wherever it stands -/
structure DefX (K : PySem.W.Frag) (G : GS) (T : List (PySem.Str × FDef)) (f x q : PySem.Str) (n : Nat) (fa : Addr) (fd : FuncData) (dd : FDef) (st : Stmt) : Prop where
  t : T.lookup f = some dd
  cl : dd.cl = none
  F : Fun K x q st fa fd
  S : FnScope dd.ns dd.ps (defScope st)
  ck : ckSs G dd.ns (defScope st) dd.body (defBody st) = true
  len : dd.ps.length = n
/-- a method -/
structure DefO (K : PySem.W.Frag) (G : GS) (T : List (PySem.Str × FDef)) (g x q : PySem.Str) (n : Nat) (c : PySem.Str) (m : PySem.Str × List PySem.Str) (Cc fa : Addr) (fd : FuncData) (dd : FDef) (st : Stmt) : Prop where
  X : DefX K G T g x q n fa fd dd st
  ns : PySem.W.nsIn K mainGlobals c = some (some (.ref Cc))
  cls : Cls K Cc
  meth : Meth K Cc m.1 fa
  b : Binds K fd dd.ps []
  kb : 2 ≤ n → KBinds K fd dd.ps m.2 (gP 1 (n - 1) (List.range n)) (gP 1 (n - 1) (List.range n))
  nei : NeIf K m.1 Cc
/-- an __init__ -/
structure DefM (K : PySem.W.Frag) (mg : PySem.Str → Option Value) (G : GS) (T : List (PySem.Str × FDef)) (c x q : PySem.Str) (n : Nat) (fl : List PySem.Str) (Cc fa : Addr) (fd : FuncData) (dd : FDef) (st : Stmt) : Prop where
  t : T.lookup c = some dd
  cl : dd.cl = some c
  F : Fun K x q st fa fd
  S : FnScope dd.ns dd.ps (defScope st)
  ck : ckM c fl G dd.ns (defScope st) dd.body (defBody st) = true
  len : dd.ps.length = n + 1
  sz : mlen dd.body < 900
  fl : ∀ f ∈ fl, (c, f) ∈ G.ca
  ns : PySem.W.nsIn K mainGlobals c = some (some (.ref Cc))
  mg : mg c = some (.ref Cc)
  mkr : Mk K Cc fa
  b : Binds K fd dd.ps []
structure DefAt (K : PySem.W.Frag) (mg : PySem.Str → Option Value) (G : GS) (T : List (PySem.Str × FDef)) (f : PySem.Str) (n : Nat) (kf : List (Nat × List PySem.Str × List Nat)) (fa : Addr) (fd : FuncData) (dd : FDef) (st : Stmt) : Prop where
  t : T.lookup f = some dd
  cl : dd.cl = none
  mg : mg f = some (.ref fa)
  F : Fun K f f st fa fd
  S : FnScope dd.ns dd.ps (defScope st)
  ck : ckSs G dd.ns (defScope st) dd.body (defBody st) = true
  len : dd.ps.length = n
  b : Binds K fd dd.ps []
  kb : ∀ t ∈ kf, KBinds K fd dd.ps t.2.1 (gP t.1 t.2.1.length t.2.2) (gP t.1 t.2.1.length t.2.2)
theorem DefAt.X {f : PySem.Str} {n : Nat} {kf : List (Nat × List PySem.Str × List Nat)} {fa : Addr} {fd : FuncData} {dd : FDef} {st : Stmt} (D : DefAt K mg G T f n kf fa fd dd st) : DefX K G T f f f n fa fd dd st := ⟨D.t, D.cl, D.F, D.S, D.ck, D.len⟩
/-! ### a body that ends with a new list -/
def isAsg : Sm → Bool | .asg _ _ => true | _ => false
def isNewR : Ex → Bool | .lst _ => true | .comp _ _ _ _ _ _ => true | _ => false
theorem isNewR_is {x : Ex} (h : isNewR x = true) : isNew x = true := by
  cases x <;> first | rfl | cases h
def lastNew : Sm → Bool
  | .seq s r => match r with
    | .nil => (match s with | .ret x => isNewR x | _ => false)
    | .seq _ _ => isAsg s && lastNew r
    | _ => false
  | _ => false
def tSN (C : Ctx) (x : Sm) : TS := fun D σ H => ∃ B M env d env', Sim C H B M σ env ∧ evS C.F C.fuel x env = some (.rt d, env') ∧
  ∀ p ws H' B' M', H p = none → H' p = some (.lst ws) → (∀ xs, d = .lst xs → RepL C.K H' (ins p B') xs ws) → ¬ B' p → (∀ a, C.B0 a → B' a) → BL H' B' → Nx H B M H' B' M' → D.rt (.ref p) H'
theorem new_body {C : Ctx} {X : Cx} {lv : Nat} {N : List PySem.Str} {sc : Scope} : ∀ (b : Sm) (_ : XS X C G lv N sc) {sts : List Stmt}, ckSs G N sc b sts = true → lastNew b = true → PSs X sts (tSN C b)
  | .seq s r, xs, sts, h, hn => by
    cases sts with
    | nil => (rw [ckSs] at h <;> first | (cases h; done) | (intros; contradiction))
    | cons st sts =>
      rw [ckSs, Bool.and_eq_true] at h
      unfold lastNew at hn
      cases r with
      | nil =>
        cases s <;> first | (cases hn; done) | skip
        rename_i x
        cases sts with
        | cons _ _ => (have h2 := h.2; rw [ckSs] at h2 <;> first | (cases h2; done) | (intros; contradiction))
        | nil =>
          have h1 := h.1
          unfold ckS at h1
          split at h1 <;> first | (cases h1; done) | (rename_i hq; cases hq; done) | (rename_i hq _; cases hq; done) | skip
          rename_i hq; cases hq
          refine (pss_one (ps_ret (new_e (isNewR_is hn) xs.toXOk h1))).imp fun D σ H q => ?_
          obtain ⟨B, M, env, d, env', s', ev, q⟩ := q
          rw [evS] at ev
          obtain ⟨⟨f, e1⟩, g1, ev⟩ := bind_some ev
          rw [evS] at g1
          obtain ⟨⟨y, e2⟩, g2, g1⟩ := bind_some g1
          cases g1; cases ev
          obtain ⟨ys, rfl⟩ : ∃ ys, d = .lst ys := by
            cases x <;> first | (cases hn; done) | skip
            · exact ev_lst_is g2
            · exact ev_comp_is g2
          refine ⟨B, M, env, ys, _, s', g2, fun p vs H' B' M' s2 hp rl nb mb lo h0 n2 => ?_⟩
          refine q p vs H' B' M' h0 hp (fun xs e => by cases e; exact rl) nb lo (fun a z => s2.bl a (.inr z)) n2
      | seq s2 r2 =>
        rw [Bool.and_eq_true] at hn
        refine (pss_cons ((sndS_all s).s xs h.1) (new_body (.seq s2 r2) xs h.2 hn.2)).imp fun D σ H q => ?_
        obtain ⟨B, M, env, d, env', s', ev, q⟩ := q
        rw [evS] at ev
        obtain ⟨⟨f, e1⟩, g1, ev⟩ := bind_some ev
        obtain rfl : f = .nx := by
          cases s <;> first | (cases hn.1; done) | skip
          rw [evS] at g1
          obtain ⟨⟨y, e2⟩, g2, g1⟩ := bind_some g1
          obtain ⟨e3, g3, g1⟩ := bind_some g1
          cases g1; rfl
        refine ⟨B, M, env, .nx, e1, s', g1, fun σ1 H1 B1 M1 s1 n1 => ?_⟩
        refine ⟨B1, M1, e1, d, env', s1, ev, fun p ws H' B' M' hp hp' rl nb lo bl n2 => ?_⟩
        exact q p ws H' B' M' (n1.al p hp) hp' rl nb lo bl (n1.trans n2)
      | _ => cases hn
  | .nil, _, _, _, hn => by cases hn
  | .asg _ _, _, _, _, hn => by cases hn
  | .own _ _, _, _, _, hn => by cases hn
  | .unp _ _, _, _, _, hn => by cases hn
  | .par _ _ _ _ _ _, _, _, _, hn => by cases hn
  | .par3 _ _ _ _, _, _, _, hn => by cases hn
  | .unt _ _ _, _, _, _, hn => by cases hn
  | .par3o _ _ _ _ _ _ _ _ _, _, _, _, hn => by cases hn
  | .app _ _, _, _, _, hn => by cases hn
  | .seti _ _ _, _, _, _, hn => by cases hn
  | .ret _, _, _, _, hn => by cases hn
  | .retn, _, _, _, hn => by cases hn
  | .iff _ _ _, _, _, _, hn => by cases hn
  | .whl _ _, _, _, _, hn => by cases hn
  | .for_ _ _ _ _, _, _, _, hn => by cases hn
  | .brk, _, _, _, hn => by cases hn
  | .cnt, _, _, _, hn => by cases hn
  | .pas, _, _, _, hn => by cases hn
  | .exp _, _, _, _, hn => by cases hn
  | .never, _, _, _, hn => by cases hn
structure Mod (K : PySem.W.Frag) (mg : PySem.Str → Option Value) (G : GS) (T : List (PySem.Str × FDef)) (fuel : Nat) : Prop where
  bl : ∀ x ∈ G.bl, mg x = none
  mf : ∀ t ∈ G.mf, mg t.1 = some (.builtin t.2)
  co : ∀ n x, x ∈ G.co → ∀ d o, evF T fuel n x [] = some (d, o) → ∃ v u, mg x = some u ∧ RelV v u ∧ ∀ H B, Rep K H B d v
  fn : ∀ f n kf, G.fn.lookup f = some (n, kf) → ∃ fa fd dd st, DefAt K mg G T f n kf fa fd dd st
  nw : ∀ f n, G.nw.lookup f = some n → ∃ fa fd dd st, DefAt K mg G T f n [] fa fd dd st ∧ lastNew dd.body = true
  ca : ∀ t ∈ G.ca, ∃ Cc, PySem.W.nsIn K mainGlobals t.1 = some (some (.ref Cc)) ∧ Cls K Cc ∧ NoAttr K Cc t.2
  mt : ∀ g n c m, G.mt.lookup g = some (n, c, m) → ∃ x q Cc fa fd dd st, DefO K G T g x q n c m Cc fa fd dd st
  mks : ∀ c n, G.mks.lookup c = some n → ∃ x q fl Cc fa fd dd st, DefM K mg G T c x q n fl Cc fa fd dd st
  ne : noE G = true
  slf : G.slf = none
/-- what the calls of a text keep, at one level -/
structure Lv (P : Program) (w : World) (K : PySem.W.Frag) (mg : PySem.Str → Option Value) (base : Heap) (G : GS) (T : List (PySem.Str × FDef)) (fuel lv : Nat) : Prop where
  fn : ∀ f n kf, G.fn.lookup f = some (n, kf) → ∃ fa fd dd st, DefAt K mg G T f n kf fa fd dd st ∧ FnG P w K mg base (2 * lv + 1) fa fd dd.ps (spF K (evF T fuel lv) f n)
  nw : ∀ f n, G.nw.lookup f = some n → ∃ fa fd dd st, DefAt K mg G T f n [] fa fd dd st ∧ FnG P w K mg base (2 * lv + 1) fa fd dd.ps (spN K (evF T fuel lv) f n)
  mt : ∀ g n c m, G.mt.lookup g = some (n, c, m) → ∃ x q Cc fa fd dd st, DefO K G T g x q n c m Cc fa fd dd st ∧ FnG P w K mg base (2 * lv) fa fd dd.ps (spF K (evF T fuel lv) g n)
  mks : ∀ c n, G.mks.lookup c = some n → ∃ x q fl Cc fa fd dd st, DefM K mg G T c x q n fl Cc fa fd dd st ∧ FnG P w K mg base (2 * lv) fa fd dd.ps (spM K (evF T fuel lv) c n)
theorem xs_of (M : Mod K mg G T fuel) {lv : Nat} (L : Lv P w K mg base G T fuel lv) {q : PySem.Str} {dd : FDef} {st : Stmt} (S : FnScope dd.ns dd.ps (defScope st)) {fa : Addr} {cdv : Value} {A : Around} {outer : List PySem.Env} {s : Shared} {H : Hp} {E : XK} {Pa : Nat → Option Addr} {B : AP'}
    (qt : Qt A) (hr : Room (2 * lv + 1) (A.deeper (PyProof.Rows.envOfC q (defScope st) s.heap.objs.size fa cdv))) :
    XS (cxOf CX0 P w K mg base dd.ns q (defScope st) fa cdv A outer s H E).nox ⟨K, Pa, B, evF T fuel lv, fuel, fun _ => none, []⟩ G (2 * lv + 1) dd.ns (defScope st) := by
  refine { n := rfl, nd := S.nd, calm := rfl, K := rfl, kind := S.kind, vis := ?_, loc := ?_, isL := ?_, cf := fun _ h => h, gl := ?_, room := hr, qt := qt.deeper _, bl := M.bl, mf := M.mf, fn := ?_, nw := ?_, co := M.co lv, ca := M.ca, mt := ?_, mkr := ?_, sf := fun fl e => (by rw [M.slf] at e; cases e), sce := rfl, hp := PassesOwn.never }
  · intro x h
    obtain ⟨k, e1, e2⟩ := kind_of h
    show Vis (defScope st) x
    cases k <;> first | exact .inl e1 | exact .inr (.inl e1) | exact .inr (.inr e1) | cases e2
  · intro x h
    obtain ⟨k, e1, e2⟩ := kind_of h
    refine ⟨?_, .inl rfl⟩
    show L2.Loc (defScope st) x
    cases k <;> first | exact .inl e1 | exact .inr e1 | cases e2
  · intro x h
    obtain ⟨k, e1, e2⟩ := kind_of h
    show (defScope st).names.lookup x = some .local
    cases k <;> first | exact e1 | cases e2
  · intro x h
    obtain ⟨k, e1, e2⟩ := kind_of h
    show (defScope st).names.lookup x = some .globalImplicit
    cases k <;> first | exact e1 | cases e2
  · intro f' n' kf' h'
    obtain ⟨fa', fd', dd', st', D', F'⟩ := L.fn f' n' kf' h'
    exact ⟨⟨fa', fd', dd'.ps, D'.mg, D'.F.kp, F', D'.len, D'.b, D'.kb⟩⟩
  · intro f' n' h'
    obtain ⟨fa', fd', dd', st', D', F'⟩ := L.nw f' n' h'
    exact ⟨⟨fa', fd', dd'.ps, D'.mg, D'.F.kp, F', D'.len, D'.b⟩⟩
  · intro g n c m h'
    obtain ⟨x, q', Cc, fa', fd', dd', st', D', F'⟩ := L.mt g n c m h'
    exact ⟨⟨Cc, fa', fd', dd'.ps, 2 * lv, D'.ns, D'.cls, D'.meth, F', Nat.le_refl _, D'.X.len, D'.b, D'.kb, D'.nei⟩⟩
  · intro c n h'
    obtain ⟨x, q', fl, Cc, fa', fd', dd', st', D', F'⟩ := L.mks c n h'
    exact ⟨⟨Cc, fa', fd', dd'.ps, 2 * lv, D'.ns, D'.mg, D'.mkr, F', Nat.le_refl _, D'.len, D'.b⟩⟩
theorem evF_succ {dd : FDef} {f : PySem.Str} {ss : List Sl} {n : Nat} {r : Option (D × List (List D))} (ht : T.lookup f = some dd) (h : evF T fuel (n + 1) f ss = r) : evD (evF T fuel n) fuel dd ss = r := by
  rw [← h]
  show _ = (match T.lookup f with | some d => evD (evF T fuel n) fuel d ss | none => none)
  rw [ht]
theorem if_some {α : Type} {c : Prop} [Decidable c] {x : Option α} {y : α} (h : (if c then x else none) = some y) : c ∧ x = some y := by
  by_cases q : c
  · rw [if_pos q] at h; exact ⟨q, h⟩
  · rw [if_neg q] at h; cases h
theorem step_fn (M : Mod K mg G T fuel) {lv : Nat} (L : Lv P w K mg base G T fuel lv) {f x q : PySem.Str} {n : Nat} {fa : Addr} {fd : FuncData} {dd : FDef} {st : Stmt} (DA : DefX K G T f x q n fa fd dd st) :
    FnG P w K mg base (2 * (lv + 1)) fa fd dd.ps (spF K (evF T fuel (lv + 1)) f n) := by
  refine FnG.mono (j := 2 * lv + 1 + 1) (funG DA.F DA.S (fun vs H Q E h => ?_) (fun cdv A outer s H vs Q E qt hr h => ?_)) (by omega)
  · obtain ⟨B, ss, ps, d, outs, _, _, _, e, _⟩ := h
    rw [e, DA.len]
  · obtain ⟨B, ss, ps, d, outs, bl, ar, nd, hl, e, q⟩ := h
    have e' := evF_succ DA.t e
    unfold evD at e'
    rw [DA.cl] at e'
    replace e' := (if_some e').2
    obtain ⟨⟨fl, env'⟩, g1, e'⟩ := bind_some e'
    obtain ⟨os, g2, e'⟩ := bind_some e'
    have xs := xs_of (outer := outer) (H := H) (E := E) (Pa := Pof vs) (B := B) M L DA.S qt hr
    refine ⟨_, (sndS_all dd.body).l xs DA.ck, B, fun a => a ∈ ps, _, fl, env', sim0 bl ar nd, g1, ?_⟩
    have fin : ∀ (d' : D) (v : V) (σ' : L2.St) (H' : Hp) (B' M' : AP'), d' = d → os = outs → Sim ⟨K, Pof vs, B, evF T fuel lv, fuel, fun _ => none, []⟩ H' B' M' σ' env' → Rep K H' B' d' v → Nx H B (fun a => a ∈ ps) H' B' M' → Q v H' := by
      intro d' v σ' H' B' M' ed eo s' r n'
      subst ed eo
      refine q v H' (r.less s'.bl s'.lo) ?_ n'.keep n'.al
      refine outs_ok ar g2 fun i xs' hi => ?_
      obtain ⟨a, ws, p1, p2, p3, p4, p5⟩ := s'.par i xs' hi
      exact ⟨a, ws, get_Pof p1, p3, p4.less s'.bl s'.lo⟩
    cases fl with
    | nx =>
      cases e'
      intro σ' H' B' M' s' n'
      exact fin .non .non σ' H' B' M' rfl rfl s' rfl n'
    | rt d' =>
      cases e'
      intro v σ' H' B' M' s' r n'
      exact fin _ v σ' H' B' M' rfl rfl s' r n'
    | bk => cases e'
    | ct => cases e'
theorem step_nw (M : Mod K mg G T fuel) {lv : Nat} (L : Lv P w K mg base G T fuel lv) {f : PySem.Str} {n : Nat} {kf : List (Nat × List PySem.Str × List Nat)} {fa : Addr} {fd : FuncData} {dd : FDef} {st : Stmt} (DA : DefAt K mg G T f n kf fa fd dd st) (hn : lastNew dd.body = true) :
    FnG P w K mg base (2 * (lv + 1) + 1) fa fd dd.ps (spN K (evF T fuel (lv + 1)) f n) := by
  refine FnG.mono (j := 2 * lv + 1 + 1) (funG DA.F DA.S (fun vs H Q E h => ?_) (fun cdv A outer s H vs Q E qt hr h => ?_)) (by omega)
  · obtain ⟨B, ds, xs, _, _, e, _⟩ := h
    rw [e, DA.len]
  · obtain ⟨B, ds, zs, bl, ar, hl, e, q⟩ := h
    have e' := evF_succ DA.t e
    unfold evD at e'
    rw [DA.cl] at e'
    replace e' := (if_some e').2
    obtain ⟨⟨fl, env'⟩, g1, e'⟩ := bind_some e'
    obtain ⟨os, g2, e'⟩ := bind_some e'
    have xs := xs_of (outer := outer) (H := H) (E := E) (Pa := Pof vs) (B := B) M L DA.S qt hr
    cases fl with
    | rt d' =>
      cases e'
      refine ⟨_, new_body dd.body xs DA.ck hn, B, fun a => a ∈ ([] : List Addr), _, _, env', sim0 bl (argR_vals ar) List.nodup_nil, g1, fun p ws H' B' M' hp hp' r nb lo bl' n' => ?_⟩
      refine q p H' ws hp hp' ?_ (fun a o h => n'.keep a o h (by simp)) n'.al
      exact (r _ rfl).less (bl'.ins hp') fun a z => z.elim .inl fun z => .inr (lo a z)
    | nx => cases e'
    | bk => cases e'
    | ct => cases e'
theorem step_mk (M : Mod K mg G T fuel) {lv : Nat} (L : Lv P w K mg base G T fuel lv) {c x q : PySem.Str} {n : Nat} {fl : List PySem.Str} {Cc fa : Addr} {fd : FuncData} {dd : FDef} {st : Stmt} (DA : DefM K mg G T c x q n fl Cc fa fd dd st) :
    FnG P w K mg base (2 * (lv + 1)) fa fd dd.ps (spM K (evF T fuel (lv + 1)) c n) := by
  refine FnG.mono (j := 2 * lv + 1 + 1) (funG DA.F DA.S (fun vs H Q E h => ?_) (fun cdv A outer s H vs Q E qt hr h => ?_)) (by omega)
  · obtain ⟨p, ws, _, _, _, _, _, _, rfl, e, _⟩ := h
    rw [List.length_cons, e, DA.len]
  · obtain ⟨p, ws, Cc', dx, B, ds, ks, xs, rfl, hl, hn, hx, hB, bl, r, e, q⟩ := h
    have hCC : Cc' = Cc := by
      have := hn.symm.trans DA.ns
      simpa using this
    subst hCC
    have e' := evF_succ DA.t e
    unfold evD at e'
    rw [DA.cl] at e'
    replace e' := (if_some e').2
    rw [Option.map_eq_some_iff] at e'
    obtain ⟨⟨ks', xs'⟩, e1, e2⟩ := e'
    cases e2
    have xs0 := xs_of (outer := outer) (H := H) (E := E) (Pa := Pof (.ref p :: ws)) (B := B) M L DA.S qt hr
    have cap := evM_cap e1
    have sz := DA.sz
    refine ⟨_, q_make (p := p) (Cc := Cc') (dx := dx) xs0 M.ne DA.fl DA.ns rfl hB dd.body DA.ck, [], [], [], B, fun _ => False, _, ks', xs', H, simM bl hx r, rfl, rfl, ?_, e1, fun a o h _ => h, fun a h => h, fun a z => z.elim, fun σ' H' us h1 h2 h3 h4 h5 h6 => q H' us h1 h4 h3 h5 h6⟩
    rw [List.length_nil] at cap
    omega
theorem lv_all (M : Mod K mg G T fuel) : ∀ lv, Lv P w K mg base G T fuel lv
  | 0 => by
    refine ⟨fun f n kf h => ?_, fun f n h => ?_, fun g n c m h => ?_, fun c n h => ?_⟩
    · obtain ⟨fa, fd, dd, st, DA⟩ := M.fn f n kf h
      refine ⟨fa, fd, dd, st, DA, fun vs H Q E h => ?_, fun A outer s H args us vs Q E _ _ _ _ _ h => ?_⟩
      · obtain ⟨B, ss, ps, d, outs, _, _, _, _, e, _⟩ := h; cases e
      · obtain ⟨B, ss, ps, d, outs, _, _, _, _, e, _⟩ := h; cases e
    · obtain ⟨fa, fd, dd, st, DA, hn⟩ := M.nw f n h
      refine ⟨fa, fd, dd, st, DA, fun vs H Q E h => ?_, fun A outer s H args us vs Q E _ _ _ _ _ h => ?_⟩
      · obtain ⟨B, ds, xs, _, _, _, e, _⟩ := h; cases e
      · obtain ⟨B, ds, xs, _, _, _, e, _⟩ := h; cases e
    · obtain ⟨x, q, Cc, fa, fd, dd, st, DA⟩ := M.mt g n c m h
      refine ⟨x, q, Cc, fa, fd, dd, st, DA, fun vs H Q E h => ?_, fun A outer s H args us vs Q E _ _ _ _ _ h => ?_⟩
      · obtain ⟨B, ss, ps, d, outs, _, _, _, _, e, _⟩ := h; cases e
      · obtain ⟨B, ss, ps, d, outs, _, _, _, _, e, _⟩ := h; cases e
    · obtain ⟨x, q, fl, Cc, fa, fd, dd, st, DA⟩ := M.mks c n h
      refine ⟨x, q, fl, Cc, fa, fd, dd, st, DA, fun vs H Q E h => ?_, fun A outer s H args us vs Q E _ _ _ _ _ h => ?_⟩
      · obtain ⟨p, ws, Cc', dx, B, ds, ks, xs, _, _, _, _, _, _, _, e, _⟩ := h; cases e
      · obtain ⟨p, ws, Cc', dx, B, ds, ks, xs, _, _, _, _, _, _, _, e, _⟩ := h; cases e
  | lv + 1 => by
    have L := lv_all M lv
    refine ⟨fun f n kf h => ?_, fun f n h => ?_, fun g n c m h => ?_, fun c n h => ?_⟩
    · obtain ⟨fa, fd, dd, st, DA⟩ := M.fn f n kf h
      exact ⟨fa, fd, dd, st, DA, (step_fn M L DA.X).mono (by omega)⟩
    · obtain ⟨fa, fd, dd, st, DA, hn⟩ := M.nw f n h
      exact ⟨fa, fd, dd, st, DA, step_nw M L DA hn⟩
    · obtain ⟨x, q, Cc, fa, fd, dd, st, DA⟩ := M.mt g n c m h
      exact ⟨x, q, Cc, fa, fd, dd, st, DA, step_fn M L DA.X⟩
    · obtain ⟨x, q, fl, Cc, fa, fd, dd, st, DA⟩ := M.mks c n h
      exact ⟨x, q, fl, Cc, fa, fd, dd, st, DA, step_mk M L DA⟩
end Mn
namespace Mn
open PySem L2 RZ
variable {K : PySem.W.Frag} {P : Program} {w : World} {mg : PySem.Str → Option Value} {base : Heap} {G : GS} {T : List (PySem.Str × FDef)} {fuel lv : Nat}
theorem vals_get {vs : List V} {us : List Value} (h : Vals vs us) : ∀ {i : Nat} {v : V}, vs[i]? = some v → ∃ u, us[i]? = some u ∧ RelV v u := by
  induction h with
  | nil => intro i v e; simp at e
  | cons h t ih =>
    intro i v e
    cases i with
    | zero => simp at e; subst e; exact ⟨_, rfl, h⟩
    | succ i => rw [List.getElem?_cons_succ] at e ⊢; exact ih e
theorem vals_app {vs ws : List V} {us zs : List Value} (h : Vals vs us) (g : Vals ws zs) : Vals (vs ++ ws) (us ++ zs) := by
  induction h with
  | nil => exact g
  | cons h t ih => exact .cons h ih
theorem vals_len {vs : List V} {us : List Value} (h : Vals vs us) : us.length = vs.length := by
  induction h with
  | nil => rfl
  | cons h t ih => simp [ih]
theorem vals_none {vs : List V} {us : List Value} (h : Vals vs us) {i : Nat} (e : vs[i]? = none) : us[i]? = none := by
  rw [List.getElem?_eq_none_iff] at e ⊢
  rw [vals_len h]; exact e
theorem vals_perm {vs : List V} {us : List Value} (h : Vals vs us) : ∀ pm : List Nat, (∃ ws zs, permA vs pm = some ws ∧ permA us pm = some zs ∧ Vals ws zs) ∨ (permA vs pm = none ∧ permA us pm = none)
  | [] => .inl ⟨[], [], rfl, rfl, .nil⟩
  | i :: r => by
    unfold permA
    cases e : vs[i]? with
    | none => rw [vals_none h e]; exact .inr ⟨rfl, rfl⟩
    | some v =>
      obtain ⟨u, e2, rv⟩ := vals_get h e
      rw [e2]
      rcases vals_perm h r with ⟨ws, zs, h1, h2, h3⟩ | ⟨h1, h2⟩
      · rw [h1, h2]; exact .inl ⟨v :: ws, u :: zs, rfl, rfl, .cons rv h3⟩
      · rw [h1, h2]; exact .inr ⟨rfl, rfl⟩
/-- a call with keywords, by the def's own binding -/
theorem kb_of {x qual : PySem.Str} {st : Stmt} {f : Addr} {fd : FuncData} {ps ks : List PySem.Str} {n : Nat} {pm : List Nat} (F : Fun K x qual st f fd)
    (h : ∀ (kV doc pmv : Value) (an : Option Addr) (cdv ct : Value) (us ws : List Value), us.length = n → ws.length = ks.length → bindArgs (PySem.W.fnOf x qual (defArgs st) (defBody st) (defScope st) .none kV doc pmv an cdv ct) ⟨us, ks.zip ws⟩ = pure (ps.zip ((permA (us ++ ws) pm).getD [])))
    (hps : ps ≠ []) : KBinds K fd ps ks (gP n ks.length pm) (gP n ks.length pm) where
  to := fun s us ws hk hl => by
    unfold gP at hl ⊢
    split at hl
    case isFalse => exact absurd (List.length_eq_zero_iff.1 hl.symm) hps
    rename_i hq
    obtain ⟨oc, od, kV, doc, pmv, an, cdv, ct, osl, rfl, lk, hcd⟩ := F.ex
    rw [if_pos hq]
    exact .of_eq (h kV doc pmv an cdv ct us ws hq.1 hq.2)
  rel := fun {vs us zs ws} r1 r2 => by
    unfold gP
    rw [vals_len r1, vals_len r2]
    split
    · rcases vals_perm (vals_app r1 r2) pm with ⟨a, b, h1, h2, h3⟩ | ⟨h1, h2⟩
      · rw [h1, h2]; exact h3
      · rw [h1, h2]; exact .nil
    · exact .nil
theorem fz_of {H : Hp} {a : Addr} {xs : List V} (ho : Only H) (h : SqL K H a xs) : FzL K H a xs := by
  rcases h with (h | h) | h
  · rcases ho a with z | ⟨o, ys, z⟩ <;> (rw [h] at z; cases z)
  · exact .inl h
  · exact .inr h
/-- the law's promise, from its reading -/
theorem sp_law {F : FT} {ns : List Int} (h : F "law" [.val (.scr ns)] = some (.bl true, [])) {H : Hp} {a : Addr} (ho : Only H) (hs : SqL K H a (ns.map V.int)) {E : XK} :
    spF K F "law" 1 [V.ref a] H (fun v _ => v = V.bl true) E := by
  refine ⟨fun _ => False, [.val (.scr ns)], [], .bl true, [], fun _ z => z.elim, ⟨.ref a, [], rfl, ⟨a, rfl, fz_of ho hs⟩, rfl, rfl⟩, List.nodup_nil, rfl, h, fun v H' r _ _ _ => r⟩
end Mn
namespace Mn
open PySem L2 RZ
variable {K : PySem.W.Frag} {P : Program} {w : World} {mg : PySem.Str → Option Value} {base : Heap} {G : GS} {T : List (PySem.Str × FDef)} {fuel lv : Nat} {h : Heap}
structure FAt (K : PySem.W.Frag) (f : PySem.Str) (st : Stmt) (fa : Addr) : Prop where
  ns : PySem.W.nsIn K mainGlobals f = some (some (.ref fa))
  fn : ∃ fd, Fun K f f st fa fd
theorem FAt.mk' (X : K.In h) {f : PySem.Str} {st : Stmt} {fa : Addr} {oc : Value} {od an : Option Addr} {osl : Array (Option Value)} {kV doc pm cdv ct : Value}
    (a : PySem.W.nsIn K mainGlobals f = some (some (.ref fa)))
    (l : K.lookup fa = some ⟨oc, od, .func (PySem.W.fnOf f f (defArgs st) (defBody st) (defScope st) .none kV doc pm an cdv ct), osl⟩)
    (c : PySem.W.codeIn K cdv f = true) (k : PySem.W.keepIn K (.ref fa) = true) : ∃ fa, FAt K f st fa := ⟨fa, a, _, fun_mk l c k⟩
/-- a constant of the module: a tuple of two whole numbers -/
structure CAt2 (K : PySem.W.Frag) (x : PySem.Str) (i j : Int) : Prop where
  ex : ∃ a o its n, PySem.W.nsIn K mainGlobals x = some (some (.ref a)) ∧ K.lookup a = some o ∧ o.cls = Value.type "tuple" ∧ o.dict = none ∧ o.data = Data.seq its n ∧ its.size ≤ sizeLine ∧ Vals [V.int i, V.int j] its.toList
theorem CAt2.mk' (X : K.In h) {x : PySem.Str} {i j : Int} {a : Addr} {t u : Tok} {n : Nat} {sl : Array (Option Value)}
    (e : PySem.W.nsIn K mainGlobals x = some (some (.ref a))) (l : K.lookup a = some ⟨.type "tuple", none, .seq #[.int i t, .int j u] n, sl⟩) : CAt2 K x i j :=
  ⟨a, _, _, _, e, l, rfl, rfl, rfl, by show 2 ≤ sizeLine; decide, .cons ⟨t, rfl⟩ (.cons ⟨u, rfl⟩ .nil)⟩
def AllP {α : Type} (Pr : α → Prop) : List α → Prop
  | [] => True
  | a :: r => Pr a ∧ AllP Pr r
theorem AllP.mem {α : Type} {Pr : α → Prop} : ∀ {l : List α}, AllP Pr l → ∀ a ∈ l, Pr a
  | [], _, a, m => nomatch m
  | b :: r, h, a, m => by
    rcases List.mem_cons.1 m with rfl | m
    · exact h.1
    · exact AllP.mem h.2 a m
theorem mem_look {β : Type} {f : PySem.Str} {v : β} : ∀ {l : List (PySem.Str × β)}, l.lookup f = some v → (f, v) ∈ l
  | [], h => by simp at h
  | (g, u) :: r, h => by
    rw [List.lookup_cons] at h
    split at h
    · rename_i e
      cases h
      rw [eq_of_beq e]
      exact List.mem_cons_self
    · exact List.mem_cons_of_mem _ (mem_look h)
theorem da_of (X : K.In h) (Gm : h.Ns mainGlobals mg) {f : PySem.Str} {n : Nat} {kf : List (Nat × List PySem.Str × List Nat)} {dd : FDef} {st : Stmt} (e : ∃ fa, FAt K f st fa) (ht : T.lookup f = some dd) (hcl : dd.cl = none) (S : FnScope dd.ns dd.ps (defScope st)) (ck : ckSs G dd.ns (defScope st) dd.body (defBody st) = true) (hl : dd.ps.length = n)
    (hb : ∀ (kV doc pm : Value) (an : Option Addr) (cdv ct : Value) (us : List Value), us.length = dd.ps.length → bindArgs (PySem.W.fnOf f f (defArgs st) (defBody st) (defScope st) .none kV doc pm an cdv ct) ⟨us, []⟩ = pure (dd.ps.zip us))
    (hk : ∀ t ∈ kf, dd.ps ≠ [] ∧ ∀ (kV doc pmv : Value) (an : Option Addr) (cdv ct : Value) (us ws : List Value), us.length = t.1 → ws.length = t.2.1.length → bindArgs (PySem.W.fnOf f f (defArgs st) (defBody st) (defScope st) .none kV doc pmv an cdv ct) ⟨us, t.2.1.zip ws⟩ = pure (dd.ps.zip ((permA (us ++ ws) t.2.2).getD []))) :
    ∃ fa fd dd st, DefAt K mg G T f n kf fa fd dd st := by
  obtain ⟨fa, a, fd, F⟩ := e
  exact ⟨fa, fd, dd, st, ht, hcl, PySem.W.mg_of X Gm a, F, S, ck, hl, F.binds hb, fun t m => kb_of F (hk t m).2 (hk t m).1⟩
theorem co_of (X : K.In h) (Gm : h.Ns mainGlobals mg) {x : PySem.Str} {i j : Int} (c : CAt2 K x i j) (ht : T.lookup x = some ⟨[], [], .seq (.ret (.tup (.cons (.con (.int i)) (.cons (.con (.int j)) .nil)))) .nil, none⟩) : ∀ n d o, evF T fuel n x [] = some (d, o) → ∃ v u, mg x = some u ∧ RelV v u ∧ ∀ H B, Rep K H B d v := by
  intro n d o e
  cases n with
  | zero => cases e
  | succ n =>
    have e' := evF_succ ht e
    have e2 : some (D.tup [.int i, .int j], ([] : List (List D))) = some (d, o) := by
      rw [← e']
      rfl
    cases e2
    obtain ⟨a, ob, its, m, e1, e2, e3, e4, e5, e6, e7⟩ := c.ex
    exact ⟨.ref a, .ref a, PySem.W.mg_of X Gm e1, rfl, fun H B => ⟨a, _, rfl, .inr ⟨ob, its, m, e2, e3, e5, e6, e7⟩, ⟨_, _, rfl, rfl, _, _, rfl, rfl, rfl⟩⟩⟩
theorem da_new {f : PySem.Str} {n : Nat} {kf : List (Nat × List PySem.Str × List Nat)} {d0 : FDef} (e : ∃ fa fd dd st, DefAt K mg G T f n kf fa fd dd st) (ht : T.lookup f = some d0) (hn : lastNew d0.body = true) : ∃ fa fd dd st, DefAt K mg G T f n [] fa fd dd st ∧ lastNew dd.body = true := by
  obtain ⟨fa, fd, dd, st, DA⟩ := e
  have := DA.t.symm.trans ht
  obtain rfl := Option.some.inj this
  exact ⟨fa, fd, _, st, ⟨DA.t, DA.cl, DA.mg, DA.F, DA.S, DA.ck, DA.len, DA.b, fun _ z => nomatch z⟩, hn⟩
theorem law_fin (M : Mod K mg G T fuel) (X : K.In h) (Gm : h.Ns mainGlobals mg) {dd : FDef} {st : Stmt} (e : ∃ fa, FAt K "law" st fa) (ht : T.lookup ("law" : PySem.Str) = some dd) (hcl : dd.cl = none) (S : FnScope dd.ns dd.ps (defScope st)) (ck : ckSs G dd.ns (defScope st) dd.body (defBody st) = true) (hps : dd.ps = [("script" : PySem.Str)])
    (hb : ∀ (kV doc pm : Value) (an : Option Addr) (cdv ct : Value) (us : List Value), us.length = dd.ps.length → bindArgs (PySem.W.fnOf "law" "law" (defArgs st) (defBody st) (defScope st) .none kV doc pm an cdv ct) ⟨us, []⟩ = pure (dd.ps.zip us)) {fa : Addr} (hfa : mg "law" = some (.ref fa)) :
    ∃ fd : FuncData, (∀ (s : Shared) (u : Value), BindsTo s fd ⟨[u], []⟩ [("script", u)]) ∧ ∀ base : Heap, K.In base → base.Ns mainGlobals mg → FnG P w K mg base (2 * (lv + 1) + 1) fa fd ["script"] (spF K (evF T fuel (lv + 1)) "law" 1) := by
  obtain ⟨fa', a, fd, F⟩ := e
  have hm := PySem.W.mg_of X Gm a
  rw [hfa] at hm
  cases hm
  refine ⟨fd, fun s u => ?_, fun base _ _ => ?_⟩
  · obtain ⟨oc, od, kV, doc, pmv, an, cdv, ct, osl, rfl, lk, hcd⟩ := F.ex
    have := hb kV doc pmv an cdv ct [u] (by rw [hps]; rfl)
    rw [hps] at this
    exact .of_eq this
  · have DA : DefAt K mg G T "law" 1 [] fa fd dd st := ⟨ht, hcl, hfa, F, S, ck, by rw [hps]; rfl, F.binds hb, fun _ z => nomatch z⟩
    have := (step_fn (P := P) (w := w) (base := base) M (lv_all M lv) DA.X).mono (k := 2 * (lv + 1) + 1) (by omega)
    rw [hps] at this
    exact this
/-- a def of a class's body -/
structure FAtC (K : PySem.W.Frag) (x q : PySem.Str) (st : Stmt) (fa : Addr) : Prop where
  fn : ∃ fd, Fun K x q st fa fd
theorem FAtC.mk' {x q : PySem.Str} {st : Stmt} {fa : Addr} {oc : Value} {od an : Option Addr} {osl : Array (Option Value)} {kV doc pm cdv ct : Value}
    (l : K.lookup fa = some ⟨oc, od, .func (PySem.W.fnOf x q (defArgs st) (defBody st) (defScope st) .none kV doc pm an cdv ct), osl⟩)
    (c : PySem.W.codeIn K cdv q = true) (k : PySem.W.keepIn K (.ref fa) = true) : FAtC K x q st fa := ⟨_, fun_mk l c k⟩
theorem mth_of {g x q : PySem.Str} {n : Nat} {c : PySem.Str} {m : PySem.Str × List PySem.Str} {dd : FDef} {st : Stmt} (e : ∃ Cc fa, PySem.W.nsIn K mainGlobals c = some (some (.ref Cc)) ∧ Cls K Cc ∧ Meth K Cc m.1 fa ∧ FAtC K x q st fa) (ht : T.lookup g = some dd) (hcl : dd.cl = none) (S : FnScope dd.ns dd.ps (defScope st)) (ck : ckSs G dd.ns (defScope st) dd.body (defBody st) = true) (hl : dd.ps.length = n)
    (hb : ∀ (kV doc pm : Value) (an : Option Addr) (cdv ct : Value) (us : List Value), us.length = dd.ps.length → bindArgs (PySem.W.fnOf x q (defArgs st) (defBody st) (defScope st) .none kV doc pm an cdv ct) ⟨us, []⟩ = pure (dd.ps.zip us))
    (hk : 2 ≤ n → m.2.length = n - 1 ∧ ∀ (kV doc pmv : Value) (an : Option Addr) (cdv ct : Value) (us ws : List Value), us.length = 1 → ws.length = m.2.length → bindArgs (PySem.W.fnOf x q (defArgs st) (defBody st) (defScope st) .none kV doc pmv an cdv ct) ⟨us, m.2.zip ws⟩ = pure (dd.ps.zip ((permA (us ++ ws) (List.range n)).getD [])))
    (ne : ∀ Cc, PySem.W.nsIn K mainGlobals c = some (some (.ref Cc)) → NeIf K m.1 Cc) :
    ∃ x q Cc fa fd dd st, DefO K G T g x q n c m Cc fa fd dd st := by
  obtain ⟨Cc, fa, h1, h2, h3, fd, F⟩ := e
  refine ⟨x, q, Cc, fa, fd, dd, st, ⟨ht, hcl, F, S, ck, hl⟩, h1, h2, h3, F.binds hb, fun h2 => ?_, ne Cc h1⟩
  have := kb_of (n := 1) (pm := List.range n) F (hk h2).2 (by intro z; rw [z] at hl; simp at hl; omega)
  rw [(hk h2).1] at this
  exact this
theorem mks_of (X : K.In h) (Gm : h.Ns mainGlobals mg) {c x q : PySem.Str} {n : Nat} {fl : List PySem.Str} {dd : FDef} {st : Stmt} (e : ∃ Cc fa, PySem.W.nsIn K mainGlobals c = some (some (.ref Cc)) ∧ Mk K Cc fa ∧ FAtC K x q st fa) (ht : T.lookup c = some dd) (hcl : dd.cl = some c) (S : FnScope dd.ns dd.ps (defScope st)) (ck : ckM c fl G dd.ns (defScope st) dd.body (defBody st) = true) (hl : dd.ps.length = n + 1) (hz : mlen dd.body < 900)
    (hf : ∀ f ∈ fl, (c, f) ∈ G.ca)
    (hb : ∀ (kV doc pm : Value) (an : Option Addr) (cdv ct : Value) (us : List Value), us.length = dd.ps.length → bindArgs (PySem.W.fnOf x q (defArgs st) (defBody st) (defScope st) .none kV doc pm an cdv ct) ⟨us, []⟩ = pure (dd.ps.zip us)) :
    ∃ x q fl Cc fa fd dd st, DefM K mg G T c x q n fl Cc fa fd dd st := by
  obtain ⟨Cc, fa, h1, h2, fd, F⟩ := e
  exact ⟨x, q, fl, Cc, fa, fd, dd, st, ht, hcl, F, S, ck, hl, hz, hf, h1, PySem.W.mg_of X Gm h1, h2, F.binds hb⟩
theorem MAt.mk' (_ : K.In h) {c m x q : PySem.Str} {st : Stmt} {Cc fa : Addr} {oc : Value} {od an : Option Addr} {osl : Array (Option Value)} {kV doc pm cdv ct : Value}
    (a : PySem.W.nsIn K mainGlobals c = some (some (.ref Cc))) (pg : PySem.W.plainGet K Cc PySem.Str.empty = true) (hd : PySem.W.hasDictIn K Cc = true) (po : PySem.W.plainOver K Cc = true) (sa : PySem.W.findIn K (.ref Cc) "__setattr__" = some (some (.builtin "object.__setattr__")))
    (f1 : PySem.W.findIn K (.ref Cc) m = some (some (.ref fa))) (i1 : PySem.W.isFn K (.ref fa) = true)
    (l : K.lookup fa = some ⟨oc, od, .func (PySem.W.fnOf x q (defArgs st) (defBody st) (defScope st) .none kV doc pm an cdv ct), osl⟩)
    (cd : PySem.W.codeIn K cdv q = true) (k : PySem.W.keepIn K (.ref fa) = true) : ∃ Cc fa, PySem.W.nsIn K mainGlobals c = some (some (.ref Cc)) ∧ Cls K Cc ∧ Meth K Cc m fa ∧ FAtC K x q st fa :=
  ⟨Cc, fa, a, ⟨pg, hd, po, sa⟩, ⟨f1, i1, k⟩, FAtC.mk' l cd k⟩
theorem IAt.mk' (_ : K.In h) {c x q : PySem.Str} {st : Stmt} {Cc fa : Addr} {oc : Value} {od an : Option Addr} {osl : Array (Option Value)} {kV doc pm cdv ct : Value}
    (a : PySem.W.nsIn K mainGlobals c = some (some (.ref Cc))) (mk : PySem.W.makesIn K Cc = true)
    (f1 : PySem.W.findIn K (.ref Cc) "__init__" = some (some (.ref fa))) (i1 : PySem.W.isFn K (.ref fa) = true) (kc : PySem.W.keepIn K (.ref Cc) = true)
    (l : K.lookup fa = some ⟨oc, od, .func (PySem.W.fnOf x q (defArgs st) (defBody st) (defScope st) .none kV doc pm an cdv ct), osl⟩)
    (cd : PySem.W.codeIn K cdv q = true) (k : PySem.W.keepIn K (.ref fa) = true) : ∃ Cc fa, PySem.W.nsIn K mainGlobals c = some (some (.ref Cc)) ∧ Mk K Cc fa ∧ FAtC K x q st fa :=
  ⟨Cc, fa, a, ⟨mk, f1, i1, kc⟩, FAtC.mk' l cd k⟩
theorem AAt.mk' (_ : K.In h) {c f : PySem.Str} {Cc : Addr}
    (a : PySem.W.nsIn K mainGlobals c = some (some (.ref Cc))) (pg : PySem.W.plainGet K Cc PySem.Str.empty = true) (hd : PySem.W.hasDictIn K Cc = true) (po : PySem.W.plainOver K Cc = true) (sa : PySem.W.findIn K (.ref Cc) "__setattr__" = some (some (.builtin "object.__setattr__")))
    (n : PySem.W.findIn K (.ref Cc) f = some none) : ∃ Cc, PySem.W.nsIn K mainGlobals c = some (some (.ref Cc)) ∧ Cls K Cc ∧ NoAttr K Cc f :=
  ⟨Cc, a, ⟨pg, hd, po, sa⟩, n⟩
end Mn
namespace L16
open PySem L2 Mn
def d__wall : FDef := ⟨["k"], ["k"], (.seq (.whl (.tval (.con (.bl true))) (.seq .pas .nil)) .nil), none⟩
def d_is_plain_integer : FDef := ⟨["value"], ["value"], (.seq (.ret (.vand (.blt (.isi "int") (.cons (.var 0) .nil)) (.vnot (.blt (.isi "bool") (.cons (.var 0) .nil))))) .nil), none⟩
def d_is_fraction : FDef := ⟨["value"], ["value", "top", "bottom"], (.seq (.iff (.tor (.tnot (.tval (.blt (.isi "tuple") (.cons (.var 0) .nil)))) (.tval (.cmp .ne (.blt .len (.cons (.var 0) .nil)) (.con (.int 2))))) (.seq (.ret (.con (.bl false))) .nil) .nil) (.seq (.unp [1, 2] (.var 0)) (.seq (.iff (.tor (.tnot (.tval (.call "is_plain_integer" [0] (.cons (.tval (.var 1)) .nil)))) (.tnot (.tval (.call "is_plain_integer" [0] (.cons (.tval (.var 2)) .nil))))) (.seq (.ret (.con (.bl false))) .nil) .nil) (.seq (.ret (.vand (.cmp .ge (.var 2) (.con (.int 1))) (.cmp .eq (.blt .gcd (.cons (.var 1) (.cons (.var 2) .nil))) (.con (.int 1))))) .nil)))), none⟩
def d_is_time : FDef := ⟨["value"], ["value"], (.seq (.ret (.vand (.call "is_fraction" [0] (.cons (.tval (.var 0)) .nil)) (.cmp .ge (.ix (.var 0) (.con (.int 0))) (.con (.int 0))))) .nil), none⟩
def d_in_least_terms : FDef := ⟨["top", "bottom"], ["top", "bottom", "shared"], (.seq (.asg 2 (.blt .gcd (.cons (.var 0) (.cons (.var 1) .nil)))) (.seq (.ret (.tup (.cons (.bin .div (.var 0) (.var 2)) (.cons (.bin .div (.var 1) (.var 2)) .nil)))) .nil)), none⟩
def d_added : FDef := ⟨["one", "other"], ["one", "other"], (.seq (.ret (.call "in_least_terms" [0, 1] (.cons (.tval (.bin .add (.bin .mul (.ix (.var 0) (.con (.int 0))) (.ix (.var 1) (.con (.int 1)))) (.bin .mul (.ix (.var 1) (.con (.int 0))) (.ix (.var 0) (.con (.int 1)))))) (.cons (.tval (.bin .mul (.ix (.var 0) (.con (.int 1))) (.ix (.var 1) (.con (.int 1))))) .nil)))) .nil), none⟩
def d_subtracted : FDef := ⟨["one", "other"], ["one", "other"], (.seq (.ret (.call "in_least_terms" [0, 1] (.cons (.tval (.bin .sub (.bin .mul (.ix (.var 0) (.con (.int 0))) (.ix (.var 1) (.con (.int 1)))) (.bin .mul (.ix (.var 1) (.con (.int 0))) (.ix (.var 0) (.con (.int 1)))))) (.cons (.tval (.bin .mul (.ix (.var 0) (.con (.int 1))) (.ix (.var 1) (.con (.int 1))))) .nil)))) .nil), none⟩
def d_multiplied : FDef := ⟨["one", "other"], ["one", "other"], (.seq (.ret (.call "in_least_terms" [0, 1] (.cons (.tval (.bin .mul (.ix (.var 0) (.con (.int 0))) (.ix (.var 1) (.con (.int 0))))) (.cons (.tval (.bin .mul (.ix (.var 0) (.con (.int 1))) (.ix (.var 1) (.con (.int 1))))) .nil)))) .nil), none⟩
def d_divided : FDef := ⟨["one", "other"], ["one", "other"], (.seq (.ret (.call "in_least_terms" [0, 1] (.cons (.tval (.bin .mul (.ix (.var 0) (.con (.int 0))) (.ix (.var 1) (.con (.int 1))))) (.cons (.tval (.bin .mul (.ix (.var 0) (.con (.int 1))) (.ix (.var 1) (.con (.int 0))))) .nil)))) .nil), none⟩
def d_is_less : FDef := ⟨["one", "other"], ["one", "other"], (.seq (.ret (.cmp .lt (.bin .mul (.ix (.var 0) (.con (.int 0))) (.ix (.var 1) (.con (.int 1)))) (.bin .mul (.ix (.var 1) (.con (.int 0))) (.ix (.var 0) (.con (.int 1)))))) .nil), none⟩
def d_is_integer_text : FDef := ⟨["word"], ["word", "digits"], (.seq (.asg 1 (.mth .pre (.var 0) (.cons (.con (.str "-")) .nil))) (.seq (.iff (.tor (.tnot (.tval (.mth .asc (.var 1) .nil))) (.tnot (.tval (.mth .dig (.var 1) .nil)))) (.seq (.ret (.con (.bl false))) .nil) .nil) (.seq (.ret (.vor (.cmp .eq (.var 0) (.con (.str "0"))) (.vnot (.mth .stw (.var 1) (.cons (.con (.str "0")) .nil))))) .nil))), none⟩
def d_read_fraction : FDef := ⟨["word"], ["word", "fraction", "top", "slash", "bottom"], (.seq (.unp [2, 3, 4] (.mth .part (.var 0) (.cons (.con (.str "/")) .nil))) (.seq (.iff (.tnot (.tval (.call "is_integer_text" [0] (.cons (.tval (.var 2)) .nil)))) (.seq (.ret (.con .non)) .nil) .nil) (.seq (.iff (.tval (.cmp .eq (.var 3) (.con (.str "")))) (.seq (.ret (.tup (.cons (.blt .int (.cons (.var 2) .nil)) (.cons (.con (.int 1)) .nil)))) .nil) .nil) (.seq (.iff (.tnot (.tval (.call "is_integer_text" [0] (.cons (.tval (.var 4)) .nil)))) (.seq (.ret (.con .non)) .nil) .nil) (.seq (.asg 1 (.tup (.cons (.blt .int (.cons (.var 2) .nil)) (.cons (.blt .int (.cons (.var 4) .nil)) .nil)))) (.seq (.iff (.tor (.tval (.cmp .eq (.ix (.var 1) (.con (.int 1))) (.con (.int 1)))) (.tnot (.tval (.call "is_fraction" [0] (.cons (.tval (.var 1)) .nil))))) (.seq (.ret (.con .non)) .nil) .nil) (.seq (.ret (.var 1)) .nil))))))), none⟩
def d_read_above_zero : FDef := ⟨["word"], ["word", "fraction"], (.seq (.asg 1 (.call "read_fraction" [0] (.cons (.tval (.var 0)) .nil))) (.seq (.iff (.tor (.tval (.cmp .is (.var 1) (.con .non))) (.tval (.cmp .le (.ix (.var 1) (.con (.int 0))) (.con (.int 0))))) (.seq (.ret (.con .non)) .nil) .nil) (.seq (.ret (.var 1)) .nil))), none⟩
def d_inverse : FDef := ⟨["fraction"], ["fraction"], (.seq (.ret (.tup (.cons (.ix (.var 0) (.con (.int 1))) (.cons (.ix (.var 0) (.con (.int 0))) .nil)))) .nil), none⟩
def d_is_event : FDef := ⟨["value"], ["value"], (.seq (.iff (.tor (.tnot (.tval (.blt (.isi "tuple") (.cons (.var 0) .nil)))) (.tval (.cmp .ne (.blt .len (.cons (.var 0) .nil)) (.con (.int 2))))) (.seq (.ret (.con (.bl false))) .nil) .nil) (.seq (.ret (.vand (.call "is_fraction" [0] (.cons (.tval (.ix (.var 0) (.con (.int 0)))) .nil)) (.call "is_fraction" [0] (.cons (.tval (.ix (.var 0) (.con (.int 1)))) .nil)))) .nil)), none⟩
def d_check_event : FDef := ⟨["value"], ["value"], (.seq (.iff (.tnot (.tval (.call "is_event" [0] (.cons (.tval (.var 0)) .nil)))) (.seq .never .nil) .nil) .nil), none⟩
def d_flown : FDef := ⟨["event", "pace", "time"], ["event", "pace", "time"], (.seq (.ret (.tup (.cons (.call "added" [0, 1] (.cons (.tval (.ix (.var 0) (.con (.int 0)))) (.cons (.tval (.call "multiplied" [0, 1] (.cons (.tval (.var 1)) (.cons (.tval (.var 2)) .nil)))) .nil))) (.cons (.call "added" [0, 1] (.cons (.tval (.ix (.var 0) (.con (.int 1)))) (.cons (.tval (.call "divided" [0, 1] (.cons (.tval (.var 2)) (.cons (.tval (.var 1)) .nil)))) .nil))) .nil)))) .nil), none⟩
def d_last_stop : FDef := ⟨["course", "time"], ["course", "time", "stop"], (.seq (.ret (.ix (.comp (.seq) (.cons (.att ["Flight"] (.var 0) "stops") .nil) (.one 2) (.tnot (.tval (.call "is_less" [0, 1] (.cons (.tval (.var 1)) (.cons (.tval (.ix (.var 2) (.con (.int 0)))) .nil))))) (.var 2) [2]) (.neg (.con (.int 1))))) .nil), none⟩
def d_place_at : FDef := ⟨["course", "time"], ["course", "time", "begun", "event", "pace"], (.seq (.unp [2, 3, 4] (.call "last_stop" [0, 1] (.cons (.tval (.var 0)) (.cons (.tval (.var 1)) .nil)))) (.seq (.ret (.call "flown" [0, 1, 2] (.cons (.tval (.var 3)) (.cons (.tval (.var 4)) (.cons (.tval (.call "subtracted" [0, 1] (.cons (.tval (.var 1)) (.cons (.tval (.var 2)) .nil)))) .nil))))) .nil)), none⟩
def d_rate : FDef := ⟨["pace", "plane"], ["pace", "plane"], (.seq (.ret (.ite (.tval (.cmp .eq (.var 1) (.con (.int 0)))) (.var 0) (.call "inverse" [0] (.cons (.tval (.var 0)) .nil)))) .nil), none⟩
def d_time_at : FDef := ⟨["course", "plane", "worth"], ["course", "plane", "worth", "passed", "gone", "time", "begun", "event", "pace", "stop"], (.seq (.asg 3 (.comp (.seq) (.cons (.att ["Flight"] (.var 0) "stops") .nil) (.one 9) (.tnot (.tval (.call "is_less" [0, 1] (.cons (.tval (.var 2)) (.cons (.tval (.ix (.ix (.var 9) (.con (.int 1))) (.var 1))) .nil))))) (.var 9) [9])) (.seq (.iff (.tnot (.tvar 3)) (.seq (.ret (.con .non)) .nil) .nil) (.seq (.unp [6, 7, 8] (.ix (.var 3) (.neg (.con (.int 1))))) (.seq (.asg 4 (.call "subtracted" [0, 1] (.cons (.tval (.var 2)) (.cons (.tval (.ix (.var 7) (.var 1))) .nil)))) (.seq (.asg 5 (.call "added" [0, 1] (.cons (.tval (.var 6)) (.cons (.tval (.call "divided" [0, 1] (.cons (.tval (.var 4)) (.cons (.tval (.call "rate" [0, 1] (.cons (.tval (.var 8)) (.cons (.tval (.var 1)) .nil)))) .nil)))) .nil)))) (.seq (.iff (.tand (.tval (.cmp .isn (.att ["Flight"] (.var 0) "whole") (.con .non))) (.tval (.call "is_less" [0, 1] (.cons (.tval (.att ["Flight"] (.var 0) "whole")) (.cons (.tval (.var 5)) .nil))))) (.seq (.ret (.con .non)) .nil) .nil) (.seq (.ret (.var 5)) .nil))))))), none⟩
def d_hearing : FDef := ⟨["course", "event"], ["course", "event", "side", "kept", "grown", "time"], (.seq (.for_ (.seq) (.cons (.tup (.cons (.tup (.cons (.con (.str "left")) (.cons (.con (.int 1)) (.cons (.con (.int 0)) .nil)))) (.cons (.tup (.cons (.con (.str "right")) (.cons (.con (.int 0)) (.cons (.con (.int 1)) .nil)))) .nil))) .nil) (.many [2, 3, 4]) (.seq (.asg 5 (.call "time_at" [0, 1, 2] (.cons (.tval (.var 0)) (.cons (.tval (.var 3)) (.cons (.tval (.ix (.var 1) (.var 3))) .nil))))) (.seq (.iff (.tand (.tval (.cmp .isn (.var 5) (.con .non))) (.tval (.call "is_less" [0, 1] (.cons (.tval (.ix (.var 1) (.var 4))) (.cons (.tval (.ix (.call "place_at" [0, 1] (.cons (.tval (.var 0)) (.cons (.tval (.var 5)) .nil))) (.var 4))) .nil))))) (.seq (.ret (.tup (.cons (.var 2) (.cons (.var 5) .nil)))) .nil) .nil) .nil))) (.seq (.ret (.con .non)) .nil)), none⟩
def d_heard : FDef := ⟨["flight", "event"], ["flight", "event"], (.seq (.exp (.call "check_event" [0] (.cons (.tval (.var 1)) .nil))) (.seq (.ret (.call "hearing" [0, 1] (.cons (.tval (.var 0)) (.cons (.tval (.var 1)) .nil)))) .nil)), none⟩
def d_check_throw : FDef := ⟨["time", "factor", "many", "most"], ["time", "factor", "many", "most"], (.seq (.iff (.tnot (.tval (.call "is_time" [0] (.cons (.tval (.var 0)) .nil)))) (.seq .never .nil) .nil) (.seq (.iff (.tor (.tnot (.tval (.call "is_fraction" [0] (.cons (.tval (.var 1)) .nil)))) (.tnot (.tval (.call "is_less" [0, 1] (.cons (.tval (.glo "ONE")) (.cons (.tval (.var 1)) .nil)))))) (.seq .never .nil) .nil) (.seq (.iff (.tor (.tnot (.tval (.call "is_plain_integer" [0] (.cons (.tval (.var 2)) .nil)))) (.tnot (.tval (.chn .le .le (.con (.int 0)) (.var 2) (.var 3))))) (.seq .never .nil) .nil) .nil))), none⟩
def d_thrown_plain : FDef := ⟨["time", "factor", "many"], ["time", "factor", "many", "worth", "_"], (.seq (.exp (.call "check_throw" [0, 1, 2, 3] (.cons (.tval (.var 0)) (.cons (.tval (.var 1)) (.cons (.tval (.var 2)) (.cons (.tval (.con (.int 60))) .nil)))))) (.seq (.asg 3 (.var 0)) (.seq (.for_ (.rng) (.cons (.var 2) .nil) (.one 4) (.seq (.asg 3 (.call "multiplied" [0, 1] (.cons (.tval (.var 3)) (.cons (.tval (.var 1)) .nil)))) .nil)) (.seq (.ret (.var 3)) .nil)))), none⟩
def d_thrown : FDef := ⟨["time", "factor", "many", "modulus"], ["time", "factor", "many", "modulus", "top", "bottom"], (.seq (.exp (.call "check_throw" [0, 1, 2, 3] (.cons (.tval (.var 0)) (.cons (.tval (.var 1)) (.cons (.tval (.var 2)) (.cons (.tval (.bin .pow (.con (.int 10)) (.con (.int 18)))) .nil)))))) (.seq (.iff (.tor (.tnot (.tval (.call "is_modulus" [0] (.cons (.tval (.var 3)) .nil)))) (.tor (.tval (.cmp .eq (.bin .mod (.ix (.var 0) (.con (.int 1))) (.var 3)) (.con (.int 0)))) (.tval (.cmp .eq (.bin .mod (.ix (.var 1) (.con (.int 1))) (.var 3)) (.con (.int 0)))))) (.seq .never .nil) .nil) (.seq (.asg 4 (.bin .mul (.ix (.var 0) (.con (.int 0))) (.call "power" [0, 1, 2] (.cons (.tval (.ix (.var 1) (.con (.int 0)))) (.cons (.tval (.var 2)) (.cons (.tval (.var 3)) .nil)))))) (.seq (.asg 5 (.bin .mul (.ix (.var 0) (.con (.int 1))) (.call "power" [0, 1, 2] (.cons (.tval (.ix (.var 1) (.con (.int 1)))) (.cons (.tval (.var 2)) (.cons (.tval (.var 3)) .nil)))))) (.seq (.ret (.bin .mod (.bin .mul (.var 4) (.call "power" [0, 1, 2] (.cons (.tval (.var 5)) (.cons (.tval (.bin .sub (.var 3) (.con (.int 2)))) (.cons (.tval (.var 3)) .nil))))) (.var 3))) .nil))))), none⟩
def d_is_modulus : FDef := ⟨["value"], ["value", "divisor"], (.seq (.iff (.tor (.tnot (.tval (.call "is_plain_integer" [0] (.cons (.tval (.var 0)) .nil)))) (.tnot (.tval (.chn .le .le (.con (.int 3)) (.var 0) (.con (.int 9973)))))) (.seq (.ret (.con (.bl false))) .nil) .nil) (.seq (.ret (.blt .all (.cons (.comp (.rng) (.cons (.con (.int 2)) (.cons (.blt .min (.cons (.var 0) (.cons (.con (.int 100)) .nil))) .nil)) (.one 1) .tyes (.cmp .ne (.bin .mod (.var 0) (.var 1)) (.con (.int 0))) [1]) .nil))) .nil)), none⟩
def d_power : FDef := ⟨["base", "exponent", "modulus"], ["base", "exponent", "modulus", "worth", "square", "left"], (.seq (.asg 3 (.con (.int 1))) (.seq (.asg 4 (.bin .mod (.var 0) (.var 2))) (.seq (.asg 5 (.var 1)) (.seq (.whl (.tval (.cmp .gt (.var 5) (.con (.int 0)))) (.seq (.iff (.tval (.cmp .eq (.bin .mod (.var 5) (.con (.int 2))) (.con (.int 1)))) (.seq (.asg 3 (.bin .mod (.bin .mul (.var 3) (.var 4)) (.var 2))) .nil) .nil) (.seq (.asg 4 (.bin .mod (.bin .mul (.var 4) (.var 4)) (.var 2))) (.seq (.asg 5 (.bin .div (.var 5) (.con (.int 2)))) .nil)))) (.seq (.ret (.var 3)) .nil))))), none⟩
def d_read_flight : FDef := ⟨["text"], ["text", "lines", "first", "steps", "number", "line", "step"], (.seq (.iff (.tnot (.tval (.blt (.isi "str") (.cons (.var 0) .nil)))) (.seq .never .nil) .nil) (.seq (.asg 1 (.mth .split (.var 0) (.cons (.con (.str "\n")) .nil))) (.seq (.asg 2 (.call "read_first" [0] (.cons (.tval (.ix (.var 1) (.con (.int 0)))) .nil))) (.seq (.iff (.tval (.cmp .is (.var 2) (.con .non))) (.seq .never .nil) .nil) (.seq (.own 3 (.lst .nil)) (.seq (.for_ (.enumS 2) (.cons (.slc (.var 1) (.tval (.con (.int 1))) .nil) .nil) (.many [4, 5]) (.seq (.asg 6 (.call "read_step" [0] (.cons (.tval (.var 5)) .nil))) (.seq (.iff (.tval (.cmp .is (.var 6) (.con .non))) (.seq .never .nil) .nil) (.seq (.app 3 (.var 6)) .nil)))) (.seq (.ret (.tup (.cons (.ix (.var 2) (.con (.int 0))) (.cons (.ix (.var 2) (.con (.int 1))) (.cons (.blt .tuple (.cons (.var 3) .nil)) .nil))))) .nil))))))), none⟩
def d_read_first : FDef := ⟨["line"], ["line", "words", "u", "v", "pace"], (.seq (.asg 1 (.mth .split (.var 0) (.cons (.con (.str " ")) .nil))) (.seq (.iff (.tor (.tval (.cmp .ne (.blt .len (.cons (.var 1) .nil)) (.con (.int 4)))) (.tval (.cmp .ne (.ix (.var 1) (.con (.int 0))) (.con (.str "flight"))))) (.seq (.ret (.con .non)) .nil) .nil) (.seq (.par3 2 3 4 (.cons (.call "read_fraction" [0] (.cons (.tval (.ix (.var 1) (.con (.int 1)))) .nil)) (.cons (.call "read_fraction" [0] (.cons (.tval (.ix (.var 1) (.con (.int 2)))) .nil)) (.cons (.call "read_above_zero" [0] (.cons (.tval (.ix (.var 1) (.con (.int 3)))) .nil)) .nil)))) (.seq (.iff (.tor (.tval (.cmp .is (.var 2) (.con .non))) (.tor (.tval (.cmp .is (.var 3) (.con .non))) (.tval (.cmp .is (.var 4) (.con .non))))) (.seq (.ret (.con .non)) .nil) .nil) (.seq (.ret (.tup (.cons (.tup (.cons (.var 2) (.cons (.var 3) .nil))) (.cons (.var 4) .nil)))) .nil))))), none⟩
def d_read_step : FDef := ⟨["line"], ["line", "worth", "word", "_", "rest"], (.seq (.unp [2, 3, 4] (.mth .part (.var 0) (.cons (.con (.str " ")) .nil))) (.seq (.asg 1 (.call "read_above_zero" [0] (.cons (.tval (.var 4)) .nil))) (.seq (.iff (.tor (.tval (.cmp .nin (.var 2) (.tup (.cons (.con (.str "fly")) (.cons (.con (.str "turn")) .nil))))) (.tval (.cmp .is (.var 1) (.con .non)))) (.seq (.ret (.con .non)) .nil) .nil) (.seq (.ret (.tup (.cons (.var 2) (.cons (.var 1) .nil)))) .nil)))), none⟩
def d_stops_of : FDef := ⟨["start", "pace", "steps"], ["start", "pace", "steps", "stops", "time", "event", "word", "worth"], (.seq (.own 3 (.lst .nil)) (.seq (.par 4 5 false false (.glo "ZERO") (.var 0)) (.seq (.for_ (.seq) (.cons (.var 2) .nil) (.many [6, 7]) (.seq (.iff (.tval (.cmp .eq (.var 6) (.con (.str "turn")))) (.seq (.asg 1 (.call "multiplied" [0, 1] (.cons (.tval (.var 1)) (.cons (.tval (.var 7)) .nil)))) .nil) (.seq (.app 3 (.tup (.cons (.var 4) (.cons (.var 5) (.cons (.var 1) .nil))))) (.seq (.asg 4 (.call "added" [0, 1] (.cons (.tval (.var 4)) (.cons (.tval (.var 7)) .nil)))) (.seq (.asg 5 (.call "flown" [0, 1, 2] (.cons (.tval (.var 5)) (.cons (.tval (.var 1)) (.cons (.tval (.var 7)) .nil))))) .nil)))) .nil)) (.seq (.app 3 (.tup (.cons (.var 4) (.cons (.var 5) (.cons (.var 1) .nil))))) (.seq (.ret (.blt .tuple (.cons (.var 3) .nil))) .nil))))), none⟩
def d_pieces_of : FDef := ⟨["stops"], ["stops", "here", "there"], (.seq (.ret (.blt .tuple (.cons (.comp (.zip) (.cons (.var 0) (.cons (.slc (.var 0) (.tval (.con (.int 1))) .nil) .nil)) (.many [1, 2]) .tyes (.tup (.cons (.ix (.var 1) (.con (.int 2))) (.cons (.call "subtracted" [0, 1] (.cons (.tval (.ix (.var 2) (.con (.int 0)))) (.cons (.tval (.ix (.var 1) (.con (.int 0)))) .nil))) .nil))) [1, 2]) .nil))) .nil), none⟩
def d_check_time : FDef := ⟨["flight", "time"], ["flight", "time"], (.seq (.iff (.tor (.tnot (.tval (.call "is_time" [0] (.cons (.tval (.var 1)) .nil)))) (.tval (.call "is_less" [0, 1] (.cons (.tval (.att ["Flight"] (.var 0) "whole")) (.cons (.tval (.var 1)) .nil))))) (.seq .never .nil) .nil) .nil), none⟩
def d__law_pot : FDef := ⟨["script", "place"], ["script", "place", "cell", "own", "small"], (.seq (.asg 2 (.ite (.tval (.cmp .lt (.var 1) (.blt .len (.cons (.var 0) .nil)))) (.ix (.var 0) (.var 1)) (.bin .add (.bin .add (.bin .mod (.blt .sum (.cons (.slc (.var 0) .nil (.tval (.con (.int 1)))) .nil)) (.con (.int 1000003))) (.bin .mul (.con (.int 2005)) (.var 1))) (.con (.int 1049))))) (.seq (.asg 3 (.bin .mul (.bin .mod (.blt .int (.cons (.blt .abs (.cons (.var 2) .nil)) .nil)) (.bin .pow (.bin .pow (.con (.int 10)) (.con (.int 60))) (.con (.int 5)))) (.blt .int (.cons (.cmp .ge (.blt .abs (.cons (.var 2) .nil)) (.bin .pow (.con (.int 10)) (.con (.int 18)))) .nil)))) (.seq (.asg 4 (.bin .mod (.blt .int (.cons (.var 2) .nil)) (.con (.int 2305843009213693951)))) (.seq (.ret (.lst (.cons (.var 3) (.cons (.bin .mod (.blt .int (.cons (.bin .add (.bin .add (.bin .mul (.var 4) (.con (.int 80609))) (.bin .mul (.bin .mul (.con (.int 10743)) (.var 1)) (.var 1))) (.con (.int 1101))) .nil)) (.con (.int 2305843009213693921))) (.cons (.con (.int 0)) .nil))))) .nil)))), none⟩
def d__law_take : FDef := ⟨["pot", "upto"], ["pot", "upto", "prime", "blend", "digit"], (.seq (.iff (.tval (.cmp .gt (.ixv 0 (.con (.int 0))) (.con (.int 0)))) (.seq (.asg 4 (.bin .mod (.blt .int (.cons (.ixv 0 (.con (.int 0))) .nil)) (.var 1))) (.seq (.seti 0 (.con (.int 0)) (.bin .div (.ixv 0 (.con (.int 0))) (.var 1))) (.seq (.ret (.var 4)) .nil))) .nil) (.seq (.seti 0 (.con (.int 2)) (.bin .add (.ixv 0 (.con (.int 2))) (.con (.int 1)))) (.seq (.asg 2 (.ix (.lst (.cons (.con (.int 2147483647)) (.cons (.con (.int 2147483629)) (.cons (.con (.int 2147483587)) (.cons (.con (.int 2147483579)) (.cons (.con (.int 2147483563)) .nil)))))) (.bin .mod (.blt .int (.cons (.ixv 0 (.con (.int 2))) .nil)) (.con (.int 5))))) (.seq (.asg 3 (.bin .mod (.blt .int (.cons (.bin .pow (.blt .int (.cons (.bin .add (.bin .add (.ixv 0 (.con (.int 1))) (.bin .mul (.bin .mul (.con (.int 104639)) (.ixv 0 (.con (.int 2)))) (.ixv 0 (.con (.int 2))))) (.con (.int 1619))) .nil)) (.con (.int 3))) .nil)) (.var 2))) (.seq (.asg 3 (.bin .mod (.blt .int (.cons (.bin .mul (.var 3) (.bin .add (.bin .mod (.blt .int (.cons (.var 3) .nil)) (.con (.int 11855))) (.bin .mul (.con (.int 477)) (.ixv 0 (.con (.int 2)))))) .nil)) (.con (.int 2305843009213693907)))) (.seq (.ret (.bin .mod (.blt .int (.cons (.bin .div (.var 3) (.con (.int 167))) .nil)) (.var 1))) .nil)))))), none⟩
def d__law_of : FDef := ⟨["pot", "some"], ["pot", "some"], (.seq (.ret (.ix (.var 1) (.call "_law_take" [0, 1] (.cons (.ref 0) (.cons (.tval (.blt .len (.cons (.var 1) .nil))) .nil))))) .nil), none⟩
def d__law_cells : FDef := ⟨["script", "most"], ["script", "most"], (.seq (.ret (.lrng (.blt .max (.cons (.con (.int 1)) (.cons (.blt .min (.cons (.var 1) (.cons (.blt .len (.cons (.var 0) .nil)) .nil))) .nil))))) .nil), none⟩
def d__law_is_int : FDef := ⟨["value", "low", "high"], ["value", "low", "high"], (.seq (.ret (.vand (.blt (.isi "int") (.cons (.var 0) .nil)) (.vand (.vnot (.blt (.isi "bool") (.cons (.var 0) .nil))) (.chn .le .le (.var 1) (.var 0) (.var 2))))) .nil), none⟩
def d__law_frac_common : FDef := ⟨["one", "other"], ["one", "other"], (.seq (.par 0 1 false false (.blt .abs (.cons (.var 0) .nil)) (.blt .abs (.cons (.var 1) .nil))) (.seq (.whl (.tval (.cmp .gt (.var 1) (.con (.int 0)))) (.seq (.par 0 1 false false (.var 1) (.bin .mod (.blt .int (.cons (.var 0) .nil)) (.var 1))) .nil)) (.seq (.ret (.var 0)) .nil))), none⟩
def d__law_frac : FDef := ⟨["top", "bottom"], ["top", "bottom", "by"], (.seq (.asg 2 (.call "_law_frac_common" [0, 1] (.cons (.tval (.var 0)) (.cons (.tval (.var 1)) .nil)))) (.seq (.asg 2 (.ite (.tval (.cmp .gt (.var 1) (.con (.int 0)))) (.var 2) (.neg (.var 2)))) (.seq (.ret (.tup (.cons (.bin .div (.var 0) (.var 2)) (.cons (.bin .div (.var 1) (.var 2)) .nil)))) .nil))), none⟩
def d__law_frac_times : FDef := ⟨["one", "other"], ["one", "other"], (.seq (.ret (.call "_law_frac" [0, 1] (.cons (.tval (.bin .mul (.ix (.var 0) (.con (.int 0))) (.ix (.var 1) (.con (.int 0))))) (.cons (.tval (.bin .mul (.ix (.var 0) (.con (.int 1))) (.ix (.var 1) (.con (.int 1))))) .nil)))) .nil), none⟩
def d__law_frac_over : FDef := ⟨["one", "other"], ["one", "other"], (.seq (.ret (.call "_law_frac" [0, 1] (.cons (.tval (.bin .mul (.ix (.var 0) (.con (.int 0))) (.ix (.var 1) (.con (.int 1))))) (.cons (.tval (.bin .mul (.ix (.var 0) (.con (.int 1))) (.ix (.var 1) (.con (.int 0))))) .nil)))) .nil), none⟩
def d__law_frac_is_less : FDef := ⟨["one", "other"], ["one", "other"], (.seq (.ret (.cmp .lt (.bin .mul (.ix (.var 0) (.con (.int 0))) (.ix (.var 1) (.con (.int 1)))) (.bin .mul (.ix (.var 1) (.con (.int 0))) (.ix (.var 0) (.con (.int 1)))))) .nil), none⟩
def d__law_frac_text : FDef := ⟨["one"], ["one"], (.seq (.ret (.ite (.tval (.cmp .eq (.ix (.var 0) (.con (.int 1))) (.con (.int 1)))) (.blt .str (.cons (.blt .int (.cons (.ix (.var 0) (.con (.int 0))) .nil)) .nil)) (.bin .add (.bin .add (.blt .str (.cons (.blt .int (.cons (.ix (.var 0) (.con (.int 0))) .nil)) .nil)) (.con (.str "/"))) (.blt .str (.cons (.blt .int (.cons (.ix (.var 0) (.con (.int 1))) .nil)) .nil))))) .nil), none⟩
def d__law_frac_drawn : FDef := ⟨["pot", "low", "high"], ["pot", "low", "high", "bottom"], (.seq (.asg 3 (.call "_law_of" [0, 1] (.cons (.ref 0) (.cons (.tval (.lst (.cons (.con (.int 1)) (.cons (.con (.int 1)) (.cons (.con (.int 1)) (.cons (.con (.int 2)) (.cons (.con (.int 3)) (.cons (.con (.int 5)) .nil)))))))) .nil)))) (.seq (.ret (.call "_law_frac" [0, 1] (.cons (.tval (.bin .add (.bin .mul (.var 1) (.var 3)) (.call "_law_take" [0, 1] (.cons (.ref 0) (.cons (.tval (.bin .add (.bin .mul (.bin .sub (.var 2) (.var 1)) (.var 3)) (.con (.int 1)))) .nil))))) (.cons (.tval (.var 3)) .nil)))) .nil)), none⟩
def d__law_frac_pace : FDef := ⟨["pot"], ["pot"], (.seq (.ret (.call "_law_of" [0, 1] (.cons (.ref 0) (.cons (.tval (.lst (.cons (.tup (.cons (.con (.int 1)) (.cons (.con (.int 1)) .nil))) (.cons (.tup (.cons (.con (.int 2)) (.cons (.con (.int 1)) .nil))) (.cons (.tup (.cons (.con (.int 1)) (.cons (.con (.int 2)) .nil))) (.cons (.tup (.cons (.con (.int 3)) (.cons (.con (.int 2)) .nil))) (.cons (.tup (.cons (.con (.int 2)) (.cons (.con (.int 3)) .nil))) (.cons (.tup (.cons (.con (.int 3)) (.cons (.con (.int 1)) .nil))) (.cons (.tup (.cons (.con (.int 1)) (.cons (.con (.int 3)) .nil))) (.cons (.tup (.cons (.con (.int 5)) (.cons (.con (.int 3)) .nil))) (.cons (.tup (.cons (.con (.int 4)) (.cons (.con (.int 5)) .nil))) .nil))))))))))) .nil)))) .nil), none⟩
def d__law_frac_time : FDef := ⟨["pot"], ["pot"], (.seq (.ret (.call "_law_of" [0, 1] (.cons (.ref 0) (.cons (.tval (.lst (.cons (.tup (.cons (.con (.int 1)) (.cons (.con (.int 1)) .nil))) (.cons (.tup (.cons (.con (.int 2)) (.cons (.con (.int 1)) .nil))) (.cons (.tup (.cons (.con (.int 3)) (.cons (.con (.int 1)) .nil))) (.cons (.tup (.cons (.con (.int 1)) (.cons (.con (.int 2)) .nil))) (.cons (.tup (.cons (.con (.int 3)) (.cons (.con (.int 2)) .nil))) (.cons (.tup (.cons (.con (.int 5)) (.cons (.con (.int 1)) .nil))) (.cons (.tup (.cons (.con (.int 1)) (.cons (.con (.int 3)) .nil))) (.cons (.tup (.cons (.con (.int 7)) (.cons (.con (.int 3)) .nil))) (.cons (.tup (.cons (.con (.int 12)) (.cons (.con (.int 1)) .nil))) .nil))))))))))) .nil)))) .nil), none⟩
def d__law_event_drawn : FDef := ⟨["pot"], ["pot"], (.seq (.ret (.tup (.cons (.call "_law_frac_drawn" [0, 1, 2] (.cons (.ref 0) (.cons (.tval (.neg (.con (.int 6)))) (.cons (.tval (.con (.int 6))) .nil)))) (.cons (.call "_law_frac_drawn" [0, 1, 2] (.cons (.ref 0) (.cons (.tval (.neg (.con (.int 6)))) (.cons (.tval (.con (.int 6))) .nil)))) .nil)))) .nil), none⟩
def d__law_event_text : FDef := ⟨["event"], ["event"], (.seq (.ret (.bin .add (.bin .add (.call "_law_frac_text" [0] (.cons (.tval (.ix (.var 0) (.con (.int 0)))) .nil)) (.con (.str " "))) (.call "_law_frac_text" [0] (.cons (.tval (.ix (.var 0) (.con (.int 1)))) .nil)))) .nil), none⟩
def d__law_power : FDef := ⟨["base", "many", "prime"], ["base", "many", "prime", "lap", "found", "by", "rest"], (.seq (.par3 4 5 6 (.cons (.con (.int 1)) (.cons (.bin .mod (.blt .int (.cons (.var 0) .nil)) (.var 2)) (.cons (.blt .int (.cons (.var 1) .nil)) .nil)))) (.seq (.for_ (.rng) (.cons (.con (.int 70)) .nil) (.one 3) (.seq (.iff (.tval (.cmp .eq (.bin .mod (.blt .int (.cons (.var 6) .nil)) (.con (.int 2))) (.con (.int 1)))) (.seq (.asg 4 (.bin .mod (.blt .int (.cons (.bin .mul (.var 4) (.var 5)) .nil)) (.var 2))) .nil) .nil) (.seq (.par 5 6 false false (.bin .mod (.blt .int (.cons (.bin .mul (.var 5) (.var 5)) .nil)) (.var 2)) (.bin .div (.var 6) (.con (.int 2)))) .nil))) (.seq (.ret (.var 4)) .nil))), none⟩
def d__law_remainder : FDef := ⟨["one", "prime"], ["one", "prime"], (.seq (.ret (.bin .mod (.blt .int (.cons (.bin .mul (.bin .mod (.blt .int (.cons (.ix (.var 0) (.con (.int 0))) .nil)) (.var 1)) (.call "_law_power" [0, 1, 2] (.cons (.tval (.ix (.var 0) (.con (.int 1)))) (.cons (.tval (.bin .sub (.var 1) (.con (.int 2)))) (.cons (.tval (.var 1)) .nil))))) .nil)) (.var 1))) .nil), none⟩
def d__law_is_thrown_right : FDef := ⟨["pot"], ["pot", "other", "head", "flights", "factor", "many", "event", "one", "time", "here", "at", "laps", "told", "pace"], (.seq (.unp [6, 7, 8] (.tup (.cons (.call "_law_event_drawn" [0] (.cons (.ref 0) .nil)) (.cons (.call "_law_frac_pace" [0] (.cons (.ref 0) .nil)) (.cons (.call "_law_frac_time" [0] (.cons (.ref 0) .nil)) .nil))))) (.seq (.asg 1 (.call "_law_of" [0, 1] (.cons (.ref 0) (.cons (.tval (.comp (.seq) (.cons (.lst (.cons (.tup (.cons (.con (.int 2)) (.cons (.con (.int 1)) .nil))) (.cons (.tup (.cons (.con (.int 1)) (.cons (.con (.int 2)) .nil))) (.cons (.tup (.cons (.con (.int 3)) (.cons (.con (.int 2)) .nil))) (.cons (.tup (.cons (.con (.int 2)) (.cons (.con (.int 3)) .nil))) (.cons (.tup (.cons (.con (.int 4)) (.cons (.con (.int 3)) .nil))) (.cons (.tup (.cons (.con (.int 1)) (.cons (.con (.int 1)) .nil))) (.cons (.tup (.cons (.con (.int 3)) (.cons (.con (.int 1)) .nil))) .nil)))))))) .nil) (.one 13) (.tval (.cmp .ne (.var 13) (.var 7))) (.var 13) [13])) .nil)))) (.seq (.asg 2 (.bin .add (.bin .add (.con (.str "flight ")) (.call "_law_event_text" [0] (.cons (.tval (.var 6)) .nil))) (.con (.str " ")))) (.seq (.asg 3 (.comp (.seq) (.cons (.tup (.cons (.var 7) (.cons (.var 1) .nil))) .nil) (.one 13) .tyes (.mk "Flight" (.cons (.bin .add (.bin .add (.bin .add (.var 2) (.call "_law_frac_text" [0] (.cons (.tval (.var 13)) .nil))) (.con (.str "\nfly "))) (.blt .str (.cons (.bin .pow (.con (.int 10)) (.con (.int 9))) .nil))) .nil)) [13])) (.seq (.asg 4 (.ite (.tval (.call "_law_frac_is_less" [0, 1] (.cons (.tval (.var 7)) (.cons (.tval (.var 1)) .nil)))) (.call "_law_frac_over" [0, 1] (.cons (.tval (.var 1)) (.cons (.tval (.var 7)) .nil))) (.call "_law_frac_over" [0, 1] (.cons (.tval (.var 7)) (.cons (.tval (.var 1)) .nil))))) (.seq (.par3 9 10 11 (.cons (.var 8) (.cons (.call "_law_take" [0, 1] (.cons (.ref 0) (.cons (.tval (.con (.int 2))) .nil))) (.cons (.bin .add (.con (.int 1)) (.call "_law_take" [0, 1] (.cons (.ref 0) (.cons (.tval (.con (.int 8))) .nil)))) .nil)))) (.seq (.for_ (.rng) (.cons (.var 11) .nil) (.one 5) (.seq (.iff (.tval (.cmp .ne (.blt .repr (.cons (.call "thrown_plain" [2, 1, 0] (.cons (.tval (.var 5)) (.cons (.tval (.var 4)) (.cons (.tval (.var 8)) .nil)))) .nil)) (.blt .repr (.cons (.var 9) .nil)))) (.seq (.ret (.con (.bl false))) .nil) .nil) (.seq (.asg 12 (.call "heard" [0, 1] (.cons (.tval (.ix (.var 3) (.bin .sub (.con (.int 1)) (.var 10)))) (.cons (.tval (.mth (.own "Flight" "at" "Flight.at") (.ix (.var 3) (.var 10)) (.cons (.var 9) .nil))) .nil)))) (.seq (.iff (.tval (.cmp .is (.var 12) (.con .non))) (.seq (.ret (.con (.bl false))) .nil) .nil) (.seq (.par 9 10 false false (.ix (.var 12) (.con (.int 1))) (.bin .sub (.con (.int 1)) (.var 10))) .nil))))) (.seq (.ret (.cmp .eq (.blt .repr (.cons (.call "thrown_plain" [0, 1, 2] (.cons (.tval (.var 8)) (.cons (.tval (.var 4)) (.cons (.tval (.var 11)) .nil)))) .nil)) (.blt .repr (.cons (.var 9) .nil)))) .nil)))))))), none⟩
def d__law_right : FDef := ⟨["pot"], ["pot", "prime", "small", "plain", "many", "base", "due", "time", "factor", "one", "other", "told"], (.seq (.iff (.tnot (.tval (.call "_law_is_thrown_right" [0] (.cons (.ref 0) .nil)))) (.seq (.ret (.con (.bl false))) .nil) .nil) (.seq (.unp [7, 8] (.tup (.cons (.call "_law_frac_time" [0] (.cons (.ref 0) .nil)) (.cons (.call "_law_of" [0, 1] (.cons (.ref 0) (.cons (.tval (.lst (.cons (.tup (.cons (.con (.int 2)) (.cons (.con (.int 1)) .nil))) (.cons (.tup (.cons (.con (.int 3)) (.cons (.con (.int 2)) .nil))) (.cons (.tup (.cons (.con (.int 5)) (.cons (.con (.int 4)) .nil))) (.cons (.tup (.cons (.con (.int 9)) (.cons (.con (.int 7)) .nil))) (.cons (.tup (.cons (.con (.int 101)) (.cons (.con (.int 100)) .nil))) .nil))))))) .nil))) .nil)))) (.seq (.asg 1 (.call "_law_of" [0, 1] (.cons (.ref 0) (.cons (.tval (.lst (.cons (.con (.int 17)) (.cons (.con (.int 101)) (.cons (.con (.int 9973)) (.cons (.con (.int 4999)) (.cons (.con (.int 23)) .nil))))))) .nil)))) (.seq (.iff (.tval (.cmp .eq (.bin .mod (.blt .int (.cons (.bin .mul (.ix (.var 7) (.con (.int 1))) (.ix (.var 8) (.con (.int 1)))) .nil)) (.var 1)) (.con (.int 0)))) (.seq (.ret (.con (.bl true))) .nil) .nil) (.seq (.par 9 10 false false (.call "_law_take" [0, 1] (.cons (.ref 0) (.cons (.tval (.con (.int 31))) .nil))) (.call "_law_take" [0, 1] (.cons (.ref 0) (.cons (.tval (.con (.int 31))) .nil)))) (.seq (.asg 2 (.comp (.seq) (.cons (.tup (.cons (.var 9) (.cons (.var 10) (.cons (.bin .add (.var 9) (.var 10)) .nil)))) .nil) (.one 4) .tyes (.call "thrown" [0, 1, 2, 3] (.cons (.tval (.var 7)) (.cons (.tval (.var 8)) (.cons (.tval (.var 4)) (.cons (.tval (.var 1)) .nil))))) [4])) (.seq (.asg 3 (.comp (.seq) (.cons (.tup (.cons (.var 9) (.cons (.var 10) (.cons (.bin .add (.var 9) (.var 10)) .nil)))) .nil) (.one 4) .tyes (.call "thrown_plain" [0, 1, 2] (.cons (.tval (.var 7)) (.cons (.tval (.var 8)) (.cons (.tval (.var 4)) .nil)))) [4])) (.seq (.iff (.tval (.cmp .ne (.blt .repr (.cons (.var 2) .nil)) (.blt .repr (.cons (.comp (.seq) (.cons (.var 3) .nil) (.one 11) .tyes (.call "_law_remainder" [0, 1] (.cons (.tval (.var 11)) (.cons (.tval (.var 1)) .nil))) [11]) .nil)))) (.seq (.ret (.con (.bl false))) .nil) .nil) (.seq (.iff (.tval (.cmp .ne (.call "_law_frac_times" [0, 1] (.cons (.tval (.ix (.var 3) (.con (.int 0)))) (.cons (.tval (.ix (.var 3) (.con (.int 1)))) .nil))) (.call "_law_frac_times" [0, 1] (.cons (.tval (.ix (.var 3) (.con (.int 2)))) (.cons (.tval (.var 7)) .nil))))) (.seq (.ret (.con (.bl false))) .nil) .nil) (.seq (.asg 4 (.call "_law_of" [0, 1] (.cons (.ref 0) (.cons (.tval (.lst (.cons (.bin .pow (.con (.int 10)) (.con (.int 18))) (.cons (.bin .sub (.bin .pow (.con (.int 10)) (.con (.int 18))) (.call "_law_take" [0, 1] (.cons (.ref 0) (.cons (.tval (.bin .pow (.con (.int 10)) (.con (.int 6)))) .nil)))) (.cons (.call "_law_take" [0, 1] (.cons (.ref 0) (.cons (.tval (.bin .pow (.con (.int 10)) (.con (.int 12)))) .nil))) (.cons (.con (.int 0)) (.cons (.con (.int 1)) .nil))))))) .nil)))) (.seq (.asg 5 (.call "_law_remainder" [0, 1] (.cons (.tval (.var 8)) (.cons (.tval (.var 1)) .nil)))) (.seq (.asg 6 (.bin .mod (.blt .int (.cons (.bin .mul (.call "_law_remainder" [0, 1] (.cons (.tval (.var 7)) (.cons (.tval (.var 1)) .nil))) (.call "_law_power" [0, 1, 2] (.cons (.tval (.var 5)) (.cons (.tval (.var 4)) (.cons (.tval (.var 1)) .nil))))) .nil)) (.var 1))) (.seq (.ret (.call "_law_is_int" [0, 1, 2] (.cons (.tval (.call "thrown" [3, 2, 1, 0] (.cons (.tval (.var 1)) (.cons (.tval (.var 4)) (.cons (.tval (.var 8)) (.cons (.tval (.var 7)) .nil)))))) (.cons (.tval (.var 6)) (.cons (.tval (.var 6)) .nil))))) .nil))))))))))))), none⟩
def d_law : FDef := ⟨["script"], ["script", "place"], (.seq (.ret (.blt .all (.cons (.comp (.seq) (.cons (.call "_law_cells" [0, 1] (.cons (.tval (.var 0)) (.cons (.tval (.con (.int 2))) .nil))) .nil) (.one 1) .tyes (.calln "_law_right" "_law_pot" (.cons (.var 0) (.cons (.var 1) .nil))) [1]) .nil))) .nil), none⟩
def d_Flight : FDef := ⟨["self", "text"], ["self", "text", "start", "pace", "steps"], (.seq (.unp [2, 3, 4] (.call "read_flight" [0] (.cons (.tval (.var 1)) .nil))) (.seq (.sset "text" (.var 1)) (.seq (.sset "start" (.var 2)) (.seq (.sset "pace" (.var 3)) (.seq (.sset "steps" (.var 4)) (.seq (.sset "stops" (.call "stops_of" [0, 1, 2] (.cons (.tval (.var 2)) (.cons (.tval (.var 3)) (.cons (.tval (.var 4)) .nil))))) (.seq (.sset "pieces" (.call "pieces_of" [0] (.cons (.tval (.sg "stops")) .nil))) (.seq (.sset "whole" (.ix (.ix (.sg "stops") (.neg (.con (.int 1)))) (.con (.int 0)))) (.seq (.sset "goal" (.ix (.ix (.sg "stops") (.neg (.con (.int 1)))) (.con (.int 1)))) .nil))))))))), some "Flight"⟩
def d_Flight_at : FDef := ⟨["self", "time"], ["self", "time"], (.seq (.exp (.call "check_time" [0, 1] (.cons (.tval (.var 0)) (.cons (.tval (.var 1)) .nil)))) (.seq (.ret (.call "place_at" [0, 1] (.cons (.tval (.var 0)) (.cons (.tval (.var 1)) .nil)))) .nil)), none⟩
def d_ONE : FDef := ⟨[], [], (.seq (.ret (.tup (.cons (.con (.int 1)) (.cons (.con (.int 1)) .nil)))) .nil), none⟩
def d_ZERO : FDef := ⟨[], [], (.seq (.ret (.tup (.cons (.con (.int 0)) (.cons (.con (.int 1)) .nil)))) .nil), none⟩
def T : List (PySem.Str × FDef) := [(("_wall" : PySem.Str), d__wall), (("is_plain_integer" : PySem.Str), d_is_plain_integer), (("is_fraction" : PySem.Str), d_is_fraction), (("is_time" : PySem.Str), d_is_time), (("in_least_terms" : PySem.Str), d_in_least_terms), (("added" : PySem.Str), d_added), (("subtracted" : PySem.Str), d_subtracted), (("multiplied" : PySem.Str), d_multiplied), (("divided" : PySem.Str), d_divided), (("is_less" : PySem.Str), d_is_less), (("is_integer_text" : PySem.Str), d_is_integer_text), (("read_fraction" : PySem.Str), d_read_fraction), (("read_above_zero" : PySem.Str), d_read_above_zero), (("inverse" : PySem.Str), d_inverse), (("is_event" : PySem.Str), d_is_event), (("check_event" : PySem.Str), d_check_event), (("flown" : PySem.Str), d_flown), (("last_stop" : PySem.Str), d_last_stop), (("place_at" : PySem.Str), d_place_at), (("rate" : PySem.Str), d_rate), (("time_at" : PySem.Str), d_time_at), (("hearing" : PySem.Str), d_hearing), (("heard" : PySem.Str), d_heard), (("check_throw" : PySem.Str), d_check_throw), (("thrown_plain" : PySem.Str), d_thrown_plain), (("thrown" : PySem.Str), d_thrown), (("is_modulus" : PySem.Str), d_is_modulus), (("power" : PySem.Str), d_power), (("read_flight" : PySem.Str), d_read_flight), (("read_first" : PySem.Str), d_read_first), (("read_step" : PySem.Str), d_read_step), (("stops_of" : PySem.Str), d_stops_of), (("pieces_of" : PySem.Str), d_pieces_of), (("check_time" : PySem.Str), d_check_time), (("_law_pot" : PySem.Str), d__law_pot), (("_law_take" : PySem.Str), d__law_take), (("_law_of" : PySem.Str), d__law_of), (("_law_cells" : PySem.Str), d__law_cells), (("_law_is_int" : PySem.Str), d__law_is_int), (("_law_frac_common" : PySem.Str), d__law_frac_common), (("_law_frac" : PySem.Str), d__law_frac), (("_law_frac_times" : PySem.Str), d__law_frac_times), (("_law_frac_over" : PySem.Str), d__law_frac_over), (("_law_frac_is_less" : PySem.Str), d__law_frac_is_less), (("_law_frac_text" : PySem.Str), d__law_frac_text), (("_law_frac_drawn" : PySem.Str), d__law_frac_drawn), (("_law_frac_pace" : PySem.Str), d__law_frac_pace), (("_law_frac_time" : PySem.Str), d__law_frac_time), (("_law_event_drawn" : PySem.Str), d__law_event_drawn), (("_law_event_text" : PySem.Str), d__law_event_text), (("_law_power" : PySem.Str), d__law_power), (("_law_remainder" : PySem.Str), d__law_remainder), (("_law_is_thrown_right" : PySem.Str), d__law_is_thrown_right), (("_law_right" : PySem.Str), d__law_right), (("law" : PySem.Str), d_law), (("Flight" : PySem.Str), d_Flight), (("ONE" : PySem.Str), d_ONE), (("ZERO" : PySem.Str), d_ZERO), (("Flight.at" : PySem.Str), d_Flight_at)]
def G : GS := ⟨[(("_wall" : PySem.Str), (1 : Nat), ([] : List (Nat × List PySem.Str × List Nat))), (("is_plain_integer" : PySem.Str), (1 : Nat), ([] : List (Nat × List PySem.Str × List Nat))), (("is_fraction" : PySem.Str), (1 : Nat), ([] : List (Nat × List PySem.Str × List Nat))), (("is_time" : PySem.Str), (1 : Nat), ([] : List (Nat × List PySem.Str × List Nat))), (("in_least_terms" : PySem.Str), (2 : Nat), ([] : List (Nat × List PySem.Str × List Nat))), (("added" : PySem.Str), (2 : Nat), ([] : List (Nat × List PySem.Str × List Nat))), (("subtracted" : PySem.Str), (2 : Nat), ([] : List (Nat × List PySem.Str × List Nat))), (("multiplied" : PySem.Str), (2 : Nat), ([] : List (Nat × List PySem.Str × List Nat))), (("divided" : PySem.Str), (2 : Nat), ([] : List (Nat × List PySem.Str × List Nat))), (("is_less" : PySem.Str), (2 : Nat), ([] : List (Nat × List PySem.Str × List Nat))), (("is_integer_text" : PySem.Str), (1 : Nat), ([] : List (Nat × List PySem.Str × List Nat))), (("read_fraction" : PySem.Str), (1 : Nat), ([] : List (Nat × List PySem.Str × List Nat))), (("read_above_zero" : PySem.Str), (1 : Nat), ([] : List (Nat × List PySem.Str × List Nat))), (("inverse" : PySem.Str), (1 : Nat), ([] : List (Nat × List PySem.Str × List Nat))), (("is_event" : PySem.Str), (1 : Nat), ([] : List (Nat × List PySem.Str × List Nat))), (("check_event" : PySem.Str), (1 : Nat), ([] : List (Nat × List PySem.Str × List Nat))), (("flown" : PySem.Str), (3 : Nat), ([] : List (Nat × List PySem.Str × List Nat))), (("last_stop" : PySem.Str), (2 : Nat), ([] : List (Nat × List PySem.Str × List Nat))), (("place_at" : PySem.Str), (2 : Nat), ([] : List (Nat × List PySem.Str × List Nat))), (("rate" : PySem.Str), (2 : Nat), ([] : List (Nat × List PySem.Str × List Nat))), (("time_at" : PySem.Str), (3 : Nat), ([] : List (Nat × List PySem.Str × List Nat))), (("hearing" : PySem.Str), (2 : Nat), ([] : List (Nat × List PySem.Str × List Nat))), (("heard" : PySem.Str), (2 : Nat), ([] : List (Nat × List PySem.Str × List Nat))), (("check_throw" : PySem.Str), (4 : Nat), ([] : List (Nat × List PySem.Str × List Nat))), (("thrown_plain" : PySem.Str), (3 : Nat), ([(0, ["many", "factor", "time"], [2, 1, 0])] : List (Nat × List PySem.Str × List Nat))), (("thrown" : PySem.Str), (4 : Nat), ([(0, ["modulus", "many", "factor", "time"], [3, 2, 1, 0])] : List (Nat × List PySem.Str × List Nat))), (("is_modulus" : PySem.Str), (1 : Nat), ([] : List (Nat × List PySem.Str × List Nat))), (("power" : PySem.Str), (3 : Nat), ([] : List (Nat × List PySem.Str × List Nat))), (("read_flight" : PySem.Str), (1 : Nat), ([] : List (Nat × List PySem.Str × List Nat))), (("read_first" : PySem.Str), (1 : Nat), ([] : List (Nat × List PySem.Str × List Nat))), (("read_step" : PySem.Str), (1 : Nat), ([] : List (Nat × List PySem.Str × List Nat))), (("stops_of" : PySem.Str), (3 : Nat), ([] : List (Nat × List PySem.Str × List Nat))), (("pieces_of" : PySem.Str), (1 : Nat), ([] : List (Nat × List PySem.Str × List Nat))), (("check_time" : PySem.Str), (2 : Nat), ([] : List (Nat × List PySem.Str × List Nat))), (("_law_pot" : PySem.Str), (2 : Nat), ([] : List (Nat × List PySem.Str × List Nat))), (("_law_take" : PySem.Str), (2 : Nat), ([] : List (Nat × List PySem.Str × List Nat))), (("_law_of" : PySem.Str), (2 : Nat), ([] : List (Nat × List PySem.Str × List Nat))), (("_law_cells" : PySem.Str), (2 : Nat), ([] : List (Nat × List PySem.Str × List Nat))), (("_law_is_int" : PySem.Str), (3 : Nat), ([] : List (Nat × List PySem.Str × List Nat))), (("_law_frac_common" : PySem.Str), (2 : Nat), ([] : List (Nat × List PySem.Str × List Nat))), (("_law_frac" : PySem.Str), (2 : Nat), ([] : List (Nat × List PySem.Str × List Nat))), (("_law_frac_times" : PySem.Str), (2 : Nat), ([] : List (Nat × List PySem.Str × List Nat))), (("_law_frac_over" : PySem.Str), (2 : Nat), ([] : List (Nat × List PySem.Str × List Nat))), (("_law_frac_is_less" : PySem.Str), (2 : Nat), ([] : List (Nat × List PySem.Str × List Nat))), (("_law_frac_text" : PySem.Str), (1 : Nat), ([] : List (Nat × List PySem.Str × List Nat))), (("_law_frac_drawn" : PySem.Str), (3 : Nat), ([] : List (Nat × List PySem.Str × List Nat))), (("_law_frac_pace" : PySem.Str), (1 : Nat), ([] : List (Nat × List PySem.Str × List Nat))), (("_law_frac_time" : PySem.Str), (1 : Nat), ([] : List (Nat × List PySem.Str × List Nat))), (("_law_event_drawn" : PySem.Str), (1 : Nat), ([] : List (Nat × List PySem.Str × List Nat))), (("_law_event_text" : PySem.Str), (1 : Nat), ([] : List (Nat × List PySem.Str × List Nat))), (("_law_power" : PySem.Str), (3 : Nat), ([] : List (Nat × List PySem.Str × List Nat))), (("_law_remainder" : PySem.Str), (2 : Nat), ([] : List (Nat × List PySem.Str × List Nat))), (("_law_is_thrown_right" : PySem.Str), (1 : Nat), ([] : List (Nat × List PySem.Str × List Nat))), (("_law_right" : PySem.Str), (1 : Nat), ([] : List (Nat × List PySem.Str × List Nat))), (("law" : PySem.Str), (1 : Nat), ([] : List (Nat × List PySem.Str × List Nat)))], ["ONE", "ZERO"], ["abs", "all", "bool", "enumerate", "int", "isinstance", "len", "list", "max", "min", "range", "repr", "str", "sum", "tuple", "zip"], [("gcd", "math.gcd")], [(("_law_pot" : PySem.Str), (2 : Nat))], [("Flight", "goal"), ("Flight", "pace"), ("Flight", "pieces"), ("Flight", "start"), ("Flight", "steps"), ("Flight", "stops"), ("Flight", "text"), ("Flight", "whole")], [(("Flight.at" : PySem.Str), (2 : Nat), ("Flight" : PySem.Str), ("at" : PySem.Str), ["time"])], [(("Flight" : PySem.Str), (1 : Nat))], none⟩
def topS (i : Nat) : Stmt := PySem.Challenge.pw_crewclocks_k16_whole_flashes_to_and_fro.main.body.getD i (.Pass ⟨0, 0, 0, 0⟩)
theorem sc__wall : FnScope d__wall.ns d__wall.ps (defScope (topS 1)) := ⟨rfl, rfl, rfl, by decide +kernel, rfl, by decide +kernel, by decide +kernel⟩
theorem ck__wall : ckSs G d__wall.ns (defScope (topS 1)) d__wall.body (defBody (topS 1)) = true := by decide +kernel
theorem sc_is_plain_integer : FnScope d_is_plain_integer.ns d_is_plain_integer.ps (defScope (topS 13)) := ⟨rfl, rfl, rfl, by decide +kernel, rfl, by decide +kernel, by decide +kernel⟩
theorem ck_is_plain_integer : ckSs G d_is_plain_integer.ns (defScope (topS 13)) d_is_plain_integer.body (defBody (topS 13)) = true := by decide +kernel
theorem sc_is_fraction : FnScope d_is_fraction.ns d_is_fraction.ps (defScope (topS 14)) := ⟨rfl, rfl, rfl, by decide +kernel, rfl, by decide +kernel, by decide +kernel⟩
theorem ck_is_fraction : ckSs G d_is_fraction.ns (defScope (topS 14)) d_is_fraction.body (defBody (topS 14)) = true := by decide +kernel
theorem sc_is_time : FnScope d_is_time.ns d_is_time.ps (defScope (topS 15)) := ⟨rfl, rfl, rfl, by decide +kernel, rfl, by decide +kernel, by decide +kernel⟩
theorem ck_is_time : ckSs G d_is_time.ns (defScope (topS 15)) d_is_time.body (defBody (topS 15)) = true := by decide +kernel
theorem sc_in_least_terms : FnScope d_in_least_terms.ns d_in_least_terms.ps (defScope (topS 16)) := ⟨rfl, rfl, rfl, by decide +kernel, rfl, by decide +kernel, by decide +kernel⟩
theorem ck_in_least_terms : ckSs G d_in_least_terms.ns (defScope (topS 16)) d_in_least_terms.body (defBody (topS 16)) = true := by decide +kernel
theorem sc_added : FnScope d_added.ns d_added.ps (defScope (topS 17)) := ⟨rfl, rfl, rfl, by decide +kernel, rfl, by decide +kernel, by decide +kernel⟩
theorem ck_added : ckSs G d_added.ns (defScope (topS 17)) d_added.body (defBody (topS 17)) = true := by decide +kernel
theorem sc_subtracted : FnScope d_subtracted.ns d_subtracted.ps (defScope (topS 18)) := ⟨rfl, rfl, rfl, by decide +kernel, rfl, by decide +kernel, by decide +kernel⟩
theorem ck_subtracted : ckSs G d_subtracted.ns (defScope (topS 18)) d_subtracted.body (defBody (topS 18)) = true := by decide +kernel
theorem sc_multiplied : FnScope d_multiplied.ns d_multiplied.ps (defScope (topS 19)) := ⟨rfl, rfl, rfl, by decide +kernel, rfl, by decide +kernel, by decide +kernel⟩
theorem ck_multiplied : ckSs G d_multiplied.ns (defScope (topS 19)) d_multiplied.body (defBody (topS 19)) = true := by decide +kernel
theorem sc_divided : FnScope d_divided.ns d_divided.ps (defScope (topS 20)) := ⟨rfl, rfl, rfl, by decide +kernel, rfl, by decide +kernel, by decide +kernel⟩
theorem ck_divided : ckSs G d_divided.ns (defScope (topS 20)) d_divided.body (defBody (topS 20)) = true := by decide +kernel
theorem sc_is_less : FnScope d_is_less.ns d_is_less.ps (defScope (topS 21)) := ⟨rfl, rfl, rfl, by decide +kernel, rfl, by decide +kernel, by decide +kernel⟩
theorem ck_is_less : ckSs G d_is_less.ns (defScope (topS 21)) d_is_less.body (defBody (topS 21)) = true := by decide +kernel
theorem sc_is_integer_text : FnScope d_is_integer_text.ns d_is_integer_text.ps (defScope (topS 22)) := ⟨rfl, rfl, rfl, by decide +kernel, rfl, by decide +kernel, by decide +kernel⟩
theorem ck_is_integer_text : ckSs G d_is_integer_text.ns (defScope (topS 22)) d_is_integer_text.body (defBody (topS 22)) = true := by decide +kernel
theorem sc_read_fraction : FnScope d_read_fraction.ns d_read_fraction.ps (defScope (topS 23)) := ⟨rfl, rfl, rfl, by decide +kernel, rfl, by decide +kernel, by decide +kernel⟩
theorem ck_read_fraction : ckSs G d_read_fraction.ns (defScope (topS 23)) d_read_fraction.body (defBody (topS 23)) = true := by decide +kernel
theorem sc_read_above_zero : FnScope d_read_above_zero.ns d_read_above_zero.ps (defScope (topS 24)) := ⟨rfl, rfl, rfl, by decide +kernel, rfl, by decide +kernel, by decide +kernel⟩
theorem ck_read_above_zero : ckSs G d_read_above_zero.ns (defScope (topS 24)) d_read_above_zero.body (defBody (topS 24)) = true := by decide +kernel
theorem sc_inverse : FnScope d_inverse.ns d_inverse.ps (defScope (topS 25)) := ⟨rfl, rfl, rfl, by decide +kernel, rfl, by decide +kernel, by decide +kernel⟩
theorem ck_inverse : ckSs G d_inverse.ns (defScope (topS 25)) d_inverse.body (defBody (topS 25)) = true := by decide +kernel
theorem sc_is_event : FnScope d_is_event.ns d_is_event.ps (defScope (topS 27)) := ⟨rfl, rfl, rfl, by decide +kernel, rfl, by decide +kernel, by decide +kernel⟩
theorem ck_is_event : ckSs G d_is_event.ns (defScope (topS 27)) d_is_event.body (defBody (topS 27)) = true := by decide +kernel
theorem sc_check_event : FnScope d_check_event.ns d_check_event.ps (defScope (topS 28)) := ⟨rfl, rfl, rfl, by decide +kernel, rfl, by decide +kernel, by decide +kernel⟩
theorem ck_check_event : ckSs G d_check_event.ns (defScope (topS 28)) d_check_event.body (defBody (topS 28)) = true := by decide +kernel
theorem sc_flown : FnScope d_flown.ns d_flown.ps (defScope (topS 29)) := ⟨rfl, rfl, rfl, by decide +kernel, rfl, by decide +kernel, by decide +kernel⟩
theorem ck_flown : ckSs G d_flown.ns (defScope (topS 29)) d_flown.body (defBody (topS 29)) = true := by decide +kernel
theorem sc_last_stop : FnScope d_last_stop.ns d_last_stop.ps (defScope (topS 31)) := ⟨rfl, rfl, rfl, by decide +kernel, rfl, by decide +kernel, by decide +kernel⟩
theorem ck_last_stop : ckSs G d_last_stop.ns (defScope (topS 31)) d_last_stop.body (defBody (topS 31)) = true := by decide +kernel
theorem sc_place_at : FnScope d_place_at.ns d_place_at.ps (defScope (topS 32)) := ⟨rfl, rfl, rfl, by decide +kernel, rfl, by decide +kernel, by decide +kernel⟩
theorem ck_place_at : ckSs G d_place_at.ns (defScope (topS 32)) d_place_at.body (defBody (topS 32)) = true := by decide +kernel
theorem sc_rate : FnScope d_rate.ns d_rate.ps (defScope (topS 33)) := ⟨rfl, rfl, rfl, by decide +kernel, rfl, by decide +kernel, by decide +kernel⟩
theorem ck_rate : ckSs G d_rate.ns (defScope (topS 33)) d_rate.body (defBody (topS 33)) = true := by decide +kernel
theorem sc_time_at : FnScope d_time_at.ns d_time_at.ps (defScope (topS 34)) := ⟨rfl, rfl, rfl, by decide +kernel, rfl, by decide +kernel, by decide +kernel⟩
theorem ck_time_at : ckSs G d_time_at.ns (defScope (topS 34)) d_time_at.body (defBody (topS 34)) = true := by decide +kernel
theorem sc_hearing : FnScope d_hearing.ns d_hearing.ps (defScope (topS 35)) := ⟨rfl, rfl, rfl, by decide +kernel, rfl, by decide +kernel, by decide +kernel⟩
theorem ck_hearing : ckSs G d_hearing.ns (defScope (topS 35)) d_hearing.body (defBody (topS 35)) = true := by decide +kernel
theorem sc_heard : FnScope d_heard.ns d_heard.ps (defScope (topS 37)) := ⟨rfl, rfl, rfl, by decide +kernel, rfl, by decide +kernel, by decide +kernel⟩
theorem ck_heard : ckSs G d_heard.ns (defScope (topS 37)) d_heard.body (defBody (topS 37)) = true := by decide +kernel
theorem sc_check_throw : FnScope d_check_throw.ns d_check_throw.ps (defScope (topS 38)) := ⟨rfl, rfl, rfl, by decide +kernel, rfl, by decide +kernel, by decide +kernel⟩
theorem ck_check_throw : ckSs G d_check_throw.ns (defScope (topS 38)) d_check_throw.body (defBody (topS 38)) = true := by decide +kernel
theorem sc_thrown_plain : FnScope d_thrown_plain.ns d_thrown_plain.ps (defScope (topS 39)) := ⟨rfl, rfl, rfl, by decide +kernel, rfl, by decide +kernel, by decide +kernel⟩
theorem ck_thrown_plain : ckSs G d_thrown_plain.ns (defScope (topS 39)) d_thrown_plain.body (defBody (topS 39)) = true := by decide +kernel
theorem sc_thrown : FnScope d_thrown.ns d_thrown.ps (defScope (topS 40)) := ⟨rfl, rfl, rfl, by decide +kernel, rfl, by decide +kernel, by decide +kernel⟩
theorem ck_thrown : ckSs G d_thrown.ns (defScope (topS 40)) d_thrown.body (defBody (topS 40)) = true := by decide +kernel
theorem sc_is_modulus : FnScope d_is_modulus.ns d_is_modulus.ps (defScope (topS 41)) := ⟨rfl, rfl, rfl, by decide +kernel, rfl, by decide +kernel, by decide +kernel⟩
theorem ck_is_modulus : ckSs G d_is_modulus.ns (defScope (topS 41)) d_is_modulus.body (defBody (topS 41)) = true := by decide +kernel
theorem sc_power : FnScope d_power.ns d_power.ps (defScope (topS 42)) := ⟨rfl, rfl, rfl, by decide +kernel, rfl, by decide +kernel, by decide +kernel⟩
theorem ck_power : ckSs G d_power.ns (defScope (topS 42)) d_power.body (defBody (topS 42)) = true := by decide +kernel
theorem sc_read_flight : FnScope d_read_flight.ns d_read_flight.ps (defScope (topS 45)) := ⟨rfl, rfl, rfl, by decide +kernel, rfl, by decide +kernel, by decide +kernel⟩
theorem ck_read_flight : ckSs G d_read_flight.ns (defScope (topS 45)) d_read_flight.body (defBody (topS 45)) = true := by decide +kernel
theorem sc_read_first : FnScope d_read_first.ns d_read_first.ps (defScope (topS 46)) := ⟨rfl, rfl, rfl, by decide +kernel, rfl, by decide +kernel, by decide +kernel⟩
theorem ck_read_first : ckSs G d_read_first.ns (defScope (topS 46)) d_read_first.body (defBody (topS 46)) = true := by decide +kernel
theorem sc_read_step : FnScope d_read_step.ns d_read_step.ps (defScope (topS 47)) := ⟨rfl, rfl, rfl, by decide +kernel, rfl, by decide +kernel, by decide +kernel⟩
theorem ck_read_step : ckSs G d_read_step.ns (defScope (topS 47)) d_read_step.body (defBody (topS 47)) = true := by decide +kernel
theorem sc_stops_of : FnScope d_stops_of.ns d_stops_of.ps (defScope (topS 48)) := ⟨rfl, rfl, rfl, by decide +kernel, rfl, by decide +kernel, by decide +kernel⟩
theorem ck_stops_of : ckSs G d_stops_of.ns (defScope (topS 48)) d_stops_of.body (defBody (topS 48)) = true := by decide +kernel
theorem sc_pieces_of : FnScope d_pieces_of.ns d_pieces_of.ps (defScope (topS 49)) := ⟨rfl, rfl, rfl, by decide +kernel, rfl, by decide +kernel, by decide +kernel⟩
theorem ck_pieces_of : ckSs G d_pieces_of.ns (defScope (topS 49)) d_pieces_of.body (defBody (topS 49)) = true := by decide +kernel
theorem sc_check_time : FnScope d_check_time.ns d_check_time.ps (defScope (topS 50)) := ⟨rfl, rfl, rfl, by decide +kernel, rfl, by decide +kernel, by decide +kernel⟩
theorem ck_check_time : ckSs G d_check_time.ns (defScope (topS 50)) d_check_time.body (defBody (topS 50)) = true := by decide +kernel
theorem sc__law_pot : FnScope d__law_pot.ns d__law_pot.ps (defScope (topS 52)) := ⟨rfl, rfl, rfl, by decide +kernel, rfl, by decide +kernel, by decide +kernel⟩
theorem ck__law_pot : ckSs G d__law_pot.ns (defScope (topS 52)) d__law_pot.body (defBody (topS 52)) = true := by decide +kernel
theorem sc__law_take : FnScope d__law_take.ns d__law_take.ps (defScope (topS 53)) := ⟨rfl, rfl, rfl, by decide +kernel, rfl, by decide +kernel, by decide +kernel⟩
theorem ck__law_take : ckSs G d__law_take.ns (defScope (topS 53)) d__law_take.body (defBody (topS 53)) = true := by decide +kernel
theorem sc__law_of : FnScope d__law_of.ns d__law_of.ps (defScope (topS 54)) := ⟨rfl, rfl, rfl, by decide +kernel, rfl, by decide +kernel, by decide +kernel⟩
theorem ck__law_of : ckSs G d__law_of.ns (defScope (topS 54)) d__law_of.body (defBody (topS 54)) = true := by decide +kernel
theorem sc__law_cells : FnScope d__law_cells.ns d__law_cells.ps (defScope (topS 55)) := ⟨rfl, rfl, rfl, by decide +kernel, rfl, by decide +kernel, by decide +kernel⟩
theorem ck__law_cells : ckSs G d__law_cells.ns (defScope (topS 55)) d__law_cells.body (defBody (topS 55)) = true := by decide +kernel
theorem sc__law_is_int : FnScope d__law_is_int.ns d__law_is_int.ps (defScope (topS 56)) := ⟨rfl, rfl, rfl, by decide +kernel, rfl, by decide +kernel, by decide +kernel⟩
theorem ck__law_is_int : ckSs G d__law_is_int.ns (defScope (topS 56)) d__law_is_int.body (defBody (topS 56)) = true := by decide +kernel
theorem sc__law_frac_common : FnScope d__law_frac_common.ns d__law_frac_common.ps (defScope (topS 57)) := ⟨rfl, rfl, rfl, by decide +kernel, rfl, by decide +kernel, by decide +kernel⟩
theorem ck__law_frac_common : ckSs G d__law_frac_common.ns (defScope (topS 57)) d__law_frac_common.body (defBody (topS 57)) = true := by decide +kernel
theorem sc__law_frac : FnScope d__law_frac.ns d__law_frac.ps (defScope (topS 58)) := ⟨rfl, rfl, rfl, by decide +kernel, rfl, by decide +kernel, by decide +kernel⟩
theorem ck__law_frac : ckSs G d__law_frac.ns (defScope (topS 58)) d__law_frac.body (defBody (topS 58)) = true := by decide +kernel
theorem sc__law_frac_times : FnScope d__law_frac_times.ns d__law_frac_times.ps (defScope (topS 59)) := ⟨rfl, rfl, rfl, by decide +kernel, rfl, by decide +kernel, by decide +kernel⟩
theorem ck__law_frac_times : ckSs G d__law_frac_times.ns (defScope (topS 59)) d__law_frac_times.body (defBody (topS 59)) = true := by decide +kernel
theorem sc__law_frac_over : FnScope d__law_frac_over.ns d__law_frac_over.ps (defScope (topS 60)) := ⟨rfl, rfl, rfl, by decide +kernel, rfl, by decide +kernel, by decide +kernel⟩
theorem ck__law_frac_over : ckSs G d__law_frac_over.ns (defScope (topS 60)) d__law_frac_over.body (defBody (topS 60)) = true := by decide +kernel
theorem sc__law_frac_is_less : FnScope d__law_frac_is_less.ns d__law_frac_is_less.ps (defScope (topS 61)) := ⟨rfl, rfl, rfl, by decide +kernel, rfl, by decide +kernel, by decide +kernel⟩
theorem ck__law_frac_is_less : ckSs G d__law_frac_is_less.ns (defScope (topS 61)) d__law_frac_is_less.body (defBody (topS 61)) = true := by decide +kernel
theorem sc__law_frac_text : FnScope d__law_frac_text.ns d__law_frac_text.ps (defScope (topS 62)) := ⟨rfl, rfl, rfl, by decide +kernel, rfl, by decide +kernel, by decide +kernel⟩
theorem ck__law_frac_text : ckSs G d__law_frac_text.ns (defScope (topS 62)) d__law_frac_text.body (defBody (topS 62)) = true := by decide +kernel
theorem sc__law_frac_drawn : FnScope d__law_frac_drawn.ns d__law_frac_drawn.ps (defScope (topS 63)) := ⟨rfl, rfl, rfl, by decide +kernel, rfl, by decide +kernel, by decide +kernel⟩
theorem ck__law_frac_drawn : ckSs G d__law_frac_drawn.ns (defScope (topS 63)) d__law_frac_drawn.body (defBody (topS 63)) = true := by decide +kernel
theorem sc__law_frac_pace : FnScope d__law_frac_pace.ns d__law_frac_pace.ps (defScope (topS 64)) := ⟨rfl, rfl, rfl, by decide +kernel, rfl, by decide +kernel, by decide +kernel⟩
theorem ck__law_frac_pace : ckSs G d__law_frac_pace.ns (defScope (topS 64)) d__law_frac_pace.body (defBody (topS 64)) = true := by decide +kernel
theorem sc__law_frac_time : FnScope d__law_frac_time.ns d__law_frac_time.ps (defScope (topS 65)) := ⟨rfl, rfl, rfl, by decide +kernel, rfl, by decide +kernel, by decide +kernel⟩
theorem ck__law_frac_time : ckSs G d__law_frac_time.ns (defScope (topS 65)) d__law_frac_time.body (defBody (topS 65)) = true := by decide +kernel
theorem sc__law_event_drawn : FnScope d__law_event_drawn.ns d__law_event_drawn.ps (defScope (topS 66)) := ⟨rfl, rfl, rfl, by decide +kernel, rfl, by decide +kernel, by decide +kernel⟩
theorem ck__law_event_drawn : ckSs G d__law_event_drawn.ns (defScope (topS 66)) d__law_event_drawn.body (defBody (topS 66)) = true := by decide +kernel
theorem sc__law_event_text : FnScope d__law_event_text.ns d__law_event_text.ps (defScope (topS 67)) := ⟨rfl, rfl, rfl, by decide +kernel, rfl, by decide +kernel, by decide +kernel⟩
theorem ck__law_event_text : ckSs G d__law_event_text.ns (defScope (topS 67)) d__law_event_text.body (defBody (topS 67)) = true := by decide +kernel
theorem sc__law_power : FnScope d__law_power.ns d__law_power.ps (defScope (topS 68)) := ⟨rfl, rfl, rfl, by decide +kernel, rfl, by decide +kernel, by decide +kernel⟩
theorem ck__law_power : ckSs G d__law_power.ns (defScope (topS 68)) d__law_power.body (defBody (topS 68)) = true := by decide +kernel
theorem sc__law_remainder : FnScope d__law_remainder.ns d__law_remainder.ps (defScope (topS 69)) := ⟨rfl, rfl, rfl, by decide +kernel, rfl, by decide +kernel, by decide +kernel⟩
theorem ck__law_remainder : ckSs G d__law_remainder.ns (defScope (topS 69)) d__law_remainder.body (defBody (topS 69)) = true := by decide +kernel
theorem sc__law_is_thrown_right : FnScope d__law_is_thrown_right.ns d__law_is_thrown_right.ps (defScope (topS 70)) := ⟨rfl, rfl, rfl, by decide +kernel, rfl, by decide +kernel, by decide +kernel⟩
theorem ck__law_is_thrown_right : ckSs G d__law_is_thrown_right.ns (defScope (topS 70)) d__law_is_thrown_right.body (defBody (topS 70)) = true := by decide +kernel
theorem sc__law_right : FnScope d__law_right.ns d__law_right.ps (defScope (topS 71)) := ⟨rfl, rfl, rfl, by decide +kernel, rfl, by decide +kernel, by decide +kernel⟩
theorem ck__law_right : ckSs G d__law_right.ns (defScope (topS 71)) d__law_right.body (defBody (topS 71)) = true := by decide +kernel
theorem sc_law : FnScope d_law.ns d_law.ps (defScope (topS 72)) := ⟨rfl, rfl, rfl, by decide +kernel, rfl, by decide +kernel, by decide +kernel⟩
theorem ck_law : ckSs G d_law.ns (defScope (topS 72)) d_law.body (defBody (topS 72)) = true := by decide +kernel
def subS (i j : Nat) : Stmt := match topS i with | .ClassDef _ _ _ body _ _ _ _ _ _ _ => body.getD j (.Pass ⟨0, 0, 0, 0⟩) | s => s
theorem sc_Flight : FnScope d_Flight.ns d_Flight.ps (defScope (subS 44 0)) := ⟨rfl, rfl, rfl, by decide +kernel, rfl, by decide +kernel, by decide +kernel⟩
theorem ck_Flight : ckM "Flight" ["text", "start", "pace", "steps", "stops", "pieces", "whole", "goal"] G d_Flight.ns (defScope (subS 44 0)) d_Flight.body (defBody (subS 44 0)) = true := by decide +kernel
theorem sc_Flight_at : FnScope d_Flight_at.ns d_Flight_at.ps (defScope (subS 44 3)) := ⟨rfl, rfl, rfl, by decide +kernel, rfl, by decide +kernel, by decide +kernel⟩
theorem ck_Flight_at : ckSs G d_Flight_at.ns (defScope (subS 44 3)) d_Flight_at.body (defBody (subS 44 3)) = true := by decide +kernel
theorem da__wall {K : PySem.W.Frag} {h : Heap} {mg : PySem.Str → Option Value} (X : K.In h) (Gm : h.Ns mainGlobals mg) (e : ∃ fa, FAt K "_wall" (topS 1) fa) : ∃ fa fd dd st, DefAt K mg G T "_wall" 1 ([] : List (Nat × List PySem.Str × List Nat)) fa fd dd st :=
  da_of (dd := d__wall) X Gm e (by kernel_rfl) rfl sc__wall ck__wall rfl (fun _ _ _ _ _ _ us hl => match us, hl with | [_], _ => rfl) (fun _ z => nomatch z)
theorem da_is_plain_integer {K : PySem.W.Frag} {h : Heap} {mg : PySem.Str → Option Value} (X : K.In h) (Gm : h.Ns mainGlobals mg) (e : ∃ fa, FAt K "is_plain_integer" (topS 13) fa) : ∃ fa fd dd st, DefAt K mg G T "is_plain_integer" 1 ([] : List (Nat × List PySem.Str × List Nat)) fa fd dd st :=
  da_of (dd := d_is_plain_integer) X Gm e (by kernel_rfl) rfl sc_is_plain_integer ck_is_plain_integer rfl (fun _ _ _ _ _ _ us hl => match us, hl with | [_], _ => rfl) (fun _ z => nomatch z)
theorem da_is_fraction {K : PySem.W.Frag} {h : Heap} {mg : PySem.Str → Option Value} (X : K.In h) (Gm : h.Ns mainGlobals mg) (e : ∃ fa, FAt K "is_fraction" (topS 14) fa) : ∃ fa fd dd st, DefAt K mg G T "is_fraction" 1 ([] : List (Nat × List PySem.Str × List Nat)) fa fd dd st :=
  da_of (dd := d_is_fraction) X Gm e (by kernel_rfl) rfl sc_is_fraction ck_is_fraction rfl (fun _ _ _ _ _ _ us hl => match us, hl with | [_], _ => rfl) (fun _ z => nomatch z)
theorem da_is_time {K : PySem.W.Frag} {h : Heap} {mg : PySem.Str → Option Value} (X : K.In h) (Gm : h.Ns mainGlobals mg) (e : ∃ fa, FAt K "is_time" (topS 15) fa) : ∃ fa fd dd st, DefAt K mg G T "is_time" 1 ([] : List (Nat × List PySem.Str × List Nat)) fa fd dd st :=
  da_of (dd := d_is_time) X Gm e (by kernel_rfl) rfl sc_is_time ck_is_time rfl (fun _ _ _ _ _ _ us hl => match us, hl with | [_], _ => rfl) (fun _ z => nomatch z)
theorem da_in_least_terms {K : PySem.W.Frag} {h : Heap} {mg : PySem.Str → Option Value} (X : K.In h) (Gm : h.Ns mainGlobals mg) (e : ∃ fa, FAt K "in_least_terms" (topS 16) fa) : ∃ fa fd dd st, DefAt K mg G T "in_least_terms" 2 ([] : List (Nat × List PySem.Str × List Nat)) fa fd dd st :=
  da_of (dd := d_in_least_terms) X Gm e (by kernel_rfl) rfl sc_in_least_terms ck_in_least_terms rfl (fun _ _ _ _ _ _ us hl => match us, hl with | [_, _], _ => rfl) (fun _ z => nomatch z)
theorem da_added {K : PySem.W.Frag} {h : Heap} {mg : PySem.Str → Option Value} (X : K.In h) (Gm : h.Ns mainGlobals mg) (e : ∃ fa, FAt K "added" (topS 17) fa) : ∃ fa fd dd st, DefAt K mg G T "added" 2 ([] : List (Nat × List PySem.Str × List Nat)) fa fd dd st :=
  da_of (dd := d_added) X Gm e (by kernel_rfl) rfl sc_added ck_added rfl (fun _ _ _ _ _ _ us hl => match us, hl with | [_, _], _ => rfl) (fun _ z => nomatch z)
theorem da_subtracted {K : PySem.W.Frag} {h : Heap} {mg : PySem.Str → Option Value} (X : K.In h) (Gm : h.Ns mainGlobals mg) (e : ∃ fa, FAt K "subtracted" (topS 18) fa) : ∃ fa fd dd st, DefAt K mg G T "subtracted" 2 ([] : List (Nat × List PySem.Str × List Nat)) fa fd dd st :=
  da_of (dd := d_subtracted) X Gm e (by kernel_rfl) rfl sc_subtracted ck_subtracted rfl (fun _ _ _ _ _ _ us hl => match us, hl with | [_, _], _ => rfl) (fun _ z => nomatch z)
theorem da_multiplied {K : PySem.W.Frag} {h : Heap} {mg : PySem.Str → Option Value} (X : K.In h) (Gm : h.Ns mainGlobals mg) (e : ∃ fa, FAt K "multiplied" (topS 19) fa) : ∃ fa fd dd st, DefAt K mg G T "multiplied" 2 ([] : List (Nat × List PySem.Str × List Nat)) fa fd dd st :=
  da_of (dd := d_multiplied) X Gm e (by kernel_rfl) rfl sc_multiplied ck_multiplied rfl (fun _ _ _ _ _ _ us hl => match us, hl with | [_, _], _ => rfl) (fun _ z => nomatch z)
theorem da_divided {K : PySem.W.Frag} {h : Heap} {mg : PySem.Str → Option Value} (X : K.In h) (Gm : h.Ns mainGlobals mg) (e : ∃ fa, FAt K "divided" (topS 20) fa) : ∃ fa fd dd st, DefAt K mg G T "divided" 2 ([] : List (Nat × List PySem.Str × List Nat)) fa fd dd st :=
  da_of (dd := d_divided) X Gm e (by kernel_rfl) rfl sc_divided ck_divided rfl (fun _ _ _ _ _ _ us hl => match us, hl with | [_, _], _ => rfl) (fun _ z => nomatch z)
theorem da_is_less {K : PySem.W.Frag} {h : Heap} {mg : PySem.Str → Option Value} (X : K.In h) (Gm : h.Ns mainGlobals mg) (e : ∃ fa, FAt K "is_less" (topS 21) fa) : ∃ fa fd dd st, DefAt K mg G T "is_less" 2 ([] : List (Nat × List PySem.Str × List Nat)) fa fd dd st :=
  da_of (dd := d_is_less) X Gm e (by kernel_rfl) rfl sc_is_less ck_is_less rfl (fun _ _ _ _ _ _ us hl => match us, hl with | [_, _], _ => rfl) (fun _ z => nomatch z)
theorem da_is_integer_text {K : PySem.W.Frag} {h : Heap} {mg : PySem.Str → Option Value} (X : K.In h) (Gm : h.Ns mainGlobals mg) (e : ∃ fa, FAt K "is_integer_text" (topS 22) fa) : ∃ fa fd dd st, DefAt K mg G T "is_integer_text" 1 ([] : List (Nat × List PySem.Str × List Nat)) fa fd dd st :=
  da_of (dd := d_is_integer_text) X Gm e (by kernel_rfl) rfl sc_is_integer_text ck_is_integer_text rfl (fun _ _ _ _ _ _ us hl => match us, hl with | [_], _ => rfl) (fun _ z => nomatch z)
theorem da_read_fraction {K : PySem.W.Frag} {h : Heap} {mg : PySem.Str → Option Value} (X : K.In h) (Gm : h.Ns mainGlobals mg) (e : ∃ fa, FAt K "read_fraction" (topS 23) fa) : ∃ fa fd dd st, DefAt K mg G T "read_fraction" 1 ([] : List (Nat × List PySem.Str × List Nat)) fa fd dd st :=
  da_of (dd := d_read_fraction) X Gm e (by kernel_rfl) rfl sc_read_fraction ck_read_fraction rfl (fun _ _ _ _ _ _ us hl => match us, hl with | [_], _ => rfl) (fun _ z => nomatch z)
theorem da_read_above_zero {K : PySem.W.Frag} {h : Heap} {mg : PySem.Str → Option Value} (X : K.In h) (Gm : h.Ns mainGlobals mg) (e : ∃ fa, FAt K "read_above_zero" (topS 24) fa) : ∃ fa fd dd st, DefAt K mg G T "read_above_zero" 1 ([] : List (Nat × List PySem.Str × List Nat)) fa fd dd st :=
  da_of (dd := d_read_above_zero) X Gm e (by kernel_rfl) rfl sc_read_above_zero ck_read_above_zero rfl (fun _ _ _ _ _ _ us hl => match us, hl with | [_], _ => rfl) (fun _ z => nomatch z)
theorem da_inverse {K : PySem.W.Frag} {h : Heap} {mg : PySem.Str → Option Value} (X : K.In h) (Gm : h.Ns mainGlobals mg) (e : ∃ fa, FAt K "inverse" (topS 25) fa) : ∃ fa fd dd st, DefAt K mg G T "inverse" 1 ([] : List (Nat × List PySem.Str × List Nat)) fa fd dd st :=
  da_of (dd := d_inverse) X Gm e (by kernel_rfl) rfl sc_inverse ck_inverse rfl (fun _ _ _ _ _ _ us hl => match us, hl with | [_], _ => rfl) (fun _ z => nomatch z)
theorem da_is_event {K : PySem.W.Frag} {h : Heap} {mg : PySem.Str → Option Value} (X : K.In h) (Gm : h.Ns mainGlobals mg) (e : ∃ fa, FAt K "is_event" (topS 27) fa) : ∃ fa fd dd st, DefAt K mg G T "is_event" 1 ([] : List (Nat × List PySem.Str × List Nat)) fa fd dd st :=
  da_of (dd := d_is_event) X Gm e (by kernel_rfl) rfl sc_is_event ck_is_event rfl (fun _ _ _ _ _ _ us hl => match us, hl with | [_], _ => rfl) (fun _ z => nomatch z)
theorem da_check_event {K : PySem.W.Frag} {h : Heap} {mg : PySem.Str → Option Value} (X : K.In h) (Gm : h.Ns mainGlobals mg) (e : ∃ fa, FAt K "check_event" (topS 28) fa) : ∃ fa fd dd st, DefAt K mg G T "check_event" 1 ([] : List (Nat × List PySem.Str × List Nat)) fa fd dd st :=
  da_of (dd := d_check_event) X Gm e (by kernel_rfl) rfl sc_check_event ck_check_event rfl (fun _ _ _ _ _ _ us hl => match us, hl with | [_], _ => rfl) (fun _ z => nomatch z)
theorem da_flown {K : PySem.W.Frag} {h : Heap} {mg : PySem.Str → Option Value} (X : K.In h) (Gm : h.Ns mainGlobals mg) (e : ∃ fa, FAt K "flown" (topS 29) fa) : ∃ fa fd dd st, DefAt K mg G T "flown" 3 ([] : List (Nat × List PySem.Str × List Nat)) fa fd dd st :=
  da_of (dd := d_flown) X Gm e (by kernel_rfl) rfl sc_flown ck_flown rfl (fun _ _ _ _ _ _ us hl => match us, hl with | [_, _, _], _ => rfl) (fun _ z => nomatch z)
theorem da_last_stop {K : PySem.W.Frag} {h : Heap} {mg : PySem.Str → Option Value} (X : K.In h) (Gm : h.Ns mainGlobals mg) (e : ∃ fa, FAt K "last_stop" (topS 31) fa) : ∃ fa fd dd st, DefAt K mg G T "last_stop" 2 ([] : List (Nat × List PySem.Str × List Nat)) fa fd dd st :=
  da_of (dd := d_last_stop) X Gm e (by kernel_rfl) rfl sc_last_stop ck_last_stop rfl (fun _ _ _ _ _ _ us hl => match us, hl with | [_, _], _ => rfl) (fun _ z => nomatch z)
theorem da_place_at {K : PySem.W.Frag} {h : Heap} {mg : PySem.Str → Option Value} (X : K.In h) (Gm : h.Ns mainGlobals mg) (e : ∃ fa, FAt K "place_at" (topS 32) fa) : ∃ fa fd dd st, DefAt K mg G T "place_at" 2 ([] : List (Nat × List PySem.Str × List Nat)) fa fd dd st :=
  da_of (dd := d_place_at) X Gm e (by kernel_rfl) rfl sc_place_at ck_place_at rfl (fun _ _ _ _ _ _ us hl => match us, hl with | [_, _], _ => rfl) (fun _ z => nomatch z)
theorem da_rate {K : PySem.W.Frag} {h : Heap} {mg : PySem.Str → Option Value} (X : K.In h) (Gm : h.Ns mainGlobals mg) (e : ∃ fa, FAt K "rate" (topS 33) fa) : ∃ fa fd dd st, DefAt K mg G T "rate" 2 ([] : List (Nat × List PySem.Str × List Nat)) fa fd dd st :=
  da_of (dd := d_rate) X Gm e (by kernel_rfl) rfl sc_rate ck_rate rfl (fun _ _ _ _ _ _ us hl => match us, hl with | [_, _], _ => rfl) (fun _ z => nomatch z)
theorem da_time_at {K : PySem.W.Frag} {h : Heap} {mg : PySem.Str → Option Value} (X : K.In h) (Gm : h.Ns mainGlobals mg) (e : ∃ fa, FAt K "time_at" (topS 34) fa) : ∃ fa fd dd st, DefAt K mg G T "time_at" 3 ([] : List (Nat × List PySem.Str × List Nat)) fa fd dd st :=
  da_of (dd := d_time_at) X Gm e (by kernel_rfl) rfl sc_time_at ck_time_at rfl (fun _ _ _ _ _ _ us hl => match us, hl with | [_, _, _], _ => rfl) (fun _ z => nomatch z)
theorem da_hearing {K : PySem.W.Frag} {h : Heap} {mg : PySem.Str → Option Value} (X : K.In h) (Gm : h.Ns mainGlobals mg) (e : ∃ fa, FAt K "hearing" (topS 35) fa) : ∃ fa fd dd st, DefAt K mg G T "hearing" 2 ([] : List (Nat × List PySem.Str × List Nat)) fa fd dd st :=
  da_of (dd := d_hearing) X Gm e (by kernel_rfl) rfl sc_hearing ck_hearing rfl (fun _ _ _ _ _ _ us hl => match us, hl with | [_, _], _ => rfl) (fun _ z => nomatch z)
theorem da_heard {K : PySem.W.Frag} {h : Heap} {mg : PySem.Str → Option Value} (X : K.In h) (Gm : h.Ns mainGlobals mg) (e : ∃ fa, FAt K "heard" (topS 37) fa) : ∃ fa fd dd st, DefAt K mg G T "heard" 2 ([] : List (Nat × List PySem.Str × List Nat)) fa fd dd st :=
  da_of (dd := d_heard) X Gm e (by kernel_rfl) rfl sc_heard ck_heard rfl (fun _ _ _ _ _ _ us hl => match us, hl with | [_, _], _ => rfl) (fun _ z => nomatch z)
theorem da_check_throw {K : PySem.W.Frag} {h : Heap} {mg : PySem.Str → Option Value} (X : K.In h) (Gm : h.Ns mainGlobals mg) (e : ∃ fa, FAt K "check_throw" (topS 38) fa) : ∃ fa fd dd st, DefAt K mg G T "check_throw" 4 ([] : List (Nat × List PySem.Str × List Nat)) fa fd dd st :=
  da_of (dd := d_check_throw) X Gm e (by kernel_rfl) rfl sc_check_throw ck_check_throw rfl (fun _ _ _ _ _ _ us hl => match us, hl with | [_, _, _, _], _ => rfl) (fun _ z => nomatch z)
theorem da_thrown_plain {K : PySem.W.Frag} {h : Heap} {mg : PySem.Str → Option Value} (X : K.In h) (Gm : h.Ns mainGlobals mg) (e : ∃ fa, FAt K "thrown_plain" (topS 39) fa) : ∃ fa fd dd st, DefAt K mg G T "thrown_plain" 3 ([(0, ["many", "factor", "time"], [2, 1, 0])] : List (Nat × List PySem.Str × List Nat)) fa fd dd st :=
  da_of (dd := d_thrown_plain) X Gm e (by kernel_rfl) rfl sc_thrown_plain ck_thrown_plain rfl (fun _ _ _ _ _ _ us hl => match us, hl with | [_, _, _], _ => rfl) (by
    intro t ht
    rcases List.mem_cons.1 ht with rfl | ht
    · exact ⟨by decide, fun _ _ _ _ _ _ us ws hu hw => match us, ws, hu, hw with | [], [_, _, _], _, _ => rfl⟩
    cases ht)
theorem da_thrown {K : PySem.W.Frag} {h : Heap} {mg : PySem.Str → Option Value} (X : K.In h) (Gm : h.Ns mainGlobals mg) (e : ∃ fa, FAt K "thrown" (topS 40) fa) : ∃ fa fd dd st, DefAt K mg G T "thrown" 4 ([(0, ["modulus", "many", "factor", "time"], [3, 2, 1, 0])] : List (Nat × List PySem.Str × List Nat)) fa fd dd st :=
  da_of (dd := d_thrown) X Gm e (by kernel_rfl) rfl sc_thrown ck_thrown rfl (fun _ _ _ _ _ _ us hl => match us, hl with | [_, _, _, _], _ => rfl) (by
    intro t ht
    rcases List.mem_cons.1 ht with rfl | ht
    · exact ⟨by decide, fun _ _ _ _ _ _ us ws hu hw => match us, ws, hu, hw with | [], [_, _, _, _], _, _ => rfl⟩
    cases ht)
theorem da_is_modulus {K : PySem.W.Frag} {h : Heap} {mg : PySem.Str → Option Value} (X : K.In h) (Gm : h.Ns mainGlobals mg) (e : ∃ fa, FAt K "is_modulus" (topS 41) fa) : ∃ fa fd dd st, DefAt K mg G T "is_modulus" 1 ([] : List (Nat × List PySem.Str × List Nat)) fa fd dd st :=
  da_of (dd := d_is_modulus) X Gm e (by kernel_rfl) rfl sc_is_modulus ck_is_modulus rfl (fun _ _ _ _ _ _ us hl => match us, hl with | [_], _ => rfl) (fun _ z => nomatch z)
theorem da_power {K : PySem.W.Frag} {h : Heap} {mg : PySem.Str → Option Value} (X : K.In h) (Gm : h.Ns mainGlobals mg) (e : ∃ fa, FAt K "power" (topS 42) fa) : ∃ fa fd dd st, DefAt K mg G T "power" 3 ([] : List (Nat × List PySem.Str × List Nat)) fa fd dd st :=
  da_of (dd := d_power) X Gm e (by kernel_rfl) rfl sc_power ck_power rfl (fun _ _ _ _ _ _ us hl => match us, hl with | [_, _, _], _ => rfl) (fun _ z => nomatch z)
theorem da_read_flight {K : PySem.W.Frag} {h : Heap} {mg : PySem.Str → Option Value} (X : K.In h) (Gm : h.Ns mainGlobals mg) (e : ∃ fa, FAt K "read_flight" (topS 45) fa) : ∃ fa fd dd st, DefAt K mg G T "read_flight" 1 ([] : List (Nat × List PySem.Str × List Nat)) fa fd dd st :=
  da_of (dd := d_read_flight) X Gm e (by kernel_rfl) rfl sc_read_flight ck_read_flight rfl (fun _ _ _ _ _ _ us hl => match us, hl with | [_], _ => rfl) (fun _ z => nomatch z)
theorem da_read_first {K : PySem.W.Frag} {h : Heap} {mg : PySem.Str → Option Value} (X : K.In h) (Gm : h.Ns mainGlobals mg) (e : ∃ fa, FAt K "read_first" (topS 46) fa) : ∃ fa fd dd st, DefAt K mg G T "read_first" 1 ([] : List (Nat × List PySem.Str × List Nat)) fa fd dd st :=
  da_of (dd := d_read_first) X Gm e (by kernel_rfl) rfl sc_read_first ck_read_first rfl (fun _ _ _ _ _ _ us hl => match us, hl with | [_], _ => rfl) (fun _ z => nomatch z)
theorem da_read_step {K : PySem.W.Frag} {h : Heap} {mg : PySem.Str → Option Value} (X : K.In h) (Gm : h.Ns mainGlobals mg) (e : ∃ fa, FAt K "read_step" (topS 47) fa) : ∃ fa fd dd st, DefAt K mg G T "read_step" 1 ([] : List (Nat × List PySem.Str × List Nat)) fa fd dd st :=
  da_of (dd := d_read_step) X Gm e (by kernel_rfl) rfl sc_read_step ck_read_step rfl (fun _ _ _ _ _ _ us hl => match us, hl with | [_], _ => rfl) (fun _ z => nomatch z)
theorem da_stops_of {K : PySem.W.Frag} {h : Heap} {mg : PySem.Str → Option Value} (X : K.In h) (Gm : h.Ns mainGlobals mg) (e : ∃ fa, FAt K "stops_of" (topS 48) fa) : ∃ fa fd dd st, DefAt K mg G T "stops_of" 3 ([] : List (Nat × List PySem.Str × List Nat)) fa fd dd st :=
  da_of (dd := d_stops_of) X Gm e (by kernel_rfl) rfl sc_stops_of ck_stops_of rfl (fun _ _ _ _ _ _ us hl => match us, hl with | [_, _, _], _ => rfl) (fun _ z => nomatch z)
theorem da_pieces_of {K : PySem.W.Frag} {h : Heap} {mg : PySem.Str → Option Value} (X : K.In h) (Gm : h.Ns mainGlobals mg) (e : ∃ fa, FAt K "pieces_of" (topS 49) fa) : ∃ fa fd dd st, DefAt K mg G T "pieces_of" 1 ([] : List (Nat × List PySem.Str × List Nat)) fa fd dd st :=
  da_of (dd := d_pieces_of) X Gm e (by kernel_rfl) rfl sc_pieces_of ck_pieces_of rfl (fun _ _ _ _ _ _ us hl => match us, hl with | [_], _ => rfl) (fun _ z => nomatch z)
theorem da_check_time {K : PySem.W.Frag} {h : Heap} {mg : PySem.Str → Option Value} (X : K.In h) (Gm : h.Ns mainGlobals mg) (e : ∃ fa, FAt K "check_time" (topS 50) fa) : ∃ fa fd dd st, DefAt K mg G T "check_time" 2 ([] : List (Nat × List PySem.Str × List Nat)) fa fd dd st :=
  da_of (dd := d_check_time) X Gm e (by kernel_rfl) rfl sc_check_time ck_check_time rfl (fun _ _ _ _ _ _ us hl => match us, hl with | [_, _], _ => rfl) (fun _ z => nomatch z)
theorem da__law_pot {K : PySem.W.Frag} {h : Heap} {mg : PySem.Str → Option Value} (X : K.In h) (Gm : h.Ns mainGlobals mg) (e : ∃ fa, FAt K "_law_pot" (topS 52) fa) : ∃ fa fd dd st, DefAt K mg G T "_law_pot" 2 ([] : List (Nat × List PySem.Str × List Nat)) fa fd dd st :=
  da_of (dd := d__law_pot) X Gm e (by kernel_rfl) rfl sc__law_pot ck__law_pot rfl (fun _ _ _ _ _ _ us hl => match us, hl with | [_, _], _ => rfl) (fun _ z => nomatch z)
theorem da__law_take {K : PySem.W.Frag} {h : Heap} {mg : PySem.Str → Option Value} (X : K.In h) (Gm : h.Ns mainGlobals mg) (e : ∃ fa, FAt K "_law_take" (topS 53) fa) : ∃ fa fd dd st, DefAt K mg G T "_law_take" 2 ([] : List (Nat × List PySem.Str × List Nat)) fa fd dd st :=
  da_of (dd := d__law_take) X Gm e (by kernel_rfl) rfl sc__law_take ck__law_take rfl (fun _ _ _ _ _ _ us hl => match us, hl with | [_, _], _ => rfl) (fun _ z => nomatch z)
theorem da__law_of {K : PySem.W.Frag} {h : Heap} {mg : PySem.Str → Option Value} (X : K.In h) (Gm : h.Ns mainGlobals mg) (e : ∃ fa, FAt K "_law_of" (topS 54) fa) : ∃ fa fd dd st, DefAt K mg G T "_law_of" 2 ([] : List (Nat × List PySem.Str × List Nat)) fa fd dd st :=
  da_of (dd := d__law_of) X Gm e (by kernel_rfl) rfl sc__law_of ck__law_of rfl (fun _ _ _ _ _ _ us hl => match us, hl with | [_, _], _ => rfl) (fun _ z => nomatch z)
theorem da__law_cells {K : PySem.W.Frag} {h : Heap} {mg : PySem.Str → Option Value} (X : K.In h) (Gm : h.Ns mainGlobals mg) (e : ∃ fa, FAt K "_law_cells" (topS 55) fa) : ∃ fa fd dd st, DefAt K mg G T "_law_cells" 2 ([] : List (Nat × List PySem.Str × List Nat)) fa fd dd st :=
  da_of (dd := d__law_cells) X Gm e (by kernel_rfl) rfl sc__law_cells ck__law_cells rfl (fun _ _ _ _ _ _ us hl => match us, hl with | [_, _], _ => rfl) (fun _ z => nomatch z)
theorem da__law_is_int {K : PySem.W.Frag} {h : Heap} {mg : PySem.Str → Option Value} (X : K.In h) (Gm : h.Ns mainGlobals mg) (e : ∃ fa, FAt K "_law_is_int" (topS 56) fa) : ∃ fa fd dd st, DefAt K mg G T "_law_is_int" 3 ([] : List (Nat × List PySem.Str × List Nat)) fa fd dd st :=
  da_of (dd := d__law_is_int) X Gm e (by kernel_rfl) rfl sc__law_is_int ck__law_is_int rfl (fun _ _ _ _ _ _ us hl => match us, hl with | [_, _, _], _ => rfl) (fun _ z => nomatch z)
theorem da__law_frac_common {K : PySem.W.Frag} {h : Heap} {mg : PySem.Str → Option Value} (X : K.In h) (Gm : h.Ns mainGlobals mg) (e : ∃ fa, FAt K "_law_frac_common" (topS 57) fa) : ∃ fa fd dd st, DefAt K mg G T "_law_frac_common" 2 ([] : List (Nat × List PySem.Str × List Nat)) fa fd dd st :=
  da_of (dd := d__law_frac_common) X Gm e (by kernel_rfl) rfl sc__law_frac_common ck__law_frac_common rfl (fun _ _ _ _ _ _ us hl => match us, hl with | [_, _], _ => rfl) (fun _ z => nomatch z)
theorem da__law_frac {K : PySem.W.Frag} {h : Heap} {mg : PySem.Str → Option Value} (X : K.In h) (Gm : h.Ns mainGlobals mg) (e : ∃ fa, FAt K "_law_frac" (topS 58) fa) : ∃ fa fd dd st, DefAt K mg G T "_law_frac" 2 ([] : List (Nat × List PySem.Str × List Nat)) fa fd dd st :=
  da_of (dd := d__law_frac) X Gm e (by kernel_rfl) rfl sc__law_frac ck__law_frac rfl (fun _ _ _ _ _ _ us hl => match us, hl with | [_, _], _ => rfl) (fun _ z => nomatch z)
theorem da__law_frac_times {K : PySem.W.Frag} {h : Heap} {mg : PySem.Str → Option Value} (X : K.In h) (Gm : h.Ns mainGlobals mg) (e : ∃ fa, FAt K "_law_frac_times" (topS 59) fa) : ∃ fa fd dd st, DefAt K mg G T "_law_frac_times" 2 ([] : List (Nat × List PySem.Str × List Nat)) fa fd dd st :=
  da_of (dd := d__law_frac_times) X Gm e (by kernel_rfl) rfl sc__law_frac_times ck__law_frac_times rfl (fun _ _ _ _ _ _ us hl => match us, hl with | [_, _], _ => rfl) (fun _ z => nomatch z)
theorem da__law_frac_over {K : PySem.W.Frag} {h : Heap} {mg : PySem.Str → Option Value} (X : K.In h) (Gm : h.Ns mainGlobals mg) (e : ∃ fa, FAt K "_law_frac_over" (topS 60) fa) : ∃ fa fd dd st, DefAt K mg G T "_law_frac_over" 2 ([] : List (Nat × List PySem.Str × List Nat)) fa fd dd st :=
  da_of (dd := d__law_frac_over) X Gm e (by kernel_rfl) rfl sc__law_frac_over ck__law_frac_over rfl (fun _ _ _ _ _ _ us hl => match us, hl with | [_, _], _ => rfl) (fun _ z => nomatch z)
theorem da__law_frac_is_less {K : PySem.W.Frag} {h : Heap} {mg : PySem.Str → Option Value} (X : K.In h) (Gm : h.Ns mainGlobals mg) (e : ∃ fa, FAt K "_law_frac_is_less" (topS 61) fa) : ∃ fa fd dd st, DefAt K mg G T "_law_frac_is_less" 2 ([] : List (Nat × List PySem.Str × List Nat)) fa fd dd st :=
  da_of (dd := d__law_frac_is_less) X Gm e (by kernel_rfl) rfl sc__law_frac_is_less ck__law_frac_is_less rfl (fun _ _ _ _ _ _ us hl => match us, hl with | [_, _], _ => rfl) (fun _ z => nomatch z)
theorem da__law_frac_text {K : PySem.W.Frag} {h : Heap} {mg : PySem.Str → Option Value} (X : K.In h) (Gm : h.Ns mainGlobals mg) (e : ∃ fa, FAt K "_law_frac_text" (topS 62) fa) : ∃ fa fd dd st, DefAt K mg G T "_law_frac_text" 1 ([] : List (Nat × List PySem.Str × List Nat)) fa fd dd st :=
  da_of (dd := d__law_frac_text) X Gm e (by kernel_rfl) rfl sc__law_frac_text ck__law_frac_text rfl (fun _ _ _ _ _ _ us hl => match us, hl with | [_], _ => rfl) (fun _ z => nomatch z)
theorem da__law_frac_drawn {K : PySem.W.Frag} {h : Heap} {mg : PySem.Str → Option Value} (X : K.In h) (Gm : h.Ns mainGlobals mg) (e : ∃ fa, FAt K "_law_frac_drawn" (topS 63) fa) : ∃ fa fd dd st, DefAt K mg G T "_law_frac_drawn" 3 ([] : List (Nat × List PySem.Str × List Nat)) fa fd dd st :=
  da_of (dd := d__law_frac_drawn) X Gm e (by kernel_rfl) rfl sc__law_frac_drawn ck__law_frac_drawn rfl (fun _ _ _ _ _ _ us hl => match us, hl with | [_, _, _], _ => rfl) (fun _ z => nomatch z)
theorem da__law_frac_pace {K : PySem.W.Frag} {h : Heap} {mg : PySem.Str → Option Value} (X : K.In h) (Gm : h.Ns mainGlobals mg) (e : ∃ fa, FAt K "_law_frac_pace" (topS 64) fa) : ∃ fa fd dd st, DefAt K mg G T "_law_frac_pace" 1 ([] : List (Nat × List PySem.Str × List Nat)) fa fd dd st :=
  da_of (dd := d__law_frac_pace) X Gm e (by kernel_rfl) rfl sc__law_frac_pace ck__law_frac_pace rfl (fun _ _ _ _ _ _ us hl => match us, hl with | [_], _ => rfl) (fun _ z => nomatch z)
theorem da__law_frac_time {K : PySem.W.Frag} {h : Heap} {mg : PySem.Str → Option Value} (X : K.In h) (Gm : h.Ns mainGlobals mg) (e : ∃ fa, FAt K "_law_frac_time" (topS 65) fa) : ∃ fa fd dd st, DefAt K mg G T "_law_frac_time" 1 ([] : List (Nat × List PySem.Str × List Nat)) fa fd dd st :=
  da_of (dd := d__law_frac_time) X Gm e (by kernel_rfl) rfl sc__law_frac_time ck__law_frac_time rfl (fun _ _ _ _ _ _ us hl => match us, hl with | [_], _ => rfl) (fun _ z => nomatch z)
theorem da__law_event_drawn {K : PySem.W.Frag} {h : Heap} {mg : PySem.Str → Option Value} (X : K.In h) (Gm : h.Ns mainGlobals mg) (e : ∃ fa, FAt K "_law_event_drawn" (topS 66) fa) : ∃ fa fd dd st, DefAt K mg G T "_law_event_drawn" 1 ([] : List (Nat × List PySem.Str × List Nat)) fa fd dd st :=
  da_of (dd := d__law_event_drawn) X Gm e (by kernel_rfl) rfl sc__law_event_drawn ck__law_event_drawn rfl (fun _ _ _ _ _ _ us hl => match us, hl with | [_], _ => rfl) (fun _ z => nomatch z)
theorem da__law_event_text {K : PySem.W.Frag} {h : Heap} {mg : PySem.Str → Option Value} (X : K.In h) (Gm : h.Ns mainGlobals mg) (e : ∃ fa, FAt K "_law_event_text" (topS 67) fa) : ∃ fa fd dd st, DefAt K mg G T "_law_event_text" 1 ([] : List (Nat × List PySem.Str × List Nat)) fa fd dd st :=
  da_of (dd := d__law_event_text) X Gm e (by kernel_rfl) rfl sc__law_event_text ck__law_event_text rfl (fun _ _ _ _ _ _ us hl => match us, hl with | [_], _ => rfl) (fun _ z => nomatch z)
theorem da__law_power {K : PySem.W.Frag} {h : Heap} {mg : PySem.Str → Option Value} (X : K.In h) (Gm : h.Ns mainGlobals mg) (e : ∃ fa, FAt K "_law_power" (topS 68) fa) : ∃ fa fd dd st, DefAt K mg G T "_law_power" 3 ([] : List (Nat × List PySem.Str × List Nat)) fa fd dd st :=
  da_of (dd := d__law_power) X Gm e (by kernel_rfl) rfl sc__law_power ck__law_power rfl (fun _ _ _ _ _ _ us hl => match us, hl with | [_, _, _], _ => rfl) (fun _ z => nomatch z)
theorem da__law_remainder {K : PySem.W.Frag} {h : Heap} {mg : PySem.Str → Option Value} (X : K.In h) (Gm : h.Ns mainGlobals mg) (e : ∃ fa, FAt K "_law_remainder" (topS 69) fa) : ∃ fa fd dd st, DefAt K mg G T "_law_remainder" 2 ([] : List (Nat × List PySem.Str × List Nat)) fa fd dd st :=
  da_of (dd := d__law_remainder) X Gm e (by kernel_rfl) rfl sc__law_remainder ck__law_remainder rfl (fun _ _ _ _ _ _ us hl => match us, hl with | [_, _], _ => rfl) (fun _ z => nomatch z)
theorem da__law_is_thrown_right {K : PySem.W.Frag} {h : Heap} {mg : PySem.Str → Option Value} (X : K.In h) (Gm : h.Ns mainGlobals mg) (e : ∃ fa, FAt K "_law_is_thrown_right" (topS 70) fa) : ∃ fa fd dd st, DefAt K mg G T "_law_is_thrown_right" 1 ([] : List (Nat × List PySem.Str × List Nat)) fa fd dd st :=
  da_of (dd := d__law_is_thrown_right) X Gm e (by kernel_rfl) rfl sc__law_is_thrown_right ck__law_is_thrown_right rfl (fun _ _ _ _ _ _ us hl => match us, hl with | [_], _ => rfl) (fun _ z => nomatch z)
theorem da__law_right {K : PySem.W.Frag} {h : Heap} {mg : PySem.Str → Option Value} (X : K.In h) (Gm : h.Ns mainGlobals mg) (e : ∃ fa, FAt K "_law_right" (topS 71) fa) : ∃ fa fd dd st, DefAt K mg G T "_law_right" 1 ([] : List (Nat × List PySem.Str × List Nat)) fa fd dd st :=
  da_of (dd := d__law_right) X Gm e (by kernel_rfl) rfl sc__law_right ck__law_right rfl (fun _ _ _ _ _ _ us hl => match us, hl with | [_], _ => rfl) (fun _ z => nomatch z)
theorem da_law {K : PySem.W.Frag} {h : Heap} {mg : PySem.Str → Option Value} (X : K.In h) (Gm : h.Ns mainGlobals mg) (e : ∃ fa, FAt K "law" (topS 72) fa) : ∃ fa fd dd st, DefAt K mg G T "law" 1 ([] : List (Nat × List PySem.Str × List Nat)) fa fd dd st :=
  da_of (dd := d_law) X Gm e (by kernel_rfl) rfl sc_law ck_law rfl (fun _ _ _ _ _ _ us hl => match us, hl with | [_], _ => rfl) (fun _ z => nomatch z)
theorem dm_Flight {K : PySem.W.Frag} {h : Heap} {mg : PySem.Str → Option Value} (X : K.In h) (Gm : h.Ns mainGlobals mg) (e : (∃ Cc fa, PySem.W.nsIn K mainGlobals "Flight" = some (some (.ref Cc)) ∧ Mk K Cc fa ∧ FAtC K "__init__" "Flight.__init__" (subS 44 0) fa)) : ∃ x q fl Cc fa fd dd st, DefM K mg G T "Flight" x q 1 fl Cc fa fd dd st :=
  mks_of (dd := d_Flight) (fl := ["text", "start", "pace", "steps", "stops", "pieces", "whole", "goal"]) X Gm e (by kernel_rfl) rfl sc_Flight ck_Flight rfl (by decide) (by decide +kernel) (fun _ _ _ _ _ _ us hl => match us, hl with | [_, _], _ => rfl)
theorem do_Flight_at {K : PySem.W.Frag} (e : (∃ Cc fa, PySem.W.nsIn K mainGlobals "Flight" = some (some (.ref Cc)) ∧ Cls K Cc ∧ Meth K Cc "at" fa ∧ FAtC K "at" "Flight.at" (subS 44 3) fa)) : ∃ x q Cc fa fd dd st, DefO K G T "Flight.at" x q 2 "Flight" ("at", ["time"]) Cc fa fd dd st :=
  mth_of (m := (("at" : PySem.Str), ["time"])) (dd := d_Flight_at) e (by kernel_rfl) rfl sc_Flight_at ck_Flight_at rfl (fun _ _ _ _ _ _ us hl => match us, hl with | [_, _], _ => rfl) (fun _ => ⟨rfl, fun _ _ _ _ _ _ us ws hu hw => match us, ws, hu, hw with | [_], [_], _, _ => rfl⟩) (fun _ _ z => absurd z (by decide))
theorem mod_mk {K : PySem.W.Frag} {h : Heap} {mg : PySem.Str → Option Value} {fuel : Nat} (X : K.In h) (Gm : h.Ns mainGlobals mg)
    (e__wall : ∃ fa, FAt K "_wall" (topS 1) fa)
    (e_is_plain_integer : ∃ fa, FAt K "is_plain_integer" (topS 13) fa)
    (e_is_fraction : ∃ fa, FAt K "is_fraction" (topS 14) fa)
    (e_is_time : ∃ fa, FAt K "is_time" (topS 15) fa)
    (e_in_least_terms : ∃ fa, FAt K "in_least_terms" (topS 16) fa)
    (e_added : ∃ fa, FAt K "added" (topS 17) fa)
    (e_subtracted : ∃ fa, FAt K "subtracted" (topS 18) fa)
    (e_multiplied : ∃ fa, FAt K "multiplied" (topS 19) fa)
    (e_divided : ∃ fa, FAt K "divided" (topS 20) fa)
    (e_is_less : ∃ fa, FAt K "is_less" (topS 21) fa)
    (e_is_integer_text : ∃ fa, FAt K "is_integer_text" (topS 22) fa)
    (e_read_fraction : ∃ fa, FAt K "read_fraction" (topS 23) fa)
    (e_read_above_zero : ∃ fa, FAt K "read_above_zero" (topS 24) fa)
    (e_inverse : ∃ fa, FAt K "inverse" (topS 25) fa)
    (e_is_event : ∃ fa, FAt K "is_event" (topS 27) fa)
    (e_check_event : ∃ fa, FAt K "check_event" (topS 28) fa)
    (e_flown : ∃ fa, FAt K "flown" (topS 29) fa)
    (e_last_stop : ∃ fa, FAt K "last_stop" (topS 31) fa)
    (e_place_at : ∃ fa, FAt K "place_at" (topS 32) fa)
    (e_rate : ∃ fa, FAt K "rate" (topS 33) fa)
    (e_time_at : ∃ fa, FAt K "time_at" (topS 34) fa)
    (e_hearing : ∃ fa, FAt K "hearing" (topS 35) fa)
    (e_heard : ∃ fa, FAt K "heard" (topS 37) fa)
    (e_check_throw : ∃ fa, FAt K "check_throw" (topS 38) fa)
    (e_thrown_plain : ∃ fa, FAt K "thrown_plain" (topS 39) fa)
    (e_thrown : ∃ fa, FAt K "thrown" (topS 40) fa)
    (e_is_modulus : ∃ fa, FAt K "is_modulus" (topS 41) fa)
    (e_power : ∃ fa, FAt K "power" (topS 42) fa)
    (e_read_flight : ∃ fa, FAt K "read_flight" (topS 45) fa)
    (e_read_first : ∃ fa, FAt K "read_first" (topS 46) fa)
    (e_read_step : ∃ fa, FAt K "read_step" (topS 47) fa)
    (e_stops_of : ∃ fa, FAt K "stops_of" (topS 48) fa)
    (e_pieces_of : ∃ fa, FAt K "pieces_of" (topS 49) fa)
    (e_check_time : ∃ fa, FAt K "check_time" (topS 50) fa)
    (e__law_pot : ∃ fa, FAt K "_law_pot" (topS 52) fa)
    (e__law_take : ∃ fa, FAt K "_law_take" (topS 53) fa)
    (e__law_of : ∃ fa, FAt K "_law_of" (topS 54) fa)
    (e__law_cells : ∃ fa, FAt K "_law_cells" (topS 55) fa)
    (e__law_is_int : ∃ fa, FAt K "_law_is_int" (topS 56) fa)
    (e__law_frac_common : ∃ fa, FAt K "_law_frac_common" (topS 57) fa)
    (e__law_frac : ∃ fa, FAt K "_law_frac" (topS 58) fa)
    (e__law_frac_times : ∃ fa, FAt K "_law_frac_times" (topS 59) fa)
    (e__law_frac_over : ∃ fa, FAt K "_law_frac_over" (topS 60) fa)
    (e__law_frac_is_less : ∃ fa, FAt K "_law_frac_is_less" (topS 61) fa)
    (e__law_frac_text : ∃ fa, FAt K "_law_frac_text" (topS 62) fa)
    (e__law_frac_drawn : ∃ fa, FAt K "_law_frac_drawn" (topS 63) fa)
    (e__law_frac_pace : ∃ fa, FAt K "_law_frac_pace" (topS 64) fa)
    (e__law_frac_time : ∃ fa, FAt K "_law_frac_time" (topS 65) fa)
    (e__law_event_drawn : ∃ fa, FAt K "_law_event_drawn" (topS 66) fa)
    (e__law_event_text : ∃ fa, FAt K "_law_event_text" (topS 67) fa)
    (e__law_power : ∃ fa, FAt K "_law_power" (topS 68) fa)
    (e__law_remainder : ∃ fa, FAt K "_law_remainder" (topS 69) fa)
    (e__law_is_thrown_right : ∃ fa, FAt K "_law_is_thrown_right" (topS 70) fa)
    (e__law_right : ∃ fa, FAt K "_law_right" (topS 71) fa)
    (e_law : ∃ fa, FAt K "law" (topS 72) fa)
    (z_abs : PySem.W.nsIn K mainGlobals "abs" = some none)
    (z_all : PySem.W.nsIn K mainGlobals "all" = some none)
    (z_bool : PySem.W.nsIn K mainGlobals "bool" = some none)
    (z_enumerate : PySem.W.nsIn K mainGlobals "enumerate" = some none)
    (z_int : PySem.W.nsIn K mainGlobals "int" = some none)
    (z_isinstance : PySem.W.nsIn K mainGlobals "isinstance" = some none)
    (z_len : PySem.W.nsIn K mainGlobals "len" = some none)
    (z_list : PySem.W.nsIn K mainGlobals "list" = some none)
    (z_max : PySem.W.nsIn K mainGlobals "max" = some none)
    (z_min : PySem.W.nsIn K mainGlobals "min" = some none)
    (z_range : PySem.W.nsIn K mainGlobals "range" = some none)
    (z_repr : PySem.W.nsIn K mainGlobals "repr" = some none)
    (z_str : PySem.W.nsIn K mainGlobals "str" = some none)
    (z_sum : PySem.W.nsIn K mainGlobals "sum" = some none)
    (z_tuple : PySem.W.nsIn K mainGlobals "tuple" = some none)
    (z_zip : PySem.W.nsIn K mainGlobals "zip" = some none)
    (m_gcd : PySem.W.nsIn K mainGlobals "gcd" = some (some (.builtin "math.gcd")))
    (c_ONE : CAt2 K "ONE" 1 1)
    (c_ZERO : CAt2 K "ZERO" 0 1)
    (i_Flight : (∃ Cc fa, PySem.W.nsIn K mainGlobals "Flight" = some (some (.ref Cc)) ∧ Mk K Cc fa ∧ FAtC K "__init__" "Flight.__init__" (subS 44 0) fa))
    (o_Flight_at : (∃ Cc fa, PySem.W.nsIn K mainGlobals "Flight" = some (some (.ref Cc)) ∧ Cls K Cc ∧ Meth K Cc "at" fa ∧ FAtC K "at" "Flight.at" (subS 44 3) fa))
    (a_Flight_goal : (∃ Cc, PySem.W.nsIn K mainGlobals "Flight" = some (some (.ref Cc)) ∧ Cls K Cc ∧ NoAttr K Cc "goal"))
    (a_Flight_pace : (∃ Cc, PySem.W.nsIn K mainGlobals "Flight" = some (some (.ref Cc)) ∧ Cls K Cc ∧ NoAttr K Cc "pace"))
    (a_Flight_pieces : (∃ Cc, PySem.W.nsIn K mainGlobals "Flight" = some (some (.ref Cc)) ∧ Cls K Cc ∧ NoAttr K Cc "pieces"))
    (a_Flight_start : (∃ Cc, PySem.W.nsIn K mainGlobals "Flight" = some (some (.ref Cc)) ∧ Cls K Cc ∧ NoAttr K Cc "start"))
    (a_Flight_steps : (∃ Cc, PySem.W.nsIn K mainGlobals "Flight" = some (some (.ref Cc)) ∧ Cls K Cc ∧ NoAttr K Cc "steps"))
    (a_Flight_stops : (∃ Cc, PySem.W.nsIn K mainGlobals "Flight" = some (some (.ref Cc)) ∧ Cls K Cc ∧ NoAttr K Cc "stops"))
    (a_Flight_text : (∃ Cc, PySem.W.nsIn K mainGlobals "Flight" = some (some (.ref Cc)) ∧ Cls K Cc ∧ NoAttr K Cc "text"))
    (a_Flight_whole : (∃ Cc, PySem.W.nsIn K mainGlobals "Flight" = some (some (.ref Cc)) ∧ Cls K Cc ∧ NoAttr K Cc "whole")) : Mod K mg G T fuel where
  bl := AllP.mem (l := G.bl) (And.intro (PySem.W.mg_none_of X Gm z_abs) (And.intro (PySem.W.mg_none_of X Gm z_all) (And.intro (PySem.W.mg_none_of X Gm z_bool) (And.intro (PySem.W.mg_none_of X Gm z_enumerate) (And.intro (PySem.W.mg_none_of X Gm z_int) (And.intro (PySem.W.mg_none_of X Gm z_isinstance) (And.intro (PySem.W.mg_none_of X Gm z_len) (And.intro (PySem.W.mg_none_of X Gm z_list) (And.intro (PySem.W.mg_none_of X Gm z_max) (And.intro (PySem.W.mg_none_of X Gm z_min) (And.intro (PySem.W.mg_none_of X Gm z_range) (And.intro (PySem.W.mg_none_of X Gm z_repr) (And.intro (PySem.W.mg_none_of X Gm z_str) (And.intro (PySem.W.mg_none_of X Gm z_sum) (And.intro (PySem.W.mg_none_of X Gm z_tuple) (And.intro (PySem.W.mg_none_of X Gm z_zip) (True.intro)))))))))))))))))
  mf := AllP.mem (l := G.mf) (And.intro (PySem.W.mg_of X Gm m_gcd) (True.intro))
  co := fun n x m => AllP.mem (l := G.co) (Pr := fun x => ∀ n d o, evF T fuel n x [] = some (d, o) → ∃ v u, mg x = some u ∧ RelV v u ∧ ∀ H B, Rep K H B d v) (And.intro (co_of X Gm c_ONE (by kernel_rfl)) (And.intro (co_of X Gm c_ZERO (by kernel_rfl)) (True.intro))) x m n
  fn := fun f n kf m => AllP.mem (l := G.fn) (Pr := fun t => ∃ fa fd dd st, DefAt K mg G T t.1 t.2.1 t.2.2 fa fd dd st) (And.intro (da__wall X Gm e__wall) (And.intro (da_is_plain_integer X Gm e_is_plain_integer) (And.intro (da_is_fraction X Gm e_is_fraction) (And.intro (da_is_time X Gm e_is_time) (And.intro (da_in_least_terms X Gm e_in_least_terms) (And.intro (da_added X Gm e_added) (And.intro (da_subtracted X Gm e_subtracted) (And.intro (da_multiplied X Gm e_multiplied) (And.intro (da_divided X Gm e_divided) (And.intro (da_is_less X Gm e_is_less) (And.intro (da_is_integer_text X Gm e_is_integer_text) (And.intro (da_read_fraction X Gm e_read_fraction) (And.intro (da_read_above_zero X Gm e_read_above_zero) (And.intro (da_inverse X Gm e_inverse) (And.intro (da_is_event X Gm e_is_event) (And.intro (da_check_event X Gm e_check_event) (And.intro (da_flown X Gm e_flown) (And.intro (da_last_stop X Gm e_last_stop) (And.intro (da_place_at X Gm e_place_at) (And.intro (da_rate X Gm e_rate) (And.intro (da_time_at X Gm e_time_at) (And.intro (da_hearing X Gm e_hearing) (And.intro (da_heard X Gm e_heard) (And.intro (da_check_throw X Gm e_check_throw) (And.intro (da_thrown_plain X Gm e_thrown_plain) (And.intro (da_thrown X Gm e_thrown) (And.intro (da_is_modulus X Gm e_is_modulus) (And.intro (da_power X Gm e_power) (And.intro (da_read_flight X Gm e_read_flight) (And.intro (da_read_first X Gm e_read_first) (And.intro (da_read_step X Gm e_read_step) (And.intro (da_stops_of X Gm e_stops_of) (And.intro (da_pieces_of X Gm e_pieces_of) (And.intro (da_check_time X Gm e_check_time) (And.intro (da__law_pot X Gm e__law_pot) (And.intro (da__law_take X Gm e__law_take) (And.intro (da__law_of X Gm e__law_of) (And.intro (da__law_cells X Gm e__law_cells) (And.intro (da__law_is_int X Gm e__law_is_int) (And.intro (da__law_frac_common X Gm e__law_frac_common) (And.intro (da__law_frac X Gm e__law_frac) (And.intro (da__law_frac_times X Gm e__law_frac_times) (And.intro (da__law_frac_over X Gm e__law_frac_over) (And.intro (da__law_frac_is_less X Gm e__law_frac_is_less) (And.intro (da__law_frac_text X Gm e__law_frac_text) (And.intro (da__law_frac_drawn X Gm e__law_frac_drawn) (And.intro (da__law_frac_pace X Gm e__law_frac_pace) (And.intro (da__law_frac_time X Gm e__law_frac_time) (And.intro (da__law_event_drawn X Gm e__law_event_drawn) (And.intro (da__law_event_text X Gm e__law_event_text) (And.intro (da__law_power X Gm e__law_power) (And.intro (da__law_remainder X Gm e__law_remainder) (And.intro (da__law_is_thrown_right X Gm e__law_is_thrown_right) (And.intro (da__law_right X Gm e__law_right) (And.intro (da_law X Gm e_law) (True.intro)))))))))))))))))))))))))))))))))))))))))))))))))))))))) (f, n, kf) (mem_look m)
  nw := fun f n m => AllP.mem (l := G.nw) (Pr := fun t => ∃ fa fd dd st, DefAt K mg G T t.1 t.2 [] fa fd dd st ∧ lastNew dd.body = true) (And.intro (da_new (d0 := d__law_pot) (da__law_pot X Gm e__law_pot) (by kernel_rfl) (by decide +kernel)) (True.intro)) (f, n) (mem_look m)
  ca := AllP.mem (l := G.ca) (And.intro a_Flight_goal (And.intro a_Flight_pace (And.intro a_Flight_pieces (And.intro a_Flight_start (And.intro a_Flight_steps (And.intro a_Flight_stops (And.intro a_Flight_text (And.intro a_Flight_whole (True.intro)))))))))
  mt := fun t n c m z => AllP.mem (l := G.mt) (Pr := fun t => ∃ x q Cc fa fd dd st, DefO K G T t.1 x q t.2.1 t.2.2.1 t.2.2.2 Cc fa fd dd st) (And.intro (do_Flight_at o_Flight_at) (True.intro)) (t, n, c, m) (mem_look z)
  mks := fun c n z => AllP.mem (l := G.mks) (Pr := fun t => ∃ x q fl Cc fa fd dd st, DefM K mg G T t.1 x q t.2 fl Cc fa fd dd st) (And.intro (dm_Flight X Gm i_Flight) (True.intro)) (c, n) (mem_look z)
  ne := by decide +kernel
  slf := rfl
/- FIN -/
end L16
namespace L16
open PySem L2 Mn
theorem ev1 {f : PySem.Str} {dd : FDef} {fu n : Nat} {ss : List Sl} (ht : T.lookup f = some dd) : evF T fu (n + 1) f ss = evD (evF T fu n) fu dd ss := by
  show (match T.lookup f with | some d => evD (evF T fu n) fu d ss | none => none) = _
  rw [ht]
/-! ### numbers that are small enough -/
theorem sm_of {i : Int} (h : i.natAbs < 2 ^ 8000) : sm i = true := by
  unfold sm
  rw [decide_eq_true_eq]
  by_cases z : i.natAbs = 0
  · rw [z]; decide
  · exact (Nat.log2_lt z).2 h
structure Bq (k : Nat) (q : Rat) : Prop where
  n : q.num.natAbs < 2 ^ k
  d : q.den < 2 ^ k
theorem Bq.le {k l : Nat} {q : Rat} (h : Bq k q) (e : k ≤ l) : Bq l q :=
  ⟨Nat.lt_of_lt_of_le h.n (Nat.pow_le_pow_right (by decide) e), Nat.lt_of_lt_of_le h.d (Nat.pow_le_pow_right (by decide) e)⟩
def fr (q : Rat) : D := .tup [.int q.num, .int q.den]
theorem norm_eq {a : Int} {b : Nat} (h : b ≠ 0) : fr (Rat.normalize a b h) = .tup [.int (a.fdiv (Nat.gcd a.natAbs b : Nat)), .int ((b : Int).fdiv (Nat.gcd a.natAbs b : Nat))] := by
  unfold fr
  rw [Rat.normalize_eq]
  rw [Int.fdiv_eq_ediv_of_nonneg _ (Int.natCast_nonneg _), Int.fdiv_eq_ediv_of_nonneg _ (Int.natCast_nonneg _)]
  rw [Int.natCast_ediv]
theorem norm_bd {a : Int} {b k : Nat} (h : b ≠ 0) (ha : a.natAbs < 2 ^ k) (hb : b < 2 ^ k) : Bq k (Rat.normalize a b h) := by
  rw [Rat.normalize_eq]
  constructor
  · show (a / _).natAbs < _
    rw [Int.natAbs_ediv_of_dvd] <;> first | exact Nat.lt_of_le_of_lt (Nat.div_le_self _ _) ha | skip
    exact Int.ofNat_dvd_left.2 (Nat.gcd_dvd_left _ _)
  · exact Nat.lt_of_le_of_lt (Nat.div_le_self _ _) hb
theorem s_least {fu n : Nat} {a : Int} {b : Nat} (h0 : b ≠ 0) (hs : b < 2 ^ 8000) :
    evF T fu (n + 1) "in_least_terms" [.val (.int a), .val (.int b)] = some (fr (Rat.normalize a b h0), []) := by
  rw [ev1 (dd := d_in_least_terms) (by kernel_rfl), norm_eq]
  unfold d_in_least_terms
  have h1 : ((Nat.gcd a.natAbs b : Nat) : Int) ≠ 0 := by
    have : 0 < Nat.gcd a.natAbs b := Nat.gcd_pos_of_pos_right _ (by omega)
    omega
  have h2 : sm ((Nat.gcd a.natAbs b : Nat) : Int) = true := sm_of (by
    rw [Int.natAbs_natCast]
    exact Nat.lt_of_le_of_lt (Nat.gcd_le_right _ (by omega)) hs)
  have e : ((Nat.gcd a.natAbs (b : Int).natAbs : Nat) : Int) = (Nat.gcd a.natAbs b : Nat) := by rw [Int.natAbs_natCast]
  generalize hg : ((Nat.gcd a.natAbs b : Nat) : Int) = g at *
  simp [evE, evT, evL, evA, evO, evAr, evS, evD, putS, peek, mutS, setM, opB, opC, opF, opIx, opSl, walk, unpS, bindT, refs, argS, putBack, permA, outsOf, atI, ixN, tru, setJ, iscS, eqoS, eqoR, putX, popJ, e, h2, h1, lim, -Int.natAbs_natCast]
theorem Bq.add {a b : Nat} {p q : Rat} (h : Bq a p) (g : Bq b q) : Bq (a + b + 1) (p + q) := by
  rw [Rat.add_def]
  have e : 2 ^ (a + b) = 2 ^ a * 2 ^ b := Nat.pow_add ..
  have e2 : 2 ^ (a + b + 1) = 2 ^ (a + b) * 2 := Nat.pow_succ ..
  have m1 : (p.num * q.den).natAbs < 2 ^ (a + b) := by
    rw [Int.natAbs_mul, Int.natAbs_natCast, e]
    exact Nat.mul_lt_mul'' h.n g.d
  have m2 : (q.num * p.den).natAbs < 2 ^ (a + b) := by
    rw [Int.natAbs_mul, Int.natAbs_natCast, Nat.mul_comm, e]
    exact Nat.mul_lt_mul'' h.d g.n
  have m3 : p.den * q.den < 2 ^ (a + b) := by rw [e]; exact Nat.mul_lt_mul'' h.d g.d
  refine norm_bd _ ?_ ?_
  · have := Int.natAbs_add_le (p.num * q.den) (q.num * p.den)
    omega
  · omega
theorem Bq.sub {a b : Nat} {p q : Rat} (h : Bq a p) (g : Bq b q) : Bq (a + b + 1) (p - q) := by
  rw [Rat.sub_def]
  have e : 2 ^ (a + b) = 2 ^ a * 2 ^ b := Nat.pow_add ..
  have e2 : 2 ^ (a + b + 1) = 2 ^ (a + b) * 2 := Nat.pow_succ ..
  have m1 : (p.num * q.den).natAbs < 2 ^ (a + b) := by
    rw [Int.natAbs_mul, Int.natAbs_natCast, e]
    exact Nat.mul_lt_mul'' h.n g.d
  have m2 : (q.num * p.den).natAbs < 2 ^ (a + b) := by
    rw [Int.natAbs_mul, Int.natAbs_natCast, Nat.mul_comm, e]
    exact Nat.mul_lt_mul'' h.d g.n
  have m3 : p.den * q.den < 2 ^ (a + b) := by rw [e]; exact Nat.mul_lt_mul'' h.d g.d
  refine norm_bd _ ?_ ?_
  · omega
  · omega
theorem Bq.mul {a b : Nat} {p q : Rat} (h : Bq a p) (g : Bq b q) : Bq (a + b) (p * q) := by
  rw [Rat.mul_def]
  have e : 2 ^ (a + b) = 2 ^ a * 2 ^ b := Nat.pow_add ..
  refine norm_bd _ ?_ ?_
  · rw [Int.natAbs_mul, e]
    exact Nat.mul_lt_mul'' h.n g.n
  · rw [e]; exact Nat.mul_lt_mul'' h.d g.d
theorem numpos {q : Rat} (h : 0 < q) : 0 < q.num := by
  have h1 := Rat.num_nonneg.2 (Rat.le_of_lt h)
  have h2 : q.num ≠ 0 := fun e => by
    rw [Rat.num_eq_zero] at e
    rw [e] at h
    exact absurd h (by decide)
  omega
theorem nd_self (p : Rat) : p = (p.num : Rat) / (p.den : Rat) := by
  rw [← Rat.mkRat_eq_div, Rat.mkRat_self]
theorem div_norm (p q : Rat) (h : 0 < q) : ∃ z : p.den * q.num.natAbs ≠ 0, p / q = Rat.normalize (p.num * q.den) (p.den * q.num.natAbs) z := by
  have hn : 0 < q.num := numpos h
  have z : p.den * q.num.natAbs ≠ 0 := Nat.mul_ne_zero p.den_nz (by omega)
  refine ⟨z, ?_⟩
  rw [Rat.normalize_eq_mkRat, Rat.mkRat_eq_div]
  have e1 : p = (p.num : Rat) / (p.den : Rat) := nd_self p
  have e2 : q = (q.num : Rat) / (q.den : Rat) := nd_self q
  have n1 : (p.den : Rat) ≠ 0 := by have := p.den_nz; exact_mod_cast this
  have n2 : (q.den : Rat) ≠ 0 := by have := q.den_nz; exact_mod_cast this
  have n3 : (q.num : Rat) ≠ 0 := by
    have : q.num ≠ 0 := by omega
    exact_mod_cast this
  have e3 : ((p.den * q.num.natAbs : Nat) : Rat) = (p.den : Rat) * (q.num : Rat) := by
    have : ((q.num.natAbs : Nat) : Int) = q.num := by omega
    rw [Rat.natCast_mul]
    congr 1
    rw [← Rat.intCast_natCast, this]
  have e4 : ((p.num * (q.den : Int) : Int) : Rat) = (p.num : Rat) * (q.den : Rat) := by
    rw [Rat.intCast_mul, Rat.intCast_natCast]
  rw [e3, e4]
  conv => lhs; rw [e1, e2]
  generalize (p.num : Rat) = a at *
  generalize (p.den : Rat) = b at *
  generalize (q.num : Rat) = c at *
  generalize (q.den : Rat) = d at *
  clear e1 e2 e3 e4 z hn h
  grind
theorem Bq.div {a b : Nat} {p q : Rat} (h : Bq a p) (g : Bq b q) (hq : 0 < q) : Bq (a + b) (p / q) := by
  obtain ⟨z, e⟩ := div_norm p q hq
  rw [e]
  have e : 2 ^ (a + b) = 2 ^ a * 2 ^ b := Nat.pow_add ..
  refine norm_bd _ ?_ ?_
  · rw [Int.natAbs_mul, e, Int.natAbs_natCast]
    exact Nat.mul_lt_mul'' h.n g.d
  · rw [e]; exact Nat.mul_lt_mul'' h.d g.n
theorem Bq.sn {k : Nat} {q : Rat} (h : Bq k q) (hk : k ≤ 8000) : sm q.num = true := sm_of (Nat.lt_of_lt_of_le h.n (Nat.pow_le_pow_right (by decide) hk))
theorem Bq.sd {k : Nat} {q : Rat} (h : Bq k q) (hk : k ≤ 8000) : sm (q.den : Int) = true := sm_of (Nat.lt_of_lt_of_le (by rw [Int.natAbs_natCast]; exact h.d) (Nat.pow_le_pow_right (by decide) hk))
theorem den_lt {k l : Nat} {p q : Rat} (h : Bq k p) (g : Bq l q) (e : k + l ≤ 8000) : p.den * q.den < 2 ^ 8000 :=
  Nat.lt_of_lt_of_le (Nat.mul_lt_mul'' h.d g.d) (by rw [← Nat.pow_add]; exact Nat.pow_le_pow_right (by decide) e)
theorem s_added {fu n : Nat} {p q : Rat} (h : Bq 2000 p) (g : Bq 2000 q) : evF T fu (n + 2) "added" [.val (fr p), .val (fr q)] = some (fr (p + q), []) := by
  rw [ev1 (dd := d_added) (by kernel_rfl), Rat.add_def]
  unfold d_added
  have hd := s_least (fu := fu) (n := n) (a := p.num * q.den + q.num * p.den) (b := p.den * q.den) (Nat.mul_ne_zero p.den_nz q.den_nz) (den_lt h g (by decide))
  rw [Int.natCast_mul] at hd
  generalize fr (Rat.normalize _ _ _) = r at hd ⊢
  unfold fr
  simp [evE, evT, evL, evA, evO, evAr, evS, evD, putS, peek, mutS, setM, opB, opC, opF, opIx, opSl, walk, unpS, bindT, refs, argS, putBack, permA, outsOf, atI, ixN, tru, setJ, iscS, eqoS, eqoR, putX, popJ, h.sn, h.sd, g.sn, g.sd, hd]
theorem s_subtracted {fu n : Nat} {p q : Rat} (h : Bq 2000 p) (g : Bq 2000 q) : evF T fu (n + 2) "subtracted" [.val (fr p), .val (fr q)] = some (fr (p - q), []) := by
  rw [ev1 (dd := d_subtracted) (by kernel_rfl), Rat.sub_def]
  unfold d_subtracted
  have hd := s_least (fu := fu) (n := n) (a := p.num * q.den - q.num * p.den) (b := p.den * q.den) (Nat.mul_ne_zero p.den_nz q.den_nz) (den_lt h g (by decide))
  rw [Int.natCast_mul] at hd
  generalize fr (Rat.normalize _ _ _) = r at hd ⊢
  unfold fr
  simp [evE, evT, evL, evA, evO, evAr, evS, evD, putS, peek, mutS, setM, opB, opC, opF, opIx, opSl, walk, unpS, bindT, refs, argS, putBack, permA, outsOf, atI, ixN, tru, setJ, iscS, eqoS, eqoR, putX, popJ, h.sn, h.sd, g.sn, g.sd, hd]
theorem s_multiplied {fu n : Nat} {p q : Rat} (h : Bq 2000 p) (g : Bq 2000 q) : evF T fu (n + 2) "multiplied" [.val (fr p), .val (fr q)] = some (fr (p * q), []) := by
  rw [ev1 (dd := d_multiplied) (by kernel_rfl), Rat.mul_def]
  unfold d_multiplied
  have hd := s_least (fu := fu) (n := n) (a := p.num * q.num) (b := p.den * q.den) (Nat.mul_ne_zero p.den_nz q.den_nz) (den_lt h g (by decide))
  rw [Int.natCast_mul] at hd
  generalize fr (Rat.normalize _ _ _) = r at hd ⊢
  unfold fr
  simp [evE, evT, evL, evA, evO, evAr, evS, evD, putS, peek, mutS, setM, opB, opC, opF, opIx, opSl, walk, unpS, bindT, refs, argS, putBack, permA, outsOf, atI, ixN, tru, setJ, iscS, eqoS, eqoR, putX, popJ, h.sn, h.sd, g.sn, g.sd, hd]
theorem s_divided {fu n : Nat} {p q : Rat} (h : Bq 2000 p) (g : Bq 2000 q) (hq : 0 < q) : evF T fu (n + 2) "divided" [.val (fr p), .val (fr q)] = some (fr (p / q), []) := by
  obtain ⟨z, e⟩ := div_norm p q hq
  rw [ev1 (dd := d_divided) (by kernel_rfl), e]
  unfold d_divided
  have hd := s_least (fu := fu) (n := n) (a := p.num * q.den) (b := p.den * q.num.natAbs) z (Nat.lt_of_lt_of_le (Nat.mul_lt_mul'' h.d g.n) (by rw [← Nat.pow_add]; exact Nat.pow_le_pow_right (by decide) (by decide)))
  have e2 : ((p.den * q.num.natAbs : Nat) : Int) = p.den * q.num := by
    have := numpos hq
    rw [Int.natCast_mul, Int.natAbs_of_nonneg (by omega)]
  rw [e2] at hd
  generalize fr (Rat.normalize _ _ _) = r at hd ⊢
  unfold fr
  simp [evE, evT, evL, evA, evO, evAr, evS, evD, putS, peek, mutS, setM, opB, opC, opF, opIx, opSl, walk, unpS, bindT, refs, argS, putBack, permA, outsOf, atI, ixN, tru, setJ, iscS, eqoS, eqoR, putX, popJ, h.sn, h.sd, g.sn, g.sd, hd]
def ev (u v : Rat) : D := .tup [fr u, fr v]
theorem kt {xs : List D} : kitB (tyOf (.tup xs)) "tuple" = some true := by show kitB "tuple" "tuple" = some true; decide +kernel
theorem ki {i : Int} : kitB (tyOf (.int i)) "int" = some true := by show kitB "int" "int" = some true; decide +kernel
theorem kib {i : Int} : kitB (tyOf (.int i)) "bool" = some false := by show kitB "int" "bool" = some false; decide +kernel
theorem dsh_int {i : Int} : dsh (.int i) = true := rfl
theorem dsh_str {i : PySem.Str} : dsh (.str i) = true := rfl
theorem deq_int {i j : Int} : deq (.int i) (.int j) = decide (i = j) := by
  show (i == j) = _
  by_cases h : i = j
  · subst h; simp [evE, evT, evL, evA, evO, evAr, evS, evD, putS, peek, mutS, setM, opB, opC, opF, opIx, opSl, walk, unpS, bindT, refs, argS, putBack, permA, outsOf, atI, ixN, tru, setJ, iscS, eqoS, eqoR, putX, popJ]
  · rw [decide_eq_false h]; simp [evE, evT, evL, evA, evO, evAr, evS, evD, putS, peek, mutS, setM, opB, opC, opF, opIx, opSl, walk, unpS, bindT, refs, argS, putBack, permA, outsOf, atI, ixN, tru, setJ, iscS, eqoS, eqoR, putX, popJ, h]
theorem dsh_fr {q : Rat} : dsh (fr q) = true := rfl
theorem rat_eq {p q : Rat} (h : p.num = q.num) (g : p.den = q.den) : p = q := by
  cases p; cases q
  simp [evE, evT, evL, evA, evO, evAr, evS, evD, putS, peek, mutS, setM, opB, opC, opF, opIx, opSl, walk, unpS, bindT, refs, argS, putBack, permA, outsOf, atI, ixN, tru, setJ, iscS, eqoS, eqoR, putX, popJ] at h g
  subst h g
  rfl
theorem deq_fr {p q : Rat} : deq (fr p) (fr q) = decide (p = q) := by
  show ((p.num == q.num) && (((p.den : Int) == (q.den : Int)) && true)) = _
  by_cases h : p = q
  · subst h; simp [evE, evT, evL, evA, evO, evAr, evS, evD, putS, peek, mutS, setM, opB, opC, opF, opIx, opSl, walk, unpS, bindT, refs, argS, putBack, permA, outsOf, atI, ixN, tru, setJ, iscS, eqoS, eqoR, putX, popJ]
  · rw [decide_eq_false h]
    by_cases h1 : p.num = q.num
    · by_cases h2 : p.den = q.den
      · exact absurd (rat_eq h1 h2) h
      · have : ¬ ((p.den : Int) = (q.den : Int)) := by omega
        simp [evE, evT, evL, evA, evO, evAr, evS, evD, putS, peek, mutS, setM, opB, opC, opF, opIx, opSl, walk, unpS, bindT, refs, argS, putBack, permA, outsOf, atI, ixN, tru, setJ, iscS, eqoS, eqoR, putX, popJ, this]
    · simp [evE, evT, evL, evA, evO, evAr, evS, evD, putS, peek, mutS, setM, opB, opC, opF, opIx, opSl, walk, unpS, bindT, refs, argS, putBack, permA, outsOf, atI, ixN, tru, setJ, iscS, eqoS, eqoR, putX, popJ, h1]
theorem s_plain {fu n : Nat} {i : Int} : evF T fu (n + 1) "is_plain_integer" [.val (.int i)] = some (.bl true, []) := by
  rw [ev1 (dd := d_is_plain_integer) (by kernel_rfl)]
  unfold d_is_plain_integer
  simp [evE, evT, evL, evA, evO, evAr, evS, evD, putS, peek, mutS, setM, opB, opC, opF, opIx, opSl, walk, unpS, bindT, refs, argS, putBack, permA, outsOf, atI, ixN, tru, setJ, iscS, eqoS, eqoR, putX, popJ, ki, kib]
theorem s_frac {fu n : Nat} {q : Rat} : evF T fu (n + 2) "is_fraction" [.val (fr q)] = some (.bl true, []) := by
  rw [ev1 (dd := d_is_fraction) (by kernel_rfl)]
  unfold d_is_fraction
  have hp : (1 : Int) ≤ q.den := by have := q.den_pos; omega
  have hr : q.num.natAbs.gcd q.den = 1 := q.reduced
  unfold fr
  simp [evE, evT, evL, evA, evO, evAr, evS, evD, putS, peek, mutS, setM, opB, opC, opF, opIx, opSl, walk, unpS, bindT, refs, argS, putBack, permA, outsOf, atI, ixN, tru, setJ, iscS, eqoS, eqoR, putX, popJ, kt, s_plain, hr, hp, dsh_int, deq_int]
theorem s_isev {fu n : Nat} {u v : Rat} : evF T fu (n + 3) "is_event" [.val (ev u v)] = some (.bl true, []) := by
  rw [ev1 (dd := d_is_event) (by kernel_rfl)]
  unfold d_is_event ev
  simp [evE, evT, evL, evA, evO, evAr, evS, evD, putS, peek, mutS, setM, opB, opC, opF, opIx, opSl, walk, unpS, bindT, refs, argS, putBack, permA, outsOf, atI, ixN, tru, setJ, iscS, eqoS, eqoR, putX, popJ, kt, s_frac, dsh_int, deq_int]
theorem s_ckev {fu n : Nat} {u v : Rat} : evF T fu (n + 4) "check_event" [.val (ev u v)] = some (.non, []) := by
  rw [ev1 (dd := d_check_event) (by kernel_rfl)]
  unfold d_check_event
  simp [evE, evT, evL, evA, evO, evAr, evS, evD, putS, peek, mutS, setM, opB, opC, opF, opIx, opSl, walk, unpS, bindT, refs, argS, putBack, permA, outsOf, atI, ixN, tru, setJ, iscS, eqoS, eqoR, putX, popJ, s_isev]
structure Be (k : Nat) (u v : Rat) : Prop where
  u : Bq k u
  v : Bq k v
theorem Be.le {k l : Nat} {u v : Rat} (h : Be k u v) (e : k ≤ l) : Be l u v := ⟨h.u.le e, h.v.le e⟩
theorem oabs {i : Int} : opF .abs [.int i] = some (.int (i.natAbs : Int)) := by
  unfold opF
  simp only [Option.some.injEq, D.int.injEq]
  split <;> omega
theorem s_zero {fu n : Nat} : evF T fu (n + 1) "ZERO" [] = some (fr 0, []) := by
  rw [ev1 (dd := d_ZERO) (by kernel_rfl)]
  unfold d_ZERO
  simp [evE, evT, evL, evA, evO, evAr, evS, evD, putS, peek, mutS, setM, opB, opC, opF, opIx, opSl, walk, unpS, bindT, refs, argS, putBack, permA, outsOf, atI, ixN, tru, setJ, iscS, eqoS, eqoR, putX, popJ, lim]
  rfl
abbrev vi (i : Int) : Option Sl := some (.val (.int i))
theorem whl_gcd (c : Mn.Env → Option (Bool × Mn.Env)) (b : Mn.Env → Option (Fl × Mn.Env))
    (hc : ∀ x y : Nat, c [vi x, vi y] = some (decide (0 < y), [vi x, vi y]))
    (hb : ∀ x y : Nat, 0 < y → b [vi x, vi y] = some (.nx, [vi y, vi ((x % y : Nat) : Int)])) :
    ∀ (k x y fu : Nat), y < 2 ^ k → 2 * k + 1 ≤ fu → whlN c b fu [vi x, vi y] = some (.nx, [vi ((Nat.gcd x y : Nat) : Int), vi ((0 : Nat) : Int)])
  | k, x, y, 0, _, h => by omega
  | k, x, y, fu + 1, hy, hf => by
    unfold whlN
    rw [hc]
    by_cases z : y = 0
    · subst z
      simp [evE, evT, evL, evA, evO, evAr, evS, evD, putS, peek, mutS, setM, opB, opC, opF, opIx, opSl, walk, unpS, bindT, refs, argS, putBack, permA, outsOf, atI, ixN, tru, setJ, iscS, eqoS, eqoR, putX, popJ]
    · have zp : 0 < y := by omega
      rw [decide_eq_true zp]
      simp only [Option.bind_eq_bind, Option.bind_some, if_true]
      rw [hb x y zp]
      simp only [Option.bind_some]
      have g1 : Nat.gcd x y = Nat.gcd y (x % y) := by
        rw [Nat.gcd_comm x y, Nat.gcd_rec y x, Nat.gcd_comm]
      rw [g1]
      cases k with
      | zero => have : y < 1 := hy; omega
      | succ k =>
        have hr : x % y < y := Nat.mod_lt _ zp
        by_cases r0 : x % y < 2 ^ k
        · exact whl_gcd c b hc hb k y (x % y) fu r0 (by omega)
        · -- one more turn
          cases fu with
          | zero => omega
          | succ fu =>
            unfold whlN
            rw [hc]
            have rp : 0 < x % y := by
              have := Nat.pos_of_ne_zero (Nat.pos_iff_ne_zero.1 (Nat.two_pow_pos k))
              omega
            rw [decide_eq_true rp]
            simp only [Option.bind_eq_bind, Option.bind_some, if_true]
            rw [hb y (x % y) rp]
            simp only [Option.bind_some]
            have g2 : Nat.gcd y (x % y) = Nat.gcd (x % y) (y % (x % y)) := by
              rw [Nat.gcd_comm y (x % y), Nat.gcd_rec (x % y) y, Nat.gcd_comm]
            rw [g2]
            refine whl_gcd c b hc hb k (x % y) (y % (x % y)) fu ?_ (by omega)
            have e : 2 ^ (k + 1) = 2 * 2 ^ k := by rw [Nat.pow_succ, Nat.mul_comm]
            have h2 : y % (x % y) ≤ y - x % y := by
              rw [Nat.mod_eq_sub_mod (by omega)]
              exact Nat.mod_le _ _
            omega
theorem s_common {fu n : Nat} {a b : Int} (hb : b.natAbs < 2 ^ 4000) (hf : 8001 ≤ fu) : evF T fu (n + 1) "_law_frac_common" [.val (.int a), .val (.int b)] = some (.int ((Nat.gcd a.natAbs b.natAbs : Nat) : Int), []) := by
  rw [ev1 (dd := d__law_frac_common) (by kernel_rfl)]
  unfold d__law_frac_common
  have w := whl_gcd (fun e => evT (evF T fu n) (.tval (.cmp .gt (.var 1) (.con (.int 0)))) e) (fun e => evS (evF T fu n) fu (.seq (.par 0 1 false false (.var 1) (.bin .mod (.blt .int (.cons (.var 0) .nil)) (.var 1))) .nil) e)
    (fun x y => by simp [evE, evT, evL, evA, evO, evAr, evS, evD, putS, peek, mutS, setM, opB, opC, opF, opIx, opSl, walk, unpS, bindT, refs, argS, putBack, permA, outsOf, atI, ixN, tru, setJ, iscS, eqoS, eqoR, putX, popJ]) (fun x y hy => by
      have h1 : (0 : Int) < (y : Int) := by omega
      simp [evE, evT, evL, evA, evO, evAr, evS, evD, putS, peek, mutS, setM, opB, opC, opF, opIx, opSl, walk, unpS, bindT, refs, argS, putBack, permA, outsOf, atI, ixN, tru, setJ, iscS, eqoS, eqoR, putX, popJ, h1, hy]) 4000 a.natAbs b.natAbs fu hb (by omega)
  have e0 : evS (evF T fu n) fu (.par 0 1 false false (.blt .abs (.cons (.var 0) .nil)) (.blt .abs (.cons (.var 1) .nil))) [vi a, vi b] = some (.nx, [vi (a.natAbs : Int), vi (b.natAbs : Int)]) := by
    simp [evE, evT, evL, evA, evO, evAr, evS, evD, putS, peek, mutS, setM, opB, opC, opIx, opSl, walk, unpS, bindT, refs, argS, putBack, permA, outsOf, atI, ixN, tru, setJ, iscS, eqoS, eqoR, putX, popJ, oabs]
  unfold evD
  simp only [List.length_cons, List.length_nil, if_true, List.map_cons, List.map_nil, List.append_nil, List.replicate, Nat.sub_self, Nat.zero_add, List.cons_append, List.nil_append]
  rw [evS, e0]
  simp only [Option.bind_eq_bind, Option.bind_some]
  rw [evS, evS, w]
  simp [evE, evT, evL, evA, evO, evAr, evS, evD, putS, peek, mutS, setM, opB, opC, opF, opIx, opSl, walk, unpS, bindT, refs, argS, putBack, permA, outsOf, atI, ixN, tru, setJ, iscS, eqoS, eqoR, putX, popJ]
theorem s_lfrac {fu n : Nat} {a : Int} {b : Nat} (h0 : b ≠ 0) (hb : b < 2 ^ 4000) (hf : 8001 ≤ fu) : evF T fu (n + 2) "_law_frac" [.val (.int a), .val (.int b)] = some (fr (Rat.normalize a b h0), []) := by
  rw [ev1 (dd := d__law_frac) (by kernel_rfl), norm_eq]
  unfold d__law_frac
  have e := s_common (fu := fu) (n := n) (a := a) (b := (b : Int)) (by rw [Int.natAbs_natCast]; exact hb) hf
  rw [Int.natAbs_natCast] at e
  have hp : 0 < Nat.gcd a.natAbs b := Nat.gcd_pos_of_pos_right _ (by omega)
  have st : sm ((Nat.gcd a.natAbs b : Nat) : Int) = true := sm_of (by
    rw [Int.natAbs_natCast]
    exact Nat.lt_of_le_of_lt (Nat.gcd_le_right _ (by omega)) (Nat.lt_of_lt_of_le hb (Nat.pow_le_pow_right (by decide) (by decide))))
  generalize Nat.gcd a.natAbs b = g at *
  have g0 : g ≠ 0 := by omega
  have b0 : 0 < b := by omega
  simp [evE, evT, evL, evA, evO, evAr, evS, evD, putS, peek, mutS, setM, opB, opC, opF, opIx, opSl, walk, unpS, bindT, refs, argS, putBack, permA, outsOf, atI, ixN, tru, setJ, iscS, eqoS, eqoR, putX, popJ, e, st, g0, b0, lim]
theorem s_ltimes {fu n : Nat} {p q : Rat} (h : Bq 1900 p) (g : Bq 1900 q) (hf : 8001 ≤ fu) : evF T fu (n + 3) "_law_frac_times" [.val (fr p), .val (fr q)] = some (fr (p * q), []) := by
  rw [ev1 (dd := d__law_frac_times) (by kernel_rfl), Rat.mul_def]
  unfold d__law_frac_times
  have hd := s_lfrac (fu := fu) (n := n) (a := p.num * q.num) (b := p.den * q.den) (Nat.mul_ne_zero p.den_nz q.den_nz) (Nat.lt_of_lt_of_le (Nat.mul_lt_mul'' h.d g.d) (by rw [← Nat.pow_add]; exact Nat.pow_le_pow_right (by decide) (by decide))) hf
  rw [Int.natCast_mul] at hd
  generalize fr (Rat.normalize _ _ _) = r at hd ⊢
  unfold fr
  simp [evE, evT, evL, evA, evO, evAr, evS, evD, putS, peek, mutS, setM, opB, opC, opF, opIx, opSl, walk, unpS, bindT, refs, argS, putBack, permA, outsOf, atI, ixN, tru, setJ, iscS, eqoS, eqoR, putX, popJ, h.sn, h.sd, g.sn, g.sd, hd]
theorem s_lover {fu n : Nat} {p q : Rat} (h : Bq 1900 p) (g : Bq 1900 q) (hq : 0 < q) (hf : 8001 ≤ fu) : evF T fu (n + 3) "_law_frac_over" [.val (fr p), .val (fr q)] = some (fr (p / q), []) := by
  obtain ⟨z, e⟩ := div_norm p q hq
  rw [ev1 (dd := d__law_frac_over) (by kernel_rfl), e]
  unfold d__law_frac_over
  have hd := s_lfrac (fu := fu) (n := n) (a := p.num * q.den) (b := p.den * q.num.natAbs) z (Nat.lt_of_lt_of_le (Nat.mul_lt_mul'' h.d g.n) (by rw [← Nat.pow_add]; exact Nat.pow_le_pow_right (by decide) (by decide))) hf
  have e2 : ((p.den * q.num.natAbs : Nat) : Int) = p.den * q.num := by
    have := numpos hq
    rw [Int.natCast_mul, Int.natAbs_of_nonneg (by omega)]
  rw [e2] at hd
  generalize fr (Rat.normalize _ _ _) = r at hd ⊢
  unfold fr
  simp [evE, evT, evL, evA, evO, evAr, evS, evD, putS, peek, mutS, setM, opB, opC, opF, opIx, opSl, walk, unpS, bindT, refs, argS, putBack, permA, outsOf, atI, ixN, tru, setJ, iscS, eqoS, eqoR, putX, popJ, h.sn, h.sd, g.sn, g.sd, hd]
/-! ### the pot -/
def pot (own p1 p2 : Int) : Sl := .par [.int own, .int p1, .int p2]
structure Pot (c : Nat) (own p1 p2 : Int) : Prop where
  o0 : 0 ≤ own
  o1 : own.natAbs < 2 ^ 1000
  a0 : 0 ≤ p1
  a1 : p1.natAbs < 2 ^ 61
  b0 : 0 ≤ p2
  b1 : p2 ≤ c
theorem wm (i : Int) (k : Nat) (h : i.natAbs < 2 ^ k) (hk : k ≤ 8000) : sm i = true := sm_of (Nat.lt_of_lt_of_le h (Nat.pow_le_pow_right (by decide) hk))
theorem at0 {x y z : D} : atI [x, y, z] 0 = some x := by simp [evE, evT, evL, evA, evO, evAr, evS, evD, putS, peek, mutS, setM, opB, opC, opF, opIx, opSl, walk, unpS, bindT, refs, argS, putBack, permA, outsOf, atI, ixN, tru, setJ, iscS, eqoS, eqoR, putX, popJ]
theorem at1 {x y z : D} : atI [x, y, z] 1 = some y := by simp [evE, evT, evL, evA, evO, evAr, evS, evD, putS, peek, mutS, setM, opB, opC, opF, opIx, opSl, walk, unpS, bindT, refs, argS, putBack, permA, outsOf, atI, ixN, tru, setJ, iscS, eqoS, eqoR, putX, popJ]
theorem at2 {x y z : D} : atI [x, y, z] 2 = some z := by simp [evE, evT, evL, evA, evO, evAr, evS, evD, putS, peek, mutS, setM, opB, opC, opF, opIx, opSl, walk, unpS, bindT, refs, argS, putBack, permA, outsOf, atI, ixN, tru, setJ, iscS, eqoS, eqoR, putX, popJ]
theorem take_core {fu n : Nat} {p1 z u : Int} (a0 : 0 ≤ p1) (a1 : p1.natAbs < 2 ^ 61) (z0 : 0 ≤ z) (z1 : z < 2000000) (u0 : 0 < u) (p : Int) (hp0 : 0 < p) (hp1 : p < 2 ^ 31)
    (hix : atI [D.int 2147483647, .int 2147483629, .int 2147483587, .int 2147483579, .int 2147483563] (z % 5) = some (.int p)) :
    ∃ d, 0 ≤ d ∧ d < u ∧ evF T fu (n + 1) "_law_take" [pot 0 p1 (z - 1), .val (.int u)] = some (.int d, [[.int 0, .int p1, .int z]]) := by
  rw [ev1 (dd := d__law_take) (by kernel_rfl)]
  unfold d__law_take pot
  have q1 : z * z ≤ 2000000 * 2000000 := Int.mul_le_mul (by omega) (by omega) z0 (by omega)
  have q2 : 0 ≤ z * z := Int.mul_nonneg z0 z0
  have e1 : 104639 * z * z = 104639 * (z * z) := Int.mul_assoc _ _ _
  have s1 : sm (104639 * z) = true := wm _ 60 (by omega) (by decide)
  have s2 : sm z = true := wm _ 60 (by omega) (by decide)
  have s3 : sm (p1 + 104639 * z * z + 1619) = true := wm _ 70 (by rw [e1]; omega) (by decide)
  have s4 : sm 104639 = true := by decide +kernel
  have s5 : sm 477 = true := by decide +kernel
  have s6 : sm 167 = true := by decide +kernel
  generalize hb : (p1 + 104639 * z * z + 1619) ^ 3 % p = b1
  have b0 : 0 ≤ b1 := by rw [← hb]; exact Int.emod_nonneg _ (by omega)
  have bl : b1 < p := by rw [← hb]; exact Int.emod_lt_of_pos _ hp0
  have c0 : 0 ≤ b1 % 11855 := Int.emod_nonneg _ (by decide)
  have c1 : b1 % 11855 < 11855 := Int.emod_lt_of_pos _ (by decide)
  have s7 : sm b1 = true := wm _ 60 (by omega) (by decide)
  have s8 : sm (b1 % 11855 + 477 * z) = true := wm _ 60 (by omega) (by decide)
  refine ⟨((b1 * (b1 % 11855 + 477 * z)) % 2305843009213693907).fdiv 167 % u, Int.emod_nonneg _ (by omega), Int.emod_lt_of_pos _ u0, ?_⟩
  simp [evE, evT, evL, evA, evO, evAr, evS, evD, putS, peek, mutS, setM, opB, opC, opF, opIx, opSl, walk, unpS, bindT, refs, argS, putBack, permA, outsOf, ixN, tru, setJ, iscS, eqoS, eqoR, putX, popJ, at0, at1, at2, hix, s1, s2, s3, s4, s5, s6, s7, s8, hb, hp0, u0, lim]
theorem s_take {fu n c : Nat} {own p1 p2 u : Int} (h : Pot c own p1 p2) (hc : c < 1000000) (u0 : 0 < u) (u1 : u.natAbs < 2 ^ 60) :
    ∃ own' p2' d, Pot (c + 1) own' p1 p2' ∧ 0 ≤ d ∧ d < u ∧ evF T fu (n + 1) "_law_take" [pot own p1 p2, .val (.int u)] = some (.int d, [[.int own', .int p1, .int p2']]) := by
  rw [ev1 (dd := d__law_take) (by kernel_rfl)]
  unfold d__law_take pot
  have su := wm u 60 u1 (by decide)
  by_cases q : 0 < own
  · refine ⟨own.fdiv u, p2, own % u, ⟨?_, ?_, h.a0, h.a1, h.b0, by have := h.b1; omega⟩, Int.emod_nonneg _ (by omega), Int.emod_lt_of_pos _ u0, ?_⟩
    · rw [Int.fdiv_eq_ediv_of_nonneg _ (by omega)]; exact Int.ediv_nonneg h.o0 (by omega)
    · rw [Int.fdiv_eq_ediv_of_nonneg _ (by omega)]
      have := Int.ediv_le_self u h.o0
      have h2 := Int.ediv_nonneg h.o0 (show 0 ≤ u by omega)
      have h3 := h.o1
      omega
    · have un : ¬ u = 0 := by omega
      simp [evE, evT, evL, evA, evO, evAr, evS, evD, putS, peek, mutS, setM, opB, opC, opF, opIx, opSl, walk, unpS, bindT, refs, argS, putBack, permA, outsOf, atI, ixN, tru, setJ, iscS, eqoS, eqoR, putX, popJ, q, u0, su, un]
  · have o : own = 0 := by have := h.o0; omega
    subst o
    have z0 : 0 ≤ p2 + 1 := by have := h.b0; omega
    have z1 : p2 + 1 < 2000000 := by have := h.b1; omega
    have key : ∃ p, 0 < p ∧ p < 2 ^ 31 ∧ atI [D.int 2147483647, .int 2147483629, .int 2147483587, .int 2147483579, .int 2147483563] ((p2 + 1) % 5) = some (.int p) := by
      have h5 : (p2 + 1) % 5 = 0 ∨ (p2 + 1) % 5 = 1 ∨ (p2 + 1) % 5 = 2 ∨ (p2 + 1) % 5 = 3 ∨ (p2 + 1) % 5 = 4 := by omega
      rcases h5 with e | e | e | e | e <;> rw [e]
      · exact ⟨2147483647, by decide, by decide, by simp [evE, evT, evL, evA, evO, evAr, evS, evD, putS, peek, mutS, setM, opB, opC, opF, opIx, opSl, walk, unpS, bindT, refs, argS, putBack, permA, outsOf, atI, ixN, tru, setJ, iscS, eqoS, eqoR, putX, popJ]⟩
      · exact ⟨2147483629, by decide, by decide, by simp [evE, evT, evL, evA, evO, evAr, evS, evD, putS, peek, mutS, setM, opB, opC, opF, opIx, opSl, walk, unpS, bindT, refs, argS, putBack, permA, outsOf, atI, ixN, tru, setJ, iscS, eqoS, eqoR, putX, popJ]⟩
      · exact ⟨2147483587, by decide, by decide, by simp [evE, evT, evL, evA, evO, evAr, evS, evD, putS, peek, mutS, setM, opB, opC, opF, opIx, opSl, walk, unpS, bindT, refs, argS, putBack, permA, outsOf, atI, ixN, tru, setJ, iscS, eqoS, eqoR, putX, popJ]⟩
      · exact ⟨2147483579, by decide, by decide, by simp [evE, evT, evL, evA, evO, evAr, evS, evD, putS, peek, mutS, setM, opB, opC, opF, opIx, opSl, walk, unpS, bindT, refs, argS, putBack, permA, outsOf, atI, ixN, tru, setJ, iscS, eqoS, eqoR, putX, popJ]⟩
      · exact ⟨2147483563, by decide, by decide, by simp [evE, evT, evL, evA, evO, evAr, evS, evD, putS, peek, mutS, setM, opB, opC, opF, opIx, opSl, walk, unpS, bindT, refs, argS, putBack, permA, outsOf, atI, ixN, tru, setJ, iscS, eqoS, eqoR, putX, popJ]⟩
    obtain ⟨p, hp0, hp1, hix⟩ := key
    obtain ⟨d, d0, d1, e⟩ := take_core (fu := fu) (n := n) h.a0 h.a1 z0 z1 u0 p hp0 hp1 hix
    rw [Int.add_sub_cancel, ev1 (dd := d__law_take) (by kernel_rfl)] at e
    refine ⟨0, p2 + 1, d, ⟨by decide, by decide, h.a0, h.a1, z0, by have := h.b1; omega⟩, d0, d1, ?_⟩
    unfold d__law_take pot at e
    exact e
def potO (own p1 p2 : Int) : List D := [.int own, .int p1, .int p2]
theorem atI_lt {α : Type} {xs : List α} {d : Int} (h0 : 0 ≤ d) (h1 : d < xs.length) : ∃ x, atI xs d = some x ∧ x ∈ xs := by
  have h2 : d.toNat < xs.length := by omega
  refine ⟨xs[d.toNat], ?_, List.getElem_mem h2⟩
  have := atI_nat (List.getElem?_eq_getElem h2)
  rw [Int.toNat_of_nonneg h0] at this
  exact this
theorem s_of {fu n c : Nat} {own p1 p2 : Int} {xs : List D} (h : Pot c own p1 p2) (hc : c < 1000000) (hx : xs ≠ []) (hl : xs.length < 1000) :
    ∃ own' p2' x, Pot (c + 1) own' p1 p2' ∧ x ∈ xs ∧ evF T fu (n + 2) "_law_of" [pot own p1 p2, .val (.lst xs)] = some (x, [potO own' p1 p2']) := by
  have hn : 0 < xs.length := List.length_pos_iff.2 hx
  obtain ⟨o, q, d, hp, d0, d1, e⟩ := s_take (fu := fu) (n := n) (u := (xs.length : Int)) h hc (by omega) (by omega)
  obtain ⟨x, hx1, hx2⟩ := atI_lt d0 d1
  refine ⟨o, q, x, hp, hx2, ?_⟩
  rw [ev1 (dd := d__law_of) (by kernel_rfl)]
  unfold d__law_of pot potO at *
  simp [evE, evT, evL, evA, evO, evAr, evS, evD, putS, peek, mutS, setM, opB, opC, opF, opIx, opSl, walk, unpS, bindT, refs, argS, putBack, permA, outsOf, ixN, tru, setJ, iscS, eqoS, eqoR, putX, popJ, hx1, e]
/-- a drawn fraction from i to j, by 5 at most -/
theorem s_drawn {fu n c : Nat} {own p1 p2 lo hi : Int} (h : Pot c own p1 p2) (hc : c + 1 < 1000000) (hl : lo.natAbs ≤ 100) (hh : hi.natAbs ≤ 100) (lh : lo ≤ hi) (hf : 8001 ≤ fu) :
    ∃ own' p2' q, Pot (c + 2) own' p1 p2' ∧ Bq 11 q ∧ q.num.natAbs < 1024 ∧ q.den ≤ 5 ∧ evF T fu (n + 3) "_law_frac_drawn" [pot own p1 p2, .val (.int lo), .val (.int hi)] = some (fr q, [potO own' p1 p2']) := by
  obtain ⟨o, r, b, hp, hb, e1⟩ := s_of (fu := fu) (n := n) (xs := [.int 1, .int 1, .int 1, .int 2, .int 3, .int 5]) h (by omega) (by simp [evE, evT, evL, evA, evO, evAr, evS, evD, putS, peek, mutS, setM, opB, opC, opF, opIx, opSl, walk, unpS, bindT, refs, argS, putBack, permA, outsOf, atI, ixN, tru, setJ, iscS, eqoS, eqoR, putX, popJ]) (by simp [evE, evT, evL, evA, evO, evAr, evS, evD, putS, peek, mutS, setM, opB, opC, opF, opIx, opSl, walk, unpS, bindT, refs, argS, putBack, permA, outsOf, atI, ixN, tru, setJ, iscS, eqoS, eqoR, putX, popJ])
  obtain ⟨k, rfl, k1, k2⟩ : ∃ k : Nat, b = .int k ∧ 1 ≤ k ∧ k ≤ 5 := by
    simp [evE, evT, evL, evA, evO, evAr, evS, evD, putS, peek, mutS, setM, opB, opC, opF, opIx, opSl, walk, unpS, bindT, refs, argS, putBack, permA, outsOf, atI, ixN, tru, setJ, iscS, eqoS, eqoR, putX, popJ] at hb
    rcases hb with rfl | rfl | rfl | rfl
    · exact ⟨1, rfl, by decide, by decide⟩
    · exact ⟨2, rfl, by decide, by decide⟩
    · exact ⟨3, rfl, by decide, by decide⟩
    · exact ⟨5, rfl, by decide, by decide⟩
  have m0 : 0 ≤ (hi - lo) * (k : Int) := Int.mul_nonneg (by omega) (by omega)
  have m1 : (hi - lo) * (k : Int) ≤ 200 * 5 := Int.mul_le_mul (by omega) (by omega) (by omega) (by omega)
  obtain ⟨o2, r2, d, hp2, d0, d1, e2⟩ := s_take (fu := fu) (n := n + 1) (u := (hi - lo) * (k : Int) + 1) hp (by omega) (by omega) (by omega)
  have k0 : k ≠ 0 := by omega
  have e3 := s_lfrac (fu := fu) (n := n) (a := lo * (k : Int) + d) (b := k) k0 (Nat.lt_of_le_of_lt k2 (Nat.lt_of_lt_of_le (show 5 < 2 ^ 3 by decide) (Nat.pow_le_pow_right (by decide) (by decide)))) hf
  have n1 : -500 ≤ lo * (k : Int) := by
    have := Int.mul_le_mul_of_nonneg_right (show -100 ≤ lo by omega) (show (0 : Int) ≤ k by omega)
    omega
  have n2 : lo * (k : Int) + d ≤ 500 := by
    have h3 : lo * (k : Int) + (hi - lo) * (k : Int) = hi * (k : Int) := by rw [← Int.add_mul]; congr 1; omega
    have := Int.mul_le_mul_of_nonneg_right (show hi ≤ 100 by omega) (show (0 : Int) ≤ k by omega)
    omega
  have nb := norm_bd (k := 10) k0 (a := lo * (k : Int) + d) (by omega) (by omega)
  refine ⟨o2, r2, Rat.normalize (lo * (k : Int) + d) k k0, hp2, nb.le (by decide), nb.n, ?_, ?_⟩
  · rw [Rat.normalize_eq]
    exact Nat.le_trans (Nat.div_le_self _ _) k2
  rw [ev1 (dd := d__law_frac_drawn) (by kernel_rfl)]
  unfold d__law_frac_drawn pot potO at *
  have s1 := wm lo 60 (by omega) (by decide)
  have s2 := wm (k : Int) 60 (by omega) (by decide)
  have s3 := wm (hi - lo) 60 (by omega) (by decide)
  generalize fr (Rat.normalize _ _ _) = z at e3 ⊢
  simp [evE, evT, evL, evA, evO, evAr, evS, evD, putS, peek, mutS, setM, opB, opC, opF, opIx, opSl, walk, unpS, bindT, refs, argS, putBack, permA, outsOf, ixN, tru, setJ, iscS, eqoS, eqoR, putX, popJ, e1, e2, e3, s1, s2, s3, lim]
theorem fr_mk {q : Rat} {a b : Int} (h1 : q.num = a) (h2 : (q.den : Int) = b) : D.tup [.int a, .int b] = fr q := by
  subst h1 h2; rfl
theorem s_ldrawn {fu n c : Nat} {own p1 p2 : Int} (h : Pot c own p1 p2) (hc : c + 10 < 1000000) (hf : 8001 ≤ fu) :
    ∃ own' p2' u v, Pot (c + 4) own' p1 p2' ∧ Be 11 u v ∧ (u.den ≤ 5 ∧ v.den ≤ 5 ∧ u.num.natAbs < 1024 ∧ v.num.natAbs < 1024) ∧ evF T fu (n + 4) "_law_event_drawn" [pot own p1 p2] = some (ev u v, [potO own' p1 p2']) := by
  obtain ⟨o, r, q, hp, hb, n1, d1, e1⟩ := s_drawn (fu := fu) (n := n) (lo := -6) (hi := 6) h (by omega) (by decide) (by decide) (by decide) hf
  obtain ⟨o2, r2, q2, hp2, hb2, n2, d2, e2⟩ := s_drawn (fu := fu) (n := n) (lo := -6) (hi := 6) hp (by omega) (by decide) (by decide) (by decide) hf
  refine ⟨o2, r2, q, q2, hp2, ⟨hb, hb2⟩, ⟨d1, d2, n1, n2⟩, ?_⟩
  rw [ev1 (dd := d__law_event_drawn) (by kernel_rfl)]
  unfold d__law_event_drawn ev
  generalize fr q = x at *
  generalize fr q2 = y at *
  unfold pot potO at *
  simp [evE, evT, evL, evA, evO, evAr, evS, evD, putS, peek, mutS, setM, opB, opC, opF, opIx, opSl, walk, unpS, bindT, refs, argS, putBack, permA, outsOf, ixN, tru, setJ, iscS, eqoS, eqoR, putX, popJ, e1, e2, lim]
theorem ix1 {q : Rat} : opIx (fr q) (.int 1) = some (.int (q.den : Int)) := by unfold fr; simp [evE, evT, evL, evA, evO, evAr, evS, evD, putS, peek, mutS, setM, opB, opC, opF, opIx, opSl, walk, unpS, bindT, refs, argS, putBack, permA, outsOf, atI, ixN, tru, setJ, iscS, eqoS, eqoR, putX, popJ]
theorem fr_rec {k : Rat} (h : 0 < k) : D.tup [.int (k.den : Int), .int k.num] = fr (1 / k) := by
  obtain ⟨z, e⟩ := div_norm 1 k h
  have hn := numpos h
  have hr : k.num.natAbs.gcd k.den = 1 := k.reduced
  rw [e, norm_eq]
  have a1 : (1 : Rat).num = 1 := rfl
  have a2 : (1 : Rat).den = 1 := rfl
  have g1 : Nat.gcd ((1 : Rat).num * (k.den : Int)).natAbs ((1 : Rat).den * k.num.natAbs) = 1 := by
    rw [a1, a2, Int.one_mul, Nat.one_mul, Int.natAbs_natCast, Nat.gcd_comm]; exact hr
  rw [g1, a1, a2]
  have e3 : ((1 * k.num.natAbs : Nat) : Int) = k.num := by rw [Nat.one_mul]; omega
  rw [e3]
  simp [evE, evT, evL, evA, evO, evAr, evS, evD, putS, peek, mutS, setM, opB, opC, opF, opIx, opSl, walk, unpS, bindT, refs, argS, putBack, permA, outsOf, atI, ixN, tru, setJ, iscS, eqoS, eqoR, putX, popJ]
theorem cut_take {xs : List D} {i : Nat} : cutD xs none (some (i : Int)) = xs.take (min i xs.length) := by
  unfold cutD
  rw [HT.sIx_none, HT.sIx_nat]
  simp [evE, evT, evL, evA, evO, evAr, evS, evD, putS, peek, mutS, setM, opB, opC, opF, opIx, opSl, walk, unpS, bindT, refs, argS, putBack, permA, outsOf, atI, ixN, tru, setJ, iscS, eqoS, eqoR, putX, popJ]
def potRest : Sm := (.seq (.asg 3 (.bin .mul (.bin .mod (.blt .int (.cons (.blt .abs (.cons (.var 2) .nil)) .nil)) (.bin .pow (.bin .pow (.con (.int 10)) (.con (.int 60))) (.con (.int 5)))) (.blt .int (.cons (.cmp .ge (.blt .abs (.cons (.var 2) .nil)) (.bin .pow (.con (.int 10)) (.con (.int 18)))) .nil)))) (.seq (.asg 4 (.bin .mod (.blt .int (.cons (.var 2) .nil)) (.con (.int 2305843009213693951)))) (.seq (.ret (.lst (.cons (.var 3) (.cons (.bin .mod (.blt .int (.cons (.bin .add (.bin .add (.bin .mul (.var 4) (.con (.int 80609))) (.bin .mul (.bin .mul (.con (.int 10743)) (.var 1)) (.var 1))) (.con (.int 1101))) .nil)) (.con (.int 2305843009213693921))) (.cons (.con (.int 0)) .nil))))) .nil)))
theorem pot_rest {F : FT} {fu : Nat} {s : D} {i : Nat} {c : Int} (hi : i < 1000) : ∃ own p1 env', Pot 0 own p1 0 ∧ evS F fu potRest [some (.val s), some (.val (.int i)), some (.val (.int c)), none, none] = some (.rt (.lst (potO own p1 0)), env') ∧ env'.length = 5 := by
  have pw1 : opB .pow (.int 10) (.int 60) = some (.int (10 ^ 60)) := by
    show (if sm 10 && decide ((0 : Int) ≤ 60) && decide ((60 : Int) ≤ 1000) then some (D.int (10 ^ (60 : Int).toNat)) else none) = _
    rw [if_pos (by decide +kernel)]; rfl
  have pw2 : opB .pow (.int (10 ^ 60)) (.int 5) = some (.int ((10 ^ 60) ^ 5)) := by
    show (if sm (10 ^ 60) && decide ((0 : Int) ≤ 5) && decide ((5 : Int) ≤ 1000) then some (D.int ((10 ^ 60) ^ (5 : Int).toNat)) else none) = _
    rw [if_pos (by decide +kernel)]; rfl
  have pw3 : opB .pow (.int 10) (.int 18) = some (.int (10 ^ 18)) := by
    show (if sm 10 && decide ((0 : Int) ≤ 18) && decide ((18 : Int) ≤ 1000) then some (D.int (10 ^ (18 : Int).toNat)) else none) = _
    rw [if_pos (by decide +kernel)]; rfl
  obtain ⟨M, hM⟩ : ∃ M : Int, M = (10 ^ 60) ^ 5 := ⟨_, rfl⟩
  obtain ⟨E, hE⟩ : ∃ E : Int, E = 10 ^ 18 := ⟨_, rfl⟩
  obtain ⟨Z, hZ⟩ : ∃ Z : Int, Z = 10 ^ 60 := ⟨_, rfl⟩
  have M0 : 0 < M := by rw [hM]; decide +kernel
  have M1 : M ≤ ((2 ^ 1000 : Nat) : Int) := by rw [hM]; decide +kernel
  rw [← hM, ← hZ] at pw2
  rw [← hZ] at pw1
  rw [← hE] at pw3
  have a0 : 0 ≤ (c.natAbs : Int) % M := Int.emod_nonneg _ (by omega)
  have a1 : (c.natAbs : Int) % M < M := Int.emod_lt_of_pos _ M0
  have a2 : ((c.natAbs : Int) % M).natAbs < 2 ^ 1000 := by omega
  have md : opB .mod (.int (c.natAbs : Int)) (.int M) = some (.int ((c.natAbs : Int) % M)) := by
    show (if decide (0 < M) then some (D.int ((c.natAbs : Int) % M)) else none) = _
    rw [if_pos (decide_eq_true M0)]
  generalize (c.natAbs : Int) % M = X at *
  have m1 : opB .mul (.int X) (.int (if E ≤ (c.natAbs : Int) then 1 else 0)) = some (.int (X * (if E ≤ (c.natAbs : Int) then 1 else 0))) := by
    show (if sm X && sm (if E ≤ (c.natAbs : Int) then 1 else 0) then some (D.int (X * (if E ≤ (c.natAbs : Int) then 1 else 0))) else none) = _
    rw [if_pos]
    rw [wm X 1000 a2 (by decide), Bool.true_and]
    split <;> decide +kernel
  obtain ⟨own, ho⟩ : ∃ own, own = X * (if E ≤ (c.natAbs : Int) then 1 else 0) := ⟨_, rfl⟩
  have o0 : 0 ≤ own ∧ own.natAbs < 2 ^ 1000 := by
    rw [ho]; split
    · rw [Int.mul_one]; exact ⟨a0, a2⟩
    · rw [Int.mul_zero]; exact ⟨by decide, Nat.two_pow_pos _⟩
  rw [← ho] at m1
  have s0 : 0 ≤ c % 2305843009213693951 := Int.emod_nonneg _ (by decide)
  have s1 : c % 2305843009213693951 < 2305843009213693951 := Int.emod_lt_of_pos _ (by decide)
  have k1 := wm (c % 2305843009213693951) 70 (by omega) (by decide)
  have k2 := wm (80609 : Int) 70 (by decide) (by decide)
  have k3 := wm (10743 : Int) 70 (by decide) (by decide)
  have k4 := wm (i : Int) 70 (by omega) (by decide)
  have k5 := wm (10743 * (i : Int)) 70 (by omega) (by decide)
  refine ⟨own, (c % 2305843009213693951 * 80609 + 10743 * (i : Int) * (i : Int) + 1101) % 2305843009213693921, [some (.val s), some (.val (.int i)), some (.val (.int c)), some (.val (.int own)), some (.val (.int (c % 2305843009213693951)))], ⟨o0.1, o0.2, Int.emod_nonneg _ (by decide), ?_, by decide, by decide⟩, ?_, rfl⟩
  · have h1 : (c % 2305843009213693951 * 80609 + 10743 * (i : Int) * (i : Int) + 1101) % 2305843009213693921 < 2305843009213693921 := Int.emod_lt_of_pos _ (by decide)
    have h2 : 0 ≤ (c % 2305843009213693951 * 80609 + 10743 * (i : Int) * (i : Int) + 1101) % 2305843009213693921 := Int.emod_nonneg _ (by decide)
    omega
  · unfold potRest potO
    have ge : opC .ge (.int (c.natAbs : Int)) (.int E) = some (decide (E ≤ (c.natAbs : Int))) := rfl
    have ib : ∀ b : Bool, opF .int [.bl b] = some (.int (if b = true then 1 else 0)) := fun _ => rfl
    have ii : ∀ j : Int, opF .int [.int j] = some (.int j) := fun _ => rfl
    have ad : ∀ i j : Int, opB .add (.int i) (.int j) = some (.int (i + j)) := fun _ _ => rfl
    have mm : ∀ i j : Int, sm i = true → sm j = true → opB .mul (.int i) (.int j) = some (.int (i * j)) := fun i j h g => by
      show (if sm i && sm j then _ else none) = _
      rw [h, g]; rfl
    have n1 := mm _ _ k1 k2
    have n2 := mm _ _ k3 k4
    have n3 := mm _ _ k5 k4
    have d1 : opB .mod (.int c) (.int 2305843009213693951) = some (.int (c % 2305843009213693951)) := rfl
    have d2 : ∀ j : Int, opB .mod (.int j) (.int 2305843009213693921) = some (.int (j % 2305843009213693921)) := fun _ => rfl
    generalize c % 2305843009213693951 = C at *
    simp [evE, evT, evL, evA, evO, evAr, evS, evD, putS, peek, mutS, setM, opIx, opSl, walk, unpS, bindT, refs, argS, putBack, permA, outsOf, atI, ixN, tru, setJ, iscS, eqoS, eqoR, putX, popJ, oabs, pw1, pw2, pw3, md, m1, ge, ib, ii, ad, n1, n2, n3, d1, d2, lim]
def potHead : Sm := (.asg 2 (.ite (.tval (.cmp .lt (.var 1) (.blt .len (.cons (.var 0) .nil)))) (.ix (.var 0) (.var 1)) (.bin .add (.bin .add (.bin .mod (.blt .sum (.cons (.slc (.var 0) .nil (.tval (.con (.int 1)))) .nil)) (.con (.int 1000003))) (.bin .mul (.con (.int 2005)) (.var 1))) (.con (.int 1049)))))
theorem ints_ok : ∀ ns : List Int, intsD (ns.map D.int) = some ns
  | [] => rfl
  | i :: r => by
    show ((intsD (r.map D.int)).map (i :: ·)) = _
    rw [ints_ok r]; rfl
theorem pot_head {F : FT} {fu : Nat} {ns : List Int} {i : Nat} (hi : i < 1000) : ∃ c : Int, evS F fu potHead [some (.val (.scr ns)), some (.val (.int i)), none, none, none] = some (.nx, [some (.val (.scr ns)), some (.val (.int i)), some (.val (.int c)), none, none]) := by
  unfold potHead
  by_cases h : i < ns.length
  · have e1 := atI_nat (List.getElem?_eq_getElem h)
    have h' : (i : Int) < (ns.length : Int) := by omega
    have ix : opIx (.scr ns) (.int (i : Int)) = some (.int ns[i]) := by
      show (atI ns (i : Int)).map D.int = _
      rw [e1]; rfl
    refine ⟨ns[i], ?_⟩
    simp [evE, evT, evL, evA, evO, evAr, evS, evD, putS, peek, mutS, setM, opB, opC, opF, opSl, walk, unpS, bindT, refs, argS, putBack, permA, outsOf, atI, ixN, tru, setJ, iscS, eqoS, eqoR, putX, popJ, ix, h, h']
  · have h' : ¬ ((i : Int) < (ns.length : Int)) := by omega
    have ct : cutD (ns.map D.int) none (some 1) = (ns.take 1).map D.int := by
      rw [show (1 : Int) = ((1 : Nat) : Int) from rfl, cut_take, List.map_take, List.length_map]
      cases ns with
      | nil => rfl
      | cons a r => rw [Nat.min_eq_left (by simp [evE, evT, evL, evA, evO, evAr, evS, evD, putS, peek, mutS, setM, opB, opC, opF, opIx, opSl, walk, unpS, bindT, refs, argS, putBack, permA, outsOf, atI, ixN, tru, setJ, iscS, eqoS, eqoR, putX, popJ])]
    have k1 := wm (2005 : Int) 70 (by decide) (by decide)
    have k2 := wm (i : Int) 70 (by omega) (by decide)
    have sl : opSl (.scr ns) none (some 1) = some (.lst ((ns.take 1).map D.int)) := by
      show some (D.lst (cutD (ns.map D.int) none (some 1))) = _
      rw [ct]
    have sf : opF .sum [.lst ((ns.take 1).map D.int)] = some (.int (ns.take 1).sum) := by
      show (intsD ((ns.take 1).map D.int)).map (fun ns => D.int ns.sum) = _
      rw [ints_ok]; rfl
    have lf : opF .len [.scr ns] = some (.int ns.length) := rfl
    refine ⟨(ns.take 1).sum % 1000003 + 2005 * (i : Int) + 1049, ?_⟩
    generalize ns.take 1 = t at *
    simp [evE, evT, evL, evA, evO, evAr, evS, evD, putS, peek, mutS, setM, opB, opC, opIx, walk, unpS, bindT, refs, argS, putBack, permA, outsOf, atI, ixN, tru, setJ, iscS, eqoS, eqoR, putX, popJ, lf, sl, sf, h, h', k1, k2]
theorem s_pot {fu n : Nat} {ns : List Int} {i : Nat} (hi : i < 1000) : ∃ own p1, Pot 0 own p1 0 ∧ evF T fu (n + 1) "_law_pot" [.val (.scr ns), .val (.int i)] = some (.lst (potO own p1 0), []) := by
  obtain ⟨c, e1⟩ := pot_head (F := evF T fu n) (fu := fu) (ns := ns) hi
  obtain ⟨own, p1, env', hp, e2, hl⟩ := pot_rest (F := evF T fu n) (fu := fu) (s := .scr ns) (c := c) hi
  refine ⟨own, p1, hp, ?_⟩
  rw [ev1 (dd := d__law_pot) (by kernel_rfl)]
  unfold d__law_pot evD
  unfold potHead at e1
  unfold potRest at e2
  simp only [List.length_cons, List.length_nil, if_true, List.map_cons, List.map_nil, List.replicate, Nat.zero_add, List.cons_append, List.nil_append, Nat.reduceAdd, Nat.reduceSub]
  rw [evS, e1]
  simp only [Option.bind_eq_bind, Option.bind_some]
  rw [e2]
  match env', hl with
  | [_, _, _, _, _], _ => simp [evE, evT, evL, evA, evO, evAr, evS, evD, putS, peek, mutS, setM, opB, opC, opF, opIx, opSl, walk, unpS, bindT, refs, argS, putBack, permA, outsOf, atI, ixN, tru, setJ, iscS, eqoS, eqoR, putX, popJ]
theorem s_cells {fu n : Nat} {ns : List Int} (hl : ns.length ≤ 63) : ∃ m : Nat, m ≤ 2 ∧ evF T fu (n + 1) "_law_cells" [.val (.scr ns), .val (.int 2)] = some (.lst (ran m), []) := by
  rw [ev1 (dd := d__law_cells) (by kernel_rfl)]
  unfold d__law_cells
  by_cases h : ns.length < 2
  · refine ⟨1, by decide, ?_⟩
    have h1 : (ns.length : Int) < 2 := by omega
    have h2 : ¬ ((ns.length : Int) > 1) := by omega
    have w : wi 19 1 = true := by decide +kernel
    simp [evE, evT, evL, evA, evO, evAr, evS, evD, putS, peek, mutS, setM, opB, opC, opF, opIx, opSl, walk, unpS, bindT, refs, argS, putBack, permA, outsOf, atI, ixN, tru, setJ, iscS, eqoS, eqoR, putX, popJ, h, h1, h2, w]
  · refine ⟨2, by decide, ?_⟩
    have h1 : ¬ ((ns.length : Int) < 2) := by omega
    have w : wi 19 2 = true := by decide +kernel
    simp [evE, evT, evL, evA, evO, evAr, evS, evD, putS, peek, mutS, setM, opB, opC, opF, opIx, opSl, walk, unpS, bindT, refs, argS, putBack, permA, outsOf, atI, ixN, tru, setJ, iscS, eqoS, eqoR, putX, popJ, h, h1, w]
end L16
/-! the texts of whole numbers, read back (no law's own) -/
namespace Mn
open PySem PySem.Spec PyProof.Rows L2 RZ TL
/-- the text of a whole number -/
def tx (i : Int) : PySem.Str := PySem.Str.ofString (toString i)
def numI (i : Int) : List Nat := if i < 0 then 45 :: numL i.natAbs else numL i.natAbs
theorem tl_tx_nat (n : Nat) : tl (tx (n : Int)) = numL n := tl_num n
theorem tl_tx (i : Int) : tl (tx i) = numI i := by
  unfold numI
  by_cases h : i < 0
  · rw [if_pos h]
    obtain ⟨n, rfl⟩ : ∃ n : Nat, i = Int.negSucc n := by
      cases i with
      | ofNat n => exact absurd h (by simp)
      | negSucc n => exact ⟨n, rfl⟩
    unfold tx
    rw [tl_ofString]
    show (("-" ++ toString (Nat.succ n)) : String).toList.map Char.toNat = _
    rw [String.toList_append, List.map_append]
    have := tl_num (n + 1)
    rw [tl_ofString] at this
    show [45] ++ _ = _
    rw [show (toString (Nat.succ n)).toList.map Char.toNat = numL (n + 1) from this]
    rfl
  · rw [if_neg h]
    obtain ⟨n, rfl⟩ : ∃ n : Nat, i = (n : Int) := ⟨i.toNat, by omega⟩
    exact tl_tx_nat n
theorem numL_head {n : Nat} (h : 1 ≤ n) : ∃ c r, numL n = c :: r ∧ 49 ≤ c ∧ c ≤ 57 := by
  induction n using Nat.strongRecOn with
  | _ n ih =>
    by_cases h1 : n < 10
    · exact ⟨48 + n, [], numL_lt h1, by omega, by omega⟩
    · obtain ⟨c, r, e, h2, h3⟩ := ih (n / 10) (by omega) (by omega)
      exact ⟨c, r ++ [48 + n % 10], by rw [numL_step (by omega), e]; rfl, h2, h3⟩
theorem tl_inj {x y : PySem.Str} (h : tl x = tl y) : x = y := ext_tl h
theorem tl_dash : tl ("-" : PySem.Str) = [45] := by decide +kernel
theorem tl_zero : tl ("0" : PySem.Str) = [48] := by decide +kernel
theorem tl_slash : tl ("/" : PySem.Str) = [47] := by decide +kernel
theorem tl_blank : tl (" " : PySem.Str) = [32] := by decide +kernel
theorem tl_line : tl ("\n" : PySem.Str) = [10] := by decide +kernel
theorem numI_free {i : Int} {s : Nat} (h : s ≠ 45) (h2 : s < 48 ∨ 57 < s) : s ∉ numI i := by
  unfold numI
  split
  · intro m
    rcases List.mem_cons.1 m with e | m
    · exact h e
    · exact numL_free h2 m
  · exact numL_free h2
/-- int(str(i)) -/
theorem int_tx {i : Int} (h : i.natAbs < 10 ^ 4000) : PySem.intText? (tx i) = some i := by
  have hl := numL_len (n := i.natAbs) (k := 4000) (by decide) h
  by_cases h0 : i < 0
  · have e := PySem.intText_neg (x := tx i) (cs := numL i.natAbs) (by show tl (tx i) = _; rw [tl_tx]; unfold numI; rw [if_pos h0]) (numL_digits _) (numL_ne _) (by rw [len_tl, tl_tx]; unfold numI; rw [if_pos h0, List.length_cons]; omega)
    rw [e, numL_val]
    congr 1
    omega
  · obtain ⟨n, rfl⟩ : ∃ n : Nat, i = (n : Int) := ⟨i.toNat, by omega⟩
    exact int_num (by rw [Int.natAbs_natCast] at hl; omega)
theorem tx_len {i : Int} {k : Nat} (hk : 0 < k) (h : i.natAbs < 10 ^ k) : (tx i).length ≤ k + 1 := by
  rw [len_tl, tl_tx]
  have hl := numL_len (n := i.natAbs) hk h
  unfold numI
  split
  · rw [List.length_cons]; omega
  · omega
/-! its digits -/
theorem sub0 (x : PySem.Str) {y : PySem.Str} {c : Nat} (hy : tl y = [c]) : PySem.Builtin.Str.subAt x y 0 = ((tl x).head? == some c) := by
  have hl : y.length = 1 := by rw [len_tl, hy]; rfl
  rw [PySem.StrLaws.subAt_eq]
  rw [List.drop_zero, hl]
  show ((tl x).take 1 == tl y) = _
  rw [hy]
  cases h : tl x with
  | nil => rfl
  | cons d r =>
    show ([d] == [c]) = (some d == some c)
    by_cases e : d = c
    · subst e; simp
    · rw [beq_eq_false_iff_ne.2 (by simpa using e), beq_eq_false_iff_ne.2 (by simpa using e)]
theorem pre_tx (i : Int) : Txt.removeprefix (tx i) "-" = tx (i.natAbs : Int) := by
  unfold Txt.removeprefix
  rw [sub0 (tx i) tl_dash, tl_tx]
  have l1 : ("-" : PySem.Str).length = 1 := by rw [len_tl, tl_dash]; rfl
  by_cases h : i < 0
  · have e : numI i = 45 :: numL i.natAbs := by unfold numI; rw [if_pos h]
    rw [e]
    rw [if_pos (by rfl)]
    unfold Txt.affix
    have hl : (tx i).length = (numL i.natAbs).length + 1 := by rw [len_tl, tl_tx, e]; rfl
    show (if (tx i).length - ("-" : PySem.Str).length == (tx i).length then tx i else PySem.Builtin.Str.strSub (tx i) ("-" : PySem.Str).length (tx i).length) = _
    rw [l1, hl, if_neg (by simp)]
    apply tl_inj
    rw [tl_strSub, tl_tx, e, tl_tx_nat]
    show ((numL i.natAbs)).take _ = _
    exact List.take_of_length_le (by omega)
  · have e : numI i = numL i.natAbs := by unfold numI; rw [if_neg h]
    have e2 : ((numI i).head? == some 45) = false := by
      rw [e]
      cases z : numL i.natAbs with
      | nil => rfl
      | cons c r =>
        have := numL_digits i.natAbs c (by rw [z]; exact List.mem_cons_self)
        show (some c == some 45) = false
        rw [beq_eq_false_iff_ne]
        intro q
        cases q
        omega
    rw [e2]
    show tx i = _
    congr 1
    omega
theorem asc_tx (n : Nat) : Txt.isascii (tx (n : Int)) = true := by
  unfold Txt.isascii
  rw [← Array.all_toList, List.all_eq_true]
  intro c hc
  have := numL_digits n c (by rw [← tl_tx_nat]; exact hc)
  rw [decide_eq_true_eq]
  omega
theorem dig_one : ∀ c, 48 ≤ c → c ≤ 57 → Unicode.isDigit c = true := by
  intro c h1 h2
  have : c = 48 ∨ c = 49 ∨ c = 50 ∨ c = 51 ∨ c = 52 ∨ c = 53 ∨ c = 54 ∨ c = 55 ∨ c = 56 ∨ c = 57 := by omega
  rcases this with h | h | h | h | h | h | h | h | h | h <;> (subst h; decide +kernel)
theorem dig_tx (n : Nat) : Txt.isdigit (tx (n : Int)) = true := by
  unfold Txt.isdigit
  rw [Bool.and_eq_true, decide_eq_true_eq]
  constructor
  · rw [len_tl, tl_tx_nat]
    exact List.length_pos_iff.2 (numL_ne n)
  · rw [← Array.all_toList, List.all_eq_true]
    intro c hc
    have := numL_digits n c (by rw [← tl_tx_nat]; exact hc)
    exact dig_one c this.1 this.2
theorem stw_tx (n : Nat) : Txt.startswith (tx (n : Int)) "0" = decide (n = 0) := by
  unfold Txt.startswith
  rw [sub0 _ tl_zero, tl_tx_nat]
  have l1 : ("0" : PySem.Str).length = 1 := by rw [len_tl, tl_zero]; rfl
  have l2 : 1 ≤ (tx (n : Int)).length := by rw [len_tl, tl_tx_nat]; exact List.length_pos_iff.2 (numL_ne n)
  rw [l1, decide_eq_true (by omega : 0 + 1 ≤ (tx (n : Int)).length), Bool.true_and]
  by_cases h : n = 0
  · subst h
    rw [numL_lt (by decide)]
    rfl
  · obtain ⟨c, r, e, h2, h3⟩ := numL_head (n := n) (by omega)
    rw [e, decide_eq_false h]
    show (some c == some 48) = false
    rw [beq_eq_false_iff_ne]
    intro q
    cases q
    omega
theorem tx_zero (i : Int) : (tx i = ("0" : PySem.Str)) ↔ i = 0 := by
  constructor
  · intro h
    have e : tl (tx i) = [48] := by rw [h, tl_zero]
    rw [tl_tx] at e
    unfold numI at e
    split at e
    · cases e
    · by_cases z : i.natAbs = 0
      · omega
      · obtain ⟨c, r, e2, h2, h3⟩ := numL_head (n := i.natAbs) (by omega)
        rw [e2] at e
        cases e
        omega
  · intro h
    subst h
    apply tl_inj
    rw [tl_tx, tl_zero]
    unfold numI
    rw [if_neg (by decide)]
    exact numL_lt (by decide)
end Mn
namespace L16
open PySem L2 Mn TL
/-! ### the text of a fraction -/
def ftx (q : Rat) : PySem.Str := if q.den = 1 then tx q.num else tx q.num ++ "/" ++ tx (q.den : Int)
theorem big10 : (2 : Nat) ^ 1900 ≤ 10 ^ 600 := by decide +kernel
theorem tlen {i : Int} (h : i.natAbs < 2 ^ 1900) : (tx i).length ≤ 601 := tx_len (k := 600) (by decide) (Nat.lt_of_lt_of_le h big10)
theorem ostr {i : Int} (h : i.natAbs < 2 ^ 1900) : opF .str [.int i] = some (.str (tx i)) := by
  show (if i.natAbs.log2 < 1920 then some (D.str (tx i)) else none) = _
  rw [if_pos]
  by_cases z : i.natAbs = 0
  · rw [z]; decide
  · exact Nat.lt_trans ((Nat.log2_lt z).2 h) (by decide)
theorem oint {i : Int} : opF .int [.int i] = some (.int i) := rfl
theorem ointx {i : Int} (h : i.natAbs < 2 ^ 1900) : opF .int [.str (tx i)] = some (.int i) := by
  show (if (tx i).length ≤ 640 then (PySem.intText? (tx i)).map D.int else none) = _
  have := tlen h
  rw [if_pos (by omega), int_tx (Nat.lt_of_lt_of_le h (Nat.le_trans big10 (Nat.pow_le_pow_right (by decide) (by decide))))]
  rfl
theorem len_app (x y : PySem.Str) : (x ++ y).length = x.length + y.length := by rw [len_tl, len_tl, len_tl, tl_append, List.length_append]
theorem oadd {x y : PySem.Str} (h : x.length + y.length ≤ lim) : opB .add (.str x) (.str y) = some (.str (x ++ y)) := by
  show (if x.length + y.length ≤ lim then some (D.str (x ++ y)) else none) = _
  rw [if_pos h]
theorem l_slash : ("/" : PySem.Str).length = 1 := by rw [len_tl, tl_slash]; rfl
theorem nb {k : Nat} {q : Rat} (h : Bq k q) (hk : k ≤ 1900) : q.num.natAbs < 2 ^ 1900 := Nat.lt_of_lt_of_le h.n (Nat.pow_le_pow_right (by decide) hk)
theorem db {k : Nat} {q : Rat} (h : Bq k q) (hk : k ≤ 1900) : (q.den : Int).natAbs < 2 ^ 1900 := by rw [Int.natAbs_natCast]; exact Nat.lt_of_lt_of_le h.d (Nat.pow_le_pow_right (by decide) hk)
theorem ftx_len {k : Nat} {q : Rat} (h : Bq k q) (hk : k ≤ 1900) : (ftx q).length ≤ 1203 := by
  have h1 := tlen (nb h hk)
  have h2 := tlen (db h hk)
  unfold ftx
  split
  · omega
  · rw [len_app, len_app, l_slash]; omega
theorem s_lftext {fu n k : Nat} {q : Rat} (h : Bq k q) (hk : k ≤ 1900) : evF T fu (n + 1) "_law_frac_text" [.val (fr q)] = some (.str (ftx q), []) := by
  have h1 := nb h hk
  have h2 := db h hk
  have l1 := tlen h1
  have l2 := tlen h2
  have a1 : opB .add (.str (tx q.num)) (.str ("/" : PySem.Str)) = some (.str (tx q.num ++ "/")) := oadd (by rw [l_slash]; unfold lim; omega)
  have a2 : opB .add (.str (tx q.num ++ "/")) (.str (tx (q.den : Int))) = some (.str (tx q.num ++ "/" ++ tx (q.den : Int))) := oadd (by rw [len_app, l_slash]; unfold lim; omega)
  rw [ev1 (dd := d__law_frac_text) (by kernel_rfl)]
  unfold d__law_frac_text ftx fr
  by_cases e : q.den = 1
  · simp [evE, evT, evL, evA, evO, evAr, evS, evD, putS, peek, mutS, setM, opC, opIx, opSl, walk, unpS, bindT, refs, argS, putBack, permA, outsOf, atI, ixN, tru, setJ, iscS, eqoS, eqoR, putX, popJ, e, oint, ostr h1, dsh_int, deq_int]
  · have e' : ¬ ((q.den : Int) = 1) := by omega
    simp [evE, evT, evL, evA, evO, evAr, evS, evD, putS, peek, mutS, setM, opC, opIx, opSl, walk, unpS, bindT, refs, argS, putBack, permA, outsOf, atI, ixN, tru, setJ, iscS, eqoS, eqoR, putX, popJ, e, e', oint, ostr h1, ostr h2, a1, a2, dsh_int, deq_int]
theorem deq_str {a b : PySem.Str} : deq (.str a) (.str b) = decide (a = b) := by
  show (a == b) = decide (a = b)
  by_cases h : a = b
  · subst h; simp [evE, evT, evL, evA, evO, evAr, evS, evD, putS, peek, mutS, setM, opB, opC, opF, opIx, opSl, walk, unpS, bindT, refs, argS, putBack, permA, outsOf, atI, ixN, tru, setJ, iscS, eqoS, eqoR, putX, popJ]
  · rw [decide_eq_false h]; exact beq_eq_false_iff_ne.2 h
/-! ### read back -/
theorem tlim {x : PySem.Str} (h : x.length ≤ 601) : x.length ≤ lim := by unfold lim; omega
theorem s_isint {fu n : Nat} {i : Int} (h : i.natAbs < 2 ^ 1900) : evF T fu (n + 1) "is_integer_text" [.val (.str (tx i))] = some (.bl true, []) := by
  have l1 := tlen h
  have o1 : opM .pre (.str (tx i)) [.str ("-" : PySem.Str)] = some (.str (tx (i.natAbs : Int))) := by
    show (if (tx i).length ≤ lim then some (D.str (Txt.removeprefix (tx i) "-")) else none) = _
    rw [if_pos (tlim l1), pre_tx]
  have o2 : opM .asc (.str (tx (i.natAbs : Int))) [] = some (.bl true) := by
    show some (D.bl (Txt.isascii _)) = _
    rw [asc_tx]
  have o3 : opM .dig (.str (tx (i.natAbs : Int))) [] = some (.bl true) := by
    show some (D.bl (Txt.isdigit _)) = _
    rw [dig_tx]
  have o4 : opM .stw (.str (tx (i.natAbs : Int))) [.str ("0" : PySem.Str)] = some (.bl (decide (i.natAbs = 0))) := by
    show some (D.bl (Txt.startswith _ _)) = _
    rw [stw_tx]
  rw [ev1 (dd := d_is_integer_text) (by kernel_rfl)]
  unfold d_is_integer_text
  by_cases z : i = 0
  · have e : tx i = ("0" : PySem.Str) := (tx_zero i).2 z
    simp [evE, evT, evL, evA, evO, evAr, evS, evD, putS, peek, mutS, setM, opB, opC, opF, opIx, opSl, walk, unpS, bindT, refs, argS, putBack, permA, outsOf, atI, ixN, tru, setJ, iscS, eqoS, eqoR, putX, popJ, o1, o2, o3, o4, dsh_str, deq_str, tru]
    simp [evE, evT, evL, evA, evO, evAr, evS, evD, putS, peek, mutS, setM, opB, opC, opF, opIx, opSl, walk, unpS, bindT, refs, argS, putBack, permA, outsOf, atI, ixN, tru, setJ, iscS, eqoS, eqoR, putX, popJ, e]
  · have e : ¬ tx i = ("0" : PySem.Str) := fun q => z ((tx_zero i).1 q)
    have e2 : ¬ i.natAbs = 0 := by omega
    simp [evE, evT, evL, evA, evO, evAr, evS, evD, putS, peek, mutS, setM, opB, opC, opF, opIx, opSl, walk, unpS, bindT, refs, argS, putBack, permA, outsOf, atI, ixN, tru, setJ, iscS, eqoS, eqoR, putX, popJ, o1, o2, o3, o4, dsh_str, deq_str, tru, e, e2]
    try simp [evE, evT, evL, evA, evO, evAr, evS, evD, putS, peek, mutS, setM, opB, opC, opF, opIx, opSl, walk, unpS, bindT, refs, argS, putBack, permA, outsOf, atI, ixN, tru, setJ, iscS, eqoS, eqoR, putX, popJ, z]
theorem part_ftx (q : Rat) : Txt.partition (ftx q) "/" = (tx q.num, if q.den = 1 then PySem.Str.empty else "/", if q.den = 1 then PySem.Str.empty else tx (q.den : Int)) := by
  have f : 47 ∉ tl (tx q.num) := by rw [tl_tx]; exact numI_free (by decide) (by decide)
  unfold ftx
  by_cases e : q.den = 1
  · rw [if_pos e, if_pos e, if_pos e, partition_none tl_slash f]
  · rw [if_neg e, if_neg e, if_neg e, partition_app tl_slash f]
theorem s_readf {fu n k : Nat} {q : Rat} (h : Bq k q) (hk : k ≤ 1900) : evF T fu (n + 3) "read_fraction" [.val (.str (ftx q))] = some (fr q, []) := by
  have h1 := nb h hk
  have h2 := db h hk
  have lf := ftx_len h hk
  have o1 : opM .part (.str (ftx q)) [.str ("/" : PySem.Str)] = some (.tup [.str (tx q.num), .str (if q.den = 1 then PySem.Str.empty else "/"), .str (if q.den = 1 then PySem.Str.empty else tx (q.den : Int))]) := by
    show (if _ ∧ (ftx q).length ≤ lim then _ else none) = _
    rw [if_pos ⟨by decide +kernel, by unfold lim; omega⟩, part_ftx]
  have i1 := s_isint (fu := fu) (n := n + 1) h1
  have i2 := s_isint (fu := fu) (n := n + 1) h2
  have fq := s_frac (fu := fu) (n := n) (q := q)
  rw [ev1 (dd := d_read_fraction) (by kernel_rfl)]
  unfold d_read_fraction
  by_cases e : q.den = 1
  · rw [if_pos e, if_pos e] at o1
    have e0 : PySem.Str.empty = ("" : PySem.Str) := by decide +kernel
    rw [e0] at o1
    simp [evE, evT, evL, evA, evO, evAr, evS, evD, putS, peek, mutS, setM, opB, opC, opIx, opSl, walk, unpS, bindT, refs, argS, putBack, permA, outsOf, atI, ixN, tru, setJ, iscS, eqoS, eqoR, putX, popJ, o1, i1, dsh_str, deq_str, ointx h1]
    unfold fr
    rw [e]
    rfl
  · rw [if_neg e, if_neg e] at o1
    have e0 : ¬ ("/" : PySem.Str) = ("" : PySem.Str) := by decide +kernel
    have e' : ¬ ((q.den : Int) = 1) := by omega
    unfold fr at fq ⊢
    have l2 : 2 ≤ lim := by decide
    simp [evE, evT, evL, evA, evO, evAr, evS, evD, putS, peek, mutS, setM, opB, opC, opIx, opSl, walk, unpS, bindT, refs, argS, putBack, permA, outsOf, atI, ixN, tru, setJ, iscS, eqoS, eqoR, putX, popJ, o1, i1, i2, e0, dsh_str, deq_str, dsh_int, deq_int, e', e, ointx h1, ointx h2, fq, l2]
theorem s_reada {fu n k : Nat} {q : Rat} (h : Bq k q) (hk : k ≤ 1900) (hq : 0 < q) : evF T fu (n + 4) "read_above_zero" [.val (.str (ftx q))] = some (fr q, []) := by
  have hn := numpos hq
  rw [ev1 (dd := d_read_above_zero) (by kernel_rfl)]
  unfold d_read_above_zero
  have r := s_readf (fu := fu) (n := n) h hk
  have hn' : ¬ q.num ≤ 0 := by omega
  unfold fr at r ⊢
  simp [evE, evT, evL, evA, evO, evAr, evS, evD, putS, peek, mutS, setM, opB, opC, opF, opIx, opSl, walk, unpS, bindT, refs, argS, putBack, permA, outsOf, atI, ixN, tru, setJ, iscS, eqoS, eqoR, putX, popJ, r, hn', hn]
/-! ### a comprehension that reads each item -/
/-! ### a flight's text -/
abbrev Ln := Bool × Rat
def wd (b : Bool) : PySem.Str := if b then "fly" else "turn"
def lnD (l : Ln) : D := .tup [.str (wd l.1), fr l.2]
def ltx (l : Ln) : PySem.Str := wd l.1 ++ " " ++ ftx l.2
def etx (u v : Rat) : PySem.Str := ftx u ++ " " ++ ftx v
def ftop (u v p : Rat) : PySem.Str := "flight " ++ etx u v ++ " " ++ ftx p
def fltx (u v p : Rat) (L : List Ln) : PySem.Str := Txt.join "\n" (ftop u v p :: L.map ltx)
theorem l_blank : (" " : PySem.Str).length = 1 := by rw [len_tl, tl_blank]; rfl
theorem l_fl : ("flight " : PySem.Str).length = 7 := by decide +kernel
theorem wd_len (b : Bool) : (wd b).length ≤ 4 := by cases b <;> decide +kernel
theorem etx_len {k : Nat} {u v : Rat} (h : Be k u v) (hk : k ≤ 1900) : (etx u v).length ≤ 2407 := by
  have h1 := ftx_len h.u hk
  have h2 := ftx_len h.v hk
  unfold etx
  rw [len_app, len_app, l_blank]; omega
theorem s_levtx {fu n k : Nat} {u v : Rat} (h : Be k u v) (hk : k ≤ 1900) : evF T fu (n + 2) "_law_event_text" [.val (ev u v)] = some (.str (etx u v), []) := by
  have t1 := s_lftext (fu := fu) (n := n) h.u hk
  have t2 := s_lftext (fu := fu) (n := n) h.v hk
  have h1 := ftx_len h.u hk
  have h2 := ftx_len h.v hk
  have a1 : opB .add (.str (ftx u)) (.str (" " : PySem.Str)) = some (.str (ftx u ++ " ")) := oadd (by rw [l_blank]; unfold lim; omega)
  have a2 : opB .add (.str (ftx u ++ " ")) (.str (ftx v)) = some (.str (ftx u ++ " " ++ ftx v)) := oadd (by rw [len_app, l_blank]; unfold lim; omega)
  rw [ev1 (dd := d__law_event_text) (by kernel_rfl)]
  unfold d__law_event_text ev etx
  generalize fr u = a at t1 ⊢
  generalize fr v = b at t2 ⊢
  simp [evE, evT, evL, evA, evO, evAr, evS, evD, putS, peek, mutS, setM, opC, opF, opIx, opSl, walk, unpS, bindT, refs, argS, putBack, permA, outsOf, atI, ixN, tru, setJ, iscS, eqoS, eqoR, putX, popJ, t1, t2, a1, a2]
theorem ltx_len {k : Nat} {l : Ln} (h : Bq k l.2) (hk : k ≤ 1900) : (ltx l).length ≤ 1208 := by
  have h1 := ftx_len h hk
  have h2 := wd_len l.1
  unfold ltx
  rw [len_app, len_app, l_blank]; omega
theorem ftop_len {k : Nat} {u v p : Rat} (h : Be k u v) (hp : Bq k p) (hk : k ≤ 1900) : (ftop u v p).length ≤ 3618 := by
  have h1 := etx_len h hk
  have h2 := ftx_len hp hk
  unfold ftop
  rw [len_app, len_app, len_app, l_blank, l_fl]; omega
theorem sum_le {ys : List PySem.Str} {m : Nat} (h : ∀ y ∈ ys, y.length ≤ m) : (ys.map (·.length)).sum ≤ ys.length * m := by
  induction ys with
  | nil => simp [evE, evT, evL, evA, evO, evAr, evS, evD, putS, peek, mutS, setM, opB, opC, opF, opIx, opSl, walk, unpS, bindT, refs, argS, putBack, permA, outsOf, atI, ixN, tru, setJ, iscS, eqoS, eqoR, putX, popJ]
  | cons y ys ih =>
    have h1 := h y List.mem_cons_self
    have h2 := ih fun z hz => h z (List.mem_cons_of_mem _ hz)
    rw [List.map_cons, List.sum_cons, List.length_cons, Nat.add_mul]
    omega
/-! ### signs that do not stand in it -/
theorem free_ftx {q : Rat} {s : Nat} (h : s ≠ 45) (h1 : s ≠ 47) (h2 : s < 48 ∨ 57 < s) : s ∉ tl (ftx q) := by
  unfold ftx
  split
  · rw [tl_tx]; exact numI_free h h2
  · rw [tl_append, tl_append, tl_slash, tl_tx, tl_tx]
    intro m
    rcases List.mem_append.1 m with m | m
    · rcases List.mem_append.1 m with m | m
      · exact numI_free h h2 m
      · exact h1 (by simpa using m)
    · exact numI_free h h2 m
theorem free_wd {b : Bool} {s : Nat} (h : s < 97) : s ∉ tl (wd b) := by
  cases b
  · have : tl (wd false) = [116, 117, 114, 110] := by decide +kernel
    rw [this]; intro m; simp [evE, evT, evL, evA, evO, evAr, evS, evD, putS, peek, mutS, setM, opB, opC, opF, opIx, opSl, walk, unpS, bindT, refs, argS, putBack, permA, outsOf, atI, ixN, tru, setJ, iscS, eqoS, eqoR, putX, popJ] at m; omega
  · have : tl (wd true) = [102, 108, 121] := by decide +kernel
    rw [this]; intro m; simp [evE, evT, evL, evA, evO, evAr, evS, evD, putS, peek, mutS, setM, opB, opC, opF, opIx, opSl, walk, unpS, bindT, refs, argS, putBack, permA, outsOf, atI, ixN, tru, setJ, iscS, eqoS, eqoR, putX, popJ] at m; omega
theorem free_ltx {l : Ln} : 10 ∉ tl (ltx l) := by
  unfold ltx
  rw [tl_append, tl_append, tl_blank]
  intro m
  rcases List.mem_append.1 m with m | m
  · rcases List.mem_append.1 m with m | m
    · exact free_wd (by decide) m
    · simp [evE, evT, evL, evA, evO, evAr, evS, evD, putS, peek, mutS, setM, opB, opC, opF, opIx, opSl, walk, unpS, bindT, refs, argS, putBack, permA, outsOf, atI, ixN, tru, setJ, iscS, eqoS, eqoR, putX, popJ] at m
  · exact free_ftx (by decide) (by decide) (by decide) m
theorem tl_flight : tl ("flight " : PySem.Str) = [102, 108, 105, 103, 104, 116, 32] := by decide +kernel
theorem tl_flight0 : tl ("flight" : PySem.Str) = [102, 108, 105, 103, 104, 116] := by decide +kernel
theorem free_ftop {u v p : Rat} : 10 ∉ tl (ftop u v p) := by
  unfold ftop etx
  rw [tl_append, tl_append, tl_append, tl_append, tl_append, tl_blank, tl_flight]
  intro m
  simp only [List.mem_append] at m
  rcases m with ((m | (m | m) | m) | m) | m
  · simp [evE, evT, evL, evA, evO, evAr, evS, evD, putS, peek, mutS, setM, opB, opC, opF, opIx, opSl, walk, unpS, bindT, refs, argS, putBack, permA, outsOf, atI, ixN, tru, setJ, iscS, eqoS, eqoR, putX, popJ] at m
  · exact free_ftx (by decide) (by decide) (by decide) m
  · simp [evE, evT, evL, evA, evO, evAr, evS, evD, putS, peek, mutS, setM, opB, opC, opF, opIx, opSl, walk, unpS, bindT, refs, argS, putBack, permA, outsOf, atI, ixN, tru, setJ, iscS, eqoS, eqoR, putX, popJ] at m
  · exact free_ftx (by decide) (by decide) (by decide) m
  · simp [evE, evT, evL, evA, evO, evAr, evS, evD, putS, peek, mutS, setM, opB, opC, opF, opIx, opSl, walk, unpS, bindT, refs, argS, putBack, permA, outsOf, atI, ixN, tru, setJ, iscS, eqoS, eqoR, putX, popJ] at m
  · exact free_ftx (by decide) (by decide) (by decide) m
theorem split_lines {u v p : Rat} {L : List Ln} : Txt.split (fltx u v p L) "\n" = ftop u v p :: L.map ltx := by
  unfold fltx
  refine split_join (s := 10) (S := []) tl_line (by decide +kernel) (by simp [evE, evT, evL, evA, evO, evAr, evS, evD, putS, peek, mutS, setM, opB, opC, opF, opIx, opSl, walk, unpS, bindT, refs, argS, putBack, permA, outsOf, atI, ixN, tru, setJ, iscS, eqoS, eqoR, putX, popJ]) ?_
  intro y hy
  rcases List.mem_cons.1 hy with rfl | hy
  · exact free_ftop
  · obtain ⟨l, _, rfl⟩ := List.mem_map.1 hy
    exact free_ltx
theorem ftop_join {u v p : Rat} : ftop u v p = Txt.join " " (["flight", ftx u, ftx v, ftx p] : List PySem.Str) := by
  apply tl_inj
  rw [join_eq, tl_join]
  unfold ftop etx
  rw [tl_append, tl_append, tl_append, tl_append, tl_append, tl_blank, tl_flight]
  show _ = joinL [32] [tl ("flight" : PySem.Str), tl (ftx u), tl (ftx v), tl (ftx p)]
  rw [tl_flight0]
  simp [evE, evT, evL, evA, evO, evAr, evS, evD, putS, peek, mutS, setM, opB, opC, opF, opIx, opSl, walk, unpS, bindT, refs, argS, putBack, permA, outsOf, atI, ixN, tru, setJ, iscS, eqoS, eqoR, putX, popJ, joinL]
theorem split_top {u v p : Rat} : Txt.split (ftop u v p) " " = (["flight", ftx u, ftx v, ftx p] : List PySem.Str) := by
  rw [ftop_join]
  refine split_join (s := 32) (S := []) tl_blank (by decide +kernel) (by simp [evE, evT, evL, evA, evO, evAr, evS, evD, putS, peek, mutS, setM, opB, opC, opF, opIx, opSl, walk, unpS, bindT, refs, argS, putBack, permA, outsOf, atI, ixN, tru, setJ, iscS, eqoS, eqoR, putX, popJ]) ?_
  intro y hy
  simp only [List.mem_cons, List.not_mem_nil, or_false] at hy
  rcases hy with rfl | rfl | rfl | rfl
  · rw [tl_flight0]; decide
  · exact free_ftx (by decide) (by decide) (by decide)
  · exact free_ftx (by decide) (by decide) (by decide)
  · exact free_ftx (by decide) (by decide) (by decide)
theorem part_line {l : Ln} : Txt.partition (ltx l) " " = (wd l.1, (" " : PySem.Str), ftx l.2) := by
  unfold ltx
  exact partition_app tl_blank (free_wd (by decide))
theorem joinL_len (S : List Nat) : ∀ L : List (List Nat), (joinL S L).length ≤ (L.map (·.length)).sum + L.length * S.length
  | [] => by simp [evE, evT, evL, evA, evO, evAr, evS, evD, putS, peek, mutS, setM, opB, opC, opF, opIx, opSl, walk, unpS, bindT, refs, argS, putBack, permA, outsOf, atI, ixN, tru, setJ, iscS, eqoS, eqoR, putX, popJ, joinL]
  | [x] => by simp [evE, evT, evL, evA, evO, evAr, evS, evD, putS, peek, mutS, setM, opB, opC, opF, opIx, opSl, walk, unpS, bindT, refs, argS, putBack, permA, outsOf, atI, ixN, tru, setJ, iscS, eqoS, eqoR, putX, popJ, joinL]
  | x :: y :: r => by
    have := joinL_len S (y :: r)
    show (x ++ (S ++ joinL S (y :: r))).length ≤ _
    rw [List.length_append, List.length_append, List.map_cons, List.sum_cons, List.length_cons, Nat.add_mul]
    omega
theorem fltx_len {k : Nat} {u v p : Rat} {L : List Ln} (h : Be k u v) (hp : Bq k p) (hL : ∀ l ∈ L, Bq k l.2) (hl : L.length ≤ 100) (hk : k ≤ 1900) : (fltx u v p L).length ≤ 370000 := by
  unfold fltx
  rw [join_eq, len_tl, tl_join, tl_line]
  have a := joinL_len [10] ((ftop u v p :: L.map ltx).map tl)
  have b := sum_le (ys := ftop u v p :: L.map ltx) (m := 3618) (by
    intro y hy
    rcases List.mem_cons.1 hy with rfl | hy
    · exact ftop_len h hp hk
    · obtain ⟨l, hl, rfl⟩ := List.mem_map.1 hy
      have := ltx_len (hL l hl) hk
      omega)
  have e : (((ftop u v p :: L.map ltx).map tl).map (·.length)) = (ftop u v p :: L.map ltx).map (·.length) := by
    rw [List.map_map]
    refine List.map_congr_left fun y _ => ?_
    exact (len_tl y).symm
  rw [e, List.length_map] at a
  rw [List.length_cons, List.length_map] at a b
  have c : (L.length + 1) * 3618 ≤ 101 * 3618 := Nat.mul_le_mul_right _ (by omega)
  have d : (L.length + 1) * ([10] : List Nat).length = L.length + 1 := by simp [evE, evT, evL, evA, evO, evAr, evS, evD, putS, peek, mutS, setM, opB, opC, opF, opIx, opSl, walk, unpS, bindT, refs, argS, putBack, permA, outsOf, atI, ixN, tru, setJ, iscS, eqoS, eqoR, putX, popJ]
  rw [d] at a
  omega
theorem s_first {fu n k : Nat} {u v p : Rat} (h : Be k u v) (hp : Bq k p) (p0 : 0 < p) (hk : k ≤ 1900) : evF T fu (n + 5) "read_first" [.val (.str (ftop u v p))] = some (.tup [ev u v, fr p], []) := by
  have t1 := s_readf (fu := fu) (n := n + 1) h.u hk
  have t2 := s_readf (fu := fu) (n := n + 1) h.v hk
  have t3 := s_reada (fu := fu) (n := n) hp hk p0
  have l1 := ftop_len h hp hk
  have o1 : opM .split (.str (ftop u v p)) [.str (" " : PySem.Str)] = some (.lst [.str "flight", .str (ftx u), .str (ftx v), .str (ftx p)]) := by
    show (if _ ∧ (ftop u v p).length + 2 ≤ lim then _ else none) = _
    rw [if_pos ⟨by decide +kernel, by unfold lim; omega⟩, split_top]
    rfl
  rw [ev1 (dd := d_read_first) (by kernel_rfl)]
  unfold d_read_first ev
  unfold fr at t1 t2 t3 ⊢
  simp [evE, evT, evL, evA, evO, evAr, evS, evD, putS, peek, mutS, setM, opB, opC, opF, opIx, opSl, walk, unpS, bindT, refs, argS, putBack, permA, outsOf, atI, ixN, tru, setJ, iscS, eqoS, eqoR, putX, popJ, o1, t1, t2, t3, dsh_str, deq_str, dsh_int, deq_int, show 2 ≤ lim by decide]
theorem s_step {fu n k : Nat} {l : Ln} (h : Bq k l.2) (h0 : 0 < l.2) (hk : k ≤ 1900) : evF T fu (n + 5) "read_step" [.val (.str (ltx l))] = some (lnD l, []) := by
  have t1 := s_reada (fu := fu) (n := n) h hk h0
  have l1 := ltx_len h hk
  have o1 : opM .part (.str (ltx l)) [.str (" " : PySem.Str)] = some (.tup [.str (wd l.1), .str " ", .str (ftx l.2)]) := by
    show (if _ ∧ (ltx l).length ≤ lim then _ else none) = _
    rw [if_pos ⟨by decide +kernel, by unfold lim; omega⟩, part_line]
  rw [ev1 (dd := d_read_step) (by kernel_rfl)]
  unfold d_read_step lnD
  unfold fr at t1 ⊢
  obtain ⟨b, q⟩ := l
  cases b
  · simp [evE, evT, evL, evA, evO, evAr, evS, evD, putS, peek, mutS, setM, opB, opC, opF, opIx, opSl, walk, unpS, bindT, refs, argS, putBack, permA, outsOf, atI, ixN, tru, setJ, iscS, eqoS, eqoR, putX, popJ, o1, t1, dsh_str, deq_str, wd, show 2 ≤ lim by decide, show nobL [D.str "fly", D.str "turn"] = true from rfl, show dsh (.tup [D.str "fly", D.str "turn"]) = true from rfl]
  · simp [evE, evT, evL, evA, evO, evAr, evS, evD, putS, peek, mutS, setM, opB, opC, opF, opIx, opSl, walk, unpS, bindT, refs, argS, putBack, permA, outsOf, atI, ixN, tru, setJ, iscS, eqoS, eqoR, putX, popJ, o1, t1, dsh_str, deq_str, wd, show 2 ≤ lim by decide, show nobL [D.str "fly", D.str "turn"] = true from rfl, show dsh (.tup [D.str "fly", D.str "turn"]) = true from rfl]
theorem ks {x : PySem.Str} : kitB (tyOf (.str x)) "str" = some true := by show kitB "str" "str" = some true; decide +kernel
theorem atI_nat {α : Type} {xs : List α} {i : Nat} {x : α} (h : xs[i]? = some x) : atI xs (i : Int) = some x := by
  have hl := (List.getElem?_eq_some_iff.1 h).1
  unfold atI ixN
  rw [if_pos (by omega), if_pos (by omega)]
  simpa using h
theorem ixl0 {x : D} {r : List D} : opIx (.lst (x :: r)) (.int 0) = some x := by
  show atI (x :: r) ((0 : Nat) : Int) = some x
  exact atI_nat rfl
theorem ixt0 {x : D} {r : List D} : opIx (.tup (x :: r)) (.int 0) = some x := by
  show atI (x :: r) ((0 : Nat) : Int) = some x
  exact atI_nat rfl
theorem ixt1 {x y : D} {r : List D} : opIx (.tup (x :: y :: r)) (.int 1) = some y := by
  show atI (x :: y :: r) ((1 : Nat) : Int) = some y
  exact atI_nat rfl
theorem slc1 {x : D} {r : List D} : opSl (.lst (x :: r)) (some 1) none = some (.lst r) := by
  show some (D.lst (cutD (x :: r) (some 1) none)) = _
  congr 2
  unfold cutD
  have e1 : HT.sIx (x :: r).length 0 (some 1) = 1 := by
    unfold HT.sIx
    simp [evE, evT, evL, evA, evO, evAr, evS, evD, putS, peek, mutS, setM, opB, opC, opF, opIx, opSl, walk, unpS, bindT, refs, argS, putBack, permA, outsOf, atI, ixN, tru, setJ, iscS, eqoS, eqoR, putX, popJ]
  have e2 : HT.sIx (x :: r).length (x :: r).length none = (x :: r).length := rfl
  rw [e1, e2]
  show (r).take ((x :: r).length - 1) = r
  rw [List.length_cons, Nat.add_sub_cancel]
  exact List.take_length
/-- a slot that may be stored in -/
def Fre (o : Option Sl) : Prop := o = none ∨ ∃ d, o = some (.val d)
theorem s_readfl {fu n k : Nat} {u v p : Rat} {L : List Ln} (h : Be k u v) (hp : Bq k p) (p0 : 0 < p) (hL : ∀ l ∈ L, Bq k l.2 ∧ 0 < l.2) (hl : L.length ≤ 100) (hk : k ≤ 1900) :
    evF T fu (n + 6) "read_flight" [.val (.str (fltx u v p L))] = some (.tup [ev u v, fr p, .tup (L.map lnD)], []) := by
  have l1 := fltx_len h hp (fun l m => (hL l m).1) hl hk
  have o1 : opM .split (.str (fltx u v p L)) [.str ("\n" : PySem.Str)] = some (.lst (.str (ftop u v p) :: L.map fun l => D.str (ltx l))) := by
    show (if _ ∧ (fltx u v p L).length + 2 ≤ lim then _ else none) = _
    rw [if_pos ⟨by decide +kernel, by unfold lim; omega⟩, split_lines, List.map_cons, List.map_map]
    rfl
  have t1 := s_first (fu := fu) (n := n) h hp p0 hk
  rw [ev1 (dd := d_read_flight) (by kernel_rfl)]
  unfold d_read_flight
  obtain ⟨B, hB⟩ : ∃ B, B = Sm.seq (.asg 6 (.call "read_step" [0] (.cons (.tval (.var 5)) .nil))) (.seq (.iff (.tval (.cmp .is (.var 6) (.con .non))) (.seq .never .nil) .nil) (.seq (.app 3 (.var 6)) .nil)) := ⟨_, rfl⟩
  rw [← hB]
  have loop : ∀ (M : List Ln) (c : Nat) (acc : List D) (x0 x1 x2 : D) (e4 e5 e6 : Option Sl), (∀ l ∈ M, Bq k l.2 ∧ 0 < l.2) → acc.length + M.length ≤ 1000 → Fre e4 → Fre e5 → Fre e6 →
      ∃ f4 f5 f6, forL (.many [4, 5]) (fun e => evS (evF T fu (n + 5)) fu B e) (enu c (M.map fun l => D.str (ltx l))) [some (.val x0), some (.val x1), some (.val x2), some (.own acc), e4, e5, e6] = some (.nx, [some (.val x0), some (.val x1), some (.val x2), some (.own (acc ++ M.map lnD)), f4, f5, f6]) := by
    intro M
    induction M with
    | nil => intro c acc x0 x1 x2 e4 e5 e6 _ _ _ _ _; exact ⟨e4, e5, e6, by simp [evE, evT, evL, evA, evO, evAr, evS, evD, putS, peek, mutS, setM, opB, opC, opF, opIx, opSl, walk, unpS, bindT, refs, argS, putBack, permA, outsOf, atI, ixN, tru, setJ, iscS, eqoS, eqoR, putX, popJ, enu, forL]⟩
    | cons l M ih =>
      intro c acc x0 x1 x2 e4 e5 e6 hM ha h4 h5 h6
      have hl1 := hM l List.mem_cons_self
      have t2 := s_step (fu := fu) (n := n) (l := l) hl1.1 hl1.2 hk
      have step : evS (evF T fu (n + 5)) fu B [some (.val x0), some (.val x1), some (.val x2), some (.own acc), some (.val (.int (c : Int))), some (.val (.str (ltx l))), e6] = some (.nx, [some (.val x0), some (.val x1), some (.val x2), some (.own (acc ++ [lnD l])), some (.val (.int (c : Int))), some (.val (.str (ltx l))), some (.val (lnD l))]) := by
        rw [hB]
        have hlm : acc.length < lim := by rw [List.length_cons] at ha; unfold lim; omega
        generalize ltx l = y at t2 ⊢
        unfold lnD at t2 ⊢
        rcases h6 with rfl | ⟨d, rfl⟩ <;> simp [evE, evT, evL, evA, evO, evAr, evS, evD, putS, peek, mutS, setM, opB, opC, opF, opIx, opSl, walk, unpS, bindT, refs, argS, putBack, permA, outsOf, atI, ixN, tru, setJ, iscS, eqoS, eqoR, putX, popJ, t2, hlm]
      obtain ⟨f4, f5, f6, ih⟩ := ih (c + 1) (acc ++ [lnD l]) x0 x1 x2 (some (.val (.int (c : Int)))) (some (.val (.str (ltx l)))) (some (.val (lnD l))) (fun z m => hM z (List.mem_cons_of_mem _ m)) (by rw [List.length_append, List.length_cons, List.length_nil]; rw [List.length_cons] at ha; omega) (.inr ⟨_, rfl⟩) (.inr ⟨_, rfl⟩) (.inr ⟨_, rfl⟩)
      refine ⟨f4, f5, f6, ?_⟩
      rw [List.map_cons]
      show (do
        let e1 ← bindT (.many [4, 5]) (.tup [.int (c : Int), .str (ltx l)]) _
        let (f, e2) ← evS (evF T fu (n + 5)) fu B e1
        match f with
        | .nx => forL (.many [4, 5]) (fun e => evS (evF T fu (n + 5)) fu B e) (enu (c + 1) (M.map fun l => D.str (ltx l))) e2
        | .ct => forL (.many [4, 5]) (fun e => evS (evF T fu (n + 5)) fu B e) (enu (c + 1) (M.map fun l => D.str (ltx l))) e2
        | .bk => some (.nx, e2)
        | .rt d => some (.rt d, e2)) = _
      have b1 : bindT (.many [4, 5]) (.tup [.int (c : Int), .str (ltx l)]) [some (.val x0), some (.val x1), some (.val x2), some (.own acc), e4, e5, e6] = some [some (.val x0), some (.val x1), some (.val x2), some (.own acc), some (.val (.int (c : Int))), some (.val (.str (ltx l))), e6] := by
        rcases h4 with rfl | ⟨d, rfl⟩ <;> rcases h5 with rfl | ⟨d', rfl⟩ <;> rfl
      simp only [b1, step, ih, Option.bind_some, Option.bind_eq_bind, List.append_assoc]
      rfl
  obtain ⟨f4, f5, f6, lp⟩ := loop L 2 [] (.str (fltx u v p L)) (.lst (.str (ftop u v p) :: L.map fun l => D.str (ltx l))) (.tup [ev u v, fr p]) none none none hL (by simp [evE, evT, evL, evA, evO, evAr, evS, evD, putS, peek, mutS, setM, opB, opC, opF, opIx, opSl, walk, unpS, bindT, refs, argS, putBack, permA, outsOf, atI, ixN, tru, setJ, iscS, eqoS, eqoR, putX, popJ]; omega) (.inl rfl) (.inl rfl) (.inl rfl)
  have hen : (enu 2 (L.map fun l => D.str (ltx l))).length ≤ lim := by rw [enu_len, List.length_map]; unfold lim; omega
  clear loop hB l1
  generalize hE : enu 2 (L.map fun l => D.str (ltx l)) = EE at lp hen ⊢
  generalize hT : (L.map fun l => D.str (ltx l)) = TT at o1 lp hE ⊢
  generalize fltx u v p L = x0 at o1 lp ⊢
  generalize ftop u v p = tt at t1 o1 lp ⊢
  generalize ev u v = ee at t1 lp ⊢
  generalize fr p = pp at t1 lp ⊢
  generalize L.map lnD = LL at lp ⊢
  simp [evE, evT, evL, evA, evO, evAr, evS, evD, putS, peek, mutS, setM, opB, opC, opF, walk, unpS, bindT, refs, argS, putBack, permA, outsOf, atI, ixN, tru, setJ, iscS, eqoS, eqoR, putX, popJ, ks, o1, t1, ixl0, ixt0, ixt1, slc1, hE, hen, lp, show 3 ≤ lim by decide]
/-! ### where pieces begin -/
structure Stp where
  t : Rat
  u : Rat
  v : Rat
  p : Rat
def stD (s : Stp) : D := .tup [fr s.t, ev s.u s.v, fr s.p]
/-- the stops of a flight: where each piece begins, and the end -/
def stp (t u v p : Rat) : List Ln → List Stp
  | [] => [⟨t, u, v, p⟩]
  | (false, w) :: L => stp t u v (p * w) L
  | (true, w) :: L => ⟨t, u, v, p⟩ :: stp (t + w) (u + p * w) (v + w / p) p L
/-- sizes that stay small enough -/
structure Szs (P T E Pm m : Nat) : Prop where
  p : P + 8 * m ≤ Pm
  pm : Pm ≤ 1800
  t : T + 9 * m ≤ 1900
  e : E + m * (Pm + 9) ≤ 1900
theorem Szs.turn {P T E Pm m : Nat} (h : Szs P T E Pm (m + 1)) : Szs (P + 8) T E Pm m := ⟨by have := h.p; omega, h.pm, by have := h.t; omega, by have := h.e; rw [Nat.add_mul] at this; omega⟩
theorem Szs.fly {P T E Pm m : Nat} (h : Szs P T E Pm (m + 1)) : Szs P (T + 9) (E + (Pm + 9)) Pm m := ⟨by have := h.p; omega, h.pm, by have := h.t; omega, by have := h.e; rw [Nat.add_mul] at this; omega⟩
theorem s_flown {fu n a b c : Nat} {u v p w : Rat} (h : Be a u v) (hp : Bq b p) (hw : Bq c w) (p0 : 0 < p) (ha : a ≤ 2000) (hb : b + c ≤ 2000) : evF T fu (n + 3) "flown" [.val (ev u v), .val (fr p), .val (fr w)] = some (ev (u + p * w) (v + w / p), []) := by
  have m1 := s_multiplied (fu := fu) (n := n) (hp.le (by omega : b ≤ 2000)) (hw.le (by omega : c ≤ 2000))
  have m2 := s_divided (fu := fu) (n := n) (hw.le (by omega : c ≤ 2000)) (hp.le (by omega : b ≤ 2000)) p0
  have b1 : Bq 2000 (p * w) := (hp.mul hw).le hb
  have b2 : Bq 2000 (w / p) := (hw.div hp p0).le (by omega)
  have a1 := s_added (fu := fu) (n := n) (h.u.le ha) b1
  have a2 := s_added (fu := fu) (n := n) (h.v.le ha) b2
  rw [ev1 (dd := d_flown) (by kernel_rfl)]
  unfold d_flown ev
  generalize fr (p * w) = x1 at m1 a1
  generalize fr (w / p) = x2 at m2 a2
  generalize fr (u + p * w) = y1 at a1 ⊢
  generalize fr (v + w / p) = y2 at a2 ⊢
  generalize fr p = pp at m1 m2 ⊢
  generalize fr w = ww at m1 m2 ⊢
  generalize fr u = uu at a1 ⊢
  generalize fr v = vv at a2 ⊢
  simp [evE, evT, evL, evA, evO, evAr, evS, evD, putS, peek, mutS, setM, opB, opC, opF, opSl, walk, unpS, bindT, refs, argS, putBack, permA, outsOf, atI, ixN, tru, setJ, iscS, eqoS, eqoR, putX, popJ, ixt0, ixt1, m1, m2, a1, a2, show 2 ≤ lim by decide]
structure Sto (s : Stp) : Prop where
  t : Bq 1900 s.t
  e : Be 1900 s.u s.v
  p : Bq 1800 s.p
  p0 : 0 < s.p
theorem stp_sto {Pm : Nat} : ∀ {L : List Ln} {P T E : Nat} {t u v p : Rat}, Bq T t → Be E u v → Bq P p → 0 < p → (∀ l ∈ L, Bq 8 l.2 ∧ 0 < l.2) → Szs P T E Pm L.length → ∀ s ∈ stp t u v p L, Sto s
  | [], P, T, E, t, u, v, p, ht, he, hp, p0, _, hs, s, hm => by
    have h1 := hs.p; have h2 := hs.pm; have h3 := hs.t; have h4 := hs.e
    simp only [List.length_nil] at h1 h3 h4
    rw [show s = ⟨t, u, v, p⟩ from by simpa [stp] using hm]
    exact ⟨ht.le (by omega), he.le (by omega), hp.le (by omega), p0⟩
  | (false, w) :: L, P, T, E, t, u, v, p, ht, he, hp, p0, hL, hs, s, hm => by
    obtain ⟨hw, w0⟩ : Bq 8 w ∧ 0 < w := hL _ List.mem_cons_self
    exact stp_sto ht he (hp.mul hw) (Rat.mul_pos p0 w0) (fun z m => hL z (List.mem_cons_of_mem _ m)) hs.turn s hm
  | (true, w) :: L, P, T, E, t, u, v, p, ht, he, hp, p0, hL, hs, s, hm => by
    obtain ⟨hw, w0⟩ : Bq 8 w ∧ 0 < w := hL _ List.mem_cons_self
    have h1 := hs.p; have h2 := hs.pm; have h3 := hs.t; have h4 := hs.e
    rw [List.length_cons] at h1 h3 h4
    rw [Nat.add_mul] at h4
    rcases List.mem_cons.1 (show s ∈ (⟨t, u, v, p⟩ : Stp) :: stp (t + w) (u + p * w) (v + w / p) p L from hm) with rfl | hm
    · exact ⟨ht.le (by omega), he.le (by omega), hp.le (by omega), p0⟩
    · have be : Be (E + (Pm + 9)) (u + p * w) (v + w / p) := ⟨(he.u.add (hp.mul hw)).le (by omega), (he.v.add (hw.div hp p0)).le (by omega)⟩
      exact stp_sto ((ht.add hw).le (by omega : _ ≤ T + 9)) be hp p0 (fun z m => hL z (List.mem_cons_of_mem _ m)) hs.fly s hm
theorem stp_cons : ∀ (L : List Ln) (t u v p : Rat), ∃ q r, stp t u v p L = ⟨t, u, v, q⟩ :: r
  | [], t, u, v, p => ⟨p, [], rfl⟩
  | (false, w) :: L, t, u, v, p => stp_cons L t u v (p * w)
  | (true, w) :: L, t, u, v, p => ⟨p, _, rfl⟩
/-- the pieces: pace and time -/
def pcs (p : Rat) : List Ln → List (Rat × Rat)
  | [] => []
  | (false, w) :: L => pcs (p * w) L
  | (true, w) :: L => (p, w) :: pcs p L
theorem pcs_stp : ∀ (L : List Ln) (t u v p : Rat), ((stp t u v p L).zip (stp t u v p L).tail).map (fun z => (z.1.p, z.2.t - z.1.t)) = pcs p L
  | [], t, u, v, p => rfl
  | (false, w) :: L, t, u, v, p => pcs_stp L t u v (p * w)
  | (true, w) :: L, t, u, v, p => by
    have ih := pcs_stp L (t + w) (u + p * w) (v + w / p) p
    obtain ⟨q, r, e⟩ := stp_cons L (t + w) (u + p * w) (v + w / p) p
    show (((⟨t, u, v, p⟩ : Stp) :: stp (t + w) (u + p * w) (v + w / p) p L).zip (stp (t + w) (u + p * w) (v + w / p) p L)).map _ = (p, w) :: pcs p L
    rw [← ih, e]
    rw [List.zip_cons_cons, List.map_cons]
    congr 1
    show (p, t + w - t) = (p, w)
    congr 1
    grind
def pcD (z : Rat × Rat) : D := .tup [fr z.1, fr z.2]
theorem slt1 {x : D} {r : List D} : opSl (.tup (x :: r)) (some 1) none = some (.tup r) := by
  have := slc1 (x := x) (r := r)
  have h : some (D.lst (cutD (x :: r) (some 1) none)) = some (D.lst r) := this
  show some (D.tup (cutD (x :: r) (some 1) none)) = _
  cases h1 : cutD (x :: r) (some 1) none with
  | nil => rw [h1] at h; cases h; rfl
  | cons a b => rw [h1] at h; cases h; rfl
theorem ixt2 {x y z : D} {r : List D} : opIx (.tup (x :: y :: z :: r)) (.int 2) = some z := by
  show atI (x :: y :: z :: r) ((2 : Nat) : Int) = some z
  exact atI_nat rfl
theorem s_pieces {fu n : Nat} {S : List Stp} (hS : ∀ s ∈ S, Sto s) (hne : S ≠ []) (hl : S.length ≤ 200) :
    evF T fu (n + 3) "pieces_of" [.val (.tup (S.map stD))] = some (.tup (((S.zip S.tail).map (fun z => (z.1.p, z.2.t - z.1.t))).map pcD), []) := by
  have c1 : ∀ {e2 : Mn.Env}, e2 = [some (.val (.tup (S.map stD))), none, none] →
      compL (fun e => evE (evF T fu (n + 2)) (.tup (.cons (.ix (.var 1) (.con (.int 2))) (.cons (.call "subtracted" [0, 1] (.cons (.tval (.ix (.var 2) (.con (.int 0)))) (.cons (.tval (.ix (.var 1) (.con (.int 0)))) .nil))) .nil))) e) (fun e => evT (evF T fu (n + 2)) .tyes e) (.many [1, 2]) [1, 2] ((S.zip S.tail).map fun z => D.tup [stD z.1, stD z.2]) e2 = some (((S.zip S.tail).map (fun z => (z.1.p, z.2.t - z.1.t))).map pcD, e2) := by
    intro e2 he
    have : ∀ Z : List (Stp × Stp), (∀ z ∈ Z, Sto z.1 ∧ Sto z.2) → compL (fun e => evE (evF T fu (n + 2)) (.tup (.cons (.ix (.var 1) (.con (.int 2))) (.cons (.call "subtracted" [0, 1] (.cons (.tval (.ix (.var 2) (.con (.int 0)))) (.cons (.tval (.ix (.var 1) (.con (.int 0)))) .nil))) .nil))) e) (fun e => evT (evF T fu (n + 2)) .tyes e) (.many [1, 2]) [1, 2] (Z.map fun z => D.tup [stD z.1, stD z.2]) e2 = some ((Z.map (fun z => (z.1.p, z.2.t - z.1.t))).map pcD, e2) := by
      intro Z
      induction Z with
      | nil => intro _; rfl
      | cons z Z ih =>
        intro hZ
        have ih := ih fun y m => hZ y (List.mem_cons_of_mem _ m)
        obtain ⟨h1, h2⟩ := hZ z List.mem_cons_self
        have m1 := s_subtracted (fu := fu) (n := n) (h2.t.le (by omega : 1900 ≤ 2000)) (h1.t.le (by omega : 1900 ≤ 2000))
        have el : evE (evF T fu (n + 2)) (.tup (.cons (.ix (.var 1) (.con (.int 2))) (.cons (.call "subtracted" [0, 1] (.cons (.tval (.ix (.var 2) (.con (.int 0)))) (.cons (.tval (.ix (.var 1) (.con (.int 0)))) .nil))) .nil))) [some (.val (.tup (S.map stD))), some (.val (stD z.1)), some (.val (stD z.2))] = some (pcD (z.1.p, z.2.t - z.1.t), [some (.val (.tup (S.map stD))), some (.val (stD z.1)), some (.val (stD z.2))]) := by
          unfold stD pcD
          generalize fr (z.2.t - z.1.t) = q at m1 ⊢
          generalize fr z.2.t = a at m1 ⊢
          generalize fr z.1.t = b at m1 ⊢
          generalize fr z.1.p = c
          simp [evE, evT, evL, evA, evO, evAr, evS, evD, putS, peek, mutS, setM, opB, opC, opF, opSl, walk, unpS, bindT, refs, argS, putBack, permA, outsOf, atI, ixN, tru, setJ, iscS, eqoS, eqoR, putX, popJ, ixt0, ixt2, m1, show 2 ≤ lim by decide]
        subst he
        rw [List.map_cons]
        unfold compL
        rw [show bindT (.many [1, 2]) (D.tup [stD z.1, stD z.2]) (wipeE [some (.val (.tup (S.map stD))), none, none] [1, 2]) = some [some (.val (.tup (S.map stD))), some (.val (stD z.1)), some (.val (stD z.2))] from rfl]
        simp only [Option.bind_some, Option.bind_eq_bind]
        rw [show evT (evF T fu (n + 2)) .tyes [some (.val (.tup (S.map stD))), some (.val (stD z.1)), some (.val (stD z.2))] = some (true, [some (.val (.tup (S.map stD))), some (.val (stD z.1)), some (.val (stD z.2))]) from rfl]
        simp only [Option.bind_some, if_true, el]
        rw [show backE [some (.val (.tup (S.map stD))), none, none] [some (.val (.tup (S.map stD))), some (.val (stD z.1)), some (.val (stD z.2))] [1, 2] = [some (.val (.tup (S.map stD))), none, none] from rfl]
        rw [ih]
        rfl
    exact this _ fun z hz => by
      obtain ⟨a, b⟩ := z
      have h1 := (List.of_mem_zip hz)
      exact ⟨hS _ h1.1, hS _ (List.mem_of_mem_tail h1.2)⟩
  have c2 := c1 rfl
  have w1 : walk .zip [.tup (S.map stD), .tup ((S.map stD).tail)] = some ((S.zip S.tail).map fun z => D.tup [stD z.1, stD z.2]) := by
    show some (((S.map stD).zip (S.map stD).tail).map fun p => D.tup [p.1, p.2]) = _
    rw [← List.map_tail, List.zip_map, List.map_map]
    rfl
  have hlen : ((S.zip S.tail).map fun z => D.tup [stD z.1, stD z.2]).length ≤ lim := by
    rw [List.length_map, List.length_zip]; unfold lim; omega
  have o1 : opSl (.tup (S.map stD)) (some 1) none = some (.tup (S.map stD).tail) := by
    cases hc : S with
    | nil => exact absurd hc hne
    | cons a b => exact slt1
  rw [ev1 (dd := d_pieces_of) (by kernel_rfl)]
  unfold d_pieces_of
  obtain ⟨CC, hCC⟩ : ∃ C, C = Ex.comp .zip (.cons (.var 0) (.cons (.slc (.var 0) (.tval (.con (.int 1))) .nil) .nil)) (.many [1, 2]) .tyes (.tup (.cons (.ix (.var 1) (.con (.int 2))) (.cons (.call "subtracted" [0, 1] (.cons (.tval (.ix (.var 2) (.con (.int 0)))) (.cons (.tval (.ix (.var 1) (.con (.int 0)))) .nil))) .nil))) [1, 2] := ⟨_, rfl⟩
  generalize S.map stD = SS at c2 w1 o1 ⊢
  have c3 : evE (evF T fu (n + 2)) CC [some (Sl.val (.tup SS)), none, none] = some (.lst (((S.zip S.tail).map (fun z => (z.1.p, z.2.t - z.1.t))).map pcD), [some (Sl.val (.tup SS)), none, none]) := by
    rw [hCC, evE]
    rw [show evL (evF T fu (n + 2)) (.cons (.var 0) (.cons (.slc (.var 0) (.tval (.con (.int 1))) .nil) .nil)) [some (Sl.val (.tup SS)), none, none] = some ([.tup SS, .tup SS.tail], [some (Sl.val (.tup SS)), none, none]) by simp [evE, evT, evL, evA, evO, evAr, evS, evD, putS, peek, mutS, setM, opB, opC, opF, opIx, walk, unpS, bindT, refs, argS, putBack, permA, outsOf, atI, ixN, tru, setJ, iscS, eqoS, eqoR, putX, popJ, o1]]
    simp only [Option.bind_eq_bind, Option.bind_some, w1]
    rw [if_pos (by rw [Bool.and_eq_true]; exact ⟨by simpa using hlen, rfl⟩), c2]
    rfl
  rw [← hCC]
  clear hCC c2 c1
  simp [evE, evT, evL, evA, evO, evAr, evS, evD, putS, peek, mutS, setM, opB, opC, opF, opIx, opSl, walk, unpS, bindT, refs, argS, putBack, permA, outsOf, atI, ixN, tru, setJ, iscS, eqoS, eqoR, putX, popJ, c3]
theorem ofs_inj {a b : String} : (PySem.Str.ofString a = PySem.Str.ofString b) ↔ a = b := by
  constructor
  · intro h
    have e := congrArg (fun x : PySem.Str => tl x) h
    simp only [tl_ofString] at e
    have e2 : a.toList = b.toList := by
      refine (List.map_inj_right ?_).1 e
      intro x y hxy
      exact Char.toNat_inj.1 hxy
    exact String.toList_inj.1 e2
  · intro h; rw [h]
/-- the fields of a flight -/
def fks : List PySem.Str := ["text", "start", "pace", "steps", "stops", "pieces", "whole", "goal"]
def flX (u v p : Rat) (L : List Ln) (e : Stp) : List D := [.str (fltx u v p L), ev u v, fr p, .tup (L.map lnD), .tup ((stp 0 u v p L).map stD), .tup ((pcs p L).map pcD), fr e.t, ev e.u e.v]
def flO (u v p : Rat) (L : List Ln) (e : Stp) : D := .obj "Flight" fks (flX u v p L e)
/-- the end of a flight -/
def lastS (t u v p : Rat) : List Ln → Stp
  | [] => ⟨t, u, v, p⟩
  | (false, w) :: L => lastS t u v (p * w) L
  | (true, w) :: L => lastS (t + w) (u + p * w) (v + w / p) p L
theorem stp_last : ∀ (L : List Ln) (t u v p : Rat), ∃ S, stp t u v p L = S ++ [lastS t u v p L] ∧ S.length ≤ L.length
  | [], t, u, v, p => ⟨[], rfl, Nat.le_refl _⟩
  | (false, w) :: L, t, u, v, p => let ⟨S, h, l⟩ := stp_last L t u v (p * w); ⟨S, h, Nat.le_succ_of_le l⟩
  | (true, w) :: L, t, u, v, p => let ⟨S, h, l⟩ := stp_last L (t + w) (u + p * w) (v + w / p) p; ⟨⟨t, u, v, p⟩ :: S, by show _ :: stp _ _ _ _ _ = _; rw [h]; rfl, Nat.succ_le_succ l⟩
theorem ixlast {x : D} {r : List D} : opIx (.tup (r ++ [x])) (.int (-1)) = some x := by
  show atI (r ++ [x]) (-1) = some x
  unfold atI ixN
  have hl : (r ++ [x]).length = r.length + 1 := by simp [evE, evT, evL, evA, evO, evAr, evS, evD, putS, peek, mutS, setM, opB, opC, opF, opIx, opSl, walk, unpS, bindT, refs, argS, putBack, permA, outsOf, atI, ixN, tru, setJ, iscS, eqoS, eqoR, putX, popJ]
  rw [if_neg (by decide), hl, if_pos (by omega)]
  have : ((-1 : Int) + ((r.length + 1 : Nat) : Int)).toNat = r.length := by omega
  rw [this]
  simp [evE, evT, evL, evA, evO, evAr, evS, evD, putS, peek, mutS, setM, opB, opC, opF, opIx, opSl, walk, unpS, bindT, refs, argS, putBack, permA, outsOf, atI, ixN, tru, setJ, iscS, eqoS, eqoR, putX, popJ]
/-! ### where it is at a time -/
theorem s_less {fu n : Nat} {p q : Rat} (h : Bq 3000 p) (g : Bq 3000 q) : evF T fu (n + 1) "is_less" [.val (fr p), .val (fr q)] = some (.bl (decide (p < q)), []) := by
  rw [ev1 (dd := d_is_less) (by kernel_rfl)]
  unfold d_is_less fr
  have e : decide (p < q) = decide (p.num * (q.den : Int) < q.num * (p.den : Int)) := decide_eq_decide.2 (Rat.lt_iff p q)
  rw [e]
  simp [evE, evT, evL, evA, evO, evAr, evS, evD, putS, peek, mutS, setM, opB, opC, opF, opIx, opSl, walk, unpS, bindT, refs, argS, putBack, permA, outsOf, atI, ixN, tru, setJ, iscS, eqoS, eqoR, putX, popJ, h.sn, h.sd, g.sn, g.sd]
/-- a comprehension that leaves some out -/
theorem compL_filter {el : Mn.Env → Option (D × Mn.Env)} {cd : Mn.Env → Option (Bool × Mn.Env)} {tg : Tg} {own : List Nat} {env : Mn.Env} {α : Type} {f g : α → D} {b : α → Bool} : ∀ {its : List α}, (∀ x ∈ its, ∃ e1, bindT tg (f x) (wipeE env own) = some e1 ∧ cd e1 = some (b x, e1) ∧ el e1 = some (g x, e1) ∧ backE env e1 own = env) → compL el cd tg own (its.map f) env = some ((its.filter b).map g, env)
  | [], _ => rfl
  | x :: its, h => by
    obtain ⟨e1, h1, h2, h3, h4⟩ := h x List.mem_cons_self
    have ih := compL_filter (its := its) fun y m => h y (List.mem_cons_of_mem _ m)
    rw [List.map_cons]
    unfold compL
    cases hb : b x with
    | true =>
      rw [hb] at h2
      rw [List.filter_cons_of_pos hb]
      simp only [h1, h2, h3, h4, ih, Option.bind_some, Option.bind_eq_bind, if_true, List.map_cons]
    | false =>
      rw [hb] at h2
      rw [List.filter_cons_of_neg (by simp [evE, evT, evL, evA, evO, evAr, evS, evD, putS, peek, mutS, setM, opB, opC, opF, opIx, opSl, walk, unpS, bindT, refs, argS, putBack, permA, outsOf, atI, ixN, tru, setJ, iscS, eqoS, eqoR, putX, popJ, hb])]
      simp only [h1, h2, h4, ih, Option.bind_some, Option.bind_eq_bind, Bool.false_eq_true, if_false]
theorem ixlastL {x : D} {r : List D} : opIx (.lst (r ++ [x])) (.int (-1)) = some x := by
  show atI (r ++ [x]) (-1) = some x
  exact (show atI (r ++ [x]) (-1) = some x from ixlast)
theorem s_laststop {fu n : Nat} {S R : List Stp} {s : Stp} {ks : List PySem.Str} {xs : List D} {τ : Rat} (hf : fldD ks xs "stops" = some (.tup (S.map stD))) (hS : ∀ s ∈ S, Sto s) (ht : Bq 1900 τ) (hl : S.length ≤ 200) (hg : (S.filter fun s => !decide (τ < s.t)) = R ++ [s]) :
    evF T fu (n + 2) "last_stop" [.val (.obj "Flight" ks xs), .val (fr τ)] = some (stD s, []) := by
  rw [ev1 (dd := d_last_stop) (by kernel_rfl)]
  unfold d_last_stop
  obtain ⟨CC, hCC⟩ : ∃ C, C = Ex.comp .seq (.cons (.att ["Flight"] (.var 0) "stops") .nil) (.one 2) (.tnot (.tval (.call "is_less" [0, 1] (.cons (.tval (.var 1)) (.cons (.tval (.ix (.var 2) (.con (.int 0)))) .nil))))) (.var 2) [2] := ⟨_, rfl⟩
  have key : compL (fun e => evE (evF T fu (n + 1)) (.var 2) e) (fun e => evT (evF T fu (n + 1)) (.tnot (.tval (.call "is_less" [0, 1] (.cons (.tval (.var 1)) (.cons (.tval (.ix (.var 2) (.con (.int 0)))) .nil))))) e) (.one 2) [2] (S.map stD) [some (.val (.obj "Flight" ks xs)), some (.val (fr τ)), none] = some ((S.filter fun s => !decide (τ < s.t)).map stD, [some (.val (.obj "Flight" ks xs)), some (.val (fr τ)), none]) := by
    refine compL_filter fun s hs => ?_
    have m1 := s_less (fu := fu) (n := n) (ht.le (by omega : 1900 ≤ 3000)) ((hS s hs).t.le (by omega : 1900 ≤ 3000))
    refine ⟨[some (.val (.obj "Flight" ks xs)), some (.val (fr τ)), some (.val (stD s))], rfl, ?_, rfl, rfl⟩
    show evT (evF T fu (n + 1)) (.tnot (.tval (.call "is_less" [0, 1] (.cons (.tval (.var 1)) (.cons (.tval (.ix (.var 2) (.con (.int 0)))) .nil))))) [some (.val (.obj "Flight" ks xs)), some (.val (fr τ)), some (.val (stD s))] = some (!decide (τ < s.t), [some (.val (.obj "Flight" ks xs)), some (.val (fr τ)), some (.val (stD s))])
    unfold stD
    generalize fr s.t = a at m1 ⊢
    generalize fr τ = b at m1 ⊢
    generalize fr s.p = c
    generalize ev s.u s.v = d
    simp [evE, evT, evL, evA, evO, evAr, evS, evD, putS, peek, mutS, setM, opB, opC, opF, opSl, walk, unpS, bindT, refs, argS, putBack, permA, outsOf, atI, ixN, tru, setJ, iscS, eqoS, eqoR, putX, popJ, ixt0, m1]
  have c3 : evE (evF T fu (n + 1)) CC [some (.val (.obj "Flight" ks xs)), some (.val (fr τ)), none] = some (.lst (R.map stD ++ [stD s]), [some (.val (.obj "Flight" ks xs)), some (.val (fr τ)), none]) := by
    rw [hCC, evE]
    rw [show evL (evF T fu (n + 1)) (.cons (.att ["Flight"] (.var 0) "stops") .nil) [some (.val (.obj "Flight" ks xs)), some (.val (fr τ)), none] = some ([.tup (S.map stD)], [some (.val (.obj "Flight" ks xs)), some (.val (fr τ)), none]) by simp [evE, evT, evL, evA, evO, evAr, evS, evD, putS, peek, mutS, setM, opB, opC, opF, opIx, opSl, walk, unpS, bindT, refs, argS, putBack, permA, outsOf, atI, ixN, tru, setJ, iscS, eqoS, eqoR, putX, popJ, hf]]
    simp only [Option.bind_eq_bind, Option.bind_some, show walk .seq [.tup (S.map stD)] = some (S.map stD) from rfl]
    rw [if_pos (by rw [Bool.and_eq_true]; exact ⟨by rw [List.length_map, decide_eq_true_eq]; unfold lim; omega, rfl⟩), key, hg, List.map_append]
    rfl
  rw [← hCC]
  clear hCC key
  have i1 : opIx (.lst (R.map stD ++ [stD s])) (.int (-1)) = some (stD s) := ixlastL
  generalize R.map stD ++ [stD s] = RR at c3 i1
  simp [evE, evT, evL, evA, evO, evAr, evS, evD, putS, peek, mutS, setM, opB, opC, opF, opSl, walk, unpS, bindT, refs, argS, putBack, permA, outsOf, atI, ixN, tru, setJ, iscS, eqoS, eqoR, putX, popJ, c3, i1]
theorem s_placeat {fu n : Nat} {S R : List Stp} {s : Stp} {ks : List PySem.Str} {xs : List D} {τ : Rat} (hf : fldD ks xs "stops" = some (.tup (S.map stD))) (hS : ∀ s ∈ S, Sto s) (ht : Bq 1900 τ) (hl : S.length ≤ 200) (hg : (S.filter fun s => !decide (τ < s.t)) = R ++ [s]) {a b : Nat} (hb : Bq b s.p) (ha : Bq a (τ - s.t)) (hab : b + a ≤ 2000) :
    evF T fu (n + 4) "place_at" [.val (.obj "Flight" ks xs), .val (fr τ)] = some (ev (s.u + s.p * (τ - s.t)) (s.v + (τ - s.t) / s.p), []) := by
  have hs : s ∈ S := (List.mem_filter.1 (by rw [hg]; simp : s ∈ S.filter fun s => !decide (τ < s.t))).1
  have m1 := s_laststop (fu := fu) (n := n + 1) hf hS ht hl hg
  have m2 := s_subtracted (fu := fu) (n := n + 1) (ht.le (by omega : 1900 ≤ 2000)) ((hS s hs).t.le (by omega : 1900 ≤ 2000))
  have m3 := s_flown (fu := fu) (n := n) (hS s hs).e hb ha (hS s hs).p0 (by omega) hab
  rw [ev1 (dd := d_place_at) (by kernel_rfl)]
  unfold d_place_at
  unfold stD at m1
  generalize ev (s.u + s.p * (τ - s.t)) (s.v + (τ - s.t) / s.p) = res at m3 ⊢
  generalize fr (τ - s.t) = d at m2 m3
  generalize fr s.t = x1 at m1 m2
  generalize ev s.u s.v = x2 at m1 m3
  generalize fr s.p = x3 at m1 m3
  generalize fr τ = tt at m1 m2 ⊢
  generalize D.obj "Flight" ks xs = o at m1 ⊢
  simp [evE, evT, evL, evA, evO, evAr, evS, evD, putS, peek, mutS, setM, opB, opC, opF, opIx, opSl, walk, unpS, bindT, refs, argS, putBack, permA, outsOf, atI, ixN, tru, setJ, iscS, eqoS, eqoR, putX, popJ, m1, m2, m3]
/-! ### the methods -/
theorem s_istime {fu n : Nat} {q : Rat} (h : 0 ≤ q) : evF T fu (n + 3) "is_time" [.val (fr q)] = some (.bl true, []) := by
  have f := s_frac (fu := fu) (n := n) (q := q)
  have hn : 0 ≤ q.num := Rat.num_nonneg.2 h
  rw [ev1 (dd := d_is_time) (by kernel_rfl)]
  unfold d_is_time
  unfold fr at f ⊢
  simp [evE, evT, evL, evA, evO, evAr, evS, evD, putS, peek, mutS, setM, opB, opC, opF, opIx, opSl, walk, unpS, bindT, refs, argS, putBack, permA, outsOf, atI, ixN, tru, setJ, iscS, eqoS, eqoR, putX, popJ, f, hn]
theorem s_cktime {fu n : Nat} {ks : List PySem.Str} {xs : List D} {w τ : Rat} (hf : fldD ks xs "whole" = some (fr w)) (hw : Bq 1900 w) (ht : Bq 1900 τ) (h0 : 0 ≤ τ) (h1 : τ ≤ w) :
    evF T fu (n + 4) "check_time" [.val (.obj "Flight" ks xs), .val (fr τ)] = some (.non, []) := by
  have a := s_istime (fu := fu) (n := n) h0
  have b := s_less (fu := fu) (n := n + 2) (hw.le (by omega : 1900 ≤ 3000)) (ht.le (by omega : 1900 ≤ 3000))
  rw [decide_eq_false (by grind)] at b
  rw [ev1 (dd := d_check_time) (by kernel_rfl)]
  unfold d_check_time
  generalize fr w = ww at b hf
  generalize fr τ = tt at a b ⊢
  simp [evE, evT, evL, evA, evO, evAr, evS, evD, putS, peek, mutS, setM, opB, opC, opF, opIx, opSl, walk, unpS, bindT, refs, argS, putBack, permA, outsOf, atI, ixN, tru, setJ, iscS, eqoS, eqoR, putX, popJ, hf, a, b]
theorem s_at {fu n : Nat} {S R : List Stp} {s : Stp} {ks : List PySem.Str} {xs : List D} {w τ : Rat} (hw' : fldD ks xs "whole" = some (fr w)) (hw : Bq 1900 w) (h0 : 0 ≤ τ) (h1 : τ ≤ w) (hf : fldD ks xs "stops" = some (.tup (S.map stD))) (hS : ∀ s ∈ S, Sto s) (ht : Bq 1900 τ) (hl : S.length ≤ 200) (hg : (S.filter fun s => !decide (τ < s.t)) = R ++ [s]) {a b : Nat} (hb : Bq b s.p) (ha : Bq a (τ - s.t)) (hab : b + a ≤ 2000) :
    evF T fu (n + 5) "Flight.at" [.val (.obj "Flight" ks xs), .val (fr τ)] = some (ev (s.u + s.p * (τ - s.t)) (s.v + (τ - s.t) / s.p), []) := by
  have m1 := s_cktime (fu := fu) (n := n) hw' hw ht h0 h1
  have m2 := s_placeat (fu := fu) (n := n) hf hS ht hl hg hb ha hab
  rw [ev1 (dd := d_Flight_at) (by kernel_rfl)]
  unfold d_Flight_at
  generalize ev (s.u + s.p * (τ - s.t)) (s.v + (τ - s.t) / s.p) = res at m2 ⊢
  generalize fr τ = tt at m1 m2 ⊢
  generalize D.obj "Flight" ks xs = o at m1 m2 ⊢
  simp [evE, evT, evL, evA, evO, evAr, evS, evD, putS, peek, mutS, setM, opB, opC, opF, opIx, opSl, walk, unpS, bindT, refs, argS, putBack, permA, outsOf, atI, ixN, tru, setJ, iscS, eqoS, eqoR, putX, popJ, m1, m2]
def timeU (S : List Stp) (w x : Rat) : Option Rat :=
  match (S.filter fun s => !decide (x < s.u)).getLast? with
  | none => none
  | some s => if w < s.t + (x - s.u) / s.p then none else some (s.t + (x - s.u) / s.p)
def frO : Option Rat → D | none => .non | some q => fr q
theorem s_rate0 {fu n : Nat} {d : D} : evF T fu (n + 1) "rate" [.val d, .val (.int 0)] = some (d, []) := by
  rw [ev1 (dd := d_rate) (by kernel_rfl)]
  unfold d_rate
  simp [evE, evT, evL, evA, evO, evAr, evS, evD, putS, peek, mutS, setM, opB, opC, opF, opIx, opSl, walk, unpS, bindT, refs, argS, putBack, permA, outsOf, atI, ixN, tru, setJ, iscS, eqoS, eqoR, putX, popJ, dsh_int, deq_int]
theorem s_timeat {fu n : Nat} {S : List Stp} {ks : List PySem.Str} {xs : List D} {w x : Rat} (hf : fldD ks xs "stops" = some (.tup (S.map stD))) (hw' : fldD ks xs "whole" = some (fr w)) (hw : Bq 1900 w) (hx : Bq 1900 x) (hl : S.length ≤ 200)
    (hS : ∀ s ∈ S, Sto s ∧ Bq 2000 (x - s.u) ∧ Bq 1900 ((x - s.u) / s.p) ∧ Bq 3000 (s.t + (x - s.u) / s.p)) :
    evF T fu (n + 3) "time_at" [.val (.obj "Flight" ks xs), .val (.int 0), .val (fr x)] = some (frO (timeU S w x), []) := by
  rw [ev1 (dd := d_time_at) (by kernel_rfl)]
  unfold d_time_at
  obtain ⟨CC, hCC⟩ : ∃ C, C = Ex.comp .seq (.cons (.att ["Flight"] (.var 0) "stops") .nil) (.one 9) (.tnot (.tval (.call "is_less" [0, 1] (.cons (.tval (.var 2)) (.cons (.tval (.ix (.ix (.var 9) (.con (.int 1))) (.var 1))) .nil))))) (.var 9) [9] := ⟨_, rfl⟩
  have key : compL (fun e => evE (evF T fu (n + 2)) (.var 9) e) (fun e => evT (evF T fu (n + 2)) (.tnot (.tval (.call "is_less" [0, 1] (.cons (.tval (.var 2)) (.cons (.tval (.ix (.ix (.var 9) (.con (.int 1))) (.var 1))) .nil))))) e) (.one 9) [9] (S.map stD) [some (.val (.obj "Flight" ks xs)), some (.val (.int 0)), some (.val (fr x)), none, none, none, none, none, none, none] = some ((S.filter fun s => !decide (x < s.u)).map stD, [some (.val (.obj "Flight" ks xs)), some (.val (.int 0)), some (.val (fr x)), none, none, none, none, none, none, none]) := by
    refine compL_filter fun s hs => ?_
    have m1 := s_less (fu := fu) (n := n + 1) (hx.le (by omega : 1900 ≤ 3000)) ((hS s hs).1.e.u.le (by omega : 1900 ≤ 3000))
    refine ⟨[some (.val (.obj "Flight" ks xs)), some (.val (.int 0)), some (.val (fr x)), none, none, none, none, none, none, some (.val (stD s))], rfl, ?_, rfl, rfl⟩
    show evT (evF T fu (n + 2)) (.tnot (.tval (.call "is_less" [0, 1] (.cons (.tval (.var 2)) (.cons (.tval (.ix (.ix (.var 9) (.con (.int 1))) (.var 1))) .nil))))) [some (.val (.obj "Flight" ks xs)), some (.val (.int 0)), some (.val (fr x)), none, none, none, none, none, none, some (.val (stD s))] = some (!decide (x < s.u), [some (.val (.obj "Flight" ks xs)), some (.val (.int 0)), some (.val (fr x)), none, none, none, none, none, none, some (.val (stD s))])
    unfold stD ev
    generalize fr s.t = a
    generalize fr x = b at m1 ⊢
    generalize fr s.p = c
    generalize fr s.u = d at m1 ⊢
    generalize fr s.v = d2
    simp [evE, evT, evL, evA, evO, evAr, evS, evD, putS, peek, mutS, setM, opB, opC, opF, opSl, walk, unpS, bindT, refs, argS, putBack, permA, outsOf, atI, ixN, tru, setJ, iscS, eqoS, eqoR, putX, popJ, ixt0, ixt1, m1]
  have c3 : evE (evF T fu (n + 2)) CC [some (.val (.obj "Flight" ks xs)), some (.val (.int 0)), some (.val (fr x)), none, none, none, none, none, none, none] = some (.lst ((S.filter fun s => !decide (x < s.u)).map stD), [some (.val (.obj "Flight" ks xs)), some (.val (.int 0)), some (.val (fr x)), none, none, none, none, none, none, none]) := by
    rw [hCC, evE]
    rw [show evL (evF T fu (n + 2)) (.cons (.att ["Flight"] (.var 0) "stops") .nil) [some (.val (.obj "Flight" ks xs)), some (.val (.int 0)), some (.val (fr x)), none, none, none, none, none, none, none] = some ([.tup (S.map stD)], [some (.val (.obj "Flight" ks xs)), some (.val (.int 0)), some (.val (fr x)), none, none, none, none, none, none, none]) by simp [evE, evT, evL, evA, evO, evAr, evS, evD, putS, peek, mutS, setM, opB, opC, opF, opIx, opSl, walk, unpS, bindT, refs, argS, putBack, permA, outsOf, atI, ixN, tru, setJ, iscS, eqoS, eqoR, putX, popJ, hf]]
    simp only [Option.bind_eq_bind, Option.bind_some, show walk .seq [.tup (S.map stD)] = some (S.map stD) from rfl]
    rw [if_pos (by rw [Bool.and_eq_true]; exact ⟨by rw [List.length_map, decide_eq_true_eq]; unfold lim; omega, rfl⟩), key]
    rfl
  rw [← hCC]
  clear hCC key
  cases hF : (S.filter fun s => !decide (x < s.u)).getLast? with
  | none =>
    have hn : (S.filter fun s => !decide (x < s.u)) = [] := List.getLast?_eq_none_iff.1 hF
    have e : timeU S w x = none := by unfold timeU; rw [hF]
    rw [hn] at c3
    rw [e]
    simp [evE, evT, evL, evA, evO, evAr, evS, evD, putS, peek, mutS, setM, opB, opC, opF, opIx, opSl, walk, unpS, bindT, refs, argS, putBack, permA, outsOf, atI, ixN, tru, setJ, iscS, eqoS, eqoR, putX, popJ, c3, frO]
  | some s =>
    obtain ⟨R, hR⟩ := List.getLast?_eq_some_iff.1 hF
    have hs : s ∈ S := (List.mem_filter.1 (by rw [hR]; simp : s ∈ S.filter fun s => !decide (x < s.u))).1
    obtain ⟨so, g1, g2, g3⟩ := hS s hs
    have m1 := s_subtracted (fu := fu) (n := n) (hx.le (by omega : 1900 ≤ 2000)) (so.e.u.le (by omega : 1900 ≤ 2000))
    have m2 := s_divided (fu := fu) (n := n) g1 (so.p.le (by omega : 1800 ≤ 2000)) so.p0
    have m3 := s_added (fu := fu) (n := n) (so.t.le (by omega : 1900 ≤ 2000)) (g2.le (by omega : 1900 ≤ 2000))
    have m4 := s_less (fu := fu) (n := n + 1) (hw.le (by omega : 1900 ≤ 3000)) g3
    have r0 := s_rate0 (fu := fu) (n := n + 1) (d := fr s.p)
    have e : timeU S w x = if w < s.t + (x - s.u) / s.p then none else some (s.t + (x - s.u) / s.p) := by unfold timeU; rw [hF]
    rw [hR, List.map_append] at c3
    have i1 : opIx (.lst (R.map stD ++ [stD s])) (.int (-1)) = some (stD s) := ixlastL
    have ne : (R.map stD ++ [stD s]).isEmpty = false := by simp [evE, evT, evL, evA, evO, evAr, evS, evD, putS, peek, mutS, setM, opB, opC, opF, opIx, opSl, walk, unpS, bindT, refs, argS, putBack, permA, outsOf, atI, ixN, tru, setJ, iscS, eqoS, eqoR, putX, popJ]
    rw [show [s].map stD = [stD s] from rfl] at c3
    rw [e]
    generalize hRR : R.map stD ++ [stD s] = RR at c3 i1 ne
    unfold stD ev at i1
    have nn : ∀ q : Rat, fr q ≠ .non := fun q => by intro z; cases z
    generalize hbb : decide (w < s.t + (x - s.u) / s.p) = bb at m4
    have e2 : frO (if w < s.t + (x - s.u) / s.p then none else some (s.t + (x - s.u) / s.p)) = if bb = true then D.non else fr (s.t + (x - s.u) / s.p) := by
      rw [← hbb]
      by_cases hh : w < s.t + (x - s.u) / s.p
      · simp [evE, evT, evL, evA, evO, evAr, evS, evD, putS, peek, mutS, setM, opB, opC, opF, opIx, opSl, walk, unpS, bindT, refs, argS, putBack, permA, outsOf, atI, ixN, tru, setJ, iscS, eqoS, eqoR, putX, popJ, hh, frO]
      · simp [evE, evT, evL, evA, evO, evAr, evS, evD, putS, peek, mutS, setM, opB, opC, opF, opIx, opSl, walk, unpS, bindT, refs, argS, putBack, permA, outsOf, atI, ixN, tru, setJ, iscS, eqoS, eqoR, putX, popJ, hh, frO]
    rw [e2]
    generalize fr (s.t + (x - s.u) / s.p) = y3 at m3 m4 ⊢
    generalize fr ((x - s.u) / s.p) = y2 at m2 m3
    generalize fr (x - s.u) = y1 at m1 m2
    have hw2 : fldD ks xs "whole" = some (fr w) := hw'
    unfold fr at hw2 m4
    generalize fr x = xx at c3 m1 ⊢
    generalize fr s.u = su at i1 m1
    generalize fr s.v = sv at i1
    generalize fr s.p = sp at i1 r0 m2
    generalize fr s.t = st at i1 m3
    cases bb <;> simp [evE, evT, evL, evA, evO, evAr, evS, evD, putS, peek, mutS, setM, opB, opC, opF, opSl, walk, unpS, bindT, refs, argS, putBack, permA, outsOf, atI, ixN, tru, setJ, iscS, eqoS, eqoR, putX, popJ, c3, ne, i1, ixt0, ixt1, m1, m2, m3, m4, r0, hw2]
/-! ### the law's own legs -/
def legs (t u v p : Rat) : List Ln → List (Stp × Rat)
  | [] => []
  | (false, w) :: L => legs t u v (p * w) L
  | (true, w) :: L => (⟨t, u, v, p⟩, w) :: legs (t + w) (u + p * w) (v + w / p) p L
/-! ### sums: the law's own going is the program's -/
theorem stp_ge : ∀ {L : List Ln} {t u v p : Rat}, (∀ l ∈ L, 0 < l.2) → ∀ s ∈ stp t u v p L, t ≤ s.t
  | [], t, u, v, p, _, s, hm => by rw [show s = ⟨t, u, v, p⟩ from by simpa [stp] using hm]; exact Rat.le_refl
  | (false, w) :: L, t, u, v, p, hL, s, hm => stp_ge (L := L) (fun l m => hL l (List.mem_cons_of_mem _ m)) s hm
  | (true, w) :: L, t, u, v, p, hL, s, hm => by
    have w0 : 0 < w := hL _ List.mem_cons_self
    rcases List.mem_cons.1 (show s ∈ (⟨t, u, v, p⟩ : Stp) :: stp (t + w) (u + p * w) (v + w / p) p L from hm) with rfl | hm
    · exact Rat.le_refl
    · have := stp_ge (L := L) (fun l m => hL l (List.mem_cons_of_mem _ m)) s hm
      grind
theorem legs_ge : ∀ {L : List Ln} {t u v p : Rat}, (∀ l ∈ L, 0 < l.2) → ∀ z ∈ legs t u v p L, t ≤ z.1.t
  | [], t, u, v, p, _, z, hm => by cases hm
  | (false, w) :: L, t, u, v, p, hL, s, hm => legs_ge (L := L) (fun l m => hL l (List.mem_cons_of_mem _ m)) s hm
  | (true, w) :: L, t, u, v, p, hL, s, hm => by
    have w0 : 0 < w := hL _ List.mem_cons_self
    rcases List.mem_cons.1 (show s ∈ ((⟨t, u, v, p⟩ : Stp), w) :: legs (t + w) (u + p * w) (v + w / p) p L from hm) with rfl | hm
    · exact Rat.le_refl
    · have := legs_ge (L := L) (fun l m => hL l (List.mem_cons_of_mem _ m)) s hm
      grind
/-- where the law is at a time -/
def lawAt (τ : Rat) : Rat × Rat → List (Stp × Rat) → Rat × Rat
  | a, [] => a
  | a, (s, w) :: r => lawAt τ (if τ < s.t then a else (s.u + s.p * (if w < τ - s.t then w else τ - s.t), s.v + (if w < τ - s.t then w else τ - s.t) / s.p)) r
theorem lawAt_later {τ : Rat} : ∀ {r : List (Stp × Rat)} {a : Rat × Rat}, (∀ z ∈ r, τ < z.1.t) → lawAt τ a r = a
  | [], a, _ => rfl
  | (s, w) :: r, a, h => by
    unfold lawAt
    rw [if_pos (h _ List.mem_cons_self)]
    exact lawAt_later fun z m => h z (List.mem_cons_of_mem _ m)
/-- the pace that the law tells from a time on -/
def lawPace (τ : Rat) (last : Rat) : List (Stp × Rat) → Rat
  | [] => last
  | (s, w) :: r => if τ < s.t + w then s.p else lawPace τ last r
theorem at_eq {τ : Rat} : ∀ {L : List Ln} {t u v p : Rat}, (∀ l ∈ L, 0 < l.2) → t ≤ τ → τ ≤ (lastS t u v p L).t →
    ∃ R s, (stp t u v p L).filter (fun s => !decide (τ < s.t)) = R ++ [s] ∧ s.t ≤ τ ∧ lawAt τ (u, v) (legs t u v p L) = (s.u + s.p * (τ - s.t), s.v + (τ - s.t) / s.p) ∧ lawPace τ (lastS t u v p L).p (legs t u v p L) = s.p
  | [], t, u, v, p, _, h0, h1 => by
    have h1 : τ ≤ t := h1
    have e : τ = t := by grind
    refine ⟨[], ⟨t, u, v, p⟩, ?_, h0, ?_, rfl⟩
    · show List.filter _ [(⟨t, u, v, p⟩ : Stp)] = _
      rw [List.filter_cons_of_pos (by have q : ¬ τ < t := (by grind); simp [evE, evT, evL, evA, evO, evAr, evS, evD, putS, peek, mutS, setM, opB, opC, opF, opIx, opSl, walk, unpS, bindT, refs, argS, putBack, permA, outsOf, atI, ixN, tru, setJ, iscS, eqoS, eqoR, putX, popJ, q])]; rfl
    · show (u, v) = (u + p * (τ - t), v + (τ - t) / p)
      rw [e]
      have z : t - t = 0 := by grind
      rw [z]
      congr 1 <;> grind
  | (false, w) :: L, t, u, v, p, hL, h0, h1 => at_eq (L := L) (fun l m => hL l (List.mem_cons_of_mem _ m)) h0 h1
  | (true, w) :: L, t, u, v, p, hL, h0, h1 => by
    have w0 : 0 < w := hL _ List.mem_cons_self
    have hL' : ∀ l ∈ L, 0 < l.2 := fun l m => hL l (List.mem_cons_of_mem _ m)
    have nt : ¬ τ < t := by grind
    by_cases c : τ < t + w
    · refine ⟨[], ⟨t, u, v, p⟩, ?_, h0, ?_, ?_⟩
      · show List.filter _ ((⟨t, u, v, p⟩ : Stp) :: stp (t + w) (u + p * w) (v + w / p) p L) = _
        rw [List.filter_cons_of_pos (by have q : ¬ τ < t := (by grind); simp [evE, evT, evL, evA, evO, evAr, evS, evD, putS, peek, mutS, setM, opB, opC, opF, opIx, opSl, walk, unpS, bindT, refs, argS, putBack, permA, outsOf, atI, ixN, tru, setJ, iscS, eqoS, eqoR, putX, popJ, q])]
        have : (stp (t + w) (u + p * w) (v + w / p) p L).filter (fun s => !decide (τ < s.t)) = [] := by
          rw [List.filter_eq_nil_iff]
          intro s hs
          have := stp_ge hL' s hs
          have q : τ < s.t := by grind
          simp [evE, evT, evL, evA, evO, evAr, evS, evD, putS, peek, mutS, setM, opB, opC, opF, opIx, opSl, walk, unpS, bindT, refs, argS, putBack, permA, outsOf, atI, ixN, tru, setJ, iscS, eqoS, eqoR, putX, popJ, q]
        rw [this]; rfl
      · show lawAt τ (u, v) (((⟨t, u, v, p⟩ : Stp), w) :: legs (t + w) (u + p * w) (v + w / p) p L) = _
        unfold lawAt
        rw [if_neg nt, if_neg (show ¬ w < τ - t by grind), lawAt_later]
        intro z hz
        have := legs_ge hL' z hz
        grind
      · show lawPace τ _ (((⟨t, u, v, p⟩ : Stp), w) :: legs (t + w) (u + p * w) (v + w / p) p L) = p
        unfold lawPace
        rw [if_pos c]
    · obtain ⟨R, s, q1, q2, q3, q4⟩ := at_eq (τ := τ) (L := L) (t := t + w) (u := u + p * w) (v := v + w / p) (p := p) hL' (by grind) h1
      refine ⟨⟨t, u, v, p⟩ :: R, s, ?_, q2, ?_, ?_⟩
      · show List.filter _ ((⟨t, u, v, p⟩ : Stp) :: stp (t + w) (u + p * w) (v + w / p) p L) = _
        rw [List.filter_cons_of_pos (by have q : ¬ τ < t := (by grind); simp [evE, evT, evL, evA, evO, evAr, evS, evD, putS, peek, mutS, setM, opB, opC, opF, opIx, opSl, walk, unpS, bindT, refs, argS, putBack, permA, outsOf, atI, ixN, tru, setJ, iscS, eqoS, eqoR, putX, popJ, q]), q1]; rfl
      · rw [← q3]
        show lawAt τ (u, v) (((⟨t, u, v, p⟩ : Stp), w) :: legs (t + w) (u + p * w) (v + w / p) p L) = _
        have mn : (if w < τ - t then w else τ - t) = w := by
          by_cases d : w < τ - t
          · rw [if_pos d]
          · rw [if_neg d]; grind
        rw [show lawAt τ (u, v) (((⟨t, u, v, p⟩ : Stp), w) :: legs (t + w) (u + p * w) (v + w / p) p L) = lawAt τ (if τ < t then (u, v) else (u + p * (if w < τ - t then w else τ - t), v + (if w < τ - t then w else τ - t) / p)) (legs (t + w) (u + p * w) (v + w / p) p L) from rfl, if_neg nt, mn]
      · rw [← q4]
        show (if τ < t + w then p else lawPace τ (lastS (t + w) (u + p * w) (v + w / p) p L).p (legs (t + w) (u + p * w) (v + w / p) p L)) = _
        rw [if_neg c]
theorem s_lisless {fu n : Nat} {p q : Rat} (h : Bq 3000 p) (g : Bq 3000 q) : evF T fu (n + 1) "_law_frac_is_less" [.val (fr p), .val (fr q)] = some (.bl (decide (p < q)), []) := by
  rw [ev1 (dd := d__law_frac_is_less) (by kernel_rfl)]
  unfold d__law_frac_is_less fr
  have e : decide (p < q) = decide (p.num * (q.den : Int) < q.num * (p.den : Int)) := decide_eq_decide.2 (Rat.lt_iff p q)
  rw [e]
  simp [evE, evT, evL, evA, evO, evAr, evS, evD, putS, peek, mutS, setM, opB, opC, opF, opIx, opSl, walk, unpS, bindT, refs, argS, putBack, permA, outsOf, atI, ixN, tru, setJ, iscS, eqoS, eqoR, putX, popJ, h.sn, h.sd, g.sn, g.sd]
/-! ### the law's own whole, last pace, pieces -/
theorem divp {a b : Rat} (ha : 0 < a) (hb : 0 < b) : 0 < a / b := by
  rw [Rat.div_def]; exact Rat.mul_pos ha (Rat.inv_pos.2 hb)
theorem div_ge {a b : Rat} (ha : 0 ≤ a) (hb : 0 < b) : 0 ≤ a / b := by
  rcases Rat.le_iff_lt_or_eq.1 ha with h | h
  · exact Rat.le_of_lt (divp h hb)
  · rw [← h]; grind
theorem stp_geU : ∀ {L : List Ln} {t u v p : Rat}, 0 < p → (∀ l ∈ L, 0 < l.2) → ∀ s ∈ stp t u v p L, u ≤ s.u
  | [], t, u, v, p, _, _, s, hm => by rw [show s = ⟨t, u, v, p⟩ from by simpa [stp] using hm]; exact Rat.le_refl
  | (false, w) :: L, t, u, v, p, p0, hL, s, hm => stp_geU (L := L) (Rat.mul_pos p0 (hL (false, w) List.mem_cons_self)) (fun l m => hL l (List.mem_cons_of_mem _ m)) s hm
  | (true, w) :: L, t, u, v, p, p0, hL, s, hm => by
    have w0 : 0 < w := hL _ List.mem_cons_self
    rcases List.mem_cons.1 (show s ∈ (⟨t, u, v, p⟩ : Stp) :: stp (t + w) (u + p * w) (v + w / p) p L from hm) with rfl | hm
    · exact Rat.le_refl
    · have := stp_geU (L := L) p0 (fun l m => hL l (List.mem_cons_of_mem _ m)) s hm
      have := Rat.mul_pos p0 w0
      grind
/-- where u is as told, and when -/
theorem at_u {τ : Rat} : ∀ {L : List Ln} {t u v p : Rat}, 0 < p → (∀ l ∈ L, 0 < l.2) → t ≤ τ → τ ≤ (lastS t u v p L).t →
    u ≤ (lawAt τ (u, v) (legs t u v p L)).1 ∧ v ≤ (lawAt τ (u, v) (legs t u v p L)).2 ∧ ∀ r ∈ stp t u v p L, ((lawAt τ (u, v) (legs t u v p L)).1 < r.u ↔ τ < r.t)
  | [], t, u, v, p, p0, _, h0, h1 => by
    have h1 : τ ≤ t := h1
    refine ⟨Rat.le_refl, Rat.le_refl, ?_⟩
    intro r hr
    rw [show r = ⟨t, u, v, p⟩ from by simpa [stp] using hr]
    show u < u ↔ τ < t
    grind
  | (false, w) :: L, t, u, v, p, p0, hL, h0, h1 => at_u (L := L) (Rat.mul_pos p0 (hL (false, w) List.mem_cons_self)) (fun l m => hL l (List.mem_cons_of_mem _ m)) h0 h1
  | (true, w) :: L, t, u, v, p, p0, hL, h0, h1 => by
    have w0 : 0 < w := hL _ List.mem_cons_self
    have hL' : ∀ l ∈ L, 0 < l.2 := fun l m => hL l (List.mem_cons_of_mem _ m)
    have pw := Rat.mul_pos p0 w0
    have wp := divp w0 p0
    have nt : ¬ τ < t := by grind
    show u ≤ (lawAt τ (u, v) (((⟨t, u, v, p⟩ : Stp), w) :: legs (t + w) (u + p * w) (v + w / p) p L)).1 ∧ v ≤ (lawAt τ (u, v) (((⟨t, u, v, p⟩ : Stp), w) :: legs (t + w) (u + p * w) (v + w / p) p L)).2 ∧ ∀ r ∈ (⟨t, u, v, p⟩ : Stp) :: stp (t + w) (u + p * w) (v + w / p) p L, _
    by_cases c : τ < t + w
    · have e : lawAt τ (u, v) (((⟨t, u, v, p⟩ : Stp), w) :: legs (t + w) (u + p * w) (v + w / p) p L) = (u + p * (τ - t), v + (τ - t) / p) := by
        unfold lawAt
        rw [if_neg nt, if_neg (show ¬ w < τ - t by grind), lawAt_later]
        intro z hz
        have := legs_ge hL' z hz
        grind
      have m0 : 0 ≤ p * (τ - t) := Rat.mul_nonneg (Rat.le_of_lt p0) (by grind)
      have m1 : 0 ≤ (τ - t) / p := div_ge (by grind) p0
      have m2 : p * (τ - t) < p * w := Rat.mul_lt_mul_of_pos_left (by grind) p0
      refine ⟨?_, ?_, ?_⟩
      · rw [e]; show u ≤ u + p * (τ - t); grind
      · rw [e]; show v ≤ v + (τ - t) / p; grind
      · intro r hr
        show (lawAt τ (u, v) (((⟨t, u, v, p⟩ : Stp), w) :: legs (t + w) (u + p * w) (v + w / p) p L)).1 < r.u ↔ τ < r.t
        rw [e]
        show u + p * (τ - t) < r.u ↔ τ < r.t
        rcases List.mem_cons.1 hr with rfl | hr
        · show u + p * (τ - t) < u ↔ τ < t
          grind
        · have a := stp_ge hL' r hr
          have b := stp_geU p0 hL' r hr
          grind
    · obtain ⟨q1, q2, q3⟩ := at_u (τ := τ) (L := L) (t := t + w) (u := u + p * w) (v := v + w / p) (p := p) p0 hL' (by grind) h1
      have e : lawAt τ (u, v) (((⟨t, u, v, p⟩ : Stp), w) :: legs (t + w) (u + p * w) (v + w / p) p L) = lawAt τ (u + p * w, v + w / p) (legs (t + w) (u + p * w) (v + w / p) p L) := by
        have mn : (if w < τ - t then w else τ - t) = w := by
          by_cases d : w < τ - t
          · rw [if_pos d]
          · rw [if_neg d]; grind
        rw [show lawAt τ (u, v) (((⟨t, u, v, p⟩ : Stp), w) :: legs (t + w) (u + p * w) (v + w / p) p L) = lawAt τ (if τ < t then (u, v) else (u + p * (if w < τ - t then w else τ - t), v + (if w < τ - t then w else τ - t) / p)) (legs (t + w) (u + p * w) (v + w / p) p L) from rfl, if_neg nt, mn]
      rw [e]
      refine ⟨by grind, by grind, ?_⟩
      intro r hr
      show (lawAt τ (u, v) (((⟨t, u, v, p⟩ : Stp), w) :: legs (t + w) (u + p * w) (v + w / p) p L)).1 < r.u ↔ τ < r.t
      rw [e]
      rcases List.mem_cons.1 hr with rfl | hr
      · show (lawAt τ (u + p * w, v + w / p) (legs (t + w) (u + p * w) (v + w / p) p L)).1 < u ↔ τ < t
        grind
      · exact q3 r hr
/-! ### times on a grid -/
def Gd (m N : Nat) (q : Rat) : Prop := ∃ k : Int, q = (k : Rat) / (m : Rat) ∧ k.natAbs ≤ N
theorem Gd.le {m N M : Nat} {q : Rat} (h : Gd m N q) (e : N ≤ M) : Gd m M q := let ⟨k, a, b⟩ := h; ⟨k, a, Nat.le_trans b e⟩
theorem Gd.add {m N M : Nat} {p q : Rat} (h : Gd m N p) (g : Gd m M q) : Gd m (N + M) (p + q) := by
  obtain ⟨k, a, b⟩ := h
  obtain ⟨l, c, d⟩ := g
  refine ⟨k + l, ?_, by omega⟩
  rw [a, c, Rat.intCast_add]; grind
theorem Gd.sub {m N M : Nat} {p q : Rat} (h : Gd m N p) (g : Gd m M q) : Gd m (N + M) (p - q) := by
  obtain ⟨k, a, b⟩ := h
  obtain ⟨l, c, d⟩ := g
  refine ⟨k - l, ?_, by omega⟩
  rw [a, c, Rat.intCast_sub]; grind
theorem Gd.fine {m N c : Nat} {q : Rat} (h : Gd m N q) (hc : c ≠ 0) : Gd (c * m) (c * N) q := by
  obtain ⟨k, a, b⟩ := h
  refine ⟨c * k, ?_, ?_⟩
  · rw [a, Rat.intCast_mul, Rat.natCast_mul, Rat.intCast_natCast]
    have : (c : Rat) ≠ 0 := by simpa using hc
    by_cases z : (m : Rat) = 0
    · rw [z]; grind
    · grind
  · rw [Int.natAbs_mul, Int.natAbs_natCast]; exact Nat.mul_le_mul_left c b
theorem Gd.bq {m N j : Nat} {q : Rat} (h : Gd m N q) (hm : m ≠ 0) (h1 : m < 2 ^ j) (h2 : N < 2 ^ j) : Bq j q := by
  obtain ⟨k, a, b⟩ := h
  have e : q = Rat.normalize k m hm := by
    rw [a, Rat.normalize_eq_mkRat, Rat.mkRat_eq_div]
  rw [e]
  exact norm_bd hm (by omega) h1
/-! ### when it is at an event -/
/-! ### what is told is due -/
def Pl : Nat → D → Prop
  | 0, d => (∃ i, d = .int i) ∨ d = .non
  | k + 1, d => (∃ i, d = .int i) ∨ d = .non ∨ ∃ xs, d = .tup xs ∧ xs.length ≤ 1000 ∧ ∀ x ∈ xs, Pl k x
theorem Pl.int {k : Nat} {i : Int} : Pl k (.int i) := by cases k <;> exact .inl ⟨i, rfl⟩
theorem Pl.non {k : Nat} : Pl k .non := match k with
  | 0 => .inr rfl
  | _ + 1 => .inr (.inl rfl)
theorem Pl.tup {k : Nat} {xs : List D} (hl : xs.length ≤ 1000) (h : ∀ x ∈ xs, Pl k x) : Pl (k + 1) (.tup xs) := .inr (.inr ⟨xs, rfl, hl, h⟩)
theorem kin : kitB (tyOf .non) "int" = some false := by decide +kernel
/-! ### a drawn flight -/
theorem stp_all : ∀ {L : List Ln} {P E N : Nat} {t u v p : Rat}, Bq P p → 0 < p → Be E u v → Gd 6 N t → (∀ l ∈ L, Bq 4 l.2 ∧ 0 < l.2) → (∀ l ∈ L, l.1 = true → Gd 6 72 l.2) → P + 4 * L.length ≤ 44 → N + 72 * L.length ≤ 648 → E + L.length * 49 ≤ 461 →
    ∀ s ∈ stp t u v p L, Gd 6 648 s.t ∧ Be 461 s.u s.v ∧ Bq 44 s.p ∧ 0 < s.p
  | [], P, E, N, t, u, v, p, hp, p0, he, ht, _, _, h1, h2, h3, s, hm => by
    simp only [List.length_nil] at h1 h2 h3
    rw [show s = ⟨t, u, v, p⟩ from by simpa [stp] using hm]
    exact ⟨ht.le (by omega), he.le (by omega), hp.le (by omega), p0⟩
  | (false, w) :: L, P, E, N, t, u, v, p, hp, p0, he, ht, hL, hg, h1, h2, h3, s, hm => by
    rw [List.length_cons] at h1 h2 h3
    rw [Nat.add_mul] at h3
    obtain ⟨hw, w0⟩ : Bq 4 w ∧ 0 < w := hL _ List.mem_cons_self
    exact stp_all (L := L) (P := P + 4) (hp.mul hw) (Rat.mul_pos p0 w0) he ht (fun l m => hL l (List.mem_cons_of_mem _ m)) (fun l m => hg l (List.mem_cons_of_mem _ m)) (by omega) (by omega) (by omega) s hm
  | (true, w) :: L, P, E, N, t, u, v, p, hp, p0, he, ht, hL, hg, h1, h2, h3, s, hm => by
    rw [List.length_cons] at h1 h2 h3
    rw [Nat.add_mul] at h3
    obtain ⟨hw, w0⟩ : Bq 4 w ∧ 0 < w := hL _ List.mem_cons_self
    have gw : Gd 6 72 w := hg _ List.mem_cons_self rfl
    rcases List.mem_cons.1 (show s ∈ (⟨t, u, v, p⟩ : Stp) :: stp (t + w) (u + p * w) (v + w / p) p L from hm) with rfl | hm
    · exact ⟨ht.le (by omega), he.le (by omega), hp.le (by omega), p0⟩
    · exact stp_all (L := L) (P := P) (E := E + 49) (N := N + 72) hp p0 ⟨(he.u.add (hp.mul hw)).le (by omega), (he.v.add (hw.div hp p0)).le (by omega)⟩ (ht.add gw) (fun l m => hL l (List.mem_cons_of_mem _ m)) (fun l m => hg l (List.mem_cons_of_mem _ m)) (by omega) (by omega) (by omega) s hm
structure Fly (u v p : Rat) (L : List Ln) : Prop where
  he : Be 20 u v
  hp : Bq 8 p
  p0 : 0 < p
  h4 : ∀ l ∈ L, Bq 4 l.2 ∧ 0 < l.2
  hg : ∀ l ∈ L, l.1 = true → Gd 6 72 l.2
  hn : L.length ≤ 9
theorem Fly.hl (F : Fly u v p L) : ∀ l ∈ L, Bq 8 l.2 ∧ 0 < l.2 := fun l m => ⟨(F.h4 l m).1.le (by decide), (F.h4 l m).2⟩
theorem Fly.szs (F : Fly u v p L) : Szs 8 1 20 80 L.length := ⟨by have := F.hn; omega, by decide, by have := F.hn; omega, by have := F.hn; have : L.length * 89 ≤ 9 * 89 := Nat.mul_le_mul_right _ F.hn; omega⟩
theorem z1 : Bq 1 (0 : Rat) := ⟨by decide, by decide⟩
theorem gz : Gd 6 0 (0 : Rat) := ⟨0, by decide +kernel, by decide⟩
theorem Fly.sto (F : Fly u v p L) : ∀ s ∈ stp 0 u v p L, Sto s := stp_sto z1 F.he F.hp F.p0 F.hl F.szs
theorem Fly.all (F : Fly u v p L) : ∀ s ∈ stp 0 u v p L, Gd 6 648 s.t ∧ Be 461 s.u s.v ∧ Bq 44 s.p ∧ 0 < s.p :=
  stp_all F.hp F.p0 F.he gz F.h4 F.hg (by have := F.hn; omega) (by have := F.hn; omega) (by have : L.length * 49 ≤ 9 * 49 := Nat.mul_le_mul_right _ F.hn; omega)
theorem Fly.l0 (F : Fly u v p L) : ∀ l ∈ L, 0 < l.2 := fun l m => (F.hl l m).2
theorem last_mem : lastS 0 u v p L ∈ stp 0 u v p L := by
  obtain ⟨S, h, _⟩ := stp_last L 0 u v p
  rw [h]; simp [evE, evT, evL, evA, evO, evAr, evS, evD, putS, peek, mutS, setM, opB, opC, opF, opIx, opSl, walk, unpS, bindT, refs, argS, putBack, permA, outsOf, atI, ixN, tru, setJ, iscS, eqoS, eqoR, putX, popJ]
theorem Fly.slen (F : Fly u v p L) : (stp 0 u v p L).length ≤ 200 := by
  obtain ⟨S, h, e⟩ := stp_last L 0 u v p
  have := F.hn
  rw [h, List.length_append, List.length_singleton]; omega
/-- a time of a flight -/
structure Tm (u v p : Rat) (L : List Ln) (τ : Rat) : Prop where
  a : 0 ≤ τ
  b : τ ≤ (lastS 0 u v p L).t
  g : Gd 1260 140000 τ
theorem fine {q : Rat} (h : Gd 6 648 q) : Gd 1260 140000 q := (h.fine (c := 210) (by decide)).le (by decide)
theorem Tm.q {τ : Rat} (t : Tm u v p L τ) : Bq 18 τ := t.g.bq (by decide) (by decide) (by decide)
theorem Tm.d {τ : Rat} (t : Tm u v p L τ) {q : Rat} (h : Gd 6 648 q) : Bq 19 (τ - q) := (t.g.sub (fine h)).bq (by decide) (by decide) (by decide)
/-- where it is at a time -/
def plc (u v p : Rat) (L : List Ln) (τ : Rat) : Rat × Rat := lawAt τ (u, v) (legs 0 u v p L)
structure Tq (u v p : Rat) (L : List Ln) (τ : Rat) : Prop where
  a : 0 ≤ τ
  b : τ ≤ (lastS 0 u v p L).t
  q : Bq 1100 τ
theorem g10 {q : Rat} (h : Gd 6 648 q) : Bq 10 q := h.bq (by decide) (by decide) (by decide)
theorem Tq.d {τ : Rat} (t : Tq u v p L τ) {q : Rat} (h : Gd 6 648 q) : Bq 1111 (τ - q) := t.q.sub (g10 h)
abbrev fo (u v p : Rat) (L : List Ln) : D := flO u v p L (lastS 0 u v p L)
theorem fld_whole {e : Stp} : fldD fks (flX u v p L e) "whole" = some (fr e.t) := by
  unfold fks flX; simp [evE, evT, evL, evA, evO, evAr, evS, evD, putS, peek, mutS, setM, opB, opC, opF, opIx, opSl, walk, unpS, bindT, refs, argS, putBack, permA, outsOf, atI, ixN, tru, setJ, iscS, eqoS, eqoR, putX, popJ, fldD, ofs_inj]
theorem fld_stops {e : Stp} : fldD fks (flX u v p L e) "stops" = some (.tup ((stp 0 u v p L).map stD)) := by
  unfold fks flX; simp [evE, evT, evL, evA, evO, evAr, evS, evD, putS, peek, mutS, setM, opB, opC, opF, opIx, opSl, walk, unpS, bindT, refs, argS, putBack, permA, outsOf, atI, ixN, tru, setJ, iscS, eqoS, eqoR, putX, popJ, fldD, ofs_inj]
theorem Fly.w (F : Fly u v p L) : Bq 10 (lastS 0 u v p L).t := g10 (F.all _ last_mem).1
/-- the time at which its u is x -/
abbrev tmU (u v p : Rat) (L : List Ln) (x : Rat) : Option Rat := timeU (stp 0 u v p L) (lastS 0 u v p L).t x
theorem Fly.xs (F : Fly u v p L) {x : Rat} (hx : Bq 540 x) : ∀ s ∈ stp 0 u v p L, Sto s ∧ Bq 1002 (x - s.u) ∧ Bq 1046 ((x - s.u) / s.p) ∧ Bq 1057 (s.t + (x - s.u) / s.p) := fun s hs => by
  obtain ⟨g, b, q, q0⟩ := F.all s hs
  have h1 : Bq 1002 (x - s.u) := hx.sub b.u
  have h2 : Bq 1046 ((x - s.u) / s.p) := h1.div q q0
  exact ⟨F.sto s hs, h1, h2, ((g10 g).add h2).le (by decide)⟩
/-! ### draws of flights -/
theorem Pot.le {c d : Nat} {own p1 p2 : Int} (h : Pot c own p1 p2) (e : c ≤ d) : Pot d own p1 p2 := ⟨h.o0, h.o1, h.a0, h.a1, h.b0, by have := h.b1; omega⟩
/-! ### drawn times and events of a flight -/
/-! ### small ones, growth -/
/-! ### the loops of the law -/
def eP (x0 x1 x2 x3 x5 x6 x7 x8 : Sl) (e4 e9 e10 e11 e12 : Option Sl) : Mn.Env := [some x0, some x1, some x2, some x3, e4, some x5, some x6, some x7, some x8, e9, e10, e11, e12, none, none, none]
/-! ### what is shown -/
def sho (d : D) : PySem.Str := (toP d).shown
theorem log_lt {i : Int} {k : Nat} (h : i.natAbs < 2 ^ k) (hk : 0 < k) : i.natAbs.log2 < k := by
  by_cases z : i.natAbs = 0
  · rw [z]; exact hk
  · exact (Nat.log2_lt z).2 h
theorem int_short {i : Int} {k : Nat} (h : i.natAbs < 2 ^ k) (hk : 0 < k) (hk2 : k ≤ 1900) : (PyData.shown (.int i)).length ≤ 2000 := by
  have h1 := PySem.int_text_length_le hk (log_lt h hk)
  have h2 : (PyData.shown (.int i)).length = (toString i).length := by
    show (PySem.Str.ofString (toString i)).length = _
    rw [PySem.ofString_length]
  omega
theorem int_weight {i : Int} {k : Nat} (h : i.natAbs < 2 ^ k) (hk : 0 < k) : (PyData.int i).weight ≤ k := by
  show (if i == 0 then 0 else i.natAbs.log2 + 1) ≤ k
  split
  · omega
  · have := log_lt h hk; omega
theorem Bq.pos {k : Nat} {q : Rat} (h : Bq k q) : 0 < k := by
  have h1 := h.d
  have h2 := q.den_pos
  cases k with
  | zero => simp [evE, evT, evL, evA, evO, evAr, evS, evD, putS, peek, mutS, setM, opB, opC, opF, opIx, opSl, walk, unpS, bindT, refs, argS, putBack, permA, outsOf, atI, ixN, tru, setJ, iscS, eqoS, eqoR, putX, popJ] at h1; omega
  | succ k => omega
theorem shd_fr {k : Nat} {q : Rat} (h : Bq k q) (hk : k ≤ 1800) : shd (fr q) = true := by
  have k0 := h.pos
  have n1 := int_short h.n k0 (by omega)
  have hd : ((q.den : Int)).natAbs < 2 ^ k := by rw [Int.natAbs_natCast]; exact h.d
  have n2 := int_short hd k0 (by omega)
  have w1 := int_weight h.n k0
  have w2 := int_weight hd k0
  have l1 := log_lt h.n k0
  have l2 := log_lt hd k0
  unfold shd
  show (((((decide (q.num.natAbs.log2 < 1920) && (decide ((q.den : Int).natAbs.log2 < 1920) && true)) && !false) && decide (_ ≤ 40)) && (decide ((PyData.shown (.int q.num)).length ≤ 2000) && (decide ((PyData.shown (.int q.den)).length ≤ 2000) && true))) && decide ((PyData.int q.num).weight + 1 + ((PyData.int q.den).weight + 1 + 0) ≤ 8000)) = true
  rw [decide_eq_true (show q.num.natAbs.log2 < 1920 by omega), decide_eq_true (show (q.den : Int).natAbs.log2 < 1920 by omega), decide_eq_true n1, decide_eq_true n2, decide_eq_true (show (PyData.int q.num).weight + 1 + ((PyData.int q.den).weight + 1 + 0) ≤ 8000 by omega)]
  rfl
theorem repr_fr {k : Nat} {q : Rat} (h : Bq k q) (hk : k ≤ 1800) : opF .repr [fr q] = some (.str (sho (fr q))) := by
  show (if shd (fr q) = true then some (D.str (toP (fr q)).shown) else none) = _
  rw [if_pos (shd_fr h hk)]; rfl
theorem str_refl {x : PySem.Str} : deq (.str x) (.str x) = true := by
  show (x == x) = true
  simp [evE, evT, evL, evA, evO, evAr, evS, evD, putS, peek, mutS, setM, opB, opC, opF, opIx, opSl, walk, unpS, bindT, refs, argS, putBack, permA, outsOf, atI, ixN, tru, setJ, iscS, eqoS, eqoR, putX, popJ]
/-! ### sides exchanged, seen by an onlooker -/
def flS (s : Stp) : Stp := ⟨s.t, s.v, s.u, 1 / s.p⟩
def flL (L : List Ln) : List Ln := L.map fun l => (l.1, if l.1 then l.2 else 1 / l.2)
def flZ (z : Stp × Rat) : Stp × Rat := (flS z.1, z.2)
theorem inv_mul (p w : Rat) : 1 / (p * w) = 1 / p * (1 / w) := by
  rw [Rat.div_def, Rat.div_def, Rat.div_def, Rat.inv_mul_rev]; grind
theorem div_inv' (a p : Rat) : a / (1 / p) = a * p := by
  rw [Rat.div_def, Rat.div_def, Rat.one_mul, Rat.inv_inv]
theorem stp_flip : ∀ (L : List Ln) (t u v p : Rat), (stp t u v p L).map flS = stp t v u (1 / p) (flL L)
  | [], t, u, v, p => rfl
  | (false, w) :: L, t, u, v, p => by
    show (stp t u v (p * w) L).map flS = stp t v u (1 / p * (1 / w)) (flL L)
    rw [stp_flip L, inv_mul]
  | (true, w) :: L, t, u, v, p => by
    show (⟨t, v, u, 1 / p⟩ : Stp) :: (stp (t + w) (u + p * w) (v + w / p) p L).map flS = ⟨t, v, u, 1 / p⟩ :: stp (t + w) (v + 1 / p * w) (u + w / (1 / p)) (1 / p) (flL L)
    rw [stp_flip L, div_inv', show w / p = 1 / p * w by rw [Rat.div_def, Rat.div_def]; grind, show p * w = w * p by grind]
theorem last_flip : ∀ (L : List Ln) (t u v p : Rat), lastS t v u (1 / p) (flL L) = flS (lastS t u v p L)
  | [], t, u, v, p => rfl
  | (false, w) :: L, t, u, v, p => by
    show lastS t v u (1 / p * (1 / w)) (flL L) = flS (lastS t u v (p * w) L)
    rw [← last_flip L, inv_mul]
  | (true, w) :: L, t, u, v, p => by
    show lastS (t + w) (v + 1 / p * w) (u + w / (1 / p)) (1 / p) (flL L) = flS (lastS (t + w) (u + p * w) (v + w / p) p L)
    rw [← last_flip L, div_inv', show w / p = 1 / p * w by rw [Rat.div_def, Rat.div_def]; grind, show p * w = w * p by grind]
theorem legs_flip : ∀ (L : List Ln) (t u v p : Rat), (legs t u v p L).map flZ = legs t v u (1 / p) (flL L)
  | [], t, u, v, p => rfl
  | (false, w) :: L, t, u, v, p => by
    show (legs t u v (p * w) L).map flZ = legs t v u (1 / p * (1 / w)) (flL L)
    rw [legs_flip L, inv_mul]
  | (true, w) :: L, t, u, v, p => by
    show ((⟨t, v, u, 1 / p⟩ : Stp), w) :: (legs (t + w) (u + p * w) (v + w / p) p L).map flZ = (⟨t, v, u, 1 / p⟩, w) :: legs (t + w) (v + 1 / p * w) (u + w / (1 / p)) (1 / p) (flL L)
    rw [legs_flip L, div_inv', show w / p = 1 / p * w by rw [Rat.div_def, Rat.div_def]; grind, show p * w = w * p by grind]
theorem lawAt_flip (τ : Rat) : ∀ (G : List (Stp × Rat)) (a : Rat × Rat), lawAt τ (a.2, a.1) (G.map flZ) = ((lawAt τ a G).2, (lawAt τ a G).1)
  | [], a => rfl
  | (s, w) :: G, a => by
    rw [List.map_cons]
    show lawAt τ (if τ < s.t then (a.2, a.1) else (s.v + 1 / s.p * (if w < τ - s.t then w else τ - s.t), s.u + (if w < τ - s.t then w else τ - s.t) / (1 / s.p))) (G.map flZ) = _
    rw [show lawAt τ a ((s, w) :: G) = lawAt τ (if τ < s.t then a else (s.u + s.p * (if w < τ - s.t then w else τ - s.t), s.v + (if w < τ - s.t then w else τ - s.t) / s.p)) G from rfl]
    rw [← lawAt_flip τ G]
    congr 1
    generalize (if w < τ - s.t then w else τ - s.t) = d
    by_cases c : τ < s.t
    · rw [if_pos c, if_pos c]
    · rw [if_neg c, if_neg c, div_inv']
      show (s.v + 1 / s.p * d, s.u + d * s.p) = (s.v + d / s.p, s.u + s.p * d)
      rw [show d / s.p = 1 / s.p * d by rw [Rat.div_def, Rat.div_def]; grind, show s.p * d = d * s.p by grind]
theorem Bq.inv {k : Nat} {q : Rat} (h : Bq k q) (h0 : 0 < q) : Bq k (1 / q) := by
  have e := fr_rec h0
  unfold fr at e
  injection e with e
  injection e with e1 e2
  injection e1 with e1
  injection e2 with e2 _
  injection e2 with e2
  have hn : (1 / q).num = (q.den : Int) := e1.symm
  have hd : ((1 / q).den : Int) = q.num := e2.symm
  have a := h.n
  have b := h.d
  exact ⟨by rw [hn, Int.natAbs_natCast]; exact b, by omega⟩
theorem invp {q : Rat} (h0 : 0 < q) : 0 < 1 / q := divp (by decide) h0
theorem Fly.flip (F : Fly u v p L) : Fly v u (1 / p) (flL L) where
  he := ⟨F.he.v, F.he.u⟩
  hp := F.hp.inv F.p0
  p0 := invp F.p0
  h4 := fun l m => by
    obtain ⟨⟨b, w⟩, hm, rfl⟩ := List.mem_map.1 m
    obtain ⟨h1, h2⟩ := F.h4 _ hm
    cases b with
    | true => exact ⟨h1, h2⟩
    | false => exact ⟨h1.inv h2, invp h2⟩
  hg := fun l m e => by
    obtain ⟨⟨b, w⟩, hm, rfl⟩ := List.mem_map.1 m
    cases b with
    | true => exact F.hg _ hm rfl
    | false => cases e
  hn := by unfold flL; rw [List.length_map]; exact F.hn
theorem plc_flip (τ : Rat) : plc v u (1 / p) (flL L) τ = ((plc u v p L τ).2, (plc u v p L τ).1) := by
  unfold plc
  rw [← legs_flip L 0 u v p]
  exact lawAt_flip τ _ (u, v)
/-- the time at which its v is y -/
abbrev tmV (u v p : Rat) (L : List Ln) (y : Rat) : Option Rat := tmU v u (1 / p) (flL L) y
theorem tmV_is {y : Rat} : tmV u v p L y = timeU ((stp 0 u v p L).map flS) (lastS 0 u v p L).t y := by
  show timeU (stp 0 v u (1 / p) (flL L)) (lastS 0 v u (1 / p) (flL L)).t y = _
  rw [stp_flip, last_flip]; rfl
theorem last_flip_t : (lastS 0 v u (1 / p) (flL L)).t = (lastS 0 u v p L).t := by rw [last_flip]; rfl
/-! ### what is heard -/
def heardG (rv ru : Option Rat) (pl : Rat → Rat × Rat) (x y : Rat) : Option (Bool × Rat) :=
  let right := match ru with
    | some τ => if y < (pl τ).2 then some (false, τ) else none
    | none => none
  match rv with
  | some τ => if x < (pl τ).1 then some (true, τ) else right
  | none => right
def heardW (u v p : Rat) (L : List Ln) (x y : Rat) : Option (Bool × Rat) := heardG (tmV u v p L y) (tmU u v p L x) (plc u v p L) x y
/-! ### the times at which v is worth -/
theorem s_inverse {fu n : Nat} {q : Rat} (h : 0 < q) : evF T fu (n + 1) "inverse" [.val (fr q)] = some (fr (1 / q), []) := by
  rw [ev1 (dd := d_inverse) (by kernel_rfl), ← fr_rec h]
  unfold d_inverse fr
  simp [evE, evT, evL, evA, evO, evAr, evS, evD, putS, peek, mutS, setM, opB, opC, opF, opIx, opSl, walk, unpS, bindT, refs, argS, putBack, permA, outsOf, atI, ixN, tru, setJ, iscS, eqoS, eqoR, putX, popJ, show 2 ≤ lim by decide]
theorem s_rate1 {fu n : Nat} {q : Rat} (h : 0 < q) : evF T fu (n + 2) "rate" [.val (fr q), .val (.int 1)] = some (fr (1 / q), []) := by
  have m := s_inverse (fu := fu) (n := n) h
  rw [ev1 (dd := d_rate) (by kernel_rfl)]
  unfold d_rate
  have e : opC .eq (.int 1) (.int 0) = some false := by decide +kernel
  generalize fr (1 / q) = r at *
  generalize fr q = a at *
  simp [evE, evT, evL, evA, evO, evAr, evS, evD, putS, peek, mutS, setM, opB, opF, opIx, opSl, walk, unpS, bindT, refs, argS, putBack, permA, outsOf, atI, ixN, tru, setJ, iscS, eqoS, eqoR, putX, popJ, e, m]
theorem s_timeat1 {fu n : Nat} {S : List Stp} {ks : List PySem.Str} {xs : List D} {w x : Rat} (hf : fldD ks xs "stops" = some (.tup (S.map stD))) (hw' : fldD ks xs "whole" = some (fr w)) (hw : Bq 1900 w) (hx : Bq 1900 x) (hl : S.length ≤ 200)
    (hS : ∀ s ∈ S, Sto s ∧ Bq 2000 (x - s.v) ∧ Bq 1900 ((x - s.v) / (1 / s.p)) ∧ Bq 3000 (s.t + (x - s.v) / (1 / s.p))) :
    evF T fu (n + 3) "time_at" [.val (.obj "Flight" ks xs), .val (.int 1), .val (fr x)] = some (frO (timeU (S.map flS) w x), []) := by
  rw [ev1 (dd := d_time_at) (by kernel_rfl)]
  unfold d_time_at
  obtain ⟨CC, hCC⟩ : ∃ C, C = Ex.comp .seq (.cons (.att ["Flight"] (.var 0) "stops") .nil) (.one 9) (.tnot (.tval (.call "is_less" [0, 1] (.cons (.tval (.var 2)) (.cons (.tval (.ix (.ix (.var 9) (.con (.int 1))) (.var 1))) .nil))))) (.var 9) [9] := ⟨_, rfl⟩
  have key : compL (fun e => evE (evF T fu (n + 2)) (.var 9) e) (fun e => evT (evF T fu (n + 2)) (.tnot (.tval (.call "is_less" [0, 1] (.cons (.tval (.var 2)) (.cons (.tval (.ix (.ix (.var 9) (.con (.int 1))) (.var 1))) .nil))))) e) (.one 9) [9] (S.map stD) [some (.val (.obj "Flight" ks xs)), some (.val (.int 1)), some (.val (fr x)), none, none, none, none, none, none, none] = some ((S.filter fun s => !decide (x < s.v)).map stD, [some (.val (.obj "Flight" ks xs)), some (.val (.int 1)), some (.val (fr x)), none, none, none, none, none, none, none]) := by
    refine compL_filter fun s hs => ?_
    have m1 := s_less (fu := fu) (n := n + 1) (hx.le (by omega : 1900 ≤ 3000)) ((hS s hs).1.e.v.le (by omega : 1900 ≤ 3000))
    refine ⟨[some (.val (.obj "Flight" ks xs)), some (.val (.int 1)), some (.val (fr x)), none, none, none, none, none, none, some (.val (stD s))], rfl, ?_, rfl, rfl⟩
    show evT (evF T fu (n + 2)) (.tnot (.tval (.call "is_less" [0, 1] (.cons (.tval (.var 2)) (.cons (.tval (.ix (.ix (.var 9) (.con (.int 1))) (.var 1))) .nil))))) [some (.val (.obj "Flight" ks xs)), some (.val (.int 1)), some (.val (fr x)), none, none, none, none, none, none, some (.val (stD s))] = some (!decide (x < s.v), [some (.val (.obj "Flight" ks xs)), some (.val (.int 1)), some (.val (fr x)), none, none, none, none, none, none, some (.val (stD s))])
    unfold stD ev
    generalize fr s.t = a
    generalize fr x = b at m1 ⊢
    generalize fr s.p = c
    generalize fr s.u = d2
    generalize fr s.v = d at m1 ⊢
    simp [evE, evT, evL, evA, evO, evAr, evS, evD, putS, peek, mutS, setM, opB, opC, opF, opSl, walk, unpS, bindT, refs, argS, putBack, permA, outsOf, atI, ixN, tru, setJ, iscS, eqoS, eqoR, putX, popJ, ixt0, ixt1, m1]
  have c3 : evE (evF T fu (n + 2)) CC [some (.val (.obj "Flight" ks xs)), some (.val (.int 1)), some (.val (fr x)), none, none, none, none, none, none, none] = some (.lst ((S.filter fun s => !decide (x < s.v)).map stD), [some (.val (.obj "Flight" ks xs)), some (.val (.int 1)), some (.val (fr x)), none, none, none, none, none, none, none]) := by
    rw [hCC, evE]
    rw [show evL (evF T fu (n + 2)) (.cons (.att ["Flight"] (.var 0) "stops") .nil) [some (.val (.obj "Flight" ks xs)), some (.val (.int 1)), some (.val (fr x)), none, none, none, none, none, none, none] = some ([.tup (S.map stD)], [some (.val (.obj "Flight" ks xs)), some (.val (.int 1)), some (.val (fr x)), none, none, none, none, none, none, none]) by simp [evE, evT, evL, evA, evO, evAr, evS, evD, putS, peek, mutS, setM, opB, opC, opF, opIx, opSl, walk, unpS, bindT, refs, argS, putBack, permA, outsOf, atI, ixN, tru, setJ, iscS, eqoS, eqoR, putX, popJ, hf]]
    simp only [Option.bind_eq_bind, Option.bind_some, show walk .seq [.tup (S.map stD)] = some (S.map stD) from rfl]
    rw [if_pos (by rw [Bool.and_eq_true]; exact ⟨by rw [List.length_map, decide_eq_true_eq]; unfold lim; omega, rfl⟩), key]
    rfl
  rw [← hCC]
  clear hCC key
  have fe : ((S.map flS).filter fun s => !decide (x < s.u)) = (S.filter fun s => !decide (x < s.v)).map flS := by
    rw [List.filter_map]; rfl
  cases hF : (S.filter fun s => !decide (x < s.v)).getLast? with
  | none =>
    have hn : (S.filter fun s => !decide (x < s.v)) = [] := List.getLast?_eq_none_iff.1 hF
    have e : timeU (S.map flS) w x = none := by unfold timeU; rw [fe, List.getLast?_map, hF]; rfl
    rw [hn] at c3
    rw [e]
    simp [evE, evT, evL, evA, evO, evAr, evS, evD, putS, peek, mutS, setM, opB, opC, opF, opIx, opSl, walk, unpS, bindT, refs, argS, putBack, permA, outsOf, atI, ixN, tru, setJ, iscS, eqoS, eqoR, putX, popJ, c3, frO]
  | some s =>
    obtain ⟨R, hR⟩ := List.getLast?_eq_some_iff.1 hF
    have hs : s ∈ S := (List.mem_filter.1 (by rw [hR]; simp : s ∈ S.filter fun s => !decide (x < s.v))).1
    obtain ⟨so, g1, g2, g3⟩ := hS s hs
    have ip : Bq 1800 (1 / s.p) := so.p.inv so.p0
    have m1 := s_subtracted (fu := fu) (n := n) (hx.le (by omega : 1900 ≤ 2000)) (so.e.v.le (by omega : 1900 ≤ 2000))
    have m2 := s_divided (fu := fu) (n := n) g1 (ip.le (by omega : 1800 ≤ 2000)) (invp so.p0)
    have m3 := s_added (fu := fu) (n := n) (so.t.le (by omega : 1900 ≤ 2000)) (g2.le (by omega : 1900 ≤ 2000))
    have m4 := s_less (fu := fu) (n := n + 1) (hw.le (by omega : 1900 ≤ 3000)) g3
    have r0 := s_rate1 (fu := fu) (n := n) (q := s.p) so.p0
    have e : timeU (S.map flS) w x = if w < s.t + (x - s.v) / (1 / s.p) then none else some (s.t + (x - s.v) / (1 / s.p)) := by unfold timeU; rw [fe, List.getLast?_map, hF]; rfl
    rw [hR, List.map_append] at c3
    have i1 : opIx (.lst (R.map stD ++ [stD s])) (.int (-1)) = some (stD s) := ixlastL
    have ne : (R.map stD ++ [stD s]).isEmpty = false := by simp [evE, evT, evL, evA, evO, evAr, evS, evD, putS, peek, mutS, setM, opB, opC, opF, opIx, opSl, walk, unpS, bindT, refs, argS, putBack, permA, outsOf, atI, ixN, tru, setJ, iscS, eqoS, eqoR, putX, popJ]
    rw [show [s].map stD = [stD s] from rfl] at c3
    rw [e]
    generalize hRR : R.map stD ++ [stD s] = RR at c3 i1 ne
    unfold stD ev at i1
    generalize hbb : decide (w < s.t + (x - s.v) / (1 / s.p)) = bb at m4
    have e2 : frO (if w < s.t + (x - s.v) / (1 / s.p) then none else some (s.t + (x - s.v) / (1 / s.p))) = if bb = true then D.non else fr (s.t + (x - s.v) / (1 / s.p)) := by
      rw [← hbb]
      by_cases hh : w < s.t + (x - s.v) / (1 / s.p)
      · simp [evE, evT, evL, evA, evO, evAr, evS, evD, putS, peek, mutS, setM, opB, opC, opF, opIx, opSl, walk, unpS, bindT, refs, argS, putBack, permA, outsOf, atI, ixN, tru, setJ, iscS, eqoS, eqoR, putX, popJ, hh, frO]
      · simp [evE, evT, evL, evA, evO, evAr, evS, evD, putS, peek, mutS, setM, opB, opC, opF, opIx, opSl, walk, unpS, bindT, refs, argS, putBack, permA, outsOf, atI, ixN, tru, setJ, iscS, eqoS, eqoR, putX, popJ, hh, frO]
    rw [e2]
    generalize fr (s.t + (x - s.v) / (1 / s.p)) = y3 at m3 m4 ⊢
    generalize fr ((x - s.v) / (1 / s.p)) = y2 at m2 m3
    generalize fr (x - s.v) = y1 at m1 m2
    have hw2 : fldD ks xs "whole" = some (fr w) := hw'
    unfold fr at hw2 m4
    generalize fr (1 / s.p) = ri at m2 r0
    generalize fr x = xx at c3 m1 ⊢
    generalize fr s.u = su at i1
    generalize fr s.v = sv at i1 m1
    generalize fr s.p = sp at i1 r0
    generalize fr s.t = st at i1 m3
    cases bb <;> simp [evE, evT, evL, evA, evO, evAr, evS, evD, putS, peek, mutS, setM, opB, opC, opF, opSl, walk, unpS, bindT, refs, argS, putBack, permA, outsOf, atI, ixN, tru, setJ, iscS, eqoS, eqoR, putX, popJ, c3, ne, i1, ixt0, ixt1, m1, m2, m3, m4, r0, hw2]
/-! ### what is heard, by the program and by the law -/
def sdw (b : Bool) : PySem.Str := if b then "left" else "right"
def hdD : Option (Bool × Rat) → D
  | none => .non
  | some (b, τ) => .tup [.str (sdw b), fr τ]
def hrR (ru : Option Rat) (pl : Rat → Rat × Rat) (y : Rat) : Option (Bool × Rat) := match ru with
  | some τ => if y < (pl τ).2 then some (false, τ) else none
  | none => none
theorem hrR_cases (ru : Option Rat) (pl : Rat → Rat × Rat) (x y : Rat) : (ru = none ∧ heardG none ru pl x y = none) ∨ ∃ τ, ru = some τ ∧ ((¬ y < (pl τ).2 ∧ heardG none ru pl x y = none) ∨ (y < (pl τ).2 ∧ heardG none ru pl x y = some (false, τ))) := by
  have e : heardG none ru pl x y = hrR ru pl y := rfl
  rw [e]
  cases ru with
  | none => exact .inl ⟨rfl, rfl⟩
  | some τ =>
    refine .inr ⟨τ, rfl, ?_⟩
    have e : hrR (some τ) pl y = if y < (pl τ).2 then some (false, τ) else none := rfl
    rw [e]
    by_cases c : y < (pl τ).2
    · rw [if_pos c]; exact .inr ⟨c, rfl⟩
    · rw [if_neg c]; exact .inl ⟨c, rfl⟩
theorem s_hearing {fu n : Nat} {o : D} {x y : Rat} {rv ru : Option Rat} {pl : Rat → Rat × Rat} (hx : Bq 3000 x) (hy : Bq 3000 y)
    (hv : evF T fu (n + 4) "time_at" [.val o, .val (.int 1), .val (fr y)] = some (frO rv, []))
    (hu : evF T fu (n + 4) "time_at" [.val o, .val (.int 0), .val (fr x)] = some (frO ru, []))
    (pv : ∀ τ, rv = some τ → Be 3000 (pl τ).1 (pl τ).2 ∧ evF T fu (n + 4) "place_at" [.val o, .val (fr τ)] = some (ev (pl τ).1 (pl τ).2, []))
    (pu : ∀ τ, ru = some τ → Be 3000 (pl τ).1 (pl τ).2 ∧ evF T fu (n + 4) "place_at" [.val o, .val (fr τ)] = some (ev (pl τ).1 (pl τ).2, [])) :
    evF T fu (n + 5) "hearing" [.val o, .val (ev x y)] = some (hdD (heardG rv ru pl x y), []) := by
  rw [ev1 (dd := d_hearing) (by kernel_rfl)]
  unfold d_hearing
  have i0 : opIx (ev x y) (.int 0) = some (fr x) := ixt0
  have i1 : opIx (ev x y) (.int 1) = some (fr y) := ixt1
  have isn : ∀ q : Rat, opC .isn (fr q) .non = some true := fun _ => rfl
  have isnn : opC .isn .non .non = some false := rfl
  have L2' : 2 ≤ lim := by decide
  have L3' : 3 ≤ lim := by decide
  have hl : sdw true = ("left" : PySem.Str) := rfl
  have hr : sdw false = ("right" : PySem.Str) := rfl
  have tail : (ru = none ∧ heardG none ru pl x y = none) ∨ ∃ τ, ru = some τ ∧ ((¬ y < (pl τ).2 ∧ heardG none ru pl x y = none) ∨ (y < (pl τ).2 ∧ heardG none ru pl x y = some (false, τ))) := hrR_cases ru pl x y
  cases rv with
  | none =>
    have hv : evF T fu (n + 4) "time_at" [.val o, .val (.int 1), .val (fr y)] = some (.non, []) := hv
    rcases tail with ⟨rfl, e⟩ | ⟨τ, rfl, tail⟩
    · have hu : evF T fu (n + 4) "time_at" [.val o, .val (.int 0), .val (fr x)] = some (.non, []) := hu
      rw [e]
      show _ = some (D.non, [])
      generalize ev x y = ee at *
      generalize fr x = xx at *
      generalize fr y = yy at *
      simp [evE, evT, evL, evA, evO, evAr, evS, evD, putS, peek, mutS, setM, opB, opF, opSl, walk, unpS, bindT, refs, argS, putBack, permA, outsOf, atI, ixN, tru, setJ, iscS, eqoS, eqoR, putX, popJ, hv, hu, isnn, i0, i1, forL, L2', L3']
    · obtain ⟨b2, m2⟩ := pu τ rfl
      have hu : evF T fu (n + 4) "time_at" [.val o, .val (.int 0), .val (fr x)] = some (fr τ, []) := hu
      have q1 : opIx (ev (pl τ).1 (pl τ).2) (.int 1) = some (fr (pl τ).2) := ixt1
      have l1 := s_less (fu := fu) (n := n + 3) hy b2.v
      have nn := isn τ
      rcases tail with ⟨c, e⟩ | ⟨c, e⟩
      · rw [decide_eq_false c] at l1
        rw [e]
        show _ = some (D.non, [])
        generalize ev x y = ee at *
        generalize ev (pl τ).1 (pl τ).2 = pp at *
        generalize fr (pl τ).2 = p2 at *
        generalize fr x = xx at *
        generalize fr y = yy at *
        generalize fr τ = tt at *
        simp [evE, evT, evL, evA, evO, evAr, evS, evD, putS, peek, mutS, setM, opB, opF, opSl, walk, unpS, bindT, refs, argS, putBack, permA, outsOf, atI, ixN, tru, setJ, iscS, eqoS, eqoR, putX, popJ, hv, hu, isnn, nn, i0, i1, q1, l1, m2, forL, L2', L3']
      · rw [decide_eq_true c] at l1
        rw [e]
        show _ = some (D.tup [.str "right", fr τ], [])
        generalize ev x y = ee at *
        generalize ev (pl τ).1 (pl τ).2 = pp at *
        generalize fr (pl τ).2 = p2 at *
        generalize fr x = xx at *
        generalize fr y = yy at *
        generalize fr τ = tt at *
        simp [evE, evT, evL, evA, evO, evAr, evS, evD, putS, peek, mutS, setM, opB, opF, opSl, walk, unpS, bindT, refs, argS, putBack, permA, outsOf, atI, ixN, tru, setJ, iscS, eqoS, eqoR, putX, popJ, hv, hu, isnn, nn, i0, i1, q1, l1, m2, forL, L2', L3']
  | some σ =>
    have hv : evF T fu (n + 4) "time_at" [.val o, .val (.int 1), .val (fr y)] = some (fr σ, []) := hv
    obtain ⟨b1, m1⟩ := pv σ rfl
    have q0 : opIx (ev (pl σ).1 (pl σ).2) (.int 0) = some (fr (pl σ).1) := ixt0
    have k1 := s_less (fu := fu) (n := n + 3) hx b1.u
    have ns := isn σ
    by_cases d : x < (pl σ).1
    · have e : heardG (some σ) ru pl x y = some (true, σ) := by
        show (if x < (pl σ).1 then some (true, σ) else _) = _
        rw [if_pos d]
      rw [e]
      rw [decide_eq_true d] at k1
      show _ = some (D.tup [.str "left", fr σ], [])
      generalize ev x y = ee at *
      generalize ev (pl σ).1 (pl σ).2 = ps at *
      generalize fr (pl σ).1 = p1 at *
      generalize fr x = xx at *
      generalize fr y = yy at *
      generalize fr σ = ss at *
      simp [evE, evT, evL, evA, evO, evAr, evS, evD, putS, peek, mutS, setM, opB, opF, opSl, walk, unpS, bindT, refs, argS, putBack, permA, outsOf, atI, ixN, tru, setJ, iscS, eqoS, eqoR, putX, popJ, hv, ns, i0, i1, q0, k1, m1, forL, L2', L3']
    · have e : heardG (some σ) ru pl x y = heardG none ru pl x y := by
        show (if x < (pl σ).1 then some (true, σ) else _) = _
        rw [if_neg d]; rfl
      rw [e]
      clear e
      rw [decide_eq_false d] at k1
      rcases tail with ⟨rfl, e⟩ | ⟨τ, rfl, tail⟩
      · have hu : evF T fu (n + 4) "time_at" [.val o, .val (.int 0), .val (fr x)] = some (.non, []) := hu
        rw [e]
        show _ = some (D.non, [])
        generalize ev x y = ee at *
        generalize ev (pl σ).1 (pl σ).2 = ps at *
        generalize fr (pl σ).1 = p1 at *
        generalize fr x = xx at *
        generalize fr y = yy at *
        generalize fr σ = ss at *
        simp [evE, evT, evL, evA, evO, evAr, evS, evD, putS, peek, mutS, setM, opB, opF, opSl, walk, unpS, bindT, refs, argS, putBack, permA, outsOf, atI, ixN, tru, setJ, iscS, eqoS, eqoR, putX, popJ, hv, hu, isnn, ns, i0, i1, q0, k1, m1, forL, L2', L3']
      · obtain ⟨b2, m2⟩ := pu τ rfl
        have hu : evF T fu (n + 4) "time_at" [.val o, .val (.int 0), .val (fr x)] = some (fr τ, []) := hu
        have q1 : opIx (ev (pl τ).1 (pl τ).2) (.int 1) = some (fr (pl τ).2) := ixt1
        have l1 := s_less (fu := fu) (n := n + 3) hy b2.v
        have nn := isn τ
        rcases tail with ⟨c, e⟩ | ⟨c, e⟩
        · rw [decide_eq_false c] at l1
          rw [e]
          show _ = some (D.non, [])
          generalize ev x y = ee at *
          generalize ev (pl σ).1 (pl σ).2 = ps at *
          generalize fr (pl σ).1 = p1 at *
          generalize ev (pl τ).1 (pl τ).2 = pp at *
          generalize fr (pl τ).2 = p2 at *
          generalize fr x = xx at *
          generalize fr y = yy at *
          generalize fr σ = ss at *
          generalize fr τ = tt at *
          simp [evE, evT, evL, evA, evO, evAr, evS, evD, putS, peek, mutS, setM, opB, opF, opSl, walk, unpS, bindT, refs, argS, putBack, permA, outsOf, atI, ixN, tru, setJ, iscS, eqoS, eqoR, putX, popJ, hv, hu, isnn, ns, nn, i0, i1, q0, q1, k1, l1, m1, m2, forL, L2', L3']
        · rw [decide_eq_true c] at l1
          rw [e]
          show _ = some (D.tup [.str "right", fr τ], [])
          generalize ev x y = ee at *
          generalize ev (pl σ).1 (pl σ).2 = ps at *
          generalize fr (pl σ).1 = p1 at *
          generalize ev (pl τ).1 (pl τ).2 = pp at *
          generalize fr (pl τ).2 = p2 at *
          generalize fr x = xx at *
          generalize fr y = yy at *
          generalize fr σ = ss at *
          generalize fr τ = tt at *
          simp [evE, evT, evL, evA, evO, evAr, evS, evD, putS, peek, mutS, setM, opB, opF, opSl, walk, unpS, bindT, refs, argS, putBack, permA, outsOf, atI, ixN, tru, setJ, iscS, eqoS, eqoR, putX, popJ, hv, hu, isnn, ns, nn, i0, i1, q0, q1, k1, l1, m1, m2, forL, L2', L3']
theorem Fly.ys (F : Fly u v p L) {y : Rat} (hy : Bq 540 y) : ∀ s ∈ stp 0 u v p L, Sto s ∧ Bq 1002 (y - s.v) ∧ Bq 1046 ((y - s.v) / (1 / s.p)) ∧ Bq 1057 (s.t + (y - s.v) / (1 / s.p)) := fun s hs => by
  obtain ⟨g, b, q, q0⟩ := F.all s hs
  have h1 : Bq 1002 (y - s.v) := hy.sub b.v
  have h2 : Bq 1046 ((y - s.v) / (1 / s.p)) := h1.div (q.inv q0) (invp q0)
  exact ⟨F.sto s hs, h1, h2, ((g10 g).add h2).le (by decide)⟩
/-! ### a flight's text, by the program -/
/-! ### shown -/
theorem ne_self {s : PySem.Str} : opC .ne (.str s) (.str s) = some false := by
  have := str_refl (x := s)
  simp [evE, evT, evL, evA, evO, evAr, evS, evD, putS, peek, mutS, setM, opB, opC, opF, opIx, opSl, walk, unpS, bindT, refs, argS, putBack, permA, outsOf, atI, ixN, tru, setJ, iscS, eqoS, eqoR, putX, popJ, dsh_str, this]
end L16
namespace L16
open PySem L2 Mn TL
/-! ### flights of any making: each state on the way is of a bounded size -/
structure Bst (t' u' v' p' : Rat) : Prop where
  t : Bq 60 t'
  e : Be 800 u' v'
  p : Bq 120 p'
  p0 : 0 < p'
def Okf : Rat → Rat → Rat → Rat → List Ln → Prop
  | t, u, v, p, [] => Bst t u v p
  | t, u, v, p, (false, w) :: L => Bst t u v p ∧ Bq 40 w ∧ 0 < w ∧ Okf t u v (p * w) L
  | t, u, v, p, (true, w) :: L => Bst t u v p ∧ Bq 40 w ∧ 0 < w ∧ Okf (t + w) (u + p * w) (v + w / p) p L
structure Flg (u v p : Rat) (L : List Ln) : Prop where
  ok : Okf 0 u v p L
  hn : L.length ≤ 40
theorem Okf.st : ∀ {L : List Ln} {t u v p : Rat}, Okf t u v p L → Bst t u v p
  | [], _, _, _, _, h => h
  | (false, _) :: _, _, _, _, _, h => h.1
  | (true, _) :: _, _, _, _, _, h => h.1
theorem Okf.l : ∀ {L : List Ln} {t u v p : Rat}, Okf t u v p L → ∀ l ∈ L, Bq 40 l.2 ∧ 0 < l.2
  | [], _, _, _, _, _, l, m => nomatch m
  | (false, w) :: L, t, u, v, p, h, l, m => by
    rcases List.mem_cons.1 m with rfl | m
    · exact ⟨h.2.1, h.2.2.1⟩
    · exact Okf.l h.2.2.2 l m
  | (true, w) :: L, t, u, v, p, h, l, m => by
    rcases List.mem_cons.1 m with rfl | m
    · exact ⟨h.2.1, h.2.2.1⟩
    · exact Okf.l h.2.2.2 l m
theorem Okf.all : ∀ {L : List Ln} {t u v p : Rat}, Okf t u v p L → ∀ s ∈ stp t u v p L, Bst s.t s.u s.v s.p
  | [], t, u, v, p, h, s, hm => by rw [show s = ⟨t, u, v, p⟩ from by simpa [stp] using hm]; exact h
  | (false, w) :: L, t, u, v, p, h, s, hm => Okf.all (L := L) h.2.2.2 s hm
  | (true, w) :: L, t, u, v, p, h, s, hm => by
    rcases List.mem_cons.1 (show s ∈ (⟨t, u, v, p⟩ : Stp) :: stp (t + w) (u + p * w) (v + w / p) p L from hm) with rfl | hm
    · exact h.1
    · exact Okf.all (L := L) h.2.2.2 s hm
theorem Okf.app : ∀ {L M : List Ln} {t u v p : Rat}, Okf t u v p L → Okf (lastS t u v p L).t (lastS t u v p L).u (lastS t u v p L).v (lastS t u v p L).p M → Okf t u v p (L ++ M)
  | [], M, _, _, _, _, _, g => g
  | (false, w) :: L, M, t, u, v, p, h, g => ⟨h.1, h.2.1, h.2.2.1, Okf.app (L := L) h.2.2.2 g⟩
  | (true, w) :: L, M, t, u, v, p, h, g => ⟨h.1, h.2.1, h.2.2.1, Okf.app (L := L) h.2.2.2 g⟩
theorem okf_of {c Pm : Nat} (hPm : Pm ≤ 120) (hc : c ≤ 40) : ∀ {L : List Ln} {P T E : Nat} {t u v p : Rat}, Bq T t → Be E u v → Bq P p → 0 < p → (∀ l ∈ L, Bq c l.2 ∧ 0 < l.2) → P + c * L.length ≤ Pm → T + (c + 1) * L.length ≤ 60 → E + L.length * (Pm + (c + 1)) ≤ 800 → Okf t u v p L
  | [], P, T, E, t, u, v, p, ht, he, hp, p0, _, h1, h2, h3 => by
    simp only [List.length_nil] at h1 h2 h3
    exact ⟨ht.le (by omega), he.le (by omega), hp.le (by omega), p0⟩
  | (false, w) :: L, P, T, E, t, u, v, p, ht, he, hp, p0, hL, h1, h2, h3 => by
    rw [List.length_cons] at h1 h2 h3
    rw [Nat.mul_add] at h1 h2
    rw [Nat.add_mul] at h3
    obtain ⟨hw, w0⟩ : Bq c w ∧ 0 < w := hL _ List.mem_cons_self
    exact ⟨⟨ht.le (by omega), he.le (by omega), hp.le (by omega), p0⟩, hw.le hc, w0, okf_of hPm hc (L := L) (P := P + c) ht he (hp.mul hw) (Rat.mul_pos p0 w0) (fun l m => hL l (List.mem_cons_of_mem _ m)) (by omega) (by omega) (by omega)⟩
  | (true, w) :: L, P, T, E, t, u, v, p, ht, he, hp, p0, hL, h1, h2, h3 => by
    rw [List.length_cons] at h1 h2 h3
    rw [Nat.mul_add] at h1 h2
    rw [Nat.add_mul] at h3
    obtain ⟨hw, w0⟩ : Bq c w ∧ 0 < w := hL _ List.mem_cons_self
    exact ⟨⟨ht.le (by omega), he.le (by omega), hp.le (by omega), p0⟩, hw.le hc, w0, okf_of hPm hc (L := L) (T := T + (c + 1)) (E := E + (Pm + (c + 1))) ((ht.add hw).le (by omega)) ⟨(he.u.add (hp.mul hw)).le (by omega), (he.v.add (hw.div hp p0)).le (by omega)⟩ hp p0 (fun l m => hL l (List.mem_cons_of_mem _ m)) (by omega) (by omega) (by omega)⟩
theorem s_stopsG {fu n : Nat} {u v p : Rat} {L : List Ln} (h : Okf 0 u v p L) (hl : L.length ≤ 100) :
    evF L16.T fu (n + 4) "stops_of" [.val (ev u v), .val (fr p), .val (.tup (L.map lnD))] = some (.tup ((stp 0 u v p L).map stD), []) := by
  have z0 := s_zero (fu := fu) (n := n + 2)
  rw [ev1 (dd := d_stops_of) (by kernel_rfl)]
  unfold d_stops_of
  obtain ⟨B, hB⟩ : ∃ B, B = Sm.seq (Sm.iff (.tval (.cmp .eq (.var 6) (.con (.str "turn")))) (.seq (.asg 1 (.call "multiplied" [0, 1] (.cons (.tval (.var 1)) (.cons (.tval (.var 7)) .nil)))) .nil) (.seq (.app 3 (.tup (.cons (.var 4) (.cons (.var 5) (.cons (.var 1) .nil))))) (.seq (.asg 4 (.call "added" [0, 1] (.cons (.tval (.var 4)) (.cons (.tval (.var 7)) .nil)))) (.seq (.asg 5 (.call "flown" [0, 1, 2] (.cons (.tval (.var 5)) (.cons (.tval (.var 1)) (.cons (.tval (.var 7)) .nil))))) .nil)))) .nil := ⟨_, rfl⟩
  rw [← hB]
  have loop : ∀ (M : List Ln) (acc : List D) (x0 x2 : D) (t u v p : Rat) (e6 e7 : Option Sl), Okf t u v p M → acc.length + M.length ≤ 1000 → Fre e6 → Fre e7 →
      ∃ t' u' v' p' f6 f7 S, stp t u v p M = S ++ [⟨t', u', v', p'⟩] ∧ S.length ≤ M.length ∧ forL (.many [6, 7]) (fun e => evS (evF L16.T fu (n + 3)) fu B e) (M.map lnD) [some (.val x0), some (.val (fr p)), some (.val x2), some (.own acc), some (.val (fr t)), some (.val (ev u v)), e6, e7] = some (.nx, [some (.val x0), some (.val (fr p')), some (.val x2), some (.own (acc ++ S.map stD)), some (.val (fr t')), some (.val (ev u' v')), f6, f7]) := by
    intro M
    induction M with
    | nil => intro acc x0 x2 t u v p e6 e7 _ _ _ _; exact ⟨t, u, v, p, e6, e7, [], rfl, Nat.le_refl _, by simp [evE, evT, evL, evA, evO, evAr, evS, evD, putS, peek, mutS, setM, opB, opC, opF, opIx, opSl, walk, unpS, bindT, refs, argS, putBack, permA, outsOf, atI, ixN, tru, setJ, iscS, eqoS, eqoR, putX, popJ, forL]⟩
    | cons l M ih =>
      intro acc x0 x2 t u v p e6 e7 hM ha h6 h7
      obtain ⟨b, w⟩ := l
      obtain ⟨ht, he, hp, p0⟩ := hM.st
      obtain ⟨hw, w0⟩ : Bq 40 w ∧ 0 < w := hM.l _ List.mem_cons_self
      rw [List.length_cons] at ha
      have b1 : bindT (.many [6, 7]) (lnD (b, w)) [some (.val x0), some (.val (fr p)), some (.val x2), some (.own acc), some (.val (fr t)), some (.val (ev u v)), e6, e7] = some [some (.val x0), some (.val (fr p)), some (.val x2), some (.own acc), some (.val (fr t)), some (.val (ev u v)), some (.val (.str (wd b))), some (.val (fr w))] := by
        rcases h6 with rfl | ⟨d, rfl⟩ <;> rcases h7 with rfl | ⟨d', rfl⟩ <;> rfl
      have unf : ∀ e0 : Mn.Env, forL (.many [6, 7]) (fun e => evS (evF L16.T fu (n + 3)) fu B e) (lnD (b, w) :: M.map lnD) e0 = (do
        let e1 ← bindT (.many [6, 7]) (lnD (b, w)) e0
        let (f, e2) ← evS (evF L16.T fu (n + 3)) fu B e1
        match f with
        | .nx => forL (.many [6, 7]) (fun e => evS (evF L16.T fu (n + 3)) fu B e) (M.map lnD) e2
        | .ct => forL (.many [6, 7]) (fun e => evS (evF L16.T fu (n + 3)) fu B e) (M.map lnD) e2
        | .bk => some (.nx, e2)
        | .rt d => some (.rt d, e2)) := fun _ => rfl
      cases b with
      | false =>
        have m1 := s_multiplied (fu := fu) (n := n + 1) (hp.le (by omega : 120 ≤ 2000)) (hw.le (by omega : 40 ≤ 2000))
        have step : evS (evF L16.T fu (n + 3)) fu B [some (.val x0), some (.val (fr p)), some (.val x2), some (.own acc), some (.val (fr t)), some (.val (ev u v)), some (.val (.str (wd false))), some (.val (fr w))] = some (.nx, [some (.val x0), some (.val (fr (p * w))), some (.val x2), some (.own acc), some (.val (fr t)), some (.val (ev u v)), some (.val (.str (wd false))), some (.val (fr w))]) := by
          rw [hB]
          generalize fr (p * w) = q at m1 ⊢
          generalize fr p = pp at m1 ⊢
          generalize fr w = ww at m1 ⊢
          simp [evE, evT, evL, evA, evO, evAr, evS, evD, putS, peek, mutS, setM, opB, opC, opF, opIx, opSl, walk, unpS, bindT, refs, argS, putBack, permA, outsOf, atI, ixN, tru, setJ, iscS, eqoS, eqoR, putX, popJ, m1, dsh_str, deq_str, wd]
        obtain ⟨t', u', v', p', f6, f7, S, q1, q2, q3⟩ := ih acc x0 x2 t u v (p * w) (some (.val (.str (wd false)))) (some (.val (fr w))) hM.2.2.2 (by omega) (.inr ⟨_, rfl⟩) (.inr ⟨_, rfl⟩)
        refine ⟨t', u', v', p', f6, f7, S, q1, Nat.le_succ_of_le q2, ?_⟩
        rw [List.map_cons, unf]
        simp only [b1, step, q3, Option.bind_some, Option.bind_eq_bind]
      | true =>
        have a1 := s_added (fu := fu) (n := n + 1) (ht.le (by omega : 60 ≤ 2000)) (hw.le (by omega : 40 ≤ 2000))
        have g1 := s_flown (fu := fu) (n := n) he hp hw p0 (by omega) (by omega)
        have step : evS (evF L16.T fu (n + 3)) fu B [some (.val x0), some (.val (fr p)), some (.val x2), some (.own acc), some (.val (fr t)), some (.val (ev u v)), some (.val (.str (wd true))), some (.val (fr w))] = some (.nx, [some (.val x0), some (.val (fr p)), some (.val x2), some (.own (acc ++ [stD ⟨t, u, v, p⟩])), some (.val (fr (t + w))), some (.val (ev (u + p * w) (v + w / p))), some (.val (.str (wd true))), some (.val (fr w))]) := by
          rw [hB]
          have hlm : acc.length < lim := by unfold lim; omega
          unfold stD
          generalize fr (t + w) = q at a1 ⊢
          generalize ev (u + p * w) (v + w / p) = q2 at g1 ⊢
          generalize fr p = pp at g1 ⊢
          generalize fr w = ww at a1 g1 ⊢
          generalize fr t = tt at a1 ⊢
          generalize ev u v = ee at g1 ⊢
          simp [evE, evT, evL, evA, evO, evAr, evS, evD, putS, peek, mutS, setM, opB, opC, opF, opIx, opSl, walk, unpS, bindT, refs, argS, putBack, permA, outsOf, atI, ixN, tru, setJ, iscS, eqoS, eqoR, putX, popJ, a1, g1, hlm, dsh_str, deq_str, wd, show 3 ≤ lim by decide, show ¬ (("fly" : PySem.Str) = "turn") by decide +kernel]
        obtain ⟨t', u', v', p', f6, f7, S, q1, q2, q3⟩ := ih (acc ++ [stD ⟨t, u, v, p⟩]) x0 x2 (t + w) (u + p * w) (v + w / p) p (some (.val (.str (wd true)))) (some (.val (fr w))) hM.2.2.2 (by rw [List.length_append, List.length_cons, List.length_nil]; omega) (.inr ⟨_, rfl⟩) (.inr ⟨_, rfl⟩)
        refine ⟨t', u', v', p', f6, f7, ⟨t, u, v, p⟩ :: S, ?_, Nat.succ_le_succ q2, ?_⟩
        · show _ :: stp _ _ _ _ M = _
          rw [q1]; rfl
        · rw [List.map_cons, unf]
          simp only [b1, step, q3, Option.bind_some, Option.bind_eq_bind, List.append_assoc]
          rfl
  obtain ⟨t', u', v', p', f6, f7, S, q1, q2, lp⟩ := loop L [] (ev u v) (.tup (L.map lnD)) 0 u v p none none h (by simp [evE, evT, evL, evA, evO, evAr, evS, evD, putS, peek, mutS, setM, opB, opC, opF, opIx, opSl, walk, unpS, bindT, refs, argS, putBack, permA, outsOf, atI, ixN, tru, setJ, iscS, eqoS, eqoR, putX, popJ]; omega) (.inl rfl) (.inl rfl)
  rw [q1, List.map_append]
  clear loop hB
  have hSl : (S.map stD).length < lim := by rw [List.length_map]; unfold lim; omega
  have hLl : (L.map lnD).length ≤ lim := by rw [List.length_map]; unfold lim; omega
  show _ = some (D.tup (S.map stD ++ [D.tup [fr t', ev u' v', fr p']]), [])
  generalize S.map stD = SS at lp hSl ⊢
  generalize L.map lnD = LL at lp hLl ⊢
  generalize fr 0 = zz at z0 lp ⊢
  generalize fr p = pp at lp ⊢
  generalize fr p' = pp' at lp ⊢
  generalize fr t' = tt' at lp ⊢
  generalize ev u v = ee at lp ⊢
  generalize ev u' v' = ee' at lp ⊢
  simp [evE, evT, evL, evA, evO, evAr, evS, evD, putS, peek, mutS, setM, opB, opC, opF, opIx, opSl, walk, unpS, bindT, refs, argS, putBack, permA, outsOf, atI, ixN, tru, setJ, iscS, eqoS, eqoR, putX, popJ, z0, lp, hLl, hSl, show 3 ≤ lim by decide]
theorem Bst.sto {s : Stp} (h : Bst s.t s.u s.v s.p) : Sto s := ⟨h.t.le (by decide), h.e.le (by decide), h.p.le (by decide), h.p0⟩
theorem Flg.he (F : Flg u v p L) : Be 800 u v := F.ok.st.e
theorem Flg.hp (F : Flg u v p L) : Bq 120 p := F.ok.st.p
theorem Flg.p0 (F : Flg u v p L) : 0 < p := F.ok.st.p0
theorem Flg.hl (F : Flg u v p L) : ∀ l ∈ L, Bq 40 l.2 ∧ 0 < l.2 := F.ok.l
theorem Flg.l0 (F : Flg u v p L) : ∀ l ∈ L, 0 < l.2 := fun l m => (F.hl l m).2
theorem Flg.all (F : Flg u v p L) : ∀ s ∈ stp 0 u v p L, Bst s.t s.u s.v s.p := F.ok.all
theorem Flg.sto (F : Flg u v p L) : ∀ s ∈ stp 0 u v p L, Sto s := fun s m => (F.all s m).sto
theorem last_memG : lastS 0 u v p L ∈ stp 0 u v p L := by
  obtain ⟨S, h, _⟩ := stp_last L 0 u v p
  rw [h]; simp [evE, evT, evL, evA, evO, evAr, evS, evD, putS, peek, mutS, setM, opB, opC, opF, opIx, opSl, walk, unpS, bindT, refs, argS, putBack, permA, outsOf, atI, ixN, tru, setJ, iscS, eqoS, eqoR, putX, popJ]
theorem Flg.slen (F : Flg u v p L) : (stp 0 u v p L).length ≤ 200 := by
  obtain ⟨S, h, e⟩ := stp_last L 0 u v p
  have := F.hn
  rw [h, List.length_append, List.length_singleton]; omega
theorem Fly.g (F : Fly u v p L) : Flg u v p L := ⟨okf_of (c := 4) (Pm := 44) (by decide) (by decide) (⟨by decide, by decide⟩ : Bq 1 (0 : Rat)) F.he F.hp F.p0 F.h4 (by have := F.hn; omega) (by have := F.hn; omega) (by have := F.hn; have : L.length * 49 ≤ 9 * 49 := Nat.mul_le_mul_right _ F.hn; omega), by have := F.hn; omega⟩
theorem s_flightG {fu n : Nat} {u v p : Rat} {L : List Ln} (F : Flg u v p L) :
    evF T fu (n + 7) "Flight" [.val (.str (fltx u v p L))] = some (flO u v p L (lastS 0 u v p L), []) := by
  have r1 := s_readfl (fu := fu) (n := n) F.he (F.hp.le (by decide : 120 ≤ 800)) F.p0 (fun l m => ⟨(F.hl l m).1.le (by decide : 40 ≤ 800), (F.hl l m).2⟩) (by have := F.hn; omega) (by decide)
  have r2 := s_stopsG (fu := fu) (n := n + 2) F.ok (by have := F.hn; omega)
  have z1 : Bq 1 (0 : Rat) := ⟨by decide, by decide⟩
  have so := F.sto
  obtain ⟨q, r, e⟩ := stp_cons L 0 u v p
  have hl := F.hn
  obtain ⟨S, eS, lS⟩ := stp_last L 0 u v p
  have r3 := s_pieces (fu := fu) (n := n + 3) (S := stp 0 u v p L) so (by rw [e]; simp [evE, evT, evL, evA, evO, evAr, evS, evD, putS, peek, mutS, setM, opB, opC, opF, opIx, opSl, walk, unpS, bindT, refs, argS, putBack, permA, outsOf, atI, ixN, tru, setJ, iscS, eqoS, eqoR, putX, popJ]) (by rw [eS, List.length_append, List.length_singleton]; omega)
  rw [pcs_stp] at r3
  have i1 : opIx (.tup ((stp 0 u v p L).map stD)) (.int (-1)) = some (stD (lastS 0 u v p L)) := by rw [eS, List.map_append]; exact ixlast
  rw [ev1 (dd := d_Flight) (by kernel_rfl)]
  unfold d_Flight flO flX fks
  generalize lastS 0 u v p L = la at i1 ⊢
  generalize (stp 0 u v p L).map stD = SS at r2 r3 i1 ⊢
  generalize (pcs p L).map pcD = PP at r3 ⊢
  generalize L.map lnD = LL at r1 r2 ⊢
  generalize fltx u v p L = x0 at r1 ⊢
  generalize fr p = pp at r1 r2 ⊢
  generalize ev u v = ee at r1 r2 ⊢
  unfold stD at i1
  generalize fr la.t = lt at i1 ⊢
  generalize ev la.u la.v = le at i1 ⊢
  generalize fr la.p = lp at i1 ⊢
  simp [evE, evT, evL, evA, evO, evAr, evS, evD, putS, peek, mutS, setM, opB, opC, opF, opSl, walk, unpS, bindT, refs, argS, putBack, permA, outsOf, atI, ixN, tru, setJ, iscS, eqoS, eqoR, putX, popJ, evM, sfF, fldD, ofs_inj, r1, r2, r3, i1, ixt0, ixt1]
/-- a time of a flight -/
structure Tg (u v p : Rat) (L : List Ln) (τ : Rat) : Prop where
  a : 0 ≤ τ
  b : τ ≤ (lastS 0 u v p L).t
  q : Bq 1600 τ
theorem Tg.d {τ : Rat} (t : Tg u v p L τ) {q : Rat} (h : Bq 60 q) : Bq 1661 (τ - q) := t.q.sub h
theorem Flg.w (F : Flg u v p L) : Bq 60 (lastS 0 u v p L).t := (F.all _ last_memG).t
theorem at_allG (F : Flg u v p L) {τ : Rat} (h0 : 0 ≤ τ) (h1 : τ ≤ (lastS 0 u v p L).t) :
    ∃ R s, s ∈ stp 0 u v p L ∧ (stp 0 u v p L).filter (fun s => !decide (τ < s.t)) = R ++ [s] ∧ s.t ≤ τ ∧ plc u v p L τ = (s.u + s.p * (τ - s.t), s.v + (τ - s.t) / s.p) ∧ lawPace τ (lastS 0 u v p L).p (legs 0 u v p L) = s.p ∧
      timeU (stp 0 u v p L) (lastS 0 u v p L).t (plc u v p L τ).1 = some τ := by
  obtain ⟨R, s, q1, q2, q3, q4⟩ := at_eq F.l0 h0 h1
  obtain ⟨a1, a2, a3⟩ := at_u F.p0 F.l0 h0 h1
  have hs : s ∈ stp 0 u v p L := (List.mem_filter.1 (by rw [q1]; simp : s ∈ (stp 0 u v p L).filter fun s => !decide (τ < s.t))).1
  refine ⟨R, s, hs, q1, q2, q3, q4, ?_⟩
  have fe : (stp 0 u v p L).filter (fun s => !decide ((plc u v p L τ).1 < s.u)) = R ++ [s] := by
    rw [← q1]
    refine List.filter_congr fun r hr => ?_
    have := a3 r hr
    congr 1
    exact decide_eq_decide.2 this
  unfold timeU
  rw [fe, List.getLast?_append]
  have sp := (F.all s hs).p0
  have e : s.t + ((plc u v p L τ).1 - s.u) / s.p = τ := by
    rw [show plc u v p L τ = (s.u + s.p * (τ - s.t), s.v + (τ - s.t) / s.p) from q3]
    show s.t + (s.u + s.p * (τ - s.t) - s.u) / s.p = τ
    have : s.p ≠ 0 := by grind
    grind
  show (if (lastS 0 u v p L).t < s.t + ((plc u v p L τ).1 - s.u) / s.p then none else some (s.t + ((plc u v p L τ).1 - s.u) / s.p)) = some τ
  rw [e, if_neg (by grind)]
theorem s_placeG {fu n : Nat} (F : Flg u v p L) {τ : Rat} (t : Tg u v p L τ) : evF T fu (n + 4) "place_at" [.val (fo u v p L), .val (fr τ)] = some (ev (plc u v p L τ).1 (plc u v p L τ).2, []) := by
  obtain ⟨R, s, hs, hg, _, e, _, _⟩ := at_allG F t.a t.b
  obtain ⟨g, b, q, q0⟩ := F.all s hs
  rw [e]
  exact s_placeat fld_stops F.sto (t.q.le (by decide)) F.slen hg q (t.d g) (by decide)
theorem s_atG {fu n : Nat} (F : Flg u v p L) {τ : Rat} (t : Tg u v p L τ) : evF T fu (n + 5) "Flight.at" [.val (fo u v p L), .val (fr τ)] = some (ev (plc u v p L τ).1 (plc u v p L τ).2, []) := by
  obtain ⟨R, s, hs, hg, _, e, _, _⟩ := at_allG F t.a t.b
  obtain ⟨g, b, q, q0⟩ := F.all s hs
  rw [e]
  exact s_at fld_whole (F.w.le (by decide)) t.a t.b fld_stops F.sto (t.q.le (by decide)) F.slen hg q (t.d g) (by decide)
theorem Flg.xs (F : Flg u v p L) {x : Rat} (hx : Bq 600 x) : ∀ s ∈ stp 0 u v p L, Sto s ∧ Bq 1401 (x - s.u) ∧ Bq 1521 ((x - s.u) / s.p) ∧ Bq 1600 (s.t + (x - s.u) / s.p) := fun s hs => by
  obtain ⟨g, b, q, q0⟩ := F.all s hs
  have h1 : Bq 1401 (x - s.u) := hx.sub b.u
  have h2 : Bq 1521 ((x - s.u) / s.p) := h1.div q q0
  exact ⟨F.sto s hs, h1, h2, (g.add h2).le (by decide)⟩
theorem s_timeG {fu n : Nat} (F : Flg u v p L) {x : Rat} (hx : Bq 600 x) : evF T fu (n + 3) "time_at" [.val (fo u v p L), .val (.int 0), .val (fr x)] = some (frO (tmU u v p L x), []) :=
  s_timeat fld_stops fld_whole (F.w.le (by decide)) (hx.le (by decide)) F.slen fun s hs => by
    obtain ⟨a, b, c, d⟩ := F.xs hx s hs
    exact ⟨a, b.le (by decide), c.le (by decide), d.le (by decide)⟩
theorem timeU_tg (F : Flg u v p L) {x τ : Rat} (hx : Bq 600 x) (h : tmU u v p L x = some τ) : Tg u v p L τ := by
  unfold tmU timeU at h
  cases hF : ((stp 0 u v p L).filter fun s => !decide (x < s.u)).getLast? with
  | none => rw [hF] at h; cases h
  | some s =>
    rw [hF] at h
    have hs := List.mem_of_getLast? hF
    obtain ⟨hs, hc⟩ := List.mem_filter.1 hs
    have hc : s.u ≤ x := by
      rw [Bool.not_eq_true', decide_eq_false_iff_not] at hc
      grind
    obtain ⟨g, b, q, q0⟩ := F.all s hs
    have h' : (if (lastS 0 u v p L).t < s.t + (x - s.u) / s.p then none else some (s.t + (x - s.u) / s.p)) = some τ := h
    by_cases c : (lastS 0 u v p L).t < s.t + (x - s.u) / s.p
    · rw [if_pos c] at h'; cases h'
    · rw [if_neg c] at h'
      cases h'
      have t0 := stp_ge F.l0 s hs
      have d0 := div_ge (a := x - s.u) (b := s.p) (by grind) q0
      exact ⟨by grind, by grind, (g.add (((hx.sub b.u).div q q0))).le (by decide)⟩
theorem fly_plg (F : Flg u v p L) {τ : Rat} (t : Tg u v p L τ) : Be 2600 (plc u v p L τ).1 (plc u v p L τ).2 := by
  obtain ⟨R, s, hs, _, _, e, _, _⟩ := at_allG F t.a t.b
  obtain ⟨g, b, q, q0⟩ := F.all s hs
  rw [e]
  exact ⟨(b.u.add (q.mul (t.d g))).le (by decide), (b.v.add ((t.d g).div q q0)).le (by decide)⟩
end L16
namespace L16
open PySem L2 Mn TL
theorem Bst.flip {t u v p : Rat} (h : Bst t u v p) : Bst t v u (1 / p) := ⟨h.t, ⟨h.e.v, h.e.u⟩, h.p.inv h.p0, invp h.p0⟩
theorem okf_flip : ∀ {L : List Ln} {t u v p : Rat}, Okf t u v p L → Okf t v u (1 / p) (flL L)
  | [], _, _, _, _, h => Bst.flip h
  | (false, w) :: L, t, u, v, p, h => by
    have ih := okf_flip (L := L) h.2.2.2
    rw [inv_mul] at ih
    exact ⟨h.1.flip, h.2.1.inv h.2.2.1, invp h.2.2.1, ih⟩
  | (true, w) :: L, t, u, v, p, h => by
    have ih := okf_flip (L := L) h.2.2.2
    refine ⟨h.1.flip, h.2.1, h.2.2.1, ?_⟩
    show Okf (t + w) (v + 1 / p * w) (u + w / (1 / p)) (1 / p) (flL L)
    rw [div_inv', show 1 / p * w = w / p by rw [Rat.div_def, Rat.div_def]; grind, show w * p = p * w by grind]
    exact ih
theorem Flg.flip (F : Flg u v p L) : Flg v u (1 / p) (flL L) := ⟨okf_flip F.ok, by unfold flL; rw [List.length_map]; exact F.hn⟩
theorem tmV_tg (F : Flg u v p L) {y τ : Rat} (hy : Bq 600 y) (h : tmV u v p L y = some τ) : Tg u v p L τ := by
  obtain ⟨a, b, c⟩ := timeU_tg F.flip hy h
  exact ⟨a, by rw [← last_flip_t (u := u) (v := v) (p := p)]; exact b, c⟩
theorem Flg.ys (F : Flg u v p L) {y : Rat} (hy : Bq 600 y) : ∀ s ∈ stp 0 u v p L, Sto s ∧ Bq 1401 (y - s.v) ∧ Bq 1521 ((y - s.v) / (1 / s.p)) ∧ Bq 1600 (s.t + (y - s.v) / (1 / s.p)) := fun s hs => by
  obtain ⟨g, b, q, q0⟩ := F.all s hs
  have h1 : Bq 1401 (y - s.v) := hy.sub b.v
  have h2 : Bq 1521 ((y - s.v) / (1 / s.p)) := h1.div (q.inv q0) (invp q0)
  exact ⟨F.sto s hs, h1, h2, (g.add h2).le (by decide)⟩
theorem s_timeG1 {fu n : Nat} (F : Flg u v p L) {y : Rat} (hy : Bq 600 y) : evF T fu (n + 3) "time_at" [.val (fo u v p L), .val (.int 1), .val (fr y)] = some (frO (tmV u v p L y), []) := by
  rw [tmV_is]
  exact s_timeat1 fld_stops fld_whole (F.w.le (by decide)) (hy.le (by decide)) F.slen fun s hs => by
    obtain ⟨a, b, c, d⟩ := F.ys hy s hs
    exact ⟨a, b.le (by decide), c.le (by decide), d.le (by decide)⟩
theorem s_heardG {fu n : Nat} (F : Flg u v p L) {x y : Rat} (h : Be 600 x y) : evF T fu (n + 6) "heard" [.val (fo u v p L), .val (ev x y)] = some (hdD (heardW u v p L x y), []) := by
  have m1 := s_ckev (fu := fu) (n := n + 1) (u := x) (v := y)
  have m2 := s_hearing (fu := fu) (n := n) (pl := plc u v p L) (h.u.le (by decide)) (h.v.le (by decide)) (s_timeG1 F h.v) (s_timeG F h.u) (fun τ e => ⟨(fly_plg F (tmV_tg F h.v e)).le (by decide), s_placeG F (tmV_tg F h.v e)⟩) (fun τ e => ⟨(fly_plg F (timeU_tg F h.u e)).le (by decide), s_placeG F (timeU_tg F h.u e)⟩)
  rw [ev1 (dd := d_heard) (by kernel_rfl)]
  unfold d_heard
  show _ = some (hdD (heardG (tmV u v p L y) (tmU u v p L x) (plc u v p L) x y), [])
  generalize hdD (heardG (tmV u v p L y) (tmU u v p L x) (plc u v p L) x y) = r at *
  generalize fo u v p L = ff at *
  generalize ev x y = ee at *
  simp [evE, evT, evL, evA, evO, evAr, evS, evD, putS, peek, mutS, setM, opB, opC, opF, opIx, opSl, walk, unpS, bindT, refs, argS, putBack, permA, outsOf, atI, ixN, tru, setJ, iscS, eqoS, eqoR, putX, popJ, m1, m2]
/-! ### draws of flights, with more of what is known of them -/
end L16
namespace L16
open PySem L2 Mn TL
/-! ### flights flown on -/
end L16
namespace L16
open PySem L2 Mn TL
/-! ### draws of flights: just which numbers they may have -/
theorem den_div (q : Rat) : q = (q.num : Rat) / ((q.den : Nat) : Rat) := nd_self q
def PACES : List Rat := [1, 2, 1 / 2, 3 / 2, 2 / 3, 3, 1 / 3, 5 / 3, 4 / 5]
def TIMES : List Rat := [1, 2, 3, 1 / 2, 3 / 2, 5, 1 / 3, 7 / 3, 12]
theorem paces_ok : ∀ q ∈ PACES, Bq 3 q ∧ 0 < q := by
  have h : PACES.all (fun q => decide (q.num.natAbs < 2 ^ 3) && decide (q.den < 2 ^ 3) && decide (0 < q)) = true := by decide +kernel
  intro q hq
  have := List.all_eq_true.1 h q hq
  simp only [Bool.and_eq_true, decide_eq_true_eq] at this
  exact ⟨⟨this.1.1, this.1.2⟩, this.2⟩
theorem gd6_of {q : Rat} (h : 6 % q.den = 0) (hn : q.num.natAbs * (6 / q.den) ≤ 72) : Gd 6 72 q := by
  refine ⟨q.num * ((6 / q.den : Nat) : Int), ?_, by rw [Int.natAbs_mul, Int.natAbs_natCast]; exact hn⟩
  have e : q.den * (6 / q.den) = 6 := Nat.mul_div_cancel' (Nat.dvd_of_mod_eq_zero h)
  generalize 6 / q.den = k at *
  have hk : k ≠ 0 := by rintro rfl; omega
  have e2 : ((6 : Nat) : Rat) = ((q.den : Nat) : Rat) * ((k : Nat) : Rat) := by rw [← Rat.natCast_mul, e]
  rw [e2, Rat.intCast_mul]
  have d1 : ((q.den : Nat) : Rat) ≠ 0 := by have := q.den_nz; exact fun z => this (by exact_mod_cast z)
  have d2 : ((k : Nat) : Rat) ≠ 0 := fun z => hk (by exact_mod_cast z)
  have : q = (q.num : Rat) / ((q.den : Nat) : Rat) := den_div q
  have c : (((k : Nat) : Int) : Rat) = ((k : Nat) : Rat) := rfl
  rw [c]
  grind
theorem times_ok : ∀ q ∈ TIMES, Bq 4 q ∧ 0 < q ∧ Gd 6 72 q := by
  have h : TIMES.all (fun q => decide (q.num.natAbs < 2 ^ 4) && decide (q.den < 2 ^ 4) && decide (0 < q) && decide (6 % q.den = 0) && decide (q.num.natAbs * (6 / q.den) ≤ 72)) = true := by decide +kernel
  intro q hq
  have := List.all_eq_true.1 h q hq
  simp only [Bool.and_eq_true, decide_eq_true_eq] at this
  exact ⟨⟨this.1.1.1.1, this.1.1.1.2⟩, this.1.1.2, gd6_of this.1.2 this.2⟩
theorem s_ltimeM {fu n c : Nat} {own p1 p2 : Int} (h : Pot c own p1 p2) (hc : c < 1000000) :
    ∃ own' p2' q, Pot (c + 1) own' p1 p2' ∧ q ∈ TIMES ∧ evF T fu (n + 3) "_law_frac_time" [pot own p1 p2] = some (fr q, [potO own' p1 p2']) := by
  obtain ⟨o, r, b, hp, hb, e1⟩ := s_of (fu := fu) (n := n) (xs := [.tup [.int 1, .int 1], .tup [.int 2, .int 1], .tup [.int 3, .int 1], .tup [.int 1, .int 2], .tup [.int 3, .int 2], .tup [.int 5, .int 1], .tup [.int 1, .int 3], .tup [.int 7, .int 3], .tup [.int 12, .int 1]]) h hc (by simp [evE, evT, evL, evA, evO, evAr, evS, evD, putS, peek, mutS, setM, opB, opC, opF, opIx, opSl, walk, unpS, bindT, refs, argS, putBack, permA, outsOf, atI, ixN, tru, setJ, iscS, eqoS, eqoR, putX, popJ]) (by simp [evE, evT, evL, evA, evO, evAr, evS, evD, putS, peek, mutS, setM, opB, opC, opF, opIx, opSl, walk, unpS, bindT, refs, argS, putBack, permA, outsOf, atI, ixN, tru, setJ, iscS, eqoS, eqoR, putX, popJ])
  have key : ∃ q, b = fr q ∧ q ∈ TIMES := by
    simp [evE, evT, evL, evA, evO, evAr, evS, evD, putS, peek, mutS, setM, opB, opC, opF, opIx, opSl, walk, unpS, bindT, refs, argS, putBack, permA, outsOf, atI, ixN, tru, setJ, iscS, eqoS, eqoR, putX, popJ] at hb
    rcases hb with rfl | rfl | rfl | rfl | rfl | rfl | rfl | rfl | rfl
    · exact ⟨1, rfl, by decide +kernel⟩
    · exact ⟨2, rfl, by decide +kernel⟩
    · exact ⟨3, rfl, by decide +kernel⟩
    · exact ⟨1 / 2, fr_mk (by decide +kernel) (by decide +kernel), by decide +kernel⟩
    · exact ⟨3 / 2, fr_mk (by decide +kernel) (by decide +kernel), by decide +kernel⟩
    · exact ⟨5, rfl, by decide +kernel⟩
    · exact ⟨1 / 3, fr_mk (by decide +kernel) (by decide +kernel), by decide +kernel⟩
    · exact ⟨7 / 3, fr_mk (by decide +kernel) (by decide +kernel), by decide +kernel⟩
    · exact ⟨12, rfl, by decide +kernel⟩
  obtain ⟨q, rfl, hq⟩ := key
  refine ⟨o, r, q, hp, hq, ?_⟩
  rw [ev1 (dd := d__law_frac_time) (by kernel_rfl)]
  generalize fr q = z at e1 ⊢
  unfold d__law_frac_time pot potO at *
  simp [evE, evT, evL, evA, evO, evAr, evS, evD, putS, peek, mutS, setM, opB, opC, opF, opIx, opSl, walk, unpS, bindT, refs, argS, putBack, permA, outsOf, ixN, tru, setJ, iscS, eqoS, eqoR, putX, popJ, e1, lim]
theorem s_lpaceM {fu n c : Nat} {own p1 p2 : Int} (h : Pot c own p1 p2) (hc : c < 1000000) :
    ∃ own' p2' q, Pot (c + 1) own' p1 p2' ∧ q ∈ PACES ∧ evF T fu (n + 3) "_law_frac_pace" [pot own p1 p2] = some (fr q, [potO own' p1 p2']) := by
  obtain ⟨o, r, b, hp, hb, e1⟩ := s_of (fu := fu) (n := n) (xs := [.tup [.int 1, .int 1], .tup [.int 2, .int 1], .tup [.int 1, .int 2], .tup [.int 3, .int 2], .tup [.int 2, .int 3], .tup [.int 3, .int 1], .tup [.int 1, .int 3], .tup [.int 5, .int 3], .tup [.int 4, .int 5]]) h hc (by simp [evE, evT, evL, evA, evO, evAr, evS, evD, putS, peek, mutS, setM, opB, opC, opF, opIx, opSl, walk, unpS, bindT, refs, argS, putBack, permA, outsOf, atI, ixN, tru, setJ, iscS, eqoS, eqoR, putX, popJ]) (by simp [evE, evT, evL, evA, evO, evAr, evS, evD, putS, peek, mutS, setM, opB, opC, opF, opIx, opSl, walk, unpS, bindT, refs, argS, putBack, permA, outsOf, atI, ixN, tru, setJ, iscS, eqoS, eqoR, putX, popJ])
  have key : ∃ q, b = fr q ∧ q ∈ PACES := by
    simp [evE, evT, evL, evA, evO, evAr, evS, evD, putS, peek, mutS, setM, opB, opC, opF, opIx, opSl, walk, unpS, bindT, refs, argS, putBack, permA, outsOf, atI, ixN, tru, setJ, iscS, eqoS, eqoR, putX, popJ] at hb
    rcases hb with rfl | rfl | rfl | rfl | rfl | rfl | rfl | rfl | rfl
    · exact ⟨1, rfl, by decide +kernel⟩
    · exact ⟨2, rfl, by decide +kernel⟩
    · exact ⟨1 / 2, fr_mk (by decide +kernel) (by decide +kernel), by decide +kernel⟩
    · exact ⟨3 / 2, fr_mk (by decide +kernel) (by decide +kernel), by decide +kernel⟩
    · exact ⟨2 / 3, fr_mk (by decide +kernel) (by decide +kernel), by decide +kernel⟩
    · exact ⟨3, rfl, by decide +kernel⟩
    · exact ⟨1 / 3, fr_mk (by decide +kernel) (by decide +kernel), by decide +kernel⟩
    · exact ⟨5 / 3, fr_mk (by decide +kernel) (by decide +kernel), by decide +kernel⟩
    · exact ⟨4 / 5, fr_mk (by decide +kernel) (by decide +kernel), by decide +kernel⟩
  obtain ⟨q, rfl, hq⟩ := key
  refine ⟨o, r, q, hp, hq, ?_⟩
  rw [ev1 (dd := d__law_frac_pace) (by kernel_rfl)]
  generalize fr q = z at e1 ⊢
  unfold d__law_frac_pace pot potO at *
  simp [evE, evT, evL, evA, evO, evAr, evS, evD, putS, peek, mutS, setM, opB, opC, opF, opIx, opSl, walk, unpS, bindT, refs, argS, putBack, permA, outsOf, ixN, tru, setJ, iscS, eqoS, eqoR, putX, popJ, e1, lim]
/-! ### grids: numbers of a given denominator -/
def Dn (m : Nat) (q : Rat) : Prop := m ≠ 0 ∧ ∃ k : Int, q = (k : Rat) / ((m : Nat) : Rat)
theorem ncast {n : Nat} (h : n ≠ 0) : ((n : Nat) : Rat) ≠ 0 := fun z => h (by exact_mod_cast z)
theorem Dn.add {m : Nat} {p q : Rat} (h : Dn m p) (g : Dn m q) : Dn m (p + q) := by
  obtain ⟨m0, a, rfl⟩ := h
  obtain ⟨_, b, rfl⟩ := g
  refine ⟨m0, a + b, ?_⟩
  rw [Rat.intCast_add]
  have := ncast m0
  grind
theorem Dn.sub {m : Nat} {p q : Rat} (h : Dn m p) (g : Dn m q) : Dn m (p - q) := by
  obtain ⟨m0, a, rfl⟩ := h
  obtain ⟨_, b, rfl⟩ := g
  refine ⟨m0, a - b, ?_⟩
  rw [Rat.intCast_sub]
  have := ncast m0
  grind
theorem Dn.fine {m n : Nat} {q : Rat} (h : Dn m q) (hn : n ≠ 0) (d : m ∣ n) : Dn n q := by
  obtain ⟨m0, a, rfl⟩ := h
  obtain ⟨c, rfl⟩ := d
  have c0 : c ≠ 0 := by rintro rfl; simp [evE, evT, evL, evA, evO, evAr, evS, evD, putS, peek, mutS, setM, opB, opC, opF, opIx, opSl, walk, unpS, bindT, refs, argS, putBack, permA, outsOf, atI, ixN, tru, setJ, iscS, eqoS, eqoR, putX, popJ] at hn
  refine ⟨hn, a * (c : Int), ?_⟩
  rw [Rat.intCast_mul, Rat.natCast_mul]
  have := ncast m0
  have := ncast c0
  have e : (((c : Nat) : Int) : Rat) = ((c : Nat) : Rat) := rfl
  rw [e]
  grind
/-- a quotient of two divisors of n -/
def Pc (n : Nat) (q : Rat) : Prop := n ≠ 0 ∧ ∃ a b : Nat, a ∣ n ∧ b ∣ n ∧ q = ((a : Nat) : Rat) / ((b : Nat) : Rat)
theorem Pc.mul {m n : Nat} {p q : Rat} (h : Pc m p) (g : Pc n q) : Pc (m * n) (p * q) := by
  obtain ⟨m0, a, b, ha, hb, rfl⟩ := h
  obtain ⟨n0, c, d, hc, hd, rfl⟩ := g
  refine ⟨Nat.mul_ne_zero m0 n0, a * c, b * d, Nat.mul_dvd_mul ha hc, Nat.mul_dvd_mul hb hd, ?_⟩
  have b0 := ncast (fun z => m0 (by rw [z] at hb; exact Nat.eq_zero_of_zero_dvd hb) : b ≠ 0)
  have d0 := ncast (fun z => n0 (by rw [z] at hd; exact Nat.eq_zero_of_zero_dvd hd) : d ≠ 0)
  rw [Rat.natCast_mul, Rat.natCast_mul]
  rw [Rat.div_def, Rat.div_def, Rat.div_def, Rat.inv_mul_rev]
  grind
theorem Pc.le {m n : Nat} {q : Rat} (h : Pc m q) (hn : n ≠ 0) (d : m ∣ n) : Pc n q := by
  obtain ⟨m0, a, b, ha, hb, e⟩ := h
  exact ⟨hn, a, b, Nat.dvd_trans ha d, Nat.dvd_trans hb d, e⟩
theorem Dn.mul {m n : Nat} {q p : Rat} (h : Dn m q) (g : Pc n p) : Dn (m * n) (p * q) := by
  obtain ⟨m0, k, rfl⟩ := h
  obtain ⟨n0, a, b, ha, hb, rfl⟩ := g
  have hb0 : b ≠ 0 := fun z => n0 (by rw [z] at hb; exact Nat.eq_zero_of_zero_dvd hb)
  have b0 := ncast hb0
  have mm := ncast m0
  obtain ⟨c, rfl⟩ := hb
  have c0 := ncast (fun z => n0 (by rw [z]; rfl) : c ≠ 0)
  refine ⟨Nat.mul_ne_zero m0 n0, (a : Int) * k * (c : Int), ?_⟩
  rw [Rat.intCast_mul, Rat.intCast_mul, Rat.natCast_mul, Rat.natCast_mul]
  have e1 : (((a : Nat) : Int) : Rat) = ((a : Nat) : Rat) := rfl
  have e2 : (((c : Nat) : Int) : Rat) = ((c : Nat) : Rat) := rfl
  rw [e1, e2]
  rw [Rat.div_def, Rat.div_def, Rat.div_def, Rat.inv_mul_rev, Rat.inv_mul_rev]
  grind
theorem Pc.inv {n : Nat} {p : Rat} (g : Pc n p) : Pc n (1 / p) := by
  obtain ⟨n0, a, b, ha, hb, rfl⟩ := g
  refine ⟨n0, b, a, hb, ha, ?_⟩
  have a0 := ncast (fun z => n0 (by rw [z] at ha; exact Nat.eq_zero_of_zero_dvd ha) : a ≠ 0)
  have b0 := ncast (fun z => n0 (by rw [z] at hb; exact Nat.eq_zero_of_zero_dvd hb) : b ≠ 0)
  rw [Rat.div_def, Rat.div_def, Rat.inv_mul_rev, Rat.inv_inv, Rat.div_def]
  grind
theorem Dn.div {m n : Nat} {q p : Rat} (h : Dn m q) (g : Pc n p) : Dn (m * n) (q / p) := by
  have := h.mul g.inv
  rw [show 1 / p * q = q / p by rw [Rat.div_def, Rat.div_def]; grind] at this
  exact this
/-- of a bounded size -/
def Ab (r : Nat) (q : Rat) : Prop := -((r : Nat) : Rat) ≤ q ∧ q ≤ ((r : Nat) : Rat)
theorem Dn.bq {m r j : Nat} {q : Rat} (h : Dn m q) (a : Ab r q) (h1 : m < 2 ^ j) (h2 : r * m < 2 ^ j) : Bq j q := by
  obtain ⟨m0, k, rfl⟩ := h
  have mm : (0 : Rat) < ((m : Nat) : Rat) := by exact_mod_cast Nat.pos_of_ne_zero m0
  refine Gd.bq (m := m) (N := r * m) ⟨k, rfl, ?_⟩ m0 h1 h2
  obtain ⟨a1, a2⟩ := a
  have e : (k : Rat) = (k : Rat) / ((m : Nat) : Rat) * ((m : Nat) : Rat) := by
    have := ncast m0
    grind
  have b1 : (k : Rat) ≤ ((r : Nat) : Rat) * ((m : Nat) : Rat) := by
    rw [e]; exact Rat.mul_le_mul_of_nonneg_right a2 (Rat.le_of_lt mm)
  have b2 : -((r : Nat) : Rat) * ((m : Nat) : Rat) ≤ (k : Rat) := by
    rw [e]; exact Rat.mul_le_mul_of_nonneg_right a1 (Rat.le_of_lt mm)
  have c1 : k ≤ ((r * m : Nat) : Int) := by
    have : (k : Rat) ≤ (((r * m : Nat) : Int) : Rat) := by
      have e3 : (((r * m : Nat) : Int) : Rat) = ((r : Nat) : Rat) * ((m : Nat) : Rat) := by
        rw [← Rat.natCast_mul]; rfl
      rw [e3]; exact b1
    exact_mod_cast this
  have c2 : -((r * m : Nat) : Int) ≤ k := by
    have : ((-((r * m : Nat) : Int) : Int) : Rat) ≤ (k : Rat) := by
      have e3 : ((-((r * m : Nat) : Int) : Int) : Rat) = -((r : Nat) : Rat) * ((m : Nat) : Rat) := by
        rw [Rat.intCast_neg]
        have : (((r * m : Nat) : Int) : Rat) = ((r : Nat) : Rat) * ((m : Nat) : Rat) := by
          rw [← Rat.natCast_mul]; rfl
        rw [this]; grind
      rw [e3]; exact b2
    exact_mod_cast this
  omega
theorem Ab.le {r s : Nat} {q : Rat} (h : Ab r q) (e : r ≤ s) : Ab s q := by
  have : ((r : Nat) : Rat) ≤ ((s : Nat) : Rat) := by exact_mod_cast e
  exact ⟨by have := h.1; grind, by have := h.2; grind⟩
end L16
namespace L16
open PySem L2 Mn TL
def N6 : Nat := 60 * 12 ^ 6
theorem n6 : N6 ≠ 0 := by decide
def RR : Nat := 2 ^ 52
theorem forL_nx {tg : Mn.Tg} {b : Mn.Env → Option (Fl × Mn.Env)} {x : D} {xs : List D} {e0 e1 e2 : Mn.Env} (h1 : bindT tg x e0 = some e1) (h2 : b e1 = some (.nx, e2)) : forL tg b (x :: xs) e0 = forL tg b xs e2 := by
  rw [forL]
  simp only [h1, h2, Option.bind_some, Option.bind_eq_bind]
end L16
namespace L16
open PySem L2 Mn TL
/-! ### remainders -/
def PRIMES : List Nat := [17, 101, 9973, 4999, 23]
def tab (p : Nat) : Bool := (List.range 100).all fun i => (List.range 100).all fun j => (100 * i + j) % p == 0 || (100 * i + j) ^ (p - 1) % p == 1
theorem tabs : PRIMES.all tab = true := by decide +kernel
theorem primes_is {p : Nat} (h : p ∈ PRIMES) : 3 ≤ p ∧ p ≤ 9973 := by
  revert h; revert p; decide
theorem fermat {p a : Nat} (h : p ∈ PRIMES) (ha : a % p ≠ 0) : a ^ (p - 1) % p = 1 := by
  obtain ⟨h3, h9⟩ := primes_is h
  rw [Nat.pow_mod]
  have lt : a % p < p := Nat.mod_lt _ (by omega)
  generalize a % p = b at *
  have t := List.all_eq_true.1 (List.all_eq_true.1 (List.all_eq_true.1 tabs p h) (b / 100) (List.mem_range.2 (by omega))) (b % 100) (List.mem_range.2 (by omega))
  rw [show 100 * (b / 100) + b % 100 = b from Nat.div_add_mod b 100, Nat.mod_eq_of_lt lt] at t
  simp only [Bool.or_eq_true, beq_iff_eq] at t
  exact t.resolve_left ha
theorem by_one {p x y : Nat} (h : y % p = 1) : x * y % p = x % p := by
  rw [Nat.mul_mod, h, Nat.mul_one, Nat.mod_mod]
theorem rem_eq {p N D T B : Nat} (h : p ∈ PRIMES) (e : N * B = T * D) (hB : B % p ≠ 0) (hD : D % p ≠ 0) : T * B ^ (p - 2) % p = N * D ^ (p - 2) % p := by
  obtain ⟨h3, _⟩ := primes_is h
  rw [← by_one (x := T * B ^ (p - 2)) (fermat h hD), ← by_one (x := N * D ^ (p - 2)) (fermat h hB)]
  rw [show p - 1 = (p - 2) + 1 by omega, Nat.pow_succ, Nat.pow_succ]
  generalize B ^ (p - 2) = X
  generalize D ^ (p - 2) = Y
  congr 1
  calc T * X * (Y * D) = (T * D) * (X * Y) := by grind
    _ = (N * B) * (X * Y) := by rw [e]
    _ = N * Y * (X * B) := by grind
theorem mod_in {a b k m : Nat} : (a % m) * (b % m) ^ k % m = a * b ^ k % m := by
  rw [Nat.mul_mod, Nat.mod_mod, ← Nat.pow_mod, ← Nat.mul_mod]
theorem half_pow {b k : Nat} : b ^ k = b ^ (k % 2) * (b * b) ^ (k / 2) := by
  rw [← Nat.pow_two, ← Nat.pow_mul, ← Nat.pow_add]
  congr 1
  omega
theorem odd_step {w s k m : Nat} (h : k % 2 = 1) : (w * s % m) * (s * s % m) ^ (k / 2) % m = w * s ^ k % m := by
  rw [mod_in, half_pow (b := s) (k := k), h, Nat.pow_one, Nat.mul_assoc]
theorem even_step {w s k m : Nat} (h : ¬ k % 2 = 1) : w * (s * s % m) ^ (k / 2) % m = w * s ^ k % m := by
  rw [Nat.mul_mod, ← Nat.pow_mod, ← Nat.mul_mod, half_pow (b := s) (k := k), show k % 2 = 0 by omega, Nat.pow_zero, Nat.one_mul]
theorem whl_power (c : Mn.Env → Option (Bool × Mn.Env)) (b : Mn.Env → Option (Fl × Mn.Env)) (x y : Option Sl) {m : Nat} (hm : 0 < m)
    (hc : ∀ w s l : Nat, c [x, y, vi m, vi w, vi s, vi l] = some (decide (0 < l), [x, y, vi m, vi w, vi s, vi l]))
    (hb : ∀ w s l : Nat, w < m → s < m → b [x, y, vi m, vi w, vi s, vi l] = some (.nx, [x, y, vi m, vi ((if l % 2 = 1 then w * s % m else w : Nat) : Int), vi ((s * s % m : Nat) : Int), vi ((l / 2 : Nat) : Int)])) :
    ∀ (k w s l fu : Nat), l < 2 ^ k → k + 1 ≤ fu → w < m → s < m → ∃ s' : Nat, whlN c b fu [x, y, vi m, vi w, vi s, vi l] = some (.nx, [x, y, vi m, vi ((w * s ^ l % m : Nat) : Int), vi s', vi ((0 : Nat) : Int)])
  | k, w, s, l, 0, _, h, _, _ => by omega
  | k, w, s, l, fu + 1, hl, hf, hw, hs => by
    unfold whlN
    rw [hc]
    by_cases z : l = 0
    · subst z
      refine ⟨s, ?_⟩
      simp [evE, evT, evL, evA, evO, evAr, evS, evD, putS, peek, mutS, setM, opB, opC, opF, opIx, opSl, walk, unpS, bindT, refs, argS, putBack, permA, outsOf, atI, ixN, tru, setJ, iscS, eqoS, eqoR, putX, popJ, Nat.mod_eq_of_lt hw]
    · have lp : 0 < l := by omega
      rw [decide_eq_true lp]
      simp only [Option.bind_eq_bind, Option.bind_some, if_true]
      rw [hb w s l hw hs]
      simp only [Option.bind_some]
      cases k with
      | zero => have : l < 1 := hl; omega
      | succ k =>
        have l2 : l / 2 < 2 ^ k := by rw [Nat.pow_succ] at hl; omega
        have s2 : s * s % m < m := Nat.mod_lt _ hm
        by_cases o : l % 2 = 1
        · rw [if_pos o]
          obtain ⟨s', e⟩ := whl_power c b x y hm hc hb k (w * s % m) (s * s % m) (l / 2) fu l2 (by omega) (Nat.mod_lt _ hm) s2
          rw [odd_step o] at e
          exact ⟨s', e⟩
        · rw [if_neg o]
          obtain ⟨s', e⟩ := whl_power c b x y hm hc hb k w (s * s % m) (l / 2) fu l2 (by omega) hw s2
          rw [even_step o] at e
          exact ⟨s', e⟩
theorem sm_of_lt {i : Nat} (h : i < 2 ^ 7000) : sm (i : Int) = true := sm_of (by rw [Int.natAbs_natCast]; exact Nat.lt_of_lt_of_le h (Nat.pow_le_pow_right (by decide) (by decide)))
theorem small_lt {a m : Nat} (h : a < m) (hm : m ≤ 9973) : a < 2 ^ 7000 :=
  Nat.lt_of_lt_of_le (show a < 2 ^ 14 from Nat.lt_of_lt_of_le h (Nat.le_trans hm (by decide))) (Nat.pow_le_pow_right (by decide) (by decide))
theorem fd2 {l : Nat} : ((l : Int)).fdiv 2 = (l : Int) / 2 := Int.fdiv_eq_ediv_of_nonneg _ (by decide)
theorem s_power {fu n b e m : Nat} (hm : 3 ≤ m) (h9 : m ≤ 9973) (he : e < 2 ^ 64) (hf : 65 ≤ fu) : evF T fu (n + 1) "power" [.val (.int (b : Int)), .val (.int (e : Int)), .val (.int (m : Int))] = some (.int ((b ^ e % m : Nat) : Int), []) := by
  have m0 : 0 < m := by omega
  obtain ⟨s', w⟩ := whl_power (fun e => evT (evF T fu n) (.tval (.cmp .gt (.var 5) (.con (.int 0)))) e) (fun e => evS (evF T fu n) fu (Sm.seq (.iff (.tval (.cmp .eq (.bin .mod (.var 5) (.con (.int 2))) (.con (.int 1)))) (.seq (.asg 3 (.bin .mod (.bin .mul (.var 3) (.var 4)) (.var 2))) .nil) .nil) (.seq (.asg 4 (.bin .mod (.bin .mul (.var 4) (.var 4)) (.var 2))) (.seq (.asg 5 (.bin .div (.var 5) (.con (.int 2)))) .nil))) e) (vi b) (vi e) (m := m) (by omega)
    (fun w s l => by simp [evE, evT, evL, evA, evO, evAr, evS, evD, putS, peek, mutS, setM, opB, opC, opF, opIx, opSl, walk, unpS, bindT, refs, argS, putBack, permA, outsOf, atI, ixN, tru, setJ, iscS, eqoS, eqoR, putX, popJ]) (fun w s l hw hs => by
      have z1 : sm (w : Int) = true := sm_of_lt (small_lt hw h9)
      have z2 : sm (s : Int) = true := sm_of_lt (small_lt hs h9)
      by_cases o : l % 2 = 1
      · have o' : ((l : Int) % 2 == 1) = true := by simp [evE, evT, evL, evA, evO, evAr, evS, evD, putS, peek, mutS, setM, opB, opC, opF, opIx, opSl, walk, unpS, bindT, refs, argS, putBack, permA, outsOf, atI, ixN, tru, setJ, iscS, eqoS, eqoR, putX, popJ]; omega
        have o2 : deq (.int ((l : Int) % 2)) (.int 1) = true := by
          rw [show (l : Int) % 2 = 1 by omega]; decide
        simp [evE, evT, evL, evA, evO, evAr, evS, evD, putS, peek, mutS, setM, opB, opC, opF, opIx, opSl, walk, unpS, bindT, refs, argS, putBack, permA, outsOf, atI, ixN, tru, setJ, iscS, eqoS, eqoR, putX, popJ, o, o2, z1, z2, m0, dsh_int, show sm 2 = true by decide +kernel, fd2]
        try omega
      · have o2 : deq (.int ((l : Int) % 2)) (.int 1) = false := by
          rw [show (l : Int) % 2 = 0 by omega]; decide
        simp [evE, evT, evL, evA, evO, evAr, evS, evD, putS, peek, mutS, setM, opB, opC, opF, opIx, opSl, walk, unpS, bindT, refs, argS, putBack, permA, outsOf, atI, ixN, tru, setJ, iscS, eqoS, eqoR, putX, popJ, o, o2, z1, z2, m0, dsh_int, show sm 2 = true by decide +kernel, fd2]
        try omega) 64 1 (b % m) e fu he hf (by omega) (Nat.mod_lt _ (by omega))
  rw [Nat.one_mul, ← Nat.pow_mod] at w
  have hd : d_power = ⟨d_power.ps, d_power.ns, .seq (.asg 3 (.con (.int 1))) (.seq (.asg 4 (.bin .mod (.var 0) (.var 2))) (.seq (.asg 5 (.var 1)) (.seq (.whl (.tval (.cmp .gt (.var 5) (.con (.int 0)))) (Sm.seq (.iff (.tval (.cmp .eq (.bin .mod (.var 5) (.con (.int 2))) (.con (.int 1)))) (.seq (.asg 3 (.bin .mod (.bin .mul (.var 3) (.var 4)) (.var 2))) .nil) .nil) (.seq (.asg 4 (.bin .mod (.bin .mul (.var 4) (.var 4)) (.var 2))) (.seq (.asg 5 (.bin .div (.var 5) (.con (.int 2)))) .nil)))) (.seq (.ret (.var 3)) .nil)))), none⟩ := rfl
  rw [ev1 (dd := d_power) (by kernel_rfl), hd]
  unfold d_power
  generalize (Sm.seq (.iff (.tval (.cmp .eq (.bin .mod (.var 5) (.con (.int 2))) (.con (.int 1)))) (.seq (.asg 3 (.bin .mod (.bin .mul (.var 3) (.var 4)) (.var 2))) .nil) .nil) (.seq (.asg 4 (.bin .mod (.bin .mul (.var 4) (.var 4)) (.var 2))) (.seq (.asg 5 (.bin .div (.var 5) (.con (.int 2)))) .nil))) = B at *
  generalize hT : Ex.tval (.cmp .gt (.var 5) (.con (.int 0))) = TT at *
  have w1 : evS (evF T fu n) fu (.whl TT B) [vi b, vi e, vi m, vi ((1 : Nat) : Int), vi ((b % m : Nat) : Int), vi e] = some (.nx, [vi b, vi e, vi m, vi ((b ^ e % m : Nat) : Int), vi s', vi ((0 : Nat) : Int)]) := by
    rw [evS]; exact w
  generalize hW : Sm.whl TT B = W at *
  simp [evE, evT, evL, evA, evO, evAr, evS, evD, putS, peek, mutS, setM, opB, opC, opF, opIx, opSl, walk, unpS, bindT, refs, argS, putBack, permA, outsOf, atI, ixN, tru, setJ, iscS, eqoS, eqoR, putX, popJ] at w1
  simp [evE, evT, evL, evA, evO, evAr, evS, evD, putS, peek, mutS, setM, opB, opC, opF, opIx, opSl, walk, unpS, bindT, refs, argS, putBack, permA, outsOf, atI, ixN, tru, setJ, iscS, eqoS, eqoR, putX, popJ, m0, w1]
end L16
namespace L16
open PySem L2 Mn TL
def bLP : Sm := (Sm.seq (.iff (.tval (.cmp .eq (.bin .mod (.blt .int (.cons (.var 6) .nil)) (.con (.int 2))) (.con (.int 1)))) (.seq (.asg 4 (.bin .mod (.blt .int (.cons (.bin .mul (.var 4) (.var 5)) .nil)) (.var 2))) .nil) .nil) (.seq (.par 5 6 false false (.bin .mod (.blt .int (.cons (.bin .mul (.var 5) (.var 5)) .nil)) (.var 2)) (.bin .div (.var 6) (.con (.int 2)))) .nil))
theorem lpower_loop {F : FT} {fu m : Nat} (hm : 3 ≤ m) (h9 : m ≤ 9973) (x y : Option Sl) : ∀ (its : List D) (w s l : Nat) (e3 : Option Sl), l < 2 ^ its.length → w < m → s < m → Fre e3 →
    ∃ (s' l' : Nat) (e3' : Option Sl), forL (.one 3) (fun e => evS F fu bLP e) its [x, y, vi m, e3, vi w, vi s, vi l] = some (.nx, [x, y, vi m, e3', vi ((w * s ^ l % m : Nat) : Int), vi s', vi l'])
  | [], w, s, l, e3, h, hw, hs, _ => by
    have : l = 0 := by simpa using h
    subst this
    refine ⟨s, 0, e3, ?_⟩
    rw [Nat.pow_zero, Nat.mul_one, Nat.mod_eq_of_lt hw]
    rfl
  | i :: its, w, s, l, e3, h, hw, hs, h3 => by
    have b1 : bindT (.one 3) i [x, y, vi m, e3, vi w, vi s, vi l] = some [x, y, vi m, some (.val i), vi w, vi s, vi l] := by
      rcases h3 with rfl | ⟨d, rfl⟩ <;> rfl
    have m0 : 0 < m := by omega
    have z1 : sm (w : Int) = true := sm_of_lt (small_lt hw h9)
    have z2 : sm (s : Int) = true := sm_of_lt (small_lt hs h9)
    have l2 : l / 2 < 2 ^ its.length := by rw [List.length_cons, Nat.pow_succ] at h; omega
    have s2 : s * s % m < m := Nat.mod_lt _ (by omega)
    by_cases o : l % 2 = 1
    · have o2 : deq (.int ((l : Int) % 2)) (.int 1) = true := by
        rw [show (l : Int) % 2 = 1 by omega]; decide
      have st : evS F fu bLP [x, y, vi m, some (.val i), vi w, vi s, vi l] = some (.nx, [x, y, vi m, some (.val i), vi ((w * s % m : Nat) : Int), vi ((s * s % m : Nat) : Int), vi ((l / 2 : Nat) : Int)]) := by
        unfold bLP
        simp [evE, evT, evL, evA, evO, evAr, evS, evD, putS, peek, mutS, setM, opB, opC, opF, opIx, opSl, walk, unpS, bindT, refs, argS, putBack, permA, outsOf, atI, ixN, tru, setJ, iscS, eqoS, eqoR, putX, popJ, o2, z1, z2, m0, dsh_int, show sm 2 = true by decide +kernel, fd2]
        try omega
      obtain ⟨s', l', e3', e⟩ := lpower_loop (F := F) (fu := fu) hm h9 x y its (w * s % m) (s * s % m) (l / 2) (some (.val i)) l2 (Nat.mod_lt _ (by omega)) s2 (.inr ⟨_, rfl⟩)
      rw [odd_step o] at e
      exact ⟨s', l', e3', by rw [forL_nx b1 st, e]⟩
    · have o2 : deq (.int ((l : Int) % 2)) (.int 1) = false := by
        rw [show (l : Int) % 2 = 0 by omega]; decide
      have st : evS F fu bLP [x, y, vi m, some (.val i), vi w, vi s, vi l] = some (.nx, [x, y, vi m, some (.val i), vi w, vi ((s * s % m : Nat) : Int), vi ((l / 2 : Nat) : Int)]) := by
        unfold bLP
        simp [evE, evT, evL, evA, evO, evAr, evS, evD, putS, peek, mutS, setM, opB, opC, opF, opIx, opSl, walk, unpS, bindT, refs, argS, putBack, permA, outsOf, atI, ixN, tru, setJ, iscS, eqoS, eqoR, putX, popJ, o2, z1, z2, m0, dsh_int, show sm 2 = true by decide +kernel, fd2]
        try omega
      obtain ⟨s', l', e3', e⟩ := lpower_loop (F := F) (fu := fu) hm h9 x y its w (s * s % m) (l / 2) (some (.val i)) l2 hw s2 (.inr ⟨_, rfl⟩)
      rw [even_step o] at e
      exact ⟨s', l', e3', by rw [forL_nx b1 st, e]⟩
theorem s_lpower {fu n b e m : Nat} (hm : 3 ≤ m) (h9 : m ≤ 9973) (he : e < 2 ^ 70) : evF T fu (n + 1) "_law_power" [.val (.int (b : Int)), .val (.int (e : Int)), .val (.int (m : Int))] = some (.int ((b ^ e % m : Nat) : Int), []) := by
  have m0 : 0 < m := by omega
  obtain ⟨s', l', e3', lp⟩ := lpower_loop (F := evF T fu n) (fu := fu) hm h9 (vi b) (vi e) (ran 70) 1 (b % m) e none (by rw [show (ran 70).length = 70 from by simp [evE, evT, evL, evA, evO, evAr, evS, evD, putS, peek, mutS, setM, opB, opC, opF, opIx, opSl, walk, unpS, bindT, refs, argS, putBack, permA, outsOf, atI, ixN, tru, setJ, iscS, eqoS, eqoR, putX, popJ, ran]]; exact he) (by omega) (Nat.mod_lt _ (by omega)) (.inl rfl)
  rw [Nat.one_mul, ← Nat.pow_mod] at lp
  have w7 : walk .rng [.int 70] = some (ran 70) := by
    show (if wi 19 70 then some (ran (70 : Int).toNat) else none) = _
    rw [if_pos (by decide +kernel)]; rfl
  have rl : (ran 70).length ≤ lim := by decide
  have hd : d__law_power = ⟨d__law_power.ps, d__law_power.ns, .seq (.par3 4 5 6 (.cons (.con (.int 1)) (.cons (.bin .mod (.blt .int (.cons (.var 0) .nil)) (.var 2)) (.cons (.blt .int (.cons (.var 1) .nil)) .nil)))) (.seq (.for_ .rng (.cons (.con (.int 70)) .nil) (.one 3) bLP) (.seq (.ret (.var 4)) .nil)), none⟩ := rfl
  rw [ev1 (dd := d__law_power) (by kernel_rfl), hd]
  unfold d__law_power
  generalize ran 70 = R7 at *
  simp [evE, evT, evL, evA, evO, evAr, evS, evD, putS, peek, mutS, setM, opB, opC, opF, opIx, opSl, walk, unpS, bindT, refs, argS, putBack, permA, outsOf, atI, ixN, tru, setJ, iscS, eqoS, eqoR, putX, popJ] at lp
  simp [evE, evT, evL, evA, evO, evAr, evS, evD, putS, peek, mutS, setM, opB, opC, opF, opIx, opSl, unpS, bindT, refs, argS, putBack, permA, outsOf, atI, ixN, tru, setJ, iscS, eqoS, eqoR, putX, popJ, w7, rl, lp, m0]
theorem s_lrem {fu n m : Nat} {q : Rat} (hm : 3 ≤ m) (h9 : m ≤ 9973) (hq : 0 ≤ q) : evF T fu (n + 2) "_law_remainder" [.val (fr q), .val (.int (m : Int))] = some (.int ((q.num.natAbs * q.den ^ (m - 2) % m : Nat) : Int), []) := by
  have hn : q.num = (q.num.natAbs : Int) := by
    have := Rat.num_nonneg.2 hq
    omega
  have m0 : 0 < m := by omega
  have p := s_lpower (fu := fu) (n := n) (b := q.den) (e := m - 2) hm h9 (Nat.lt_of_lt_of_le (show m - 2 < 2 ^ 14 by omega) (Nat.pow_le_pow_right (by decide) (by decide)))
  rw [show ((m - 2 : Nat) : Int) = (m : Int) - 2 by omega] at p
  have l1 : q.num.natAbs % m < m := Nat.mod_lt _ (by omega)
  have l2 : q.den ^ (m - 2) % m < m := Nat.mod_lt _ (by omega)
  have z1 : sm ((q.num.natAbs % m : Nat) : Int) = true := sm_of_lt (small_lt l1 h9)
  have z2 : sm ((q.den ^ (m - 2) % m : Nat) : Int) = true := sm_of_lt (small_lt l2 h9)
  rw [ev1 (dd := d__law_remainder) (by kernel_rfl)]
  unfold d__law_remainder
  unfold fr
  rw [Nat.mul_mod]
  generalize q.den ^ (m - 2) % m = Z at *
  generalize q.den = d at *
  generalize q.num.natAbs = N at *
  rw [hn]
  rw [Int.natCast_emod] at z1
  simp [evE, evT, evL, evA, evO, evAr, evS, evD, putS, peek, mutS, setM, opB, opC, opF, opIx, opSl, walk, unpS, bindT, refs, argS, putBack, permA, outsOf, atI, ixN, tru, setJ, iscS, eqoS, eqoR, putX, popJ, -Nat.reduceMod, p, z1, z2, m0]
  rw [Int.mul_emod, Int.emod_emod, ← Int.mul_emod]
theorem s_one {fu n : Nat} : evF T fu (n + 1) "ONE" [] = some (fr 1, []) := by
  rw [ev1 (dd := d_ONE) (by kernel_rfl)]
  unfold d_ONE
  simp [evE, evT, evL, evA, evO, evAr, evS, evD, putS, peek, mutS, setM, opB, opC, opF, opIx, opSl, walk, unpS, bindT, refs, argS, putBack, permA, outsOf, atI, ixN, tru, setJ, iscS, eqoS, eqoR, putX, popJ, lim]
  rfl
theorem s_ckthrow {fu n : Nat} {t f : Rat} {k K : Int} (t0 : 0 ≤ t) (f1 : 1 < f) (hf : Bq 3000 f) (k0 : 0 ≤ k) (hk : k ≤ K) : evF T fu (n + 4) "check_throw" [.val (fr t), .val (fr f), .val (.int k), .val (.int K)] = some (.non, []) := by
  have a := s_istime (fu := fu) (n := n) t0
  have b := s_frac (fu := fu) (n := n + 1) (q := f)
  have o := s_one (fu := fu) (n := n + 2)
  have l := s_less (fu := fu) (n := n + 2) (p := 1) (q := f) ⟨by decide, by decide⟩ hf
  rw [decide_eq_true f1] at l
  have i := s_plain (fu := fu) (n := n + 2) (i := k)
  rw [ev1 (dd := d_check_throw) (by kernel_rfl)]
  unfold d_check_throw
  generalize fr t = tt at *
  generalize fr f = ff at *
  generalize fr 1 = oo at *
  simp [evE, evT, evL, evA, evO, evAr, evS, evD, putS, peek, mutS, setM, opB, opC, opF, opIx, opSl, walk, unpS, bindT, refs, argS, putBack, permA, outsOf, atI, ixN, tru, setJ, iscS, eqoS, eqoR, putX, popJ, a, b, o, l, i, k0, hk]
def bTP : Sm := (Sm.seq (.asg 3 (.call "multiplied" [0, 1] (.cons (.tval (.var 3)) (.cons (.tval (.var 1)) .nil)))) .nil)
theorem plain_loop {fu n : Nat} {t f : Rat} {x2 : Option Sl} (ht : Bq 4 t) (hf : Bq 12 f) : ∀ (its : List D) (k : Nat) (e4 : Option Sl), k + its.length ≤ 60 → Fre e4 →
    ∃ e4', forL (.one 4) (fun e => evS (evF T fu (n + 2)) fu bTP e) its [some (.val (fr t)), some (.val (fr f)), x2, some (.val (fr (t * f ^ k))), e4] = some (.nx, [some (.val (fr t)), some (.val (fr f)), x2, some (.val (fr (t * f ^ (k + its.length)))), e4'])
  | [], k, e4, _, _ => ⟨e4, rfl⟩
  | i :: its, k, e4, hk, h4 => by
    rw [List.length_cons] at hk
    have b1 : bindT (.one 4) i [some (.val (fr t)), some (.val (fr f)), x2, some (.val (fr (t * f ^ k))), e4] = some [some (.val (fr t)), some (.val (fr f)), x2, some (.val (fr (t * f ^ k))), some (.val i)] := by
      rcases h4 with rfl | ⟨d, rfl⟩ <;> rfl
    have sz : ∀ j : Nat, Bq (4 + 12 * j) (t * f ^ j) := by
      intro j
      induction j with
      | zero => rw [show f ^ 0 = 1 from by grind, Rat.mul_one]; exact ht
      | succ j ih =>
        rw [show t * f ^ (j + 1) = (t * f ^ j) * f by grind]
        exact (ih.mul hf).le (by omega)
    have m := s_multiplied (fu := fu) (n := n) ((sz k).le (by omega : 4 + 12 * k ≤ 2000)) (hf.le (by decide : 12 ≤ 2000))
    rw [show (t * f ^ k) * f = t * f ^ (k + 1) by grind] at m
    have st : evS (evF T fu (n + 2)) fu bTP [some (.val (fr t)), some (.val (fr f)), x2, some (.val (fr (t * f ^ k))), some (.val i)] = some (.nx, [some (.val (fr t)), some (.val (fr f)), x2, some (.val (fr (t * f ^ (k + 1)))), some (.val i)]) := by
      unfold bTP
      generalize fr (t * f ^ k) = a at *
      generalize fr (t * f ^ (k + 1)) = b at *
      generalize fr t = tt at *
      generalize fr f = ff at *
      simp [evE, evT, evL, evA, evO, evAr, evS, evD, putS, peek, mutS, setM, opB, opC, opF, opIx, opSl, walk, unpS, bindT, refs, argS, putBack, permA, outsOf, atI, ixN, tru, setJ, iscS, eqoS, eqoR, putX, popJ, m]
    obtain ⟨e4', e⟩ := plain_loop (n := n) (x2 := x2) ht hf its (k + 1) (some (.val i)) (by omega) (.inr ⟨_, rfl⟩)
    exact ⟨e4', by rw [forL_nx b1 st, e, List.length_cons, show k + 1 + its.length = k + (its.length + 1) by omega]⟩
theorem s_plainly {fu n k : Nat} {t f : Rat} (t0 : 0 ≤ t) (f1 : 1 < f) (ht : Bq 4 t) (hf : Bq 12 f) (hk : k ≤ 60) : evF T fu (n + 5) "thrown_plain" [.val (fr t), .val (fr f), .val (.int (k : Int))] = some (fr (t * f ^ k), []) := by
  have c := s_ckthrow (fu := fu) (n := n) (k := (k : Int)) (K := 60) t0 f1 (hf.le (by decide)) (by omega) (by omega)
  obtain ⟨e4', lp⟩ := plain_loop (fu := fu) (n := n + 2) (x2 := some (.val (.int (k : Int)))) ht hf (ran k) 0 none (by simp [evE, evT, evL, evA, evO, evAr, evS, evD, putS, peek, mutS, setM, opB, opC, opF, opIx, opSl, walk, unpS, bindT, refs, argS, putBack, permA, outsOf, atI, ixN, tru, setJ, iscS, eqoS, eqoR, putX, popJ, ran]; exact hk) (.inl rfl)
  rw [show t * f ^ 0 = t from by grind, show 0 + (ran k).length = k from by simp [evE, evT, evL, evA, evO, evAr, evS, evD, putS, peek, mutS, setM, opB, opC, opF, opIx, opSl, walk, unpS, bindT, refs, argS, putBack, permA, outsOf, atI, ixN, tru, setJ, iscS, eqoS, eqoR, putX, popJ, ran]] at lp
  have wk : walk .rng [.int (k : Int)] = some (ran k) := by
    show (if wi 19 (k : Int) then some (ran ((k : Int)).toNat) else none) = _
    rw [if_pos (lt_wi (by rw [Int.natAbs_natCast]; omega) (by decide)), Int.toNat_natCast]
  have rl : (ran k).length ≤ lim := by simp [evE, evT, evL, evA, evO, evAr, evS, evD, putS, peek, mutS, setM, opB, opC, opF, opIx, opSl, walk, unpS, bindT, refs, argS, putBack, permA, outsOf, atI, ixN, tru, setJ, iscS, eqoS, eqoR, putX, popJ, ran, lim]; omega
  have hd : d_thrown_plain = ⟨d_thrown_plain.ps, d_thrown_plain.ns, .seq (.exp (.call "check_throw" [0, 1, 2, 3] (.cons (.tval (.var 0)) (.cons (.tval (.var 1)) (.cons (.tval (.var 2)) (.cons (.tval (.con (.int 60))) .nil)))))) (.seq (.asg 3 (.var 0)) (.seq (.for_ .rng (.cons (.var 2) .nil) (.one 4) bTP) (.seq (.ret (.var 3)) .nil))), none⟩ := rfl
  rw [ev1 (dd := d_thrown_plain) (by kernel_rfl), hd]
  unfold d_thrown_plain
  generalize ran k = R at *
  generalize fr (t * f ^ k) = a at *
  generalize fr t = tt at *
  generalize fr f = ff at *
  simp [evE, evT, evL, evA, evO, evAr, evS, evD, putS, peek, mutS, setM, opB, opC, opF, opIx, opSl, unpS, bindT, refs, argS, putBack, permA, outsOf, atI, ixN, tru, setJ, iscS, eqoS, eqoR, putX, popJ, wk, rl, lp, c]
end L16
namespace L16
open PySem L2 Mn TL
/-! ### is_modulus -/
theorem bools_true {α : Type} : ∀ its : List α, boolsD (its.map fun _ => D.bl true) = some (its.map fun _ => true)
  | [] => rfl
  | i :: its => by
    show (boolsD (its.map fun _ => D.bl true)).map (true :: ·) = _
    rw [bools_true its]; rfl
def kOf (m : Nat) : Nat := if 100 < m then 100 else m
theorem no_div : (PRIMES.all fun m => (List.range (kOf m - 2)).all fun j => m % (2 + j) != 0) = true := by decide +kernel
def elM : Ex := (.cmp .ne (.bin .mod (.var 0) (.var 1)) (.con (.int 0)))
def cM : Ex := .comp (.rng) (.cons (.con (.int 2)) (.cons (.blt .min (.cons (.var 0) (.cons (.con (.int 100)) .nil))) .nil)) (.one 1) .tyes elM [1]
theorem s_ismod {fu n m : Nat} (h : m ∈ PRIMES) : evF T fu (n + 2) "is_modulus" [.val (.int (m : Int))] = some (.bl true, []) := by
  obtain ⟨h3, h9⟩ := primes_is h
  have nd := List.all_eq_true.1 (List.all_eq_true.1 no_div m h)
  have k3 : 2 ≤ kOf m ∧ kOf m ≤ 100 := by unfold kOf; split <;> omega
  have a := s_plain (fu := fu) (n := n) (i := (m : Int))
  have key := compL_filter (el := fun e => evE (evF T fu (n + 1)) elM e) (cd := fun e => evT (evF T fu (n + 1)) .tyes e) (tg := .one 1) (own := [1]) (env := [vi m, none]) (f := fun (j : Nat) => D.int (2 + (j : Int))) (g := fun _ => D.bl true) (b := fun _ => true) (its := List.range (kOf m - 2)) (by
    intro j hj
    have z := nd j hj
    have z' : deq (.int ((m : Int) % (2 + (j : Int)))) (.int 0) = false := by
      rw [deq_int, show (m : Int) % (2 + (j : Int)) = ((m % (2 + j) : Nat) : Int) from rfl]
      have z : m % (2 + j) ≠ 0 := by simpa using z
      exact decide_eq_false (by omega)
    have jp : (0 : Int) < 2 + (j : Int) := by omega
    refine ⟨[vi m, some (.val (.int (2 + (j : Int))))], rfl, rfl, ?_, rfl⟩
    unfold elM
    simp [evE, evT, evL, evA, evO, evAr, evS, evD, putS, peek, mutS, setM, opB, opC, opF, opIx, opSl, walk, unpS, bindT, refs, argS, putBack, permA, outsOf, atI, ixN, tru, setJ, iscS, eqoS, eqoR, putX, popJ, z', jp, dsh_int])
  rw [List.filter_eq_self.2 (fun _ _ => rfl)] at key
  have w : walk .rng [.int 2, .int (if (100 : Int) < (m : Int) then 100 else (m : Int))] = some ((List.range (kOf m - 2)).map fun (j : Nat) => D.int (2 + (j : Int))) := by
    have e : (if (100 : Int) < (m : Int) then (100 : Int) else (m : Int)) = ((kOf m : Nat) : Int) := by unfold kOf; split <;> split <;> omega
    rw [e]
    show (if wi 19 2 && wi 19 ((kOf m : Nat) : Int) then some (ranF 2 (((kOf m : Nat) : Int) - 2).toNat) else none) = _
    rw [if_pos (by rw [Bool.and_eq_true]; exact ⟨by decide +kernel, lt_wi (by rw [Int.natAbs_natCast]; omega) (by decide)⟩)]
    rw [show (((kOf m : Nat) : Int) - 2).toNat = kOf m - 2 by omega]
    rfl
  have rl : ((List.range (kOf m - 2)).map fun (j : Nat) => D.int (2 + (j : Int))).length ≤ lim := by simp [evE, evT, evL, evA, evO, evAr, evS, evD, putS, peek, mutS, setM, opB, opC, opF, opIx, opSl, walk, unpS, bindT, refs, argS, putBack, permA, outsOf, atI, ixN, tru, setJ, iscS, eqoS, eqoR, putX, popJ, lim]; omega
  have rl2 : ((List.range (kOf m - 2)).map fun (_ : Nat) => D.bl true).length ≤ lim := by simp [evE, evT, evL, evA, evO, evAr, evS, evD, putS, peek, mutS, setM, opB, opC, opF, opIx, opSl, walk, unpS, bindT, refs, argS, putBack, permA, outsOf, atI, ixN, tru, setJ, iscS, eqoS, eqoR, putX, popJ, lim]; omega
  have bt := bools_true (List.range (kOf m - 2))
  have c1 : (3 : Int) ≤ (m : Int) := by omega
  have c2 : (m : Int) ≤ 9973 := by omega
  have lst1 : (((List.range (kOf m - 2)).map fun (_ : Nat) => true).all id) = true := by simp [evE, evT, evL, evA, evO, evAr, evS, evD, putS, peek, mutS, setM, opB, opC, opF, opIx, opSl, walk, unpS, bindT, refs, argS, putBack, permA, outsOf, atI, ixN, tru, setJ, iscS, eqoS, eqoR, putX, popJ]
  have e0 : evE (evF T fu (n + 1)) cM [vi m, none] = some (.lst ((List.range (kOf m - 2)).map fun (_ : Nat) => D.bl true), [vi m, none]) := by
    generalize ((List.range (kOf m - 2)).map fun (j : Nat) => D.int (2 + (j : Int))) = A at *
    generalize ((List.range (kOf m - 2)).map fun (_ : Nat) => D.bl true) = B at *
    unfold cM
    generalize elM = el at *
    simp only [evT] at key
    simp [evE, evT, evL, evA, evO, evAr, evS, evD, putS, peek, mutS, setM, opB, opC, opF, opIx, opSl, unpS, bindT, refs, argS, putBack, permA, outsOf, atI, ixN, tru, setJ, iscS, eqoS, eqoR, putX, popJ, w, rl, key]
  have hd : d_is_modulus = ⟨["value"], ["value", "divisor"], (.seq (.iff (.tor (.tnot (.tval (.call "is_plain_integer" [0] (.cons (.tval (.var 0)) .nil)))) (.tnot (.tval (.chn .le .le (.con (.int 3)) (.var 0) (.con (.int 9973)))))) (.seq (.ret (.con (.bl false))) .nil) .nil) (.seq (.ret (.blt .all (.cons cM .nil))) .nil)), none⟩ := rfl
  rw [ev1 (dd := d_is_modulus) (by kernel_rfl), hd]
  generalize cM = cm at *
  generalize ((List.range (kOf m - 2)).map fun (_ : Nat) => D.bl true) = B at *
  simp [evE, evT, evL, evA, evO, evAr, evS, evD, putS, peek, mutS, setM, opB, opC, opF, opIx, opSl, walk, unpS, bindT, refs, argS, putBack, permA, outsOf, atI, ixN, tru, setJ, iscS, eqoS, eqoR, putX, popJ, a, e0, bt, lst1, c1, c2]
/-! ### thrown -/
theorem s_thrown {fu n k m : Nat} {t f : Rat} (h : m ∈ PRIMES) (t0 : 0 ≤ t) (f1 : 1 < f) (ht : Bq 8 t) (hf : Bq 12 f) (hk : k ≤ 10 ^ 18) (h1 : t.den % m ≠ 0) (h2 : f.den % m ≠ 0) (hfu : 65 ≤ fu) :
    evF T fu (n + 5) "thrown" [.val (fr t), .val (fr f), .val (.int (k : Int)), .val (.int (m : Int))] = some (.int ((t.num.natAbs * (f.num.natAbs ^ k % m) * ((t.den * (f.den ^ k % m)) ^ (m - 2) % m) % m : Nat) : Int), []) := by
  obtain ⟨h3, h9⟩ := primes_is h
  have f0 : 0 ≤ f := by grind
  have tn : t.num = (t.num.natAbs : Int) := by have := Rat.num_nonneg.2 t0; omega
  have fn : f.num = (f.num.natAbs : Int) := by have := Rat.num_nonneg.2 f0; omega
  have c := s_ckthrow (fu := fu) (n := n) (k := (k : Int)) (K := 10 ^ 18) t0 f1 (hf.le (by decide)) (by omega) (by omega)
  have i := s_ismod (fu := fu) (n := n + 2) h
  have k64 : k < 2 ^ 64 := Nat.lt_of_le_of_lt hk (by decide)
  have p1 := s_power (fu := fu) (n := n + 3) (b := f.num.natAbs) (e := k) h3 h9 k64 hfu
  have p2 := s_power (fu := fu) (n := n + 3) (b := f.den) (e := k) h3 h9 k64 hfu
  have p3 := s_power (fu := fu) (n := n + 3) (b := t.den * (f.den ^ k % m)) (e := m - 2) h3 h9 (by omega) hfu
  rw [← fn] at p1
  have m0 : 0 < m := by omega
  have a1 : f.num.natAbs ^ k % m < m := Nat.mod_lt _ m0
  have a2 : f.den ^ k % m < m := Nat.mod_lt _ m0
  have z1 : sm ((f.num.natAbs ^ k % m : Nat) : Int) = true := sm_of_lt (small_lt a1 h9)
  have z2 : sm ((f.den ^ k % m : Nat) : Int) = true := sm_of_lt (small_lt a2 h9)
  have z3 : sm t.num = true := (ht.le (by decide : 8 ≤ 3000)).sn (by decide)
  have z4 : sm (t.den : Int) = true := (ht.le (by decide : 8 ≤ 3000)).sd (by decide)
  have z5 : sm ((t.num.natAbs : Int) * ((f.num.natAbs ^ k % m : Nat) : Int)) = true := sm_of (by
    rw [← Int.natCast_mul, Int.natAbs_natCast]
    exact Nat.lt_of_lt_of_le (Nat.mul_lt_mul'' ht.n (Nat.lt_of_lt_of_le a1 (Nat.le_trans h9 (by decide : 9973 ≤ 2 ^ 14)))) (by rw [← Nat.pow_add]; exact Nat.pow_le_pow_right (by decide) (by decide)))
  have a3 : (t.den * (f.den ^ k % m)) ^ (m - 2) % m < m := Nat.mod_lt _ m0
  have z6 : sm (((t.den * (f.den ^ k % m)) ^ (m - 2) % m : Nat) : Int) = true := sm_of_lt (small_lt a3 h9)
  have d1 : deq (.int ((t.den : Int) % (m : Int))) (.int 0) = false := by rw [deq_int]; simp [evE, evT, evL, evA, evO, evAr, evS, evD, putS, peek, mutS, setM, opB, opC, opF, opIx, opSl, walk, unpS, bindT, refs, argS, putBack, permA, outsOf, atI, ixN, tru, setJ, iscS, eqoS, eqoR, putX, popJ]; omega
  have d2 : deq (.int ((f.den : Int) % (m : Int))) (.int 0) = false := by rw [deq_int]; simp [evE, evT, evL, evA, evO, evAr, evS, evD, putS, peek, mutS, setM, opB, opC, opF, opIx, opSl, walk, unpS, bindT, refs, argS, putBack, permA, outsOf, atI, ixN, tru, setJ, iscS, eqoS, eqoR, putX, popJ]; omega
  rw [show ((m - 2 : Nat) : Int) = (m : Int) - 2 by omega, show ((t.den * (f.den ^ k % m) : Nat) : Int) = (t.den : Int) * ((f.den ^ k % m : Nat) : Int) from Int.natCast_mul _ _] at p3
  rw [ev1 (dd := d_thrown) (by kernel_rfl)]
  unfold d_thrown
  have e18 : opB .pow (.int 10) (.int 18) = some (.int (10 ^ 18)) := by
    show (if sm 10 && decide ((0 : Int) ≤ 18) && decide ((18 : Int) ≤ 1000) then some (D.int (10 ^ (18 : Int).toNat)) else none) = _
    rw [if_pos (by decide +kernel)]
    rfl
  have i0 : opIx (fr t) (.int 0) = some (.int t.num) := ixt0
  have i1 : opIx (fr t) (.int 1) = some (.int (t.den : Int)) := ixt1
  have j0 : opIx (fr f) (.int 0) = some (.int f.num) := ixt0
  have j1 : opIx (fr f) (.int 1) = some (.int (f.den : Int)) := ixt1
  have q1 : opB .mul (.int t.num) (.int ((f.num.natAbs ^ k % m : Nat) : Int)) = some (.int ((t.num.natAbs : Int) * ((f.num.natAbs ^ k % m : Nat) : Int))) := by
    rw [← tn]
    show (if sm t.num && sm ((f.num.natAbs ^ k % m : Nat) : Int) then some (D.int (t.num * ((f.num.natAbs ^ k % m : Nat) : Int))) else none) = _
    rw [z3, z1]; rfl
  have q2 : opB .mul (.int (t.den : Int)) (.int ((f.den ^ k % m : Nat) : Int)) = some (.int ((t.den : Int) * ((f.den ^ k % m : Nat) : Int))) := by
    show (if sm (t.den : Int) && sm ((f.den ^ k % m : Nat) : Int) then some (D.int ((t.den : Int) * ((f.den ^ k % m : Nat) : Int))) else none) = _
    rw [z4, z2]; rfl
  have q3 : opB .mul (.int ((t.num.natAbs : Int) * ((f.num.natAbs ^ k % m : Nat) : Int))) (.int (((t.den * (f.den ^ k % m)) ^ (m - 2) % m : Nat) : Int)) = some (.int (((t.num.natAbs * (f.num.natAbs ^ k % m) * ((t.den * (f.den ^ k % m)) ^ (m - 2) % m) : Nat)) : Int)) := by
    show (if sm ((t.num.natAbs : Int) * ((f.num.natAbs ^ k % m : Nat) : Int)) && sm (((t.den * (f.den ^ k % m)) ^ (m - 2) % m : Nat) : Int) then some (D.int (((t.num.natAbs : Int) * ((f.num.natAbs ^ k % m : Nat) : Int)) * (((t.den * (f.den ^ k % m)) ^ (m - 2) % m : Nat) : Int))) else none) = _
    rw [z5, z6, Int.natCast_mul, Int.natCast_mul]; rfl
  have q4 : ∀ x : Nat, opB .mod (.int (x : Int)) (.int (m : Int)) = some (.int ((x % m : Nat) : Int)) := fun x => by
    show (if decide ((0 : Int) < (m : Int)) then some (D.int ((x : Int) % (m : Int))) else none) = _
    rw [if_pos (decide_eq_true (by omega))]; rfl
  have q5 : opC .eq (.int ((t.den % m : Nat) : Int)) (.int 0) = some false := by
    show (if dsh (.int ((t.den % m : Nat) : Int)) && dsh (.int 0) then some (deq (.int ((t.den % m : Nat) : Int)) (.int 0)) else none) = _
    rw [dsh_int, dsh_int, deq_int, decide_eq_false (by omega)]; rfl
  have q6 : opC .eq (.int ((f.den % m : Nat) : Int)) (.int 0) = some false := by
    show (if dsh (.int ((f.den % m : Nat) : Int)) && dsh (.int 0) then some (deq (.int ((f.den % m : Nat) : Int)) (.int 0)) else none) = _
    rw [dsh_int, dsh_int, deq_int, decide_eq_false (by omega)]; rfl
  have q7 : opB .sub (.int (m : Int)) (.int 2) = some (.int ((m : Int) - 2)) := rfl
  have q8 := q4 (t.num.natAbs * (f.num.natAbs ^ k % m) * ((t.den * (f.den ^ k % m)) ^ (m - 2) % m))
  have q9 := q4 t.den
  have q10 := q4 f.den
  clear z1 z2 z3 z4 z5 z6 q4 a1 a2 a3 d1 d2 tn fn h2 h1 ht hf
  generalize ((t.num.natAbs * (f.num.natAbs ^ k % m) * ((t.den * (f.den ^ k % m)) ^ (m - 2) % m) % m : Nat) : Int) = R at *
  generalize (((t.num.natAbs * (f.num.natAbs ^ k % m) * ((t.den * (f.den ^ k % m)) ^ (m - 2) % m) : Nat)) : Int) = S at *
  generalize (((t.den * (f.den ^ k % m)) ^ (m - 2) % m : Nat) : Int) = Z at *
  generalize ((t.den : Int) * ((f.den ^ k % m : Nat) : Int)) = Y at *
  generalize ((t.num.natAbs : Int) * ((f.num.natAbs ^ k % m : Nat) : Int)) = X at *
  generalize ((f.num.natAbs ^ k % m : Nat) : Int) = A at *
  generalize ((f.den ^ k % m : Nat) : Int) = B at *
  generalize ((t.den % m : Nat) : Int) = G1 at *
  generalize ((f.den % m : Nat) : Int) = G2 at *
  generalize ((m : Int) - 2) = M2 at *
  generalize (t.den : Int) = d at *
  generalize (f.den : Int) = g at *
  generalize t.num = tn at *
  generalize f.num = fnn at *
  generalize fr t = tt at *
  generalize fr f = ff at *
  generalize (10 ^ 18 : Int) = E18 at *
  generalize (m : Int) = mm at *
  generalize (k : Int) = kk at *
  simp [evE, evT, evL, evA, evO, evAr, evS, evD, putS, peek, mutS, setM, opF, opSl, walk, unpS, bindT, refs, argS, putBack, permA, outsOf, atI, ixN, tru, setJ, iscS, eqoS, eqoR, putX, popJ, e18, i0, i1, j0, j1, q1, q2, q3, q5, q6, q7, q8, q9, q10, p1, p2, p3, c, i]
end L16
namespace L16
open PySem L2 Mn TL
/-! ### a flight of one long line -/
def BIG : Rat := 1000000000
theorem big_bq : Bq 31 BIG := ⟨by decide +kernel, by decide +kernel⟩
theorem big_pos : 0 < BIG := by decide +kernel
abbrev L1 : List Ln := [(true, BIG)]
theorem flg_one {u v p : Rat} (he : Be 11 u v) (hp : Bq 3 p) (p0 : 0 < p) : Flg u v p L1 := by
  refine ⟨⟨⟨⟨by decide, by decide⟩, he.le (by decide), hp.le (by decide), p0⟩, big_bq.le (by decide), big_pos, ⟨?_, ?_, hp.le (by decide), p0⟩⟩, by decide⟩
  · rw [Rat.zero_add]; exact big_bq.le (by decide)
  · exact ⟨(he.u.add (hp.mul big_bq)).le (by decide), (he.v.add (big_bq.div hp p0)).le (by decide)⟩
theorem last_one {u v p : Rat} : lastS 0 u v p L1 = ⟨BIG, u + p * BIG, v + BIG / p, p⟩ := by
  show lastS (0 + BIG) (u + p * BIG) (v + BIG / p) p [] = _
  rw [Rat.zero_add]; rfl
theorem plc_one {u v p τ : Rat} (h0 : 0 ≤ τ) (h1 : τ ≤ BIG) : plc u v p L1 τ = (u + p * τ, v + τ / p) := by
  have e : legs 0 u v p L1 = [(⟨0, u, v, p⟩, BIG)] := rfl
  unfold plc
  rw [e]
  simp only [lawAt]
  rw [if_neg (by grind)]
  by_cases c : BIG < τ - 0
  · grind
  · rw [if_neg c]
    have : τ - 0 = τ := by grind
    rw [this]
theorem heard_one {u v p q s : Rat} (he : Be 11 u v) (hp : Bq 3 p) (p0 : 0 < p) (q0 : 0 < q) (s0 : 0 < s) (ne : p ≠ q) (hb : s * (if p < q then q / p else p / q) ≤ BIG) :
    ∃ b, heardW u v p L1 (u + q * s) (v + s / q) = some (b, s * (if p < q then q / p else p / q)) := by
  have F := flg_one he hp p0
  have pn : p ≠ 0 := by grind
  have qn : q ≠ 0 := by grind
  have tU : ∀ τ, 0 ≤ τ → τ ≤ BIG → tmU u v p L1 (u + p * τ) = some τ := fun τ h0 h1 => by
    obtain ⟨R, st, _, _, _, _, _, e⟩ := at_allG F h0 (by rw [last_one]; exact h1)
    rw [plc_one h0 h1] at e
    exact e
  have tV : ∀ τ, 0 ≤ τ → τ ≤ BIG → tmV u v p L1 (v + τ / p) = some τ := fun τ h0 h1 => by
    obtain ⟨R, st, _, _, _, _, _, e⟩ := at_allG F.flip h0 (by
      have : flL L1 = L1 := rfl
      rw [this, last_one]; exact h1)
    rw [plc_flip, plc_one h0 h1] at e
    exact e
  by_cases c : p < q
  · rw [if_pos c] at hb ⊢
    have c1 : 1 < q / p := by
      have h : q / p - 1 = (q - p) / p := by grind
      have : 0 < (q - p) / p := divp (by grind) p0
      grind
    have a0 : 0 ≤ s * (q / p) := Rat.le_of_lt (Rat.mul_pos s0 (divp q0 p0))
    have u1 := tU (s * (q / p)) a0 hb
    rw [show p * (s * (q / p)) = q * s by grind] at u1
    have r0 : 0 ≤ s * (p / q) := Rat.le_of_lt (Rat.mul_pos s0 (divp p0 q0))
    have rb : s * (p / q) ≤ BIG := by
      have e1 : s - s * (p / q) = s * ((q - p) / q) := by clear tU tV u1; grind
      have e2 : s * (q / p) - s = s * ((q - p) / p) := by clear tU tV u1; grind
      have h1 := Rat.mul_pos s0 (divp (show 0 < q - p by grind) q0)
      have h2 := Rat.mul_pos s0 (divp (show 0 < q - p by grind) p0)
      rw [← e1] at h1
      rw [← e2] at h2
      generalize s * (p / q) = A at *
      generalize s * (q / p) = B at *
      clear tU tV u1
      grind
    have v1 := tV (s * (p / q)) r0 rb
    rw [show s * (p / q) / p = s / q by grind] at v1
    refine ⟨false, ?_⟩
    unfold heardW heardG
    rw [u1, v1]
    simp only [plc_one r0 rb, plc_one a0 hb]
    have n1 : ¬ (u + q * s < u + p * (s * (p / q))) := by
      have h : q * s - p * (s * (p / q)) = s * ((q - p) * (q + p) / q) := by grind
      have := Rat.mul_pos s0 (divp (Rat.mul_pos (show 0 < q - p by grind) (show 0 < q + p by grind)) q0)
      grind
    have n2 : v + s / q < v + s * (q / p) / p := by
      have h : s * (q / p) / p - s / q = s * ((q - p) * (q + p) / (p * p * q)) := by grind
      have := Rat.mul_pos s0 (divp (Rat.mul_pos (show 0 < q - p by grind) (show 0 < q + p by grind)) (Rat.mul_pos (Rat.mul_pos p0 p0) q0))
      grind
    rw [if_neg n1, if_pos n2]
  · rw [if_neg c] at hb ⊢
    have c' : q < p := by grind
    have a0 : 0 ≤ s * (p / q) := Rat.le_of_lt (Rat.mul_pos s0 (divp p0 q0))
    have v1 := tV (s * (p / q)) a0 hb
    rw [show s * (p / q) / p = s / q by grind] at v1
    refine ⟨true, ?_⟩
    unfold heardW heardG
    rw [v1]
    simp only [plc_one a0 hb]
    have n2 : u + q * s < u + p * (s * (p / q)) := by
      have h : p * (s * (p / q)) - q * s = s * ((p - q) * (q + p) / q) := by grind
      have := Rat.mul_pos s0 (divp (Rat.mul_pos (show 0 < p - q by grind) (show 0 < q + p by grind)) q0)
      grind
    rw [if_pos n2]
theorem big_ftx : ftx BIG = tx 1000000000 := by
  unfold ftx
  rw [if_pos (by decide +kernel)]
  rw [show BIG.num = 1000000000 by decide +kernel]
theorem tl_fly : tl ("\nfly " : PySem.Str) = 10 :: tl ("fly" : PySem.Str) ++ [32] := by decide +kernel
theorem text_one {u v p : Rat} : ("flight " : PySem.Str) ++ etx u v ++ " " ++ ftx p ++ "\nfly " ++ tx 1000000000 = fltx u v p L1 := by
  apply tl_inj
  unfold fltx
  rw [join_eq, tl_join]
  show _ = joinL (tl "\n") [tl (ftop u v p), tl (ltx (true, BIG))]
  unfold ftop ltx
  rw [show wd (true, BIG).1 = ("fly" : PySem.Str) from rfl, show ftx (true, BIG).2 = tx 1000000000 from big_ftx]
  simp only [tl_append, tl_fly, tl_line, joinL]
  simp [evE, evT, evL, evA, evO, evAr, evS, evD, putS, peek, mutS, setM, opB, opC, opF, opIx, opSl, walk, unpS, bindT, refs, argS, putBack, permA, outsOf, atI, ixN, tru, setJ, iscS, eqoS, eqoR, putX, popJ, tl_blank]
end L16
namespace L16
open PySem L2 Mn TL
/-! ### a flash thrown to and fro -/
def O7 : List Rat := [2, 1 / 2, 3 / 2, 2 / 3, 4 / 3, 1, 3]
def fac (one other : Rat) : Rat := if one < other then other / one else one / other
theorem o7_ok : ∀ q ∈ O7, Bq 3 q ∧ 0 < q := by
  have h : O7.all (fun q => decide (q.num.natAbs < 2 ^ 3) && decide (q.den < 2 ^ 3) && decide (0 < q)) = true := by decide +kernel
  intro q hq
  have := List.all_eq_true.1 h q hq
  simp only [Bool.and_eq_true, decide_eq_true_eq] at this
  exact ⟨⟨this.1.1, this.1.2⟩, this.2⟩
theorem fac_ok : ∀ p ∈ PACES, ∀ q ∈ O7, p ≠ q → 1 < fac p q ∧ fac p q ≤ 9 ∧ Bq 12 (fac p q) := by
  have h : PACES.all (fun p => O7.all fun q => decide (p = q) || (decide (1 < fac p q) && decide (fac p q ≤ 9) && decide ((fac p q).num.natAbs < 2 ^ 12) && decide ((fac p q).den < 2 ^ 12))) = true := by decide +kernel
  intro p hp q hq ne
  have := List.all_eq_true.1 (List.all_eq_true.1 h p hp) q hq
  simp only [Bool.or_eq_true, Bool.and_eq_true, decide_eq_true_eq] at this
  rcases this with z | z
  · exact absurd z ne
  · exact ⟨z.1.1.1, z.1.1.2, ⟨z.1.2, z.2⟩⟩
theorem fac_sym {p q : Rat} (ne : p ≠ q) : fac p q = fac q p := by
  unfold fac
  by_cases c : p < q
  · rw [if_pos c, if_neg (by grind)]
  · rw [if_neg c, if_pos (by grind)]
theorem times_le : ∀ t ∈ TIMES, t ≤ 12 := by
  have h : TIMES.all (fun q => decide (q ≤ 12)) = true := by decide +kernel
  intro q hq
  simpa using List.all_eq_true.1 h q hq
theorem pow_le {f : Rat} (h1 : 1 < f) (h9 : f ≤ 9) : ∀ k : Nat, 0 < f ^ k ∧ f ^ k ≤ 9 ^ k
  | 0 => by
    rw [show f ^ 0 = 1 by grind, show (9 : Rat) ^ 0 = 1 by grind]
    exact ⟨by decide, by decide⟩
  | k + 1 => by
    obtain ⟨a, b⟩ := pow_le h1 h9 k
    rw [show f ^ (k + 1) = f ^ k * f by grind, show (9 : Rat) ^ (k + 1) = 9 ^ k * 9 by grind]
    have c := Rat.mul_le_mul_of_nonneg_right b (show (0 : Rat) ≤ f by grind)
    have n : (0 : Rat) ≤ 9 ^ k := by grind
    have d := Rat.mul_le_mul_of_nonneg_left h9 n
    exact ⟨Rat.mul_pos a (by grind), by grind⟩
theorem here_le {t f : Rat} (t0 : 0 < t) (t12 : t ≤ 12) (h1 : 1 < f) (h9 : f ≤ 9) {k : Nat} (hk : k ≤ 8) : 0 < t * f ^ k ∧ t * f ^ k ≤ BIG := by
  obtain ⟨a, b⟩ := pow_le h1 h9 k
  refine ⟨Rat.mul_pos t0 a, ?_⟩
  have c := Rat.mul_le_mul_of_nonneg_right t12 (Rat.le_of_lt a)
  have d : (9 : Rat) ^ k ≤ 9 ^ 8 := by
    have : k = 0 ∨ k = 1 ∨ k = 2 ∨ k = 3 ∨ k = 4 ∨ k = 5 ∨ k = 6 ∨ k = 7 ∨ k = 8 := by omega
    rcases this with rfl | rfl | rfl | rfl | rfl | rfl | rfl | rfl | rfl <;> decide +kernel
  have e : (12 : Rat) * 9 ^ 8 ≤ BIG := by decide +kernel
  have g : (9 : Rat) ^ 8 = 43046721 := by decide +kernel
  unfold BIG at *
  generalize t * f ^ k = A at *
  generalize f ^ k = B at *
  generalize (9 : Rat) ^ k = C at *
  rw [g] at d e
  grind
theorem here_bq {t f : Rat} (ht : Bq 4 t) (hf : Bq 12 f) : ∀ j : Nat, Bq (4 + 12 * j) (t * f ^ j)
  | 0 => by rw [show f ^ 0 = 1 from by grind, Rat.mul_one]; exact ht
  | j + 1 => by
    rw [show t * f ^ (j + 1) = (t * f ^ j) * f by grind]
    exact ((here_bq ht hf j).mul hf).le (by omega)
def bTH : Sm := (Sm.seq (.iff (.tval (.cmp .ne (.blt .repr (.cons (.call "thrown_plain" [2, 1, 0] (.cons (.tval (.var 5)) (.cons (.tval (.var 4)) (.cons (.tval (.var 8)) .nil)))) .nil)) (.blt .repr (.cons (.var 9) .nil)))) (.seq (.ret (.con (.bl false))) .nil) .nil) (.seq (.asg 12 (.call "heard" [0, 1] (.cons (.tval (.ix (.var 3) (.bin .sub (.con (.int 1)) (.var 10)))) (.cons (.tval (.mth (.own "Flight" "at" "Flight.at") (.ix (.var 3) (.var 10)) (.cons (.var 9) .nil))) .nil)))) (.seq (.iff (.tval (.cmp .is (.var 12) (.con .non))) (.seq (.ret (.con (.bl false))) .nil) .nil) (.seq (.par 9 10 false false (.ix (.var 12) (.con (.int 1))) (.bin .sub (.con (.int 1)) (.var 10))) .nil))))
theorem hear_gen {fu n : Nat} {u v p q s f : Rat} (he : Be 11 u v) (hp : Bq 3 p) (p0 : 0 < p) (hq : Bq 3 q) (q0 : 0 < q) (ne : p ≠ q) (s0 : 0 < s) (sb : s ≤ BIG) (hs : Bq 100 s) (ef : f = fac p q) (hb : s * f ≤ BIG) :
    ∃ (b : Bool) (e : D), evF T fu (n + 6) "Flight.at" [.val (fo u v p L1), .val (fr s)] = some (e, []) ∧ evF T fu (n + 6) "heard" [.val (fo u v q L1), .val e] = some (.tup [.str (sdw b), fr (s * f)], []) := by
  have F := flg_one he hp p0
  have H := flg_one he hq q0
  have a := s_atG (fu := fu) (n := n + 1) F (τ := s) ⟨Rat.le_of_lt s0, by rw [last_one]; exact sb, hs.le (by decide)⟩
  rw [plc_one (Rat.le_of_lt s0) sb] at a
  have e : (if q < p then p / q else q / p) = f := by
    rw [ef]; unfold fac
    by_cases c : p < q
    · rw [if_neg (by grind), if_pos c]
    · rw [if_pos (by grind), if_neg c]
  obtain ⟨b, hh⟩ := heard_one (p := q) (q := p) he hq q0 p0 s0 (fun z => ne z.symm) (by rw [e]; exact hb)
  rw [e] at hh
  have g := s_heardG (fu := fu) (n := n) H (x := u + p * s) (y := v + s / p) ⟨(he.u.add (hp.mul hs)).le (by decide), (he.v.add (hs.div hp p0)).le (by decide)⟩
  rw [hh] at g
  exact ⟨b, _, a, g⟩
theorem throw_turn {fu n k : Nat} {u v p q t f : Rat} {P hd : Sl} {e5 e12 e13 : Option Sl} {a : Bool} (he : Be 11 u v) (hp : Bq 3 p) (p0 : 0 < p) (hq : Bq 3 q) (q0 : 0 < q) (ne : p ≠ q) (t0 : 0 < t) (ht : Bq 4 t) (t12 : t ≤ 12) (f1 : 1 < f) (f9 : f ≤ 9) (hf : Bq 12 f) (ef : f = fac p q) (hk : k + 1 ≤ 8) (h12 : Fre e12) {i0 i1 i11 : D} :
    ∃ b : Bool, evS (evF T fu (n + 6)) fu bTH [some P, some (.val i1), some hd, some (.val (.lst [fo u v p L1, fo u v q L1])), some (.val (fr f)), some (.val (.int (k : Int))), some (.val i0), some (.val (fr p)), some (.val (fr t)), some (.val (fr (t * f ^ k))), some (.val (.int (if a then 1 else 0))), some (.val i11), e12, e13] =
      some (.nx, [some P, some (.val i1), some hd, some (.val (.lst [fo u v p L1, fo u v q L1])), some (.val (fr f)), some (.val (.int (k : Int))), some (.val i0), some (.val (fr p)), some (.val (fr t)), some (.val (fr (t * f ^ (k + 1)))), some (.val (.int (if !a then 1 else 0))), some (.val i11), some (.val (.tup [.str (sdw b), fr (t * f ^ (k + 1))])), e13]) := by
  have c1 : evF T fu (n + 6) "thrown_plain" [.val (fr t), .val (fr f), .val (.int (k : Int))] = some (fr (t * f ^ k), []) := s_plainly (fu := fu) (n := n + 1) (k := k) (Rat.le_of_lt t0) f1 ht hf (by omega)
  have nat : ¬ (("at" : PySem.Str) ∈ fks) := by decide +kernel
  have bk := here_bq ht hf k
  have r1 := repr_fr bk (by omega)
  have n1 := ne_self (s := sho (fr (t * f ^ k)))
  obtain ⟨l0, l1⟩ := here_le t0 t12 f1 f9 (k := k) (by omega)
  obtain ⟨m0, m1⟩ := here_le t0 t12 f1 f9 (k := k + 1) hk
  have e1 : t * f ^ (k + 1) = (t * f ^ k) * f := by clear r1 n1 c1; grind
  rw [e1] at m1 ⊢
  have isn : ∀ (b : Bool) (x : D), opC .is (.tup [.str (sdw b), x]) .non = some false := fun _ _ => rfl
  have ix1 : ∀ (b : Bool) (x : D), opIx (.tup [.str (sdw b), x]) (.int 1) = some x := fun _ _ => rfl
  have hl : ∀ A B : D, opIx (.lst [A, B]) (.int 0) = some A := fun _ _ => rfl
  have hr : ∀ A B : D, opIx (.lst [A, B]) (.int 1) = some B := fun _ _ => rfl
  cases a with
  | false =>
    obtain ⟨b, e, x1, x2⟩ := hear_gen (fu := fu) (n := n) he hp p0 hq q0 ne l0 l1 (bk.le (by omega)) ef m1
    refine ⟨b, ?_⟩
    unfold bTH
    generalize fr (t * f ^ k * f) = z2 at *
    generalize fr (t * f ^ k) = z1 at *
    unfold fo flO at *
    generalize flX u v p L1 (lastS 0 u v p L1) = A at *
    generalize flX u v q L1 (lastS 0 u v q L1) = B at *
    generalize fr f = ff at *
    generalize fr t = tt at *
    generalize sho z1 = s1 at *
    rcases h12 with rfl | ⟨d, rfl⟩ <;> simp [evE, evT, evL, evA, evO, evAr, evS, evD, putS, peek, mutS, setM, opB, opSl, walk, unpS, bindT, refs, argS, putBack, permA, outsOf, atI, ixN, tru, setJ, iscS, eqoS, eqoR, putX, popJ, c1, r1, n1, hl, hr, x1, x2, isn, ix1, nat]
  | true =>
    obtain ⟨b, e, x1, x2⟩ := hear_gen (fu := fu) (n := n) he hq q0 hp p0 (fun z => ne z.symm) l0 l1 (bk.le (by omega)) (ef.trans (fac_sym ne)) m1
    refine ⟨b, ?_⟩
    unfold bTH
    generalize fr (t * f ^ k * f) = z2 at *
    generalize fr (t * f ^ k) = z1 at *
    unfold fo flO at *
    generalize flX u v p L1 (lastS 0 u v p L1) = A at *
    generalize flX u v q L1 (lastS 0 u v q L1) = B at *
    generalize fr f = ff at *
    generalize fr t = tt at *
    generalize sho z1 = s1 at *
    rcases h12 with rfl | ⟨d, rfl⟩ <;> simp [evE, evT, evL, evA, evO, evAr, evS, evD, putS, peek, mutS, setM, opB, opSl, walk, unpS, bindT, refs, argS, putBack, permA, outsOf, atI, ixN, tru, setJ, iscS, eqoS, eqoR, putX, popJ, c1, r1, n1, hl, hr, x1, x2, isn, ix1, nat]
theorem throw_loop {fu n : Nat} {u v p q t f : Rat} {P hd : Sl} {e13 : Option Sl} (he : Be 11 u v) (hp : Bq 3 p) (p0 : 0 < p) (hq : Bq 3 q) (q0 : 0 < q) (ne : p ≠ q) (t0 : 0 < t) (ht : Bq 4 t) (t12 : t ≤ 12) (f1 : 1 < f) (f9 : f ≤ 9) (hf : Bq 12 f) (ef : f = fac p q) {i0 i1 i11 : D} : ∀ (m k : Nat) (a : Bool) (e5 e12 : Option Sl), k + m ≤ 8 → Fre e5 → Fre e12 →
    ∃ (e5' e12' : Option Sl) (a' : Bool), forL (.one 5) (fun e => evS (evF T fu (n + 6)) fu bTH e) ((List.range' k m).map fun (j : Nat) => D.int (j : Int)) [some P, some (.val i1), some hd, some (.val (.lst [fo u v p L1, fo u v q L1])), some (.val (fr f)), e5, some (.val i0), some (.val (fr p)), some (.val (fr t)), some (.val (fr (t * f ^ k))), some (.val (.int (if a then 1 else 0))), some (.val i11), e12, e13] =
      some (.nx, [some P, some (.val i1), some hd, some (.val (.lst [fo u v p L1, fo u v q L1])), some (.val (fr f)), e5', some (.val i0), some (.val (fr p)), some (.val (fr t)), some (.val (fr (t * f ^ (k + m)))), some (.val (.int (if a' then 1 else 0))), some (.val i11), e12', e13])
  | 0, k, a, e5, e12, _, _, _ => ⟨e5, e12, a, rfl⟩
  | m + 1, k, a, e5, e12, hk, h5, h12 => by
    obtain ⟨b, st⟩ := throw_turn (fu := fu) (n := n) (k := k) (P := P) (hd := hd) (e5 := e5) (e12 := e12) (e13 := e13) (a := a) (i0 := i0) (i1 := i1) (i11 := i11) he hp p0 hq q0 ne t0 ht t12 f1 f9 hf ef (by omega) h12
    obtain ⟨e5', e12', a', ih⟩ := throw_loop (n := n) (P := P) (hd := hd) (e13 := e13) (i0 := i0) (i1 := i1) (i11 := i11) he hp p0 hq q0 ne t0 ht t12 f1 f9 hf ef m (k + 1) (!a) (some (.val (.int (k : Int)))) (some (.val (.tup [.str (sdw b), fr (t * f ^ (k + 1))]))) (by omega) (.inr ⟨_, rfl⟩) (.inr ⟨_, rfl⟩)
    refine ⟨e5', e12', a', ?_⟩
    rw [List.range'_succ, List.map_cons]
    rw [show k + (m + 1) = k + 1 + m by omega, ← ih]
    refine forL_nx ?_ st
    rcases h5 with rfl | ⟨d, rfl⟩ <;> rfl
end L16
namespace L16
open PySem L2 Mn TL
/-! ### a def, statement by statement -/
theorem st_nx {F : FT} {fu : Nat} {s r : Sm} {e e1 : Mn.Env} (h : evS F fu s e = some (.nx, e1)) : evS F fu (.seq s r) e = evS F fu r e1 := by
  rw [evS, h]
  simp only [Option.bind_eq_bind, Option.bind_some]
theorem st_rt {F : FT} {fu : Nat} {s r : Sm} {e e1 : Mn.Env} {d : D} (h : evS F fu s e = some (.rt d, e1)) : evS F fu (.seq s r) e = some (.rt d, e1) := by
  rw [evS, h]
  simp only [Option.bind_eq_bind, Option.bind_some]
theorem fr_rt {F : FT} {fu : Nat} {ps ns : List PySem.Str} {B : Sm} {ss : List Sl} {d : D} {outs : List (List D)} {e0 e' : Mn.Env} (hl : ss.length = ps.length) (he : ss.map some ++ List.replicate (ns.length - ss.length) none = e0) (h : evS F fu B e0 = some (.rt d, e')) (ho : outsOf ss e' = some outs) : evD F fu ⟨ps, ns, B, none⟩ ss = some (d, outs) := by
  show (if ss.length = ps.length then _ else none) = _
  rw [if_pos hl, he]
  show (evS F fu B e0).bind _ = _
  rw [h]
  show (outsOf ss e').bind _ = _
  rw [ho]
  rfl
def tr0 : Sm := (.unp [6, 7, 8] (.tup (.cons (.call "_law_event_drawn" [0] (.cons (.ref 0) .nil)) (.cons (.call "_law_frac_pace" [0] (.cons (.ref 0) .nil)) (.cons (.call "_law_frac_time" [0] (.cons (.ref 0) .nil)) .nil)))))
def tr1 : Sm := (.asg 1 (.call "_law_of" [0, 1] (.cons (.ref 0) (.cons (.tval (.comp (.seq) (.cons (.lst (.cons (.tup (.cons (.con (.int 2)) (.cons (.con (.int 1)) .nil))) (.cons (.tup (.cons (.con (.int 1)) (.cons (.con (.int 2)) .nil))) (.cons (.tup (.cons (.con (.int 3)) (.cons (.con (.int 2)) .nil))) (.cons (.tup (.cons (.con (.int 2)) (.cons (.con (.int 3)) .nil))) (.cons (.tup (.cons (.con (.int 4)) (.cons (.con (.int 3)) .nil))) (.cons (.tup (.cons (.con (.int 1)) (.cons (.con (.int 1)) .nil))) (.cons (.tup (.cons (.con (.int 3)) (.cons (.con (.int 1)) .nil))) .nil)))))))) .nil) (.one 13) (.tval (.cmp .ne (.var 13) (.var 7))) (.var 13) [13])) .nil))))
def tr2 : Sm := (.asg 2 (.bin .add (.bin .add (.con (.str "flight ")) (.call "_law_event_text" [0] (.cons (.tval (.var 6)) .nil))) (.con (.str " "))))
def tr3 : Sm := (.asg 3 (.comp (.seq) (.cons (.tup (.cons (.var 7) (.cons (.var 1) .nil))) .nil) (.one 13) .tyes (.mk "Flight" (.cons (.bin .add (.bin .add (.bin .add (.var 2) (.call "_law_frac_text" [0] (.cons (.tval (.var 13)) .nil))) (.con (.str "\nfly "))) (.blt .str (.cons (.bin .pow (.con (.int 10)) (.con (.int 9))) .nil))) .nil)) [13]))
def tr4 : Sm := (.asg 4 (.ite (.tval (.call "_law_frac_is_less" [0, 1] (.cons (.tval (.var 7)) (.cons (.tval (.var 1)) .nil)))) (.call "_law_frac_over" [0, 1] (.cons (.tval (.var 1)) (.cons (.tval (.var 7)) .nil))) (.call "_law_frac_over" [0, 1] (.cons (.tval (.var 7)) (.cons (.tval (.var 1)) .nil)))))
def tr5 : Sm := (.par3 9 10 11 (.cons (.var 8) (.cons (.call "_law_take" [0, 1] (.cons (.ref 0) (.cons (.tval (.con (.int 2))) .nil))) (.cons (.bin .add (.con (.int 1)) (.call "_law_take" [0, 1] (.cons (.ref 0) (.cons (.tval (.con (.int 8))) .nil)))) .nil))))
def tr6 : Sm := (.for_ (.rng) (.cons (.var 11) .nil) (.one 5) (.seq (.iff (.tval (.cmp .ne (.blt .repr (.cons (.call "thrown_plain" [2, 1, 0] (.cons (.tval (.var 5)) (.cons (.tval (.var 4)) (.cons (.tval (.var 8)) .nil)))) .nil)) (.blt .repr (.cons (.var 9) .nil)))) (.seq (.ret (.con (.bl false))) .nil) .nil) (.seq (.asg 12 (.call "heard" [0, 1] (.cons (.tval (.ix (.var 3) (.bin .sub (.con (.int 1)) (.var 10)))) (.cons (.tval (.mth (.own "Flight" "at" "Flight.at") (.ix (.var 3) (.var 10)) (.cons (.var 9) .nil))) .nil)))) (.seq (.iff (.tval (.cmp .is (.var 12) (.con .non))) (.seq (.ret (.con (.bl false))) .nil) .nil) (.seq (.par 9 10 false false (.ix (.var 12) (.con (.int 1))) (.bin .sub (.con (.int 1)) (.var 10))) .nil)))))
def tr7 : Sm := (.ret (.cmp .eq (.blt .repr (.cons (.call "thrown_plain" [0, 1, 2] (.cons (.tval (.var 8)) (.cons (.tval (.var 4)) (.cons (.tval (.var 11)) .nil)))) .nil)) (.blt .repr (.cons (.var 9) .nil))))
theorem tr_hd : d__law_is_thrown_right = ⟨["pot"], ["pot", "other", "head", "flights", "factor", "many", "event", "one", "time", "here", "at", "laps", "told", "pace"], (.seq tr0 (.seq tr1 (.seq tr2 (.seq tr3 (.seq tr4 (.seq tr5 (.seq tr6 (.seq tr7 .nil)))))))), none⟩ := rfl
theorem thrown_draw {fu n c : Nat} {own p1 p2 : Int} (h : Pot c own p1 p2) (hc : c + 40 < 1000000) (hf : 8001 ≤ fu) :
    ∃ own' p2' u v p t, Pot (c + 6) own' p1 p2' ∧ Be 11 u v ∧ p ∈ PACES ∧ t ∈ TIMES ∧ evS (evF T fu (n + 5)) fu tr0 [some (pot own p1 p2), none, none, none, none, none, none, none, none, none, none, none, none, none] =
      some (.nx, [some (pot own' p1 p2'), none, none, none, none, none, some (.val (ev u v)), some (.val (fr p)), some (.val (fr t)), none, none, none, none, none]) := by
  obtain ⟨o1, r1, u, v, hp1, he, _, t1⟩ := s_ldrawn (fu := fu) (n := n + 1) h (by omega) hf
  obtain ⟨o2, r2, p, hp2, hp, t2⟩ := s_lpaceM (fu := fu) (n := n + 2) hp1 (by omega)
  obtain ⟨o3, r3, t, hp3, ht, t3⟩ := s_ltimeM (fu := fu) (n := n + 2) hp2 (by omega)
  refine ⟨o3, r3, u, v, p, t, hp3.le (by omega), he, hp, ht, ?_⟩
  unfold tr0
  generalize ev u v = x1 at *
  generalize fr p = x2 at *
  generalize fr t = x3 at *
  unfold pot potO at *
  simp [evE, evT, evL, evA, evO, evAr, evS, evD, putS, peek, mutS, setM, opB, opC, opF, opIx, opSl, walk, unpS, bindT, refs, argS, putBack, permA, outsOf, atI, ixN, tru, setJ, iscS, eqoS, eqoR, putX, popJ, t1, t2, t3, lim]
theorem o7_con : ([D.tup [.int 2, .int 1], .tup [.int 1, .int 2], .tup [.int 3, .int 2], .tup [.int 2, .int 3], .tup [.int 4, .int 3], .tup [.int 1, .int 1], .tup [.int 3, .int 1]] : List D) = O7.map fr := by kernel_rfl
theorem thrown_other {fu n c : Nat} {own p1 p2 : Int} (h : Pot c own p1 p2) (hc : c + 40 < 1000000) {p : Rat} (hp : p ∈ PACES) (e6 e8 : Option Sl) :
    ∃ own' p2' q, Pot (c + 1) own' p1 p2' ∧ q ∈ O7 ∧ p ≠ q ∧ evS (evF T fu (n + 5)) fu tr1 [some (pot own p1 p2), none, none, none, none, none, e6, some (.val (fr p)), e8, none, none, none, none, none] =
      some (.nx, [some (pot own' p1 p2'), some (.val (fr q)), none, none, none, none, e6, some (.val (fr p)), e8, none, none, none, none, none]) := by
  have ne : (O7.filter fun q => !decide (q = p)) ≠ [] := by
    have h : PACES.all (fun p => !(O7.filter fun q => !decide (q = p)).isEmpty) = true := by decide +kernel
    have := List.all_eq_true.1 h p hp
    intro z
    rw [z] at this
    cases this
  obtain ⟨o1, r1, x, hp1, hx, t1⟩ := s_of (fu := fu) (n := n + 3) (xs := (O7.filter fun q => !decide (q = p)).map fr) h (by omega) (by simpa using ne) (by
    rw [List.length_map]
    exact Nat.lt_of_le_of_lt (List.length_filter_le _ _) (by decide))
  obtain ⟨q, hq, rfl⟩ := List.mem_map.1 hx
  obtain ⟨hq7, hqp⟩ := List.mem_filter.1 hq
  refine ⟨o1, r1, q, hp1, hq7, fun z => by simp [evE, evT, evL, evA, evO, evAr, evS, evD, putS, peek, mutS, setM, opB, opC, opF, opIx, opSl, walk, unpS, bindT, refs, argS, putBack, permA, outsOf, atI, ixN, tru, setJ, iscS, eqoS, eqoR, putX, popJ, z] at hqp, ?_⟩
  have key := compL_filter (el := fun e => evE (evF T fu (n + 5)) (.var 13) e) (cd := fun e => evT (evF T fu (n + 5)) (.tval (.cmp .ne (.var 13) (.var 7))) e) (tg := .one 13) (own := [13]) (env := [some (pot own p1 p2), none, none, none, none, none, e6, some (.val (fr p)), e8, none, none, none, none, none]) (f := fr) (g := fr) (b := fun q => !decide (q = p)) (its := O7) (by
    intro y hy
    refine ⟨[some (pot own p1 p2), none, none, none, none, none, e6, some (.val (fr p)), e8, none, none, none, none, some (.val (fr y))], rfl, ?_, ?_, rfl⟩
    · have d := deq_fr (p := y) (q := p)
      have d1 := dsh_fr (q := y)
      have d2 := dsh_fr (q := p)
      generalize fr y = yy at *
      generalize fr p = pp at *
      simp [evE, evT, evL, evA, evO, evAr, evS, evD, putS, peek, mutS, setM, opB, opC, opF, opIx, opSl, walk, unpS, bindT, refs, argS, putBack, permA, outsOf, atI, ixN, tru, setJ, iscS, eqoS, eqoR, putX, popJ, d, d1, d2]
    · generalize fr y = yy at *
      generalize fr p = pp at *
      simp [evE, evT, evL, evA, evO, evAr, evS, evD, putS, peek, mutS, setM, opB, opC, opF, opIx, opSl, walk, unpS, bindT, refs, argS, putBack, permA, outsOf, atI, ixN, tru, setJ, iscS, eqoS, eqoR, putX, popJ])
  unfold tr1
  rw [← o7_con] at key
  have fl : ((O7.filter fun q => !decide (q = p)).map fr).length ≤ lim := by
    rw [List.length_map]
    exact Nat.le_trans (List.length_filter_le _ _) (by decide)
  generalize ((O7.filter fun q => !decide (q = p)).map fr) = FL at *
  generalize fr p = pp at *
  generalize fr q = qq at *
  unfold pot potO at *
  generalize hcd : Ex.tval (.cmp .ne (.var 13) (.var 7)) = cd at *
  generalize hvv : Ex.var 13 = vv at *
  simp [evE, evT, evL, evA, evO, evAr, evS, evD, putS, peek, mutS, setM, opB, opC, opF, opIx, opSl, walk, unpS, bindT, refs, argS, putBack, permA, outsOf, atI, ixN, tru, setJ, iscS, eqoS, eqoR, putX, popJ, key, t1, fl, lim]
end L16
namespace L16
open PySem L2 Mn TL
theorem thrown_head {fu n : Nat} {u v : Rat} (he : Be 11 u v) (P e1 e7 e8 : Option Sl) :
    evS (evF T fu (n + 5)) fu tr2 [P, e1, none, none, none, none, some (.val (ev u v)), e7, e8, none, none, none, none, none] = some (.nx, [P, e1, some (.val (.str (("flight " : PySem.Str) ++ etx u v ++ " "))), none, none, none, some (.val (ev u v)), e7, e8, none, none, none, none, none]) := by
  have t1 := s_levtx (fu := fu) (n := n + 3) he (by decide)
  have l1 := etx_len he (by decide)
  have a1 : opB .add (.str ("flight " : PySem.Str)) (.str (etx u v)) = some (.str (("flight " : PySem.Str) ++ etx u v)) := oadd (by rw [l_fl]; unfold lim; omega)
  have a2 : opB .add (.str (("flight " : PySem.Str) ++ etx u v)) (.str (" " : PySem.Str)) = some (.str (("flight " : PySem.Str) ++ etx u v ++ " ")) := oadd (by rw [len_app, l_fl, l_blank]; unfold lim; omega)
  unfold tr2
  generalize ("flight " : PySem.Str) ++ etx u v ++ " " = s2 at *
  generalize ("flight " : PySem.Str) ++ etx u v = s1 at *
  generalize etx u v = s0 at *
  generalize ev u v = x at *
  simp [evE, evT, evL, evA, evO, evAr, evS, evD, putS, peek, mutS, setM, opC, opF, opIx, opSl, walk, unpS, bindT, refs, argS, putBack, permA, outsOf, atI, ixN, tru, setJ, iscS, eqoS, eqoR, putX, popJ, t1, a1, a2]
def mkX : Ex := .mk "Flight" (.cons (.bin .add (.bin .add (.bin .add (.var 2) (.call "_law_frac_text" [0] (.cons (.tval (.var 13)) .nil))) (.con (.str "\nfly "))) (.blt .str (.cons (.bin .pow (.con (.int 10)) (.con (.int 9))) .nil))) .nil)
theorem l_fly : ("\nfly " : PySem.Str).length = 5 := by decide +kernel
theorem thrown_made {fu n : Nat} {u v p q : Rat} (he : Be 11 u v) (hp : Bq 3 p) (p0 : 0 < p) (hq : Bq 3 q) (q0 : 0 < q) (P e6 e8 : Option Sl) :
    evS (evF T fu (n + 7)) fu tr3 [P, some (.val (fr q)), some (.val (.str (("flight " : PySem.Str) ++ etx u v ++ " "))), none, none, none, e6, some (.val (fr p)), e8, none, none, none, none, none] =
      some (.nx, [P, some (.val (fr q)), some (.val (.str (("flight " : PySem.Str) ++ etx u v ++ " "))), some (.val (.lst [fo u v p L1, fo u v q L1])), none, none, e6, some (.val (fr p)), e8, none, none, none, none, none]) := by
  have l0 := etx_len he (by decide)
  have one : ∀ x : Rat, Bq 3 x → 0 < x → ∀ e1 e7 : Option Sl, evE (evF T fu (n + 7)) mkX [P, e1, some (.val (.str (("flight " : PySem.Str) ++ etx u v ++ " "))), none, none, none, e6, e7, e8, none, none, none, none, some (.val (fr x))] = some (fo u v x L1, [P, e1, some (.val (.str (("flight " : PySem.Str) ++ etx u v ++ " "))), none, none, none, e6, e7, e8, none, none, none, none, some (.val (fr x))]) := by
    intro x hx x0 e1 e7
    have t1 := s_lftext (fu := fu) (n := n + 6) hx (by decide)
    have t2 := s_flightG (fu := fu) (n := n) (flg_one he hx x0)
    rw [← text_one] at t2
    have l1 := ftx_len hx (by decide)
    have lt : (tx 1000000000).length ≤ 11 := tx_len (k := 10) (by decide) (by decide)
    have b0 : (("flight " : PySem.Str) ++ etx u v ++ " ").length ≤ 2500 := by rw [len_app, len_app, l_fl, l_blank]; omega
    have a1 : opB .add (.str (("flight " : PySem.Str) ++ etx u v ++ " ")) (.str (ftx x)) = some (.str (("flight " : PySem.Str) ++ etx u v ++ " " ++ ftx x)) := oadd (by unfold lim; omega)
    have b1 : (("flight " : PySem.Str) ++ etx u v ++ " " ++ ftx x).length ≤ 4000 := by rw [len_app]; omega
    have a2 : opB .add (.str (("flight " : PySem.Str) ++ etx u v ++ " " ++ ftx x)) (.str ("\nfly " : PySem.Str)) = some (.str (("flight " : PySem.Str) ++ etx u v ++ " " ++ ftx x ++ "\nfly ")) := oadd (by rw [l_fly]; unfold lim; omega)
    have a3 : opB .add (.str (("flight " : PySem.Str) ++ etx u v ++ " " ++ ftx x ++ "\nfly ")) (.str (tx 1000000000)) = some (.str (("flight " : PySem.Str) ++ etx u v ++ " " ++ ftx x ++ "\nfly " ++ tx 1000000000)) := oadd (by rw [len_app, l_fly]; unfold lim; omega)
    have e9 : opB .pow (.int 10) (.int 9) = some (.int 1000000000) := by
      show (if sm 10 && decide ((0 : Int) ≤ 9) && decide ((9 : Int) ≤ 1000) then some (D.int (10 ^ (9 : Int).toNat)) else none) = _
      rw [if_pos (by decide +kernel)]
      rfl
    have st : opF .str [.int 1000000000] = some (.str (tx 1000000000)) := ostr (by decide +kernel)
    unfold mkX
    unfold fo flO at *
    generalize flX u v x L1 (lastS 0 u v x L1) = xs at *
    generalize ("flight " : PySem.Str) ++ etx u v ++ " " ++ ftx x ++ "\nfly " ++ tx 1000000000 = s5 at *
    generalize ("flight " : PySem.Str) ++ etx u v ++ " " ++ ftx x ++ "\nfly " = s4 at *
    generalize ("flight " : PySem.Str) ++ etx u v ++ " " ++ ftx x = s3 at *
    generalize ("flight " : PySem.Str) ++ etx u v ++ " " = s2 at *
    generalize tx 1000000000 = s1 at *
    generalize ftx x = s0 at *
    generalize fr x = xx at *
    simp [evE, evT, evL, evA, evO, evAr, evS, evD, putS, peek, mutS, setM, opC, opIx, opSl, walk, unpS, bindT, refs, argS, putBack, permA, outsOf, atI, ixN, tru, setJ, iscS, eqoS, eqoR, putX, popJ, t1, t2, a1, a2, a3, e9, st]
  generalize ("flight " : PySem.Str) ++ etx u v ++ " " = s2 at *
  have key := compL_filter (el := fun e => evE (evF T fu (n + 7)) mkX e) (cd := fun e => evT (evF T fu (n + 7)) .tyes e) (tg := .one 13) (own := [13]) (env := [P, some (.val (fr q)), some (.val (.str s2)), none, none, none, e6, some (.val (fr p)), e8, none, none, none, none, none]) (f := fr) (g := fun x => fo u v x L1) (b := fun _ => true) (its := [p, q]) (by
    intro y hy
    refine ⟨[P, some (.val (fr q)), some (.val (.str s2)), none, none, none, e6, some (.val (fr p)), e8, none, none, none, none, some (.val (fr y))], rfl, rfl, ?_, rfl⟩
    rcases List.mem_cons.1 hy with rfl | hy
    · exact one _ hp p0 _ _
    · rw [List.mem_singleton] at hy
      subst hy
      exact one _ hq q0 _ _)
  rw [List.filter_eq_self.2 (fun _ _ => rfl)] at key
  have hd : tr3 = .asg 3 (.comp (.seq) (.cons (.tup (.cons (.var 7) (.cons (.var 1) .nil))) .nil) (.one 13) .tyes mkX [13]) := rfl
  rw [hd]
  simp only [List.map_cons, List.map_nil] at key
  unfold fo flO at *
  generalize flX u v p L1 (lastS 0 u v p L1) = xs at *
  generalize flX u v q L1 (lastS 0 u v q L1) = ys at *
  generalize fr p = pp at *
  generalize fr q = qq at *
  generalize mkX = mx at *
  simp only [evT] at key
  simp [evE, evT, evL, evA, evO, evAr, evS, evD, putS, peek, mutS, setM, opB, opC, opF, opIx, opSl, walk, unpS, bindT, refs, argS, putBack, permA, outsOf, atI, ixN, tru, setJ, iscS, eqoS, eqoR, putX, popJ, key, lim]
theorem thrown_fac {fu n : Nat} {p q : Rat} (hp : Bq 3 p) (p0 : 0 < p) (hq : Bq 3 q) (q0 : 0 < q) (hf : 8001 ≤ fu) (P e2 e3 e6 e8 : Option Sl) :
    evS (evF T fu (n + 3)) fu tr4 [P, some (.val (fr q)), e2, e3, none, none, e6, some (.val (fr p)), e8, none, none, none, none, none] =
      some (.nx, [P, some (.val (fr q)), e2, e3, some (.val (fr (fac p q))), none, e6, some (.val (fr p)), e8, none, none, none, none, none]) := by
  have t1 := s_lisless (fu := fu) (n := n + 2) (hp.le (by decide : 3 ≤ 3000)) (hq.le (by decide : 3 ≤ 3000))
  have t2 := s_lover (fu := fu) (n := n) (hq.le (by decide : 3 ≤ 1900)) (hp.le (by decide : 3 ≤ 1900)) p0 hf
  have t3 := s_lover (fu := fu) (n := n) (hp.le (by decide : 3 ≤ 1900)) (hq.le (by decide : 3 ≤ 1900)) q0 hf
  unfold tr4 fac
  by_cases c : p < q
  · rw [decide_eq_true c] at t1
    rw [if_pos c]
    generalize fr (q / p) = a at *
    generalize fr p = pp at *
    generalize fr q = qq at *
    simp [evE, evT, evL, evA, evO, evAr, evS, evD, putS, peek, mutS, setM, opB, opC, opF, opIx, opSl, walk, unpS, bindT, refs, argS, putBack, permA, outsOf, atI, ixN, tru, setJ, iscS, eqoS, eqoR, putX, popJ, t1, t2]
  · rw [decide_eq_false c] at t1
    rw [if_neg c]
    generalize fr (p / q) = a at *
    generalize fr p = pp at *
    generalize fr q = qq at *
    simp [evE, evT, evL, evA, evO, evAr, evS, evD, putS, peek, mutS, setM, opB, opC, opF, opIx, opSl, walk, unpS, bindT, refs, argS, putBack, permA, outsOf, atI, ixN, tru, setJ, iscS, eqoS, eqoR, putX, popJ, t1, t3]
theorem thrown_laps {fu n c : Nat} {own p1 p2 : Int} (h : Pot c own p1 p2) (hc : c + 40 < 1000000) {t : D} (e1 e2 e3 e4 e6 e7 : Option Sl) :
    ∃ (own' p2' : Int) (a : Bool) (m : Nat), Pot (c + 2) own' p1 p2' ∧ m ≤ 8 ∧ evS (evF T fu (n + 1)) fu tr5 [some (pot own p1 p2), e1, e2, e3, e4, none, e6, e7, some (.val t), none, none, none, none, none] =
      some (.nx, [some (pot own' p1 p2'), e1, e2, e3, e4, none, e6, e7, some (.val t), some (.val t), some (.val (.int (if a then 1 else 0))), some (.val (.int (m : Int))), none, none]) := by
  obtain ⟨o1, r1, d1, hp1, g0, g1, t1⟩ := s_take (fu := fu) (n := n) (u := 2) h (by omega) (by decide) (by decide)
  obtain ⟨o2, r2, d2, hp2, k0, k1, t2⟩ := s_take (fu := fu) (n := n) (u := 8) hp1 (by omega) (by decide) (by decide)
  refine ⟨o2, r2, decide (d1 = 1), (1 + d2).toNat, hp2.le (by omega), by omega, ?_⟩
  have e : (((1 + d2).toNat : Nat) : Int) = 1 + d2 := by omega
  have e' : (if decide (d1 = 1) = true then (1 : Int) else 0) = d1 := by
    by_cases z : d1 = 1
    · rw [decide_eq_true z, if_pos rfl, z]
    · rw [decide_eq_false z, if_neg (by decide)]; omega
  rw [e, e']
  unfold tr5
  unfold pot at *
  simp [evE, evT, evL, evA, evO, evAr, evS, evD, putS, peek, mutS, setM, opB, opC, opF, opIx, opSl, walk, unpS, bindT, refs, argS, putBack, permA, outsOf, atI, ixN, tru, setJ, iscS, eqoS, eqoR, putX, popJ, t1, t2]
theorem ran_range {k : Nat} : ran k = (List.range' 0 k).map fun (j : Nat) => D.int (j : Int) := by
  unfold ran
  rw [List.range_eq_range']
theorem s_thrownright {fu n c : Nat} {own p1 p2 : Int} (h : Pot c own p1 p2) (hc : c + 100 < 1000000) (hf : 8001 ≤ fu) :
    ∃ own' p2', Pot (c + 9) own' p1 p2' ∧ evF T fu (n + 9) "_law_is_thrown_right" [pot own p1 p2] = some (.bl true, [potO own' p1 p2']) := by
  obtain ⟨o1, r1, u, v, p, t, hp1, he, hp, ht, s0⟩ := thrown_draw (fu := fu) (n := n + 3) h (by omega) hf
  obtain ⟨o2, r2, q, hp2, hq, ne, s1⟩ := thrown_other (fu := fu) (n := n + 3) hp1 (by omega) hp (some (.val (ev u v))) (some (.val (fr t)))
  obtain ⟨hp3, p0⟩ := paces_ok p hp
  obtain ⟨hq3, q0⟩ := o7_ok q hq
  obtain ⟨ht4, t0, _⟩ := times_ok t ht
  obtain ⟨f1, f9, hf12⟩ := fac_ok p hp q hq ne
  have s2 := thrown_head (fu := fu) (n := n + 3) he (some (pot o2 p1 r2)) (some (.val (fr q))) (some (.val (fr p))) (some (.val (fr t)))
  have s3 := thrown_made (fu := fu) (n := n + 1) he hp3 p0 hq3 q0 (some (pot o2 p1 r2)) (some (.val (ev u v))) (some (.val (fr t)))
  have s4 := thrown_fac (fu := fu) (n := n + 5) hp3 p0 hq3 q0 hf (some (pot o2 p1 r2)) (some (.val (.str (("flight " : PySem.Str) ++ etx u v ++ " ")))) (some (.val (.lst [fo u v p L1, fo u v q L1]))) (some (.val (ev u v))) (some (.val (fr t)))
  obtain ⟨o5, r5, a, m, hp5, hm, s5⟩ := thrown_laps (fu := fu) (n := n + 7) hp2 (by omega) (t := fr t) (some (.val (fr q))) (some (.val (.str (("flight " : PySem.Str) ++ etx u v ++ " ")))) (some (.val (.lst [fo u v p L1, fo u v q L1]))) (some (.val (fr (fac p q)))) (some (.val (ev u v))) (some (.val (fr p)))
  obtain ⟨e5', e12', a', lp⟩ := throw_loop (fu := fu) (n := n + 2) (P := pot o5 p1 r5) (hd := .val (.str (("flight " : PySem.Str) ++ etx u v ++ " "))) (e13 := none) (i0 := ev u v) (i1 := fr q) (i11 := .int (m : Int)) he hp3 p0 hq3 q0 ne t0 ht4 (times_le t ht) f1 f9 hf12 rfl m 0 a none none (by omega) (.inl rfl) (.inl rfl)
  rw [Rat.pow_zero, Rat.mul_one, Nat.zero_add] at lp
  have wk : walk .rng [.int (m : Int)] = some (ran m) := by
    show (if wi 19 (m : Int) then some (ran ((m : Int)).toNat) else none) = _
    rw [if_pos (lt_wi (by rw [Int.natAbs_natCast]; omega) (by decide)), Int.toNat_natCast]
  have rl : (ran m).length ≤ lim := by simp [evE, evT, evL, evA, evO, evAr, evS, evD, putS, peek, mutS, setM, opB, opC, opF, opIx, opSl, walk, unpS, bindT, refs, argS, putBack, permA, outsOf, atI, ixN, tru, setJ, iscS, eqoS, eqoR, putX, popJ, ran, lim]; omega
  rw [← ran_range] at lp
  have h6 : tr6 = .for_ .rng (.cons (.var 11) .nil) (.one 5) bTH := rfl
  have s6 : evS (evF T fu (n + 8)) fu tr6 [some (pot o5 p1 r5), some (.val (fr q)), some (.val (.str (("flight " : PySem.Str) ++ etx u v ++ " "))), some (.val (.lst [fo u v p L1, fo u v q L1])), some (.val (fr (fac p q))), none, some (.val (ev u v)), some (.val (fr p)), some (.val (fr t)), some (.val (fr t)), some (.val (.int (if a then 1 else 0))), some (.val (.int (m : Int))), none, none] =
      some (.nx, [some (pot o5 p1 r5), some (.val (fr q)), some (.val (.str (("flight " : PySem.Str) ++ etx u v ++ " "))), some (.val (.lst [fo u v p L1, fo u v q L1])), some (.val (fr (fac p q))), e5', some (.val (ev u v)), some (.val (fr p)), some (.val (fr t)), some (.val (fr (t * fac p q ^ m))), some (.val (.int (if a' then 1 else 0))), some (.val (.int (m : Int))), e12', none]) := by
    rw [h6, evS]
    generalize ran m = R at *
    simp [evE, evT, evL, evA, evO, evAr, evS, evD, putS, peek, mutS, setM, opB, opC, opF, opIx, opSl, unpS, bindT, refs, argS, putBack, permA, outsOf, atI, ixN, tru, setJ, iscS, eqoS, eqoR, putX, popJ, wk, rl, lp]
  have c7 : evF T fu (n + 8) "thrown_plain" [.val (fr t), .val (fr (fac p q)), .val (.int (m : Int))] = some (fr (t * fac p q ^ m), []) := s_plainly (fu := fu) (n := n + 3) (k := m) (Rat.le_of_lt t0) f1 ht4 hf12 (by omega)
  have r7 := repr_fr (here_bq ht4 hf12 m) (by omega)
  have q7 : opC .eq (.str (sho (fr (t * fac p q ^ m)))) (.str (sho (fr (t * fac p q ^ m)))) = some true := by
    have := str_refl (x := sho (fr (t * fac p q ^ m)))
    simp [evE, evT, evL, evA, evO, evAr, evS, evD, putS, peek, mutS, setM, opB, opC, opF, opIx, opSl, walk, unpS, bindT, refs, argS, putBack, permA, outsOf, atI, ixN, tru, setJ, iscS, eqoS, eqoR, putX, popJ, dsh_str, this]
  have s7 : evS (evF T fu (n + 8)) fu tr7 [some (pot o5 p1 r5), some (.val (fr q)), some (.val (.str (("flight " : PySem.Str) ++ etx u v ++ " "))), some (.val (.lst [fo u v p L1, fo u v q L1])), some (.val (fr (fac p q))), e5', some (.val (ev u v)), some (.val (fr p)), some (.val (fr t)), some (.val (fr (t * fac p q ^ m))), some (.val (.int (if a' then 1 else 0))), some (.val (.int (m : Int))), e12', none] =
      some (.rt (.bl true), [some (pot o5 p1 r5), some (.val (fr q)), some (.val (.str (("flight " : PySem.Str) ++ etx u v ++ " "))), some (.val (.lst [fo u v p L1, fo u v q L1])), some (.val (fr (fac p q))), e5', some (.val (ev u v)), some (.val (fr p)), some (.val (fr t)), some (.val (fr (t * fac p q ^ m))), some (.val (.int (if a' then 1 else 0))), some (.val (.int (m : Int))), e12', none]) := by
    unfold tr7
    clear s0 s1 s2 s3 s4 s5 s6 lp
    generalize fr (t * fac p q ^ m) = z at *
    generalize fr (fac p q) = ff at *
    generalize fr t = tt at *
    simp [evE, evT, evL, evA, evO, evAr, evS, evD, putS, peek, mutS, setM, opB, opIx, opSl, walk, unpS, bindT, refs, argS, putBack, permA, outsOf, atI, ixN, tru, setJ, iscS, eqoS, eqoR, putX, popJ, c7, r7, q7]
  refine ⟨o5, r5, hp5.le (by omega), ?_⟩
  rw [ev1 (dd := d__law_is_thrown_right) (by kernel_rfl), tr_hd]
  exact fr_rt rfl rfl ((st_nx s0).trans ((st_nx s1).trans ((st_nx s2).trans ((st_nx s3).trans ((st_nx s4).trans ((st_nx s5).trans ((st_nx s6).trans (st_rt s7)))))))) rfl
end L16
namespace L16
open PySem L2 Mn TL
/-! ### remainders of the powers -/
def F5 : List Rat := [2, 3 / 2, 5 / 4, 9 / 7, 101 / 100]
theorem f5_ok : ∀ f ∈ F5, 1 < f ∧ Bq 12 f := by
  have h : F5.all (fun q => decide (q.num.natAbs < 2 ^ 12) && decide (q.den < 2 ^ 12) && decide (1 < q)) = true := by decide +kernel
  intro q hq
  have := List.all_eq_true.1 h q hq
  simp only [Bool.and_eq_true, decide_eq_true_eq] at this
  exact ⟨this.2, ⟨this.1.1, this.1.2⟩⟩
/-- what thrown tells, what the remainder of the fraction is -/
def thR (t f : Rat) (k m : Nat) : Nat := t.num.natAbs * (f.num.natAbs ^ k % m) * ((t.den * (f.den ^ k % m)) ^ (m - 2) % m) % m
def rmR (q : Rat) (m : Nat) : Nat := q.num.natAbs * q.den ^ (m - 2) % m
theorem rmR_lt {q : Rat} {m : Nat} (hm : m ∈ PRIMES) : rmR q m < m := Nat.mod_lt _ (by have := primes_is hm; omega)
theorem three_mod {a b c m : Nat} : a * (b % m) * (c % m) % m = a * b * c % m := by simp [evE, evT, evL, evA, evO, evAr, evS, evD, putS, peek, mutS, setM, opB, opC, opF, opIx, opSl, walk, unpS, bindT, refs, argS, putBack, permA, outsOf, atI, ixN, tru, setJ, iscS, eqoS, eqoR, putX, popJ, Nat.mul_mod]
theorem thR_is {t f : Rat} {k m : Nat} : thR t f k m = t.num.natAbs * f.num.natAbs ^ k * (t.den * f.den ^ k) ^ (m - 2) % m := by
  unfold thR
  have hx : (t.den * (f.den ^ k % m)) ^ (m - 2) % m = (t.den * f.den ^ k) ^ (m - 2) % m := by
    rw [Nat.pow_mod, Nat.mul_mod, Nat.mod_mod, ← Nat.mul_mod, ← Nat.pow_mod]
  rw [hx, three_mod]
theorem num_abs {q : Rat} (h : 0 ≤ q) : ((q.num.natAbs : Nat) : Rat) = q * ((q.den : Nat) : Rat) := by
  have hn : q.num = (q.num.natAbs : Int) := by have := Rat.num_nonneg.2 h; omega
  have e : ((q.num : Int) : Rat) / ((q.den : Nat) : Rat) = q := by rw [← Rat.mkRat_eq_div, Rat.mkRat_self]
  rw [hn] at e
  have d : ((q.den : Nat) : Rat) ≠ 0 := by
    intro z
    exact q.den_nz (Rat.natCast_inj.1 (by rw [z]; rfl))
  have e' : (((q.num.natAbs : Int)) : Rat) = ((q.num.natAbs : Nat) : Rat) := rfl
  rw [e'] at e
  generalize ((q.num.natAbs : Nat) : Rat) = a at *
  generalize ((q.den : Nat) : Rat) = b at *
  grind
theorem cross {t f : Rat} (t0 : 0 ≤ t) (f0 : 0 ≤ f) (k : Nat) : (t * f ^ k).num.natAbs * (t.den * f.den ^ k) = t.num.natAbs * f.num.natAbs ^ k * (t * f ^ k).den := by
  have fk : ∀ k : Nat, 0 ≤ f ^ k := fun k => by
    induction k with
    | zero => rw [Rat.pow_zero]; decide
    | succ k ih => rw [Rat.pow_succ]; exact Rat.mul_nonneg ih f0
  have e1 := num_abs t0
  have e2 := num_abs f0
  have e3 := num_abs (Rat.mul_nonneg t0 (fk k))
  have e4 : ((f.num.natAbs ^ k : Nat) : Rat) = f ^ k * ((f.den ^ k : Nat) : Rat) := by
    induction k with
    | zero => simp [evE, evT, evL, evA, evO, evAr, evS, evD, putS, peek, mutS, setM, opB, opC, opF, opIx, opSl, walk, unpS, bindT, refs, argS, putBack, permA, outsOf, atI, ixN, tru, setJ, iscS, eqoS, eqoR, putX, popJ]
    | succ k ih =>
      rw [Nat.pow_succ, Nat.pow_succ, Rat.natCast_mul, Rat.natCast_mul, ih (num_abs (Rat.mul_nonneg t0 (fk k))), e2, Rat.pow_succ]
      grind
  have g : (((t * f ^ k).num.natAbs * (t.den * f.den ^ k) : Nat) : Rat) = ((t.num.natAbs * f.num.natAbs ^ k * (t * f ^ k).den : Nat) : Rat) := by
    rw [Rat.natCast_mul, Rat.natCast_mul, Rat.natCast_mul, Rat.natCast_mul, e1, e3, e4]
    grind
  exact Rat.natCast_inj.1 g
theorem not_zero {a b k m : Nat} (hm : m ∈ PRIMES) (ha : a % m ≠ 0) (hb : b % m ≠ 0) : (a * b ^ k) % m ≠ 0 := by
  obtain ⟨h3, _⟩ := primes_is hm
  intro z
  have pb : ∀ k : Nat, (b ^ (m - 1)) ^ k % m = 1 := fun k => by
    rw [Nat.pow_mod, fermat hm hb, Nat.one_pow]
    exact Nat.mod_eq_of_lt (by omega)
  have e : (a * b ^ k) ^ (m - 1) % m = 1 := by
    rw [Nat.mul_pow, Nat.pow_right_comm, by_one (pb k)]
    exact fermat hm ha
  rw [Nat.pow_mod, z, Nat.zero_pow (by omega), Nat.zero_mod] at e
  omega
theorem thR_rm {t f : Rat} {k m : Nat} (hm : m ∈ PRIMES) (t0 : 0 ≤ t) (f0 : 0 ≤ f) (h1 : t.den % m ≠ 0) (h2 : f.den % m ≠ 0) : thR t f k m = rmR (t * f ^ k) m := by
  have c := cross t0 f0 k
  have hB := not_zero (k := k) hm h1 h2
  have dv : (t * f ^ k).den ∣ t.den * f.den ^ k := by
    have h : (t * f ^ k).den ∣ (t * f ^ k).num.natAbs * (t.den * f.den ^ k) := ⟨t.num.natAbs * f.num.natAbs ^ k, by rw [c, Nat.mul_comm]⟩
    exact Nat.Coprime.dvd_of_dvd_mul_left (Nat.Coprime.symm (t * f ^ k).reduced) h
  have hD : (t * f ^ k).den % m ≠ 0 := fun z => hB (Nat.mod_eq_zero_of_dvd (Nat.dvd_trans (Nat.dvd_of_mod_eq_zero z) dv))
  rw [thR_is]
  exact rem_eq hm c hB hD
theorem due_is {t f : Rat} {k m : Nat} : thR t f k m = rmR t m * (rmR f m ^ k % m) % m := by
  rw [thR_is]
  unfold rmR
  rw [Nat.mul_mod (t.num.natAbs * t.den ^ (m - 2) % m), Nat.mod_mod, Nat.mod_mod, ← Nat.pow_mod, ← Nat.mul_mod]
  congr 1
  rw [Nat.mul_pow, Nat.mul_pow, Nat.pow_right_comm f.den (m - 2) k]
  generalize t.den ^ (m - 2) = A
  generalize (f.den ^ k) ^ (m - 2) = B
  generalize f.num.natAbs ^ k = C
  grind
theorem shd_ints {a b c : Nat} (ha : a < 9973) (hb : b < 9973) (hc : c < 9973) : shd (.lst [.int (a : Int), .int (b : Int), .int (c : Int)]) = true := by
  have sz : ∀ {x : Nat}, x < 9973 → ((x : Int)).natAbs < 2 ^ 14 := fun h => by rw [Int.natAbs_natCast]; omega
  have n1 := int_short (sz ha) (by decide) (by decide)
  have n2 := int_short (sz hb) (by decide) (by decide)
  have n3 := int_short (sz hc) (by decide) (by decide)
  have w1 := int_weight (sz ha) (by decide)
  have w2 := int_weight (sz hb) (by decide)
  have w3 := int_weight (sz hc) (by decide)
  have l1 := log_lt (sz ha) (by decide)
  have l2 := log_lt (sz hb) (by decide)
  have l3 := log_lt (sz hc) (by decide)
  unfold shd
  show (((((decide ((a : Int).natAbs.log2 < 1920) && (decide ((b : Int).natAbs.log2 < 1920) && (decide ((c : Int).natAbs.log2 < 1920) && true))) && !false) && decide (_ ≤ 40)) && (decide ((PyData.shown (.int a)).length ≤ 2000) && (decide ((PyData.shown (.int b)).length ≤ 2000) && (decide ((PyData.shown (.int c)).length ≤ 2000) && true)))) && decide ((PyData.int a).weight + 1 + ((PyData.int b).weight + 1 + ((PyData.int c).weight + 1 + 0)) ≤ 8000)) = true
  rw [decide_eq_true (show (a : Int).natAbs.log2 < 1920 by omega), decide_eq_true (show (b : Int).natAbs.log2 < 1920 by omega), decide_eq_true (show (c : Int).natAbs.log2 < 1920 by omega), decide_eq_true n1, decide_eq_true n2, decide_eq_true n3, decide_eq_true (show (PyData.int a).weight + 1 + ((PyData.int b).weight + 1 + ((PyData.int c).weight + 1 + 0)) ≤ 8000 by omega)]
  rfl
theorem s_lisint {fu n : Nat} {i : Int} : evF T fu (n + 1) "_law_is_int" [.val (.int i), .val (.int i), .val (.int i)] = some (.bl true, []) := by
  rw [ev1 (dd := d__law_is_int) (by kernel_rfl)]
  unfold d__law_is_int
  simp [evE, evT, evL, evA, evO, evAr, evS, evD, putS, peek, mutS, setM, opB, opC, opF, opIx, opSl, walk, unpS, bindT, refs, argS, putBack, permA, outsOf, atI, ixN, tru, setJ, iscS, eqoS, eqoR, putX, popJ, ki, kib]
end L16
namespace L16
open PySem L2 Mn TL
def rt0 : Sm := (.iff (.tnot (.tval (.call "_law_is_thrown_right" [0] (.cons (.ref 0) .nil)))) (.seq (.ret (.con (.bl false))) .nil) .nil)
def rt1 : Sm := (.unp [7, 8] (.tup (.cons (.call "_law_frac_time" [0] (.cons (.ref 0) .nil)) (.cons (.call "_law_of" [0, 1] (.cons (.ref 0) (.cons (.tval (.lst (.cons (.tup (.cons (.con (.int 2)) (.cons (.con (.int 1)) .nil))) (.cons (.tup (.cons (.con (.int 3)) (.cons (.con (.int 2)) .nil))) (.cons (.tup (.cons (.con (.int 5)) (.cons (.con (.int 4)) .nil))) (.cons (.tup (.cons (.con (.int 9)) (.cons (.con (.int 7)) .nil))) (.cons (.tup (.cons (.con (.int 101)) (.cons (.con (.int 100)) .nil))) .nil))))))) .nil))) .nil))))
def rt2 : Sm := (.asg 1 (.call "_law_of" [0, 1] (.cons (.ref 0) (.cons (.tval (.lst (.cons (.con (.int 17)) (.cons (.con (.int 101)) (.cons (.con (.int 9973)) (.cons (.con (.int 4999)) (.cons (.con (.int 23)) .nil))))))) .nil))))
def rt3 : Sm := (.iff (.tval (.cmp .eq (.bin .mod (.blt .int (.cons (.bin .mul (.ix (.var 7) (.con (.int 1))) (.ix (.var 8) (.con (.int 1)))) .nil)) (.var 1)) (.con (.int 0)))) (.seq (.ret (.con (.bl true))) .nil) .nil)
def rt4 : Sm := (.par 9 10 false false (.call "_law_take" [0, 1] (.cons (.ref 0) (.cons (.tval (.con (.int 31))) .nil))) (.call "_law_take" [0, 1] (.cons (.ref 0) (.cons (.tval (.con (.int 31))) .nil))))
def rt5 : Sm := (.asg 2 (.comp (.seq) (.cons (.tup (.cons (.var 9) (.cons (.var 10) (.cons (.bin .add (.var 9) (.var 10)) .nil)))) .nil) (.one 4) .tyes (.call "thrown" [0, 1, 2, 3] (.cons (.tval (.var 7)) (.cons (.tval (.var 8)) (.cons (.tval (.var 4)) (.cons (.tval (.var 1)) .nil))))) [4]))
def rt6 : Sm := (.asg 3 (.comp (.seq) (.cons (.tup (.cons (.var 9) (.cons (.var 10) (.cons (.bin .add (.var 9) (.var 10)) .nil)))) .nil) (.one 4) .tyes (.call "thrown_plain" [0, 1, 2] (.cons (.tval (.var 7)) (.cons (.tval (.var 8)) (.cons (.tval (.var 4)) .nil)))) [4]))
def rt7 : Sm := (.iff (.tval (.cmp .ne (.blt .repr (.cons (.var 2) .nil)) (.blt .repr (.cons (.comp (.seq) (.cons (.var 3) .nil) (.one 11) .tyes (.call "_law_remainder" [0, 1] (.cons (.tval (.var 11)) (.cons (.tval (.var 1)) .nil))) [11]) .nil)))) (.seq (.ret (.con (.bl false))) .nil) .nil)
def rt8 : Sm := (.iff (.tval (.cmp .ne (.call "_law_frac_times" [0, 1] (.cons (.tval (.ix (.var 3) (.con (.int 0)))) (.cons (.tval (.ix (.var 3) (.con (.int 1)))) .nil))) (.call "_law_frac_times" [0, 1] (.cons (.tval (.ix (.var 3) (.con (.int 2)))) (.cons (.tval (.var 7)) .nil))))) (.seq (.ret (.con (.bl false))) .nil) .nil)
def rt9 : Sm := (.asg 4 (.call "_law_of" [0, 1] (.cons (.ref 0) (.cons (.tval (.lst (.cons (.bin .pow (.con (.int 10)) (.con (.int 18))) (.cons (.bin .sub (.bin .pow (.con (.int 10)) (.con (.int 18))) (.call "_law_take" [0, 1] (.cons (.ref 0) (.cons (.tval (.bin .pow (.con (.int 10)) (.con (.int 6)))) .nil)))) (.cons (.call "_law_take" [0, 1] (.cons (.ref 0) (.cons (.tval (.bin .pow (.con (.int 10)) (.con (.int 12)))) .nil))) (.cons (.con (.int 0)) (.cons (.con (.int 1)) .nil))))))) .nil))))
def rt10 : Sm := (.asg 5 (.call "_law_remainder" [0, 1] (.cons (.tval (.var 8)) (.cons (.tval (.var 1)) .nil))))
def rt11 : Sm := (.asg 6 (.bin .mod (.blt .int (.cons (.bin .mul (.call "_law_remainder" [0, 1] (.cons (.tval (.var 7)) (.cons (.tval (.var 1)) .nil))) (.call "_law_power" [0, 1, 2] (.cons (.tval (.var 5)) (.cons (.tval (.var 4)) (.cons (.tval (.var 1)) .nil))))) .nil)) (.var 1)))
def rt12 : Sm := (.ret (.call "_law_is_int" [0, 1, 2] (.cons (.tval (.call "thrown" [3, 2, 1, 0] (.cons (.tval (.var 1)) (.cons (.tval (.var 4)) (.cons (.tval (.var 8)) (.cons (.tval (.var 7)) .nil)))))) (.cons (.tval (.var 6)) (.cons (.tval (.var 6)) .nil)))))
theorem rt_hd : d__law_right = ⟨["pot"], ["pot", "prime", "small", "plain", "many", "base", "due", "time", "factor", "one", "other", "told"], (.seq rt0 (.seq rt1 (.seq rt2 (.seq rt3 (.seq rt4 (.seq rt5 (.seq rt6 (.seq rt7 (.seq rt8 (.seq rt9 (.seq rt10 (.seq rt11 (.seq rt12 .nil))))))))))))), none⟩ := rfl
theorem f5_con : ([D.tup [.int 2, .int 1], .tup [.int 3, .int 2], .tup [.int 5, .int 4], .tup [.int 9, .int 7], .tup [.int 101, .int 100]] : List D) = F5.map fr := by kernel_rfl
theorem primes_con : ([D.int 17, .int 101, .int 9973, .int 4999, .int 23] : List D) = PRIMES.map fun (m : Nat) => D.int (m : Int) := by kernel_rfl
theorem right_draw {fu n c : Nat} {own p1 p2 : Int} (h : Pot c own p1 p2) (hc : c + 140 < 1000000) (hf : 8001 ≤ fu) :
    ∃ (own' p2' : Int) (t f : Rat) (m : Nat), Pot (c + 12) own' p1 p2' ∧ t ∈ TIMES ∧ f ∈ F5 ∧ m ∈ PRIMES ∧
      ∀ r : Sm, evS (evF T fu (n + 9)) fu (.seq rt0 (.seq rt1 (.seq rt2 r))) [some (pot own p1 p2), none, none, none, none, none, none, none, none, none, none, none] =
        evS (evF T fu (n + 9)) fu r [some (pot own' p1 p2'), vi (m : Int), none, none, none, none, none, some (.val (fr t)), some (.val (fr f)), none, none, none] := by
  obtain ⟨o0, r0, hp0, t0⟩ := s_thrownright (fu := fu) (n := n) h (by omega) hf
  obtain ⟨o1, r1, t, hp1, ht, t1⟩ := s_ltimeM (fu := fu) (n := n + 6) hp0 (by omega)
  obtain ⟨o2, r2, x, hp2, hx, t2⟩ := s_of (fu := fu) (n := n + 7) (xs := F5.map fr) hp1 (by omega) (by simp [evE, evT, evL, evA, evO, evAr, evS, evD, putS, peek, mutS, setM, opB, opC, opF, opIx, opSl, walk, unpS, bindT, refs, argS, putBack, permA, outsOf, atI, ixN, tru, setJ, iscS, eqoS, eqoR, putX, popJ, F5]) (by simp [evE, evT, evL, evA, evO, evAr, evS, evD, putS, peek, mutS, setM, opB, opC, opF, opIx, opSl, walk, unpS, bindT, refs, argS, putBack, permA, outsOf, atI, ixN, tru, setJ, iscS, eqoS, eqoR, putX, popJ, F5])
  obtain ⟨f, hf5, rfl⟩ := List.mem_map.1 hx
  obtain ⟨o3, r3, y, hp3, hy, t3⟩ := s_of (fu := fu) (n := n + 7) (xs := PRIMES.map fun (m : Nat) => D.int (m : Int)) hp2 (by omega) (by simp [evE, evT, evL, evA, evO, evAr, evS, evD, putS, peek, mutS, setM, opB, opC, opF, opIx, opSl, walk, unpS, bindT, refs, argS, putBack, permA, outsOf, atI, ixN, tru, setJ, iscS, eqoS, eqoR, putX, popJ, PRIMES]) (by simp [evE, evT, evL, evA, evO, evAr, evS, evD, putS, peek, mutS, setM, opB, opC, opF, opIx, opSl, walk, unpS, bindT, refs, argS, putBack, permA, outsOf, atI, ixN, tru, setJ, iscS, eqoS, eqoR, putX, popJ, PRIMES])
  obtain ⟨m, hm, rfl⟩ := List.mem_map.1 hy
  refine ⟨o3, r3, t, f, m, hp3.le (by omega), ht, hf5, hm, fun r => ?_⟩
  have s0 : evS (evF T fu (n + 9)) fu rt0 [some (pot own p1 p2), none, none, none, none, none, none, none, none, none, none, none] = some (.nx, [some (pot o0 p1 r0), none, none, none, none, none, none, none, none, none, none, none]) := by
    clear t1 t2 t3
    unfold rt0
    unfold pot potO at *
    simp [evE, evT, evL, evA, evO, evAr, evS, evD, putS, peek, mutS, setM, opB, opC, opF, opIx, opSl, walk, unpS, bindT, refs, argS, putBack, permA, outsOf, atI, ixN, tru, setJ, iscS, eqoS, eqoR, putX, popJ, t0]
  have s1 : evS (evF T fu (n + 9)) fu rt1 [some (pot o0 p1 r0), none, none, none, none, none, none, none, none, none, none, none] = some (.nx, [some (pot o2 p1 r2), none, none, none, none, none, none, some (.val (fr t)), some (.val (fr f)), none, none, none]) := by
    clear t0 t3 s0
    rw [← f5_con] at t2
    unfold rt1
    generalize fr t = x1 at *
    generalize fr f = x2 at *
    unfold pot potO at *
    simp [evE, evT, evL, evA, evO, evAr, evS, evD, putS, peek, mutS, setM, opB, opC, opF, opIx, opSl, walk, unpS, bindT, refs, argS, putBack, permA, outsOf, atI, ixN, tru, setJ, iscS, eqoS, eqoR, putX, popJ, t1, t2, lim]
  have s2 : evS (evF T fu (n + 9)) fu rt2 [some (pot o2 p1 r2), none, none, none, none, none, none, some (.val (fr t)), some (.val (fr f)), none, none, none] = some (.nx, [some (pot o3 p1 r3), vi (m : Int), none, none, none, none, none, some (.val (fr t)), some (.val (fr f)), none, none, none]) := by
    clear t0 t1 t2 s0 s1
    rw [← primes_con] at t3
    unfold rt2
    generalize fr t = x1 at *
    generalize fr f = x2 at *
    unfold pot potO at *
    simp [evE, evT, evL, evA, evO, evAr, evS, evD, putS, peek, mutS, setM, opB, opC, opF, opIx, opSl, walk, unpS, bindT, refs, argS, putBack, permA, outsOf, atI, ixN, tru, setJ, iscS, eqoS, eqoR, putX, popJ, t3, lim]
  exact (st_nx s0).trans ((st_nx s1).trans (st_nx s2))
theorem right_div {F : FT} {fu m : Nat} {t f : Rat} (hm : m ∈ PRIMES) (ht : Bq 4 t) (hf : Bq 12 f) (P : Option Sl) :
    evS F fu rt3 [P, vi (m : Int), none, none, none, none, none, some (.val (fr t)), some (.val (fr f)), none, none, none] =
      some (if t.den * f.den % m = 0 then .rt (.bl true) else .nx, [P, vi (m : Int), none, none, none, none, none, some (.val (fr t)), some (.val (fr f)), none, none, none]) := by
  obtain ⟨h3, _⟩ := primes_is hm
  have i0 : opIx (fr t) (.int 1) = some (.int (t.den : Int)) := ixt1
  have i1 : opIx (fr f) (.int 1) = some (.int (f.den : Int)) := ixt1
  have q1 : opB .mul (.int (t.den : Int)) (.int (f.den : Int)) = some (.int ((t.den * f.den : Nat) : Int)) := by
    show (if sm (t.den : Int) && sm (f.den : Int) then some (D.int ((t.den : Int) * (f.den : Int))) else none) = _
    rw [(ht.le (by decide : 4 ≤ 3000)).sd (by decide), (hf.le (by decide : 12 ≤ 3000)).sd (by decide), Int.natCast_mul]; rfl
  have q2 : opB .mod (.int ((t.den * f.den : Nat) : Int)) (.int (m : Int)) = some (.int ((t.den * f.den % m : Nat) : Int)) := by
    show (if decide ((0 : Int) < (m : Int)) then some (D.int (((t.den * f.den : Nat) : Int) % (m : Int))) else none) = _
    rw [if_pos (decide_eq_true (by omega))]; rfl
  have q3 : opC .eq (.int ((t.den * f.den % m : Nat) : Int)) (.int 0) = some (decide (t.den * f.den % m = 0)) := by
    show (if dsh (.int ((t.den * f.den % m : Nat) : Int)) && dsh (.int 0) then some (deq (.int ((t.den * f.den % m : Nat) : Int)) (.int 0)) else none) = _
    rw [dsh_int, dsh_int, deq_int]
    show some _ = some _
    congr 1
    exact decide_eq_decide.2 (by omega)
  have q0 : ∀ i : Int, opF .int [.int i] = some (.int i) := fun i => rfl
  unfold rt3
  by_cases z : t.den * f.den % m = 0
  · rw [decide_eq_true z] at q3
    rw [if_pos z]
    generalize ((t.den * f.den % m : Nat) : Int) = A at *
    generalize ((t.den * f.den : Nat) : Int) = B at *
    generalize fr t = tt at *
    generalize fr f = ff at *
    simp [evE, evT, evL, evA, evO, evAr, evS, evD, putS, peek, mutS, setM, opSl, walk, unpS, bindT, refs, argS, putBack, permA, outsOf, atI, ixN, tru, setJ, iscS, eqoS, eqoR, putX, popJ, q0, i0, i1, q1, q2, q3]
  · rw [decide_eq_false z] at q3
    rw [if_neg z]
    generalize ((t.den * f.den % m : Nat) : Int) = A at *
    generalize ((t.den * f.den : Nat) : Int) = B at *
    generalize fr t = tt at *
    generalize fr f = ff at *
    simp [evE, evT, evL, evA, evO, evAr, evS, evD, putS, peek, mutS, setM, opSl, walk, unpS, bindT, refs, argS, putBack, permA, outsOf, atI, ixN, tru, setJ, iscS, eqoS, eqoR, putX, popJ, q0, i0, i1, q1, q2, q3]
theorem right_two {fu n c : Nat} {own p1 p2 : Int} (h : Pot c own p1 p2) (hc : c + 40 < 1000000) (e1 e7 e8 : Option Sl) :
    ∃ (own' p2' : Int) (a b : Nat), Pot (c + 2) own' p1 p2' ∧ a ≤ 30 ∧ b ≤ 30 ∧ evS (evF T fu (n + 1)) fu rt4 [some (pot own p1 p2), e1, none, none, none, none, none, e7, e8, none, none, none] =
      some (.nx, [some (pot own' p1 p2'), e1, none, none, none, none, none, e7, e8, vi (a : Int), vi (b : Int), none]) := by
  obtain ⟨o1, r1, d1, hp1, g0, g1, t1⟩ := s_take (fu := fu) (n := n) (u := 31) h (by omega) (by decide) (by decide)
  obtain ⟨o2, r2, d2, hp2, k0, k1, t2⟩ := s_take (fu := fu) (n := n) (u := 31) hp1 (by omega) (by decide) (by decide)
  refine ⟨o2, r2, d1.toNat, d2.toNat, hp2.le (by omega), by omega, by omega, ?_⟩
  rw [show ((d1.toNat : Nat) : Int) = d1 by omega, show ((d2.toNat : Nat) : Int) = d2 by omega]
  unfold rt4
  unfold pot at *
  simp [evE, evT, evL, evA, evO, evAr, evS, evD, putS, peek, mutS, setM, opB, opC, opF, opIx, opSl, walk, unpS, bindT, refs, argS, putBack, permA, outsOf, atI, ixN, tru, setJ, iscS, eqoS, eqoR, putX, popJ, t1, t2]
def elS : Ex := (.call "thrown" [0, 1, 2, 3] (.cons (.tval (.var 7)) (.cons (.tval (.var 8)) (.cons (.tval (.var 4)) (.cons (.tval (.var 1)) .nil)))))
def elP : Ex := (.call "thrown_plain" [0, 1, 2] (.cons (.tval (.var 7)) (.cons (.tval (.var 8)) (.cons (.tval (.var 4)) .nil))))
def elR : Ex := (.call "_law_remainder" [0, 1] (.cons (.tval (.var 11)) (.cons (.tval (.var 1)) .nil)))
theorem right_small {fu n m a b : Nat} {t f : Rat} (hm : m ∈ PRIMES) (t0 : 0 ≤ t) (f1 : 1 < f) (ht : Bq 4 t) (hf : Bq 12 f) (h1 : t.den % m ≠ 0) (h2 : f.den % m ≠ 0) (ha : a ≤ 30) (hb : b ≤ 30) (hfu : 65 ≤ fu) (P : Option Sl) :
    evS (evF T fu (n + 5)) fu rt5 [P, vi (m : Int), none, none, none, none, none, some (.val (fr t)), some (.val (fr f)), vi (a : Int), vi (b : Int), none] =
      some (.nx, [P, vi (m : Int), some (.val (.lst [.int (thR t f a m : Int), .int (thR t f b m : Int), .int (thR t f (a + b) m : Int)])), none, none, none, none, some (.val (fr t)), some (.val (fr f)), vi (a : Int), vi (b : Int), none]) := by
  have key := compL_filter (el := fun e => evE (evF T fu (n + 5)) elS e) (cd := fun e => evT (evF T fu (n + 5)) .tyes e) (tg := .one 4) (own := [4]) (env := [P, vi (m : Int), none, none, none, none, none, some (.val (fr t)), some (.val (fr f)), vi (a : Int), vi (b : Int), none]) (f := fun k : Nat => D.int (k : Int)) (g := fun k : Nat => D.int (thR t f k m : Int)) (b := fun _ => true) (its := [a, b, a + b]) (by
    intro k hk
    have k60 : k ≤ 10 ^ 18 := by
      simp [evE, evT, evL, evA, evO, evAr, evS, evD, putS, peek, mutS, setM, opB, opC, opF, opIx, opSl, walk, unpS, bindT, refs, argS, putBack, permA, outsOf, atI, ixN, tru, setJ, iscS, eqoS, eqoR, putX, popJ] at hk
      omega
    have th := s_thrown (fu := fu) (n := n) (k := k) hm t0 f1 (ht.le (by decide)) hf k60 h1 h2 hfu
    refine ⟨[P, vi (m : Int), none, none, vi (k : Int), none, none, some (.val (fr t)), some (.val (fr f)), vi (a : Int), vi (b : Int), none], rfl, rfl, ?_, rfl⟩
    unfold elS
    change evF T fu (n + 5) "thrown" _ = some (.int (thR t f k m : Int), []) at th
    generalize (thR t f k m : Int) = z at *
    generalize fr t = tt at *
    generalize fr f = ff at *
    simp [evE, evT, evL, evA, evO, evAr, evS, evD, putS, peek, mutS, setM, opB, opC, opF, opIx, opSl, walk, unpS, bindT, refs, argS, putBack, permA, outsOf, atI, ixN, tru, setJ, iscS, eqoS, eqoR, putX, popJ, th])
  rw [List.filter_eq_self.2 (fun _ _ => rfl)] at key
  have hd : rt5 = .asg 2 (.comp (.seq) (.cons (.tup (.cons (.var 9) (.cons (.var 10) (.cons (.bin .add (.var 9) (.var 10)) .nil)))) .nil) (.one 4) .tyes elS [4]) := rfl
  rw [hd]
  simp only [List.map_cons, List.map_nil, evT] at key
  rw [Int.natCast_add] at key
  generalize (thR t f a m : Int) = z1 at *
  generalize (thR t f b m : Int) = z2 at *
  generalize (thR t f (a + b) m : Int) = z3 at *
  generalize fr t = tt at *
  generalize fr f = ff at *
  generalize elS = el at *
  simp [evE, evT, evL, evA, evO, evAr, evS, evD, putS, peek, mutS, setM, opB, opC, opF, opIx, opSl, walk, unpS, bindT, refs, argS, putBack, permA, outsOf, atI, ixN, tru, setJ, iscS, eqoS, eqoR, putX, popJ, key, lim]
theorem right_plain {fu n a b : Nat} {t f : Rat} (t0 : 0 ≤ t) (f1 : 1 < f) (ht : Bq 4 t) (hf : Bq 12 f) (ha : a ≤ 30) (hb : b ≤ 30) (P e1 e2 : Option Sl) :
    evS (evF T fu (n + 5)) fu rt6 [P, e1, e2, none, none, none, none, some (.val (fr t)), some (.val (fr f)), vi (a : Int), vi (b : Int), none] =
      some (.nx, [P, e1, e2, some (.val (.lst [fr (t * f ^ a), fr (t * f ^ b), fr (t * f ^ (a + b))])), none, none, none, some (.val (fr t)), some (.val (fr f)), vi (a : Int), vi (b : Int), none]) := by
  have key := compL_filter (el := fun e => evE (evF T fu (n + 5)) elP e) (cd := fun e => evT (evF T fu (n + 5)) .tyes e) (tg := .one 4) (own := [4]) (env := [P, e1, e2, none, none, none, none, some (.val (fr t)), some (.val (fr f)), vi (a : Int), vi (b : Int), none]) (f := fun k : Nat => D.int (k : Int)) (g := fun k : Nat => fr (t * f ^ k)) (b := fun _ => true) (its := [a, b, a + b]) (by
    intro k hk
    have k60 : k ≤ 60 := by
      simp [evE, evT, evL, evA, evO, evAr, evS, evD, putS, peek, mutS, setM, opB, opC, opF, opIx, opSl, walk, unpS, bindT, refs, argS, putBack, permA, outsOf, atI, ixN, tru, setJ, iscS, eqoS, eqoR, putX, popJ] at hk
      omega
    have th := s_plainly (fu := fu) (n := n) (k := k) t0 f1 ht hf k60
    refine ⟨[P, e1, e2, none, vi (k : Int), none, none, some (.val (fr t)), some (.val (fr f)), vi (a : Int), vi (b : Int), none], rfl, rfl, ?_, rfl⟩
    unfold elP
    generalize fr (t * f ^ k) = z at *
    generalize fr t = tt at *
    generalize fr f = ff at *
    simp [evE, evT, evL, evA, evO, evAr, evS, evD, putS, peek, mutS, setM, opB, opC, opF, opIx, opSl, walk, unpS, bindT, refs, argS, putBack, permA, outsOf, atI, ixN, tru, setJ, iscS, eqoS, eqoR, putX, popJ, th])
  rw [List.filter_eq_self.2 (fun _ _ => rfl)] at key
  have hd : rt6 = .asg 3 (.comp (.seq) (.cons (.tup (.cons (.var 9) (.cons (.var 10) (.cons (.bin .add (.var 9) (.var 10)) .nil)))) .nil) (.one 4) .tyes elP [4]) := rfl
  rw [hd]
  simp only [List.map_cons, List.map_nil, evT] at key
  rw [Int.natCast_add] at key
  generalize fr (t * f ^ a) = z1 at *
  generalize fr (t * f ^ b) = z2 at *
  generalize fr (t * f ^ (a + b)) = z3 at *
  generalize fr t = tt at *
  generalize fr f = ff at *
  generalize elP = el at *
  simp [evE, evT, evL, evA, evO, evAr, evS, evD, putS, peek, mutS, setM, opB, opC, opF, opIx, opSl, walk, unpS, bindT, refs, argS, putBack, permA, outsOf, atI, ixN, tru, setJ, iscS, eqoS, eqoR, putX, popJ, key, lim]
end L16
namespace L16
open PySem L2 Mn TL
theorem right_same {fu n m a b : Nat} {t f : Rat} (hm : m ∈ PRIMES) (t0 : 0 ≤ t) (f1 : 1 < f) (h1 : t.den % m ≠ 0) (h2 : f.den % m ≠ 0) (P e7 e8 e9 e10 : Option Sl) :
    evS (evF T fu (n + 2)) fu rt7 [P, vi (m : Int), some (.val (.lst [.int (thR t f a m : Int), .int (thR t f b m : Int), .int (thR t f (a + b) m : Int)])), some (.val (.lst [fr (t * f ^ a), fr (t * f ^ b), fr (t * f ^ (a + b))])), none, none, none, e7, e8, e9, e10, none] =
      some (.nx, [P, vi (m : Int), some (.val (.lst [.int (thR t f a m : Int), .int (thR t f b m : Int), .int (thR t f (a + b) m : Int)])), some (.val (.lst [fr (t * f ^ a), fr (t * f ^ b), fr (t * f ^ (a + b))])), none, none, none, e7, e8, e9, e10, none]) := by
  obtain ⟨h3, h9⟩ := primes_is hm
  have f0 : 0 ≤ f := by grind
  have fk : ∀ k : Nat, 0 ≤ f ^ k := fun k => by
    induction k with
    | zero => rw [Rat.pow_zero]; decide
    | succ k ih => rw [Rat.pow_succ]; exact Rat.mul_nonneg ih f0
  rw [thR_rm (k := a) hm t0 f0 h1 h2, thR_rm (k := b) hm t0 f0 h1 h2, thR_rm (k := a + b) hm t0 f0 h1 h2]
  have key := compL_filter (el := fun e => evE (evF T fu (n + 2)) elR e) (cd := fun e => evT (evF T fu (n + 2)) .tyes e) (tg := .one 11) (own := [11]) (env := [P, vi (m : Int), some (.val (.lst [.int (rmR (t * f ^ a) m : Int), .int (rmR (t * f ^ b) m : Int), .int (rmR (t * f ^ (a + b)) m : Int)])), some (.val (.lst [fr (t * f ^ a), fr (t * f ^ b), fr (t * f ^ (a + b))])), none, none, none, e7, e8, e9, e10, none]) (f := fun k : Nat => fr (t * f ^ k)) (g := fun k : Nat => D.int (rmR (t * f ^ k) m : Int)) (b := fun _ => true) (its := [a, b, a + b]) (by
    intro k hk
    have th := s_lrem (fu := fu) (n := n) (q := t * f ^ k) h3 h9 (Rat.mul_nonneg t0 (fk k))
    refine ⟨[P, vi (m : Int), some (.val (.lst [.int (rmR (t * f ^ a) m : Int), .int (rmR (t * f ^ b) m : Int), .int (rmR (t * f ^ (a + b)) m : Int)])), some (.val (.lst [fr (t * f ^ a), fr (t * f ^ b), fr (t * f ^ (a + b))])), none, none, none, e7, e8, e9, e10, some (.val (fr (t * f ^ k)))], rfl, rfl, ?_, rfl⟩
    unfold elR
    change evF T fu (n + 2) "_law_remainder" _ = some (.int (rmR (t * f ^ k) m : Int), []) at th
    generalize (rmR (t * f ^ k) m : Int) = z at *
    generalize fr (t * f ^ k) = tt at *
    simp [evE, evT, evL, evA, evO, evAr, evS, evD, putS, peek, mutS, setM, opB, opC, opF, opIx, opSl, walk, unpS, bindT, refs, argS, putBack, permA, outsOf, atI, ixN, tru, setJ, iscS, eqoS, eqoR, putX, popJ, th])
  rw [List.filter_eq_self.2 (fun _ _ => rfl)] at key
  have b1 : rmR (t * f ^ a) m < 9973 := Nat.lt_of_lt_of_le (rmR_lt hm) h9
  have b2 : rmR (t * f ^ b) m < 9973 := Nat.lt_of_lt_of_le (rmR_lt hm) h9
  have b3 : rmR (t * f ^ (a + b)) m < 9973 := Nat.lt_of_lt_of_le (rmR_lt hm) h9
  have rp : opF .repr [.lst [.int (rmR (t * f ^ a) m : Int), .int (rmR (t * f ^ b) m : Int), .int (rmR (t * f ^ (a + b)) m : Int)]] = some (.str (sho (.lst [.int (rmR (t * f ^ a) m : Int), .int (rmR (t * f ^ b) m : Int), .int (rmR (t * f ^ (a + b)) m : Int)]))) := by
    show (if shd (.lst [.int (rmR (t * f ^ a) m : Int), .int (rmR (t * f ^ b) m : Int), .int (rmR (t * f ^ (a + b)) m : Int)]) = true then some (D.str (toP _).shown) else none) = _
    rw [if_pos (shd_ints b1 b2 b3)]; rfl
  have n1 := ne_self (s := sho (.lst [.int (rmR (t * f ^ a) m : Int), .int (rmR (t * f ^ b) m : Int), .int (rmR (t * f ^ (a + b)) m : Int)]))
  have hd : rt7 = .iff (.tval (.cmp .ne (.blt .repr (.cons (.var 2) .nil)) (.blt .repr (.cons (.comp (.seq) (.cons (.var 3) .nil) (.one 11) .tyes elR [11]) .nil)))) (.seq (.ret (.con (.bl false))) .nil) .nil := rfl
  rw [hd]
  simp only [List.map_cons, List.map_nil, evT] at key
  have ls : ([D.int (rmR (t * f ^ a) m : Int), .int (rmR (t * f ^ b) m : Int), .int (rmR (t * f ^ (a + b)) m : Int)] : List D).length ≤ lim := by show 3 ≤ lim; decide
  generalize sho (.lst [.int (rmR (t * f ^ a) m : Int), .int (rmR (t * f ^ b) m : Int), .int (rmR (t * f ^ (a + b)) m : Int)]) = S at *
  generalize ([D.int (rmR (t * f ^ a) m : Int), .int (rmR (t * f ^ b) m : Int), .int (rmR (t * f ^ (a + b)) m : Int)] : List D) = L at *
  generalize fr (t * f ^ a) = z1 at *
  generalize fr (t * f ^ b) = z2 at *
  generalize fr (t * f ^ (a + b)) = z3 at *
  generalize elR = el at *
  simp [evE, evT, evL, evA, evO, evAr, evS, evD, putS, peek, mutS, setM, opB, opIx, opSl, walk, unpS, bindT, refs, argS, putBack, permA, outsOf, atI, ixN, tru, setJ, iscS, eqoS, eqoR, putX, popJ, key, ls, rp, n1, lim]
theorem right_times {fu n a b : Nat} {t f : Rat} (ht : Bq 4 t) (hf : Bq 12 f) (ha : a ≤ 30) (hb : b ≤ 30) (hfu : 8001 ≤ fu) (P e1 e2 e8 e9 e10 : Option Sl) :
    evS (evF T fu (n + 3)) fu rt8 [P, e1, e2, some (.val (.lst [fr (t * f ^ a), fr (t * f ^ b), fr (t * f ^ (a + b))])), none, none, none, some (.val (fr t)), e8, e9, e10, none] =
      some (.nx, [P, e1, e2, some (.val (.lst [fr (t * f ^ a), fr (t * f ^ b), fr (t * f ^ (a + b))])), none, none, none, some (.val (fr t)), e8, e9, e10, none]) := by
  have q1 := s_ltimes (fu := fu) (n := n) ((here_bq ht hf a).le (by omega : 4 + 12 * a ≤ 1900)) ((here_bq ht hf b).le (by omega : 4 + 12 * b ≤ 1900)) hfu
  have q2 := s_ltimes (fu := fu) (n := n) ((here_bq ht hf (a + b)).le (by omega : 4 + 12 * (a + b) ≤ 1900)) (ht.le (by decide : 4 ≤ 1900)) hfu
  rw [show t * f ^ (a + b) * t = t * f ^ a * (t * f ^ b) by
    have e : f ^ (a + b) = f ^ a * f ^ b := by
      clear q1 q2 ha hb
      induction b with
      | zero => rw [Rat.pow_zero, Rat.mul_one, Nat.add_zero]
      | succ b ih => rw [← Nat.add_assoc, Rat.pow_succ, Rat.pow_succ, ih]; grind
    rw [e]; grind] at q2
  have d1 : opC .ne (fr (t * f ^ a * (t * f ^ b))) (fr (t * f ^ a * (t * f ^ b))) = some false := by
    generalize t * f ^ a * (t * f ^ b) = x
    show (if dsh (fr x) && dsh (fr x) then some (!deq (fr x) (fr x)) else none) = _
    rw [dsh_fr, deq_fr, decide_eq_true rfl]; rfl
  have l0 : ∀ A B C : D, opIx (.lst [A, B, C]) (.int 0) = some A := fun _ _ _ => rfl
  have l1 : ∀ A B C : D, opIx (.lst [A, B, C]) (.int 1) = some B := fun _ _ _ => rfl
  have l2 : ∀ A B C : D, opIx (.lst [A, B, C]) (.int 2) = some C := fun _ _ _ => rfl
  unfold rt8
  generalize fr (t * f ^ a * (t * f ^ b)) = z at *
  generalize fr (t * f ^ a) = z1 at *
  generalize fr (t * f ^ b) = z2 at *
  generalize fr (t * f ^ (a + b)) = z3 at *
  generalize fr t = tt at *
  simp [evE, evT, evL, evA, evO, evAr, evS, evD, putS, peek, mutS, setM, opB, opF, opSl, walk, unpS, bindT, refs, argS, putBack, permA, outsOf, atI, ixN, tru, setJ, iscS, eqoS, eqoR, putX, popJ, q1, q2, d1, l0, l1, l2]
theorem right_many {fu n c : Nat} {own p1 p2 : Int} (h : Pot c own p1 p2) (hc : c + 40 < 1000000) (e1 e2 e3 e7 e8 e9 e10 : Option Sl) :
    ∃ (own' p2' : Int) (k : Nat), Pot (c + 3) own' p1 p2' ∧ k ≤ 10 ^ 18 ∧ evS (evF T fu (n + 2)) fu rt9 [some (pot own p1 p2), e1, e2, e3, none, none, none, e7, e8, e9, e10, none] =
      some (.nx, [some (pot own' p1 p2'), e1, e2, e3, vi (k : Int), none, none, e7, e8, e9, e10, none]) := by
  obtain ⟨o1, r1, d1, hp1, g0, g1, t1⟩ := s_take (fu := fu) (n := n + 1) (u := 10 ^ 6) h (by omega) (by decide) (by decide +kernel)
  obtain ⟨o2, r2, d2, hp2, k0, k1, t2⟩ := s_take (fu := fu) (n := n + 1) (u := 10 ^ 12) hp1 (by omega) (by decide) (by decide +kernel)
  obtain ⟨o3, r3, x, hp3, hx, t3⟩ := s_of (fu := fu) (n := n) (xs := [.int (10 ^ 18), .int (10 ^ 18 - d1), .int d2, .int 0, .int 1]) hp2 (by omega) (by simp [evE, evT, evL, evA, evO, evAr, evS, evD, putS, peek, mutS, setM, opB, opC, opF, opIx, opSl, walk, unpS, bindT, refs, argS, putBack, permA, outsOf, atI, ixN, tru, setJ, iscS, eqoS, eqoR, putX, popJ]) (by simp [evE, evT, evL, evA, evO, evAr, evS, evD, putS, peek, mutS, setM, opB, opC, opF, opIx, opSl, walk, unpS, bindT, refs, argS, putBack, permA, outsOf, atI, ixN, tru, setJ, iscS, eqoS, eqoR, putX, popJ])
  have hk : ∃ k : Nat, x = .int (k : Int) ∧ k ≤ 10 ^ 18 := by
    simp only [List.mem_cons, List.not_mem_nil, or_false] at hx
    rcases hx with rfl | rfl | rfl | rfl | rfl
    · exact ⟨10 ^ 18, rfl, Nat.le_refl _⟩
    · exact ⟨(10 ^ 18 - d1).toNat, by congr 1; omega, by omega⟩
    · exact ⟨d2.toNat, by congr 1; omega, by omega⟩
    · exact ⟨0, rfl, by decide⟩
    · exact ⟨1, rfl, by decide⟩
  obtain ⟨k, rfl, hk⟩ := hk
  refine ⟨o3, r3, k, hp3.le (by omega), hk, ?_⟩
  have pw : ∀ (e : Nat), e ≤ 1000 → opB .pow (.int 10) (.int (e : Int)) = some (.int (10 ^ e)) := fun e he => by
    show (if sm 10 && decide ((0 : Int) ≤ (e : Int)) && decide ((e : Int) ≤ 1000) then some (D.int (10 ^ ((e : Int)).toNat)) else none) = _
    rw [if_pos (by rw [Bool.and_eq_true, Bool.and_eq_true, decide_eq_true_eq, decide_eq_true_eq]; exact ⟨⟨by decide +kernel, by omega⟩, by omega⟩), Int.toNat_natCast]
  have p18 := pw 18 (by decide)
  have p6 := pw 6 (by decide)
  have p12 := pw 12 (by decide)
  have sb : ∀ a b : Int, opB .sub (.int a) (.int b) = some (.int (a - b)) := fun _ _ => rfl
  replace p18 : opB .pow (.int 10) (.int 18) = some (.int (10 ^ 18)) := p18
  replace p6 : opB .pow (.int 10) (.int 6) = some (.int (10 ^ 6)) := p6
  replace p12 : opB .pow (.int 10) (.int 12) = some (.int (10 ^ 12)) := p12
  clear pw hx hk k0 k1 g0 g1
  have sb := sb (10 ^ 18) d1
  generalize (10 ^ 18 - d1 : Int) = E2 at *
  generalize (10 ^ 18 : Int) = E18 at *
  generalize (10 ^ 6 : Int) = E6 at *
  generalize (10 ^ 12 : Int) = E12 at *
  unfold rt9
  unfold pot potO at *
  simp [evE, evT, evL, evA, evO, evAr, evS, evD, putS, peek, mutS, setM, opC, opF, opIx, opSl, walk, unpS, bindT, refs, argS, putBack, permA, outsOf, atI, ixN, tru, setJ, iscS, eqoS, eqoR, putX, popJ, t1, t2, t3, p18, p6, p12, sb, lim]
theorem right_end {fu n m k : Nat} {t f : Rat} (hm : m ∈ PRIMES) (t0 : 0 ≤ t) (f1 : 1 < f) (ht : Bq 4 t) (hf : Bq 12 f) (h1 : t.den % m ≠ 0) (h2 : f.den % m ≠ 0) (hk : k ≤ 10 ^ 18) (hfu : 65 ≤ fu) (P e2 e3 e9 e10 : Option Sl) :
    evS (evF T fu (n + 5)) fu (.seq rt10 (.seq rt11 (.seq rt12 .nil))) [P, vi (m : Int), e2, e3, vi (k : Int), none, none, some (.val (fr t)), some (.val (fr f)), e9, e10, none] =
      some (.rt (.bl true), [P, vi (m : Int), e2, e3, vi (k : Int), vi (rmR f m : Int), vi (thR t f k m : Int), some (.val (fr t)), some (.val (fr f)), e9, e10, none]) := by
  obtain ⟨h3, h9⟩ := primes_is hm
  have f0 : 0 ≤ f := by grind
  have c1 : evF T fu (n + 5) "_law_remainder" [.val (fr f), .val (.int (m : Int))] = some (.int (rmR f m : Int), []) := s_lrem (fu := fu) (n := n + 3) h3 h9 f0
  have c2 : evF T fu (n + 5) "_law_remainder" [.val (fr t), .val (.int (m : Int))] = some (.int (rmR t m : Int), []) := s_lrem (fu := fu) (n := n + 3) h3 h9 t0
  have c3 := s_lpower (fu := fu) (n := n + 4) (b := rmR f m) (e := k) h3 h9 (Nat.lt_of_le_of_lt hk (by decide))
  have c4 : evF T fu (n + 5) "thrown" [.val (fr t), .val (fr f), .val (.int (k : Int)), .val (.int (m : Int))] = some (.int (thR t f k m : Int), []) := s_thrown (fu := fu) (n := n) hm t0 f1 (ht.le (by decide)) hf hk h1 h2 hfu
  have c5 := s_lisint (fu := fu) (n := n + 4) (i := (thR t f k m : Int))
  have z1 : sm (rmR t m : Int) = true := sm_of_lt (small_lt (rmR_lt hm) h9)
  have z2 : sm ((rmR f m ^ k % m : Nat) : Int) = true := sm_of_lt (small_lt (Nat.mod_lt _ (by omega)) h9)
  have q1 : opB .mul (.int (rmR t m : Int)) (.int ((rmR f m ^ k % m : Nat) : Int)) = some (.int ((rmR t m * (rmR f m ^ k % m) : Nat) : Int)) := by
    show (if sm (rmR t m : Int) && sm ((rmR f m ^ k % m : Nat) : Int) then some (D.int ((rmR t m : Int) * ((rmR f m ^ k % m : Nat) : Int))) else none) = _
    rw [z1, z2, Int.natCast_mul]; rfl
  have q2 : opB .mod (.int ((rmR t m * (rmR f m ^ k % m) : Nat) : Int)) (.int (m : Int)) = some (.int (thR t f k m : Int)) := by
    show (if decide ((0 : Int) < (m : Int)) then some (D.int (((rmR t m * (rmR f m ^ k % m) : Nat) : Int) % (m : Int))) else none) = _
    rw [if_pos (decide_eq_true (by omega)), due_is]; rfl
  have q0 : ∀ i : Int, opF .int [.int i] = some (.int i) := fun i => rfl
  have s10 : evS (evF T fu (n + 5)) fu rt10 [P, vi (m : Int), e2, e3, vi (k : Int), none, none, some (.val (fr t)), some (.val (fr f)), e9, e10, none] = some (.nx, [P, vi (m : Int), e2, e3, vi (k : Int), vi (rmR f m : Int), none, some (.val (fr t)), some (.val (fr f)), e9, e10, none]) := by
    unfold rt10
    generalize (rmR f m : Int) = x1 at *
    generalize fr t = tt at *
    generalize fr f = ff at *
    simp [evE, evT, evL, evA, evO, evAr, evS, evD, putS, peek, mutS, setM, opB, opC, opF, opIx, opSl, walk, unpS, bindT, refs, argS, putBack, permA, outsOf, atI, ixN, tru, setJ, iscS, eqoS, eqoR, putX, popJ, c1]
  have s11 : evS (evF T fu (n + 5)) fu rt11 [P, vi (m : Int), e2, e3, vi (k : Int), vi (rmR f m : Int), none, some (.val (fr t)), some (.val (fr f)), e9, e10, none] = some (.nx, [P, vi (m : Int), e2, e3, vi (k : Int), vi (rmR f m : Int), vi (thR t f k m : Int), some (.val (fr t)), some (.val (fr f)), e9, e10, none]) := by
    unfold rt11
    generalize ((rmR f m ^ k % m : Nat) : Int) = x3 at *
    generalize ((rmR t m * (rmR f m ^ k % m) : Nat) : Int) = x4 at *
    generalize (rmR f m : Int) = x1 at *
    generalize (rmR t m : Int) = x2 at *
    generalize (thR t f k m : Int) = x5 at *
    generalize fr t = tt at *
    generalize fr f = ff at *
    simp [evE, evT, evL, evA, evO, evAr, evS, evD, putS, peek, mutS, setM, opC, opIx, opSl, walk, unpS, bindT, refs, argS, putBack, permA, outsOf, atI, ixN, tru, setJ, iscS, eqoS, eqoR, putX, popJ, c2, c3, q0, q1, q2]
  have s12 : evS (evF T fu (n + 5)) fu rt12 [P, vi (m : Int), e2, e3, vi (k : Int), vi (rmR f m : Int), vi (thR t f k m : Int), some (.val (fr t)), some (.val (fr f)), e9, e10, none] = some (.rt (.bl true), [P, vi (m : Int), e2, e3, vi (k : Int), vi (rmR f m : Int), vi (thR t f k m : Int), some (.val (fr t)), some (.val (fr f)), e9, e10, none]) := by
    unfold rt12
    generalize (thR t f k m : Int) = x5 at *
    generalize fr t = tt at *
    generalize fr f = ff at *
    simp [evE, evT, evL, evA, evO, evAr, evS, evD, putS, peek, mutS, setM, opB, opC, opF, opIx, opSl, walk, unpS, bindT, refs, argS, putBack, permA, outsOf, atI, ixN, tru, setJ, iscS, eqoS, eqoR, putX, popJ, c4, c5]
  exact (st_nx s10).trans ((st_nx s11).trans (st_rt s12))
theorem s_right {fu n : Nat} {own p1 : Int} (h : Pot 0 own p1 0) (hf : 8001 ≤ fu) : ∃ ys, evF T fu (n + 10) "_law_right" [.par (potO own p1 0)] = some (.bl true, [ys]) := by
  obtain ⟨o1, r1, t, f, m, hp1, ht, hf5, hm, s0⟩ := right_draw (fu := fu) (n := n) h (by decide) hf
  obtain ⟨ht4, t0, _⟩ := times_ok t ht
  obtain ⟨f1, hf12⟩ := f5_ok f hf5
  have s3 := right_div (F := evF T fu (n + 9)) (fu := fu) hm ht4 hf12 (some (pot o1 p1 r1))
  by_cases z : t.den * f.den % m = 0
  · rw [if_pos z] at s3
    refine ⟨potO o1 p1 r1, ?_⟩
    rw [ev1 (dd := d__law_right) (by kernel_rfl), rt_hd]
    exact fr_rt rfl rfl ((s0 _).trans (st_rt s3)) rfl
  · rw [if_neg z] at s3
    have h1 : t.den % m ≠ 0 := fun y => z (by rw [Nat.mul_mod, y, Nat.zero_mul, Nat.zero_mod])
    have h2 : f.den % m ≠ 0 := fun y => z (by rw [Nat.mul_mod, y, Nat.mul_zero, Nat.zero_mod])
    have t00 := Rat.le_of_lt t0
    obtain ⟨o2, r2, a, b, hp2, ha, hb, s4⟩ := right_two (fu := fu) (n := n + 8) hp1 (by decide) (vi (m : Int)) (some (.val (fr t))) (some (.val (fr f)))
    have s5 := right_small (fu := fu) (n := n + 4) (a := a) (b := b) hm t00 f1 ht4 hf12 h1 h2 ha hb (by omega) (some (pot o2 p1 r2))
    have s6 := right_plain (fu := fu) (n := n + 4) (a := a) (b := b) t00 f1 ht4 hf12 ha hb (some (pot o2 p1 r2)) (vi (m : Int)) (some (.val (.lst [.int (thR t f a m : Int), .int (thR t f b m : Int), .int (thR t f (a + b) m : Int)])))
    have s7 := right_same (fu := fu) (n := n + 7) (a := a) (b := b) hm t00 f1 h1 h2 (some (pot o2 p1 r2)) (some (.val (fr t))) (some (.val (fr f))) (vi (a : Int)) (vi (b : Int))
    have s8 := right_times (fu := fu) (n := n + 6) (a := a) (b := b) ht4 hf12 ha hb hf (some (pot o2 p1 r2)) (vi (m : Int)) (some (.val (.lst [.int (thR t f a m : Int), .int (thR t f b m : Int), .int (thR t f (a + b) m : Int)]))) (some (.val (fr f))) (vi (a : Int)) (vi (b : Int))
    obtain ⟨o9, r9, k, hp9, hk, s9⟩ := right_many (fu := fu) (n := n + 7) hp2 (by decide) (vi (m : Int)) (some (.val (.lst [.int (thR t f a m : Int), .int (thR t f b m : Int), .int (thR t f (a + b) m : Int)]))) (some (.val (.lst [fr (t * f ^ a), fr (t * f ^ b), fr (t * f ^ (a + b))]))) (some (.val (fr t))) (some (.val (fr f))) (vi (a : Int)) (vi (b : Int))
    have s10 := right_end (fu := fu) (n := n + 4) (k := k) hm t00 f1 ht4 hf12 h1 h2 hk (by omega) (some (pot o9 p1 r9)) (some (.val (.lst [.int (thR t f a m : Int), .int (thR t f b m : Int), .int (thR t f (a + b) m : Int)]))) (some (.val (.lst [fr (t * f ^ a), fr (t * f ^ b), fr (t * f ^ (a + b))]))) (vi (a : Int)) (vi (b : Int))
    refine ⟨potO o9 p1 r9, ?_⟩
    rw [ev1 (dd := d__law_right) (by kernel_rfl), rt_hd]
    exact fr_rt rfl rfl ((s0 _).trans ((st_nx s3).trans ((st_nx s4).trans ((st_nx s5).trans ((st_nx s6).trans ((st_nx s7).trans ((st_nx s8).trans ((st_nx s9).trans s10)))))))) rfl
end L16
namespace L16
open PySem L2 Mn TL
theorem math (ns : List Int) (hl : ns.length ≤ 63) : evF T 100000 12 "law" [.val (.scr ns)] = some (.bl true, []) := by
  obtain ⟨m, hm, ec⟩ := s_cells (fu := 100000) (n := 10) hl
  have cell : ∀ i : Nat, i < 1000 → ∃ own p1 ys, evF T 100000 11 "_law_pot" [.val (.scr ns), .val (.int i)] = some (.lst (potO own p1 0), []) ∧ evF T 100000 11 "_law_right" [.par (potO own p1 0)] = some (.bl true, [ys]) := fun i hi => by
    obtain ⟨own, p1, hp, e1⟩ := s_pot (fu := 100000) (n := 10) (ns := ns) hi
    obtain ⟨ys, e2⟩ := s_right (fu := 100000) (n := 11 - 10) hp (by decide)
    exact ⟨own, p1, ys, e1, e2⟩
  obtain ⟨o0, q0, y0, a0, b0⟩ := cell 0 (by decide)
  obtain ⟨o1, q1, y1, a1, b1⟩ := cell 1 (by decide)
  rw [ev1 (dd := d_law) (by kernel_rfl)]
  unfold d_law
  have cs : m = 0 ∨ m = 1 ∨ m = 2 := by omega
  rcases cs with rfl | rfl | rfl
  · have r : ran 0 = [] := rfl
    rw [r] at ec
    simp [evE, evT, evL, evA, evO, evAr, evS, evD, putS, peek, mutS, setM, opB, opC, opF, opIx, opSl, walk, unpS, bindT, refs, argS, putBack, permA, outsOf, atI, ixN, tru, setJ, iscS, eqoS, eqoR, putX, popJ, ec, compL, lim, boolsD]
  · have r : ran 1 = [.int 0] := rfl
    rw [r] at ec
    simp [evE, evT, evL, evA, evO, evAr, evS, evD, putS, peek, mutS, setM, opB, opC, opF, opIx, opSl, walk, unpS, bindT, refs, argS, putBack, permA, outsOf, atI, ixN, tru, setJ, iscS, eqoS, eqoR, putX, popJ] at a0
    simp [evE, evT, evL, evA, evO, evAr, evS, evD, putS, peek, mutS, setM, opB, opC, opF, opIx, opSl, walk, unpS, bindT, refs, argS, putBack, permA, outsOf, atI, ixN, tru, setJ, iscS, eqoS, eqoR, putX, popJ, ec, compL, wipeE, backE, lim, boolsD, a0, b0]
  · have r : ran 2 = [.int 0, .int 1] := rfl
    rw [r] at ec
    simp [evE, evT, evL, evA, evO, evAr, evS, evD, putS, peek, mutS, setM, opB, opC, opF, opIx, opSl, walk, unpS, bindT, refs, argS, putBack, permA, outsOf, atI, ixN, tru, setJ, iscS, eqoS, eqoR, putX, popJ] at a0 a1
    simp [evE, evT, evL, evA, evO, evAr, evS, evD, putS, peek, mutS, setM, opB, opC, opF, opIx, opSl, walk, unpS, bindT, refs, argS, putBack, permA, outsOf, atI, ixN, tru, setJ, iscS, eqoS, eqoR, putX, popJ, ec, compL, wipeE, backE, lim, boolsD, a0, b0, a1, b1]
end L16
open L16 Mn L2
open PySem PySem.W PyProof.Rows in
set_option maxHeartbeats 0 in
theorem PySem.Challenge.cw_crewclocks_k16_whole_flashes_to_and_fro_holds : PySem.Challenge.rw_crewclocks_k16_whole_flashes_to_and_fro.Holds := by
  w_on; o_law; k_head; (case hw => w_witness2)
  k_fill
  refine Mn.walkG (l := PySem.Challenge.rw_crewclocks_k16_whole_flashes_to_and_fro) (n := 63) (k := 25) (x := "script") (sp := fun w => spF _ (evF T 100000 12) "law" 1) rfl (by decide) rfl ⟨rfl, by decide, by decide⟩ (fun w h Y => PySem.W.kIn_of Y) ?F (fun w H a ns hl ho hs => sp_law (math ns hl) ho hs)
  case F =>
    intro w mg fa h KX Gm hmg
    obtain e__wall : ∃ fa, FAt _ "_wall" (topS 1) fa := by
      refine' FAt.mk' (f := "_wall") (st := topS 1) KX ?a ?l ?c ?k
      (case a => k_is); (case l => k_is); (case c => k_is); (case k => k_is)
    obtain e_is_plain_integer : ∃ fa, FAt _ "is_plain_integer" (topS 13) fa := by
      refine' FAt.mk' (f := "is_plain_integer") (st := topS 13) KX ?a ?l ?c ?k
      (case a => k_is); (case l => k_is); (case c => k_is); (case k => k_is)
    obtain e_is_fraction : ∃ fa, FAt _ "is_fraction" (topS 14) fa := by
      refine' FAt.mk' (f := "is_fraction") (st := topS 14) KX ?a ?l ?c ?k
      (case a => k_is); (case l => k_is); (case c => k_is); (case k => k_is)
    obtain e_is_time : ∃ fa, FAt _ "is_time" (topS 15) fa := by
      refine' FAt.mk' (f := "is_time") (st := topS 15) KX ?a ?l ?c ?k
      (case a => k_is); (case l => k_is); (case c => k_is); (case k => k_is)
    obtain e_in_least_terms : ∃ fa, FAt _ "in_least_terms" (topS 16) fa := by
      refine' FAt.mk' (f := "in_least_terms") (st := topS 16) KX ?a ?l ?c ?k
      (case a => k_is); (case l => k_is); (case c => k_is); (case k => k_is)
    obtain e_added : ∃ fa, FAt _ "added" (topS 17) fa := by
      refine' FAt.mk' (f := "added") (st := topS 17) KX ?a ?l ?c ?k
      (case a => k_is); (case l => k_is); (case c => k_is); (case k => k_is)
    obtain e_subtracted : ∃ fa, FAt _ "subtracted" (topS 18) fa := by
      refine' FAt.mk' (f := "subtracted") (st := topS 18) KX ?a ?l ?c ?k
      (case a => k_is); (case l => k_is); (case c => k_is); (case k => k_is)
    obtain e_multiplied : ∃ fa, FAt _ "multiplied" (topS 19) fa := by
      refine' FAt.mk' (f := "multiplied") (st := topS 19) KX ?a ?l ?c ?k
      (case a => k_is); (case l => k_is); (case c => k_is); (case k => k_is)
    obtain e_divided : ∃ fa, FAt _ "divided" (topS 20) fa := by
      refine' FAt.mk' (f := "divided") (st := topS 20) KX ?a ?l ?c ?k
      (case a => k_is); (case l => k_is); (case c => k_is); (case k => k_is)
    obtain e_is_less : ∃ fa, FAt _ "is_less" (topS 21) fa := by
      refine' FAt.mk' (f := "is_less") (st := topS 21) KX ?a ?l ?c ?k
      (case a => k_is); (case l => k_is); (case c => k_is); (case k => k_is)
    obtain e_is_integer_text : ∃ fa, FAt _ "is_integer_text" (topS 22) fa := by
      refine' FAt.mk' (f := "is_integer_text") (st := topS 22) KX ?a ?l ?c ?k
      (case a => k_is); (case l => k_is); (case c => k_is); (case k => k_is)
    obtain e_read_fraction : ∃ fa, FAt _ "read_fraction" (topS 23) fa := by
      refine' FAt.mk' (f := "read_fraction") (st := topS 23) KX ?a ?l ?c ?k
      (case a => k_is); (case l => k_is); (case c => k_is); (case k => k_is)
    obtain e_read_above_zero : ∃ fa, FAt _ "read_above_zero" (topS 24) fa := by
      refine' FAt.mk' (f := "read_above_zero") (st := topS 24) KX ?a ?l ?c ?k
      (case a => k_is); (case l => k_is); (case c => k_is); (case k => k_is)
    obtain e_inverse : ∃ fa, FAt _ "inverse" (topS 25) fa := by
      refine' FAt.mk' (f := "inverse") (st := topS 25) KX ?a ?l ?c ?k
      (case a => k_is); (case l => k_is); (case c => k_is); (case k => k_is)
    obtain e_is_event : ∃ fa, FAt _ "is_event" (topS 27) fa := by
      refine' FAt.mk' (f := "is_event") (st := topS 27) KX ?a ?l ?c ?k
      (case a => k_is); (case l => k_is); (case c => k_is); (case k => k_is)
    obtain e_check_event : ∃ fa, FAt _ "check_event" (topS 28) fa := by
      refine' FAt.mk' (f := "check_event") (st := topS 28) KX ?a ?l ?c ?k
      (case a => k_is); (case l => k_is); (case c => k_is); (case k => k_is)
    obtain e_flown : ∃ fa, FAt _ "flown" (topS 29) fa := by
      refine' FAt.mk' (f := "flown") (st := topS 29) KX ?a ?l ?c ?k
      (case a => k_is); (case l => k_is); (case c => k_is); (case k => k_is)
    obtain e_last_stop : ∃ fa, FAt _ "last_stop" (topS 31) fa := by
      refine' FAt.mk' (f := "last_stop") (st := topS 31) KX ?a ?l ?c ?k
      (case a => k_is); (case l => k_is); (case c => k_is); (case k => k_is)
    obtain e_place_at : ∃ fa, FAt _ "place_at" (topS 32) fa := by
      refine' FAt.mk' (f := "place_at") (st := topS 32) KX ?a ?l ?c ?k
      (case a => k_is); (case l => k_is); (case c => k_is); (case k => k_is)
    obtain e_rate : ∃ fa, FAt _ "rate" (topS 33) fa := by
      refine' FAt.mk' (f := "rate") (st := topS 33) KX ?a ?l ?c ?k
      (case a => k_is); (case l => k_is); (case c => k_is); (case k => k_is)
    obtain e_time_at : ∃ fa, FAt _ "time_at" (topS 34) fa := by
      refine' FAt.mk' (f := "time_at") (st := topS 34) KX ?a ?l ?c ?k
      (case a => k_is); (case l => k_is); (case c => k_is); (case k => k_is)
    obtain e_hearing : ∃ fa, FAt _ "hearing" (topS 35) fa := by
      refine' FAt.mk' (f := "hearing") (st := topS 35) KX ?a ?l ?c ?k
      (case a => k_is); (case l => k_is); (case c => k_is); (case k => k_is)
    obtain e_heard : ∃ fa, FAt _ "heard" (topS 37) fa := by
      refine' FAt.mk' (f := "heard") (st := topS 37) KX ?a ?l ?c ?k
      (case a => k_is); (case l => k_is); (case c => k_is); (case k => k_is)
    obtain e_check_throw : ∃ fa, FAt _ "check_throw" (topS 38) fa := by
      refine' FAt.mk' (f := "check_throw") (st := topS 38) KX ?a ?l ?c ?k
      (case a => k_is); (case l => k_is); (case c => k_is); (case k => k_is)
    obtain e_thrown_plain : ∃ fa, FAt _ "thrown_plain" (topS 39) fa := by
      refine' FAt.mk' (f := "thrown_plain") (st := topS 39) KX ?a ?l ?c ?k
      (case a => k_is); (case l => k_is); (case c => k_is); (case k => k_is)
    obtain e_thrown : ∃ fa, FAt _ "thrown" (topS 40) fa := by
      refine' FAt.mk' (f := "thrown") (st := topS 40) KX ?a ?l ?c ?k
      (case a => k_is); (case l => k_is); (case c => k_is); (case k => k_is)
    obtain e_is_modulus : ∃ fa, FAt _ "is_modulus" (topS 41) fa := by
      refine' FAt.mk' (f := "is_modulus") (st := topS 41) KX ?a ?l ?c ?k
      (case a => k_is); (case l => k_is); (case c => k_is); (case k => k_is)
    obtain e_power : ∃ fa, FAt _ "power" (topS 42) fa := by
      refine' FAt.mk' (f := "power") (st := topS 42) KX ?a ?l ?c ?k
      (case a => k_is); (case l => k_is); (case c => k_is); (case k => k_is)
    obtain e_read_flight : ∃ fa, FAt _ "read_flight" (topS 45) fa := by
      refine' FAt.mk' (f := "read_flight") (st := topS 45) KX ?a ?l ?c ?k
      (case a => k_is); (case l => k_is); (case c => k_is); (case k => k_is)
    obtain e_read_first : ∃ fa, FAt _ "read_first" (topS 46) fa := by
      refine' FAt.mk' (f := "read_first") (st := topS 46) KX ?a ?l ?c ?k
      (case a => k_is); (case l => k_is); (case c => k_is); (case k => k_is)
    obtain e_read_step : ∃ fa, FAt _ "read_step" (topS 47) fa := by
      refine' FAt.mk' (f := "read_step") (st := topS 47) KX ?a ?l ?c ?k
      (case a => k_is); (case l => k_is); (case c => k_is); (case k => k_is)
    obtain e_stops_of : ∃ fa, FAt _ "stops_of" (topS 48) fa := by
      refine' FAt.mk' (f := "stops_of") (st := topS 48) KX ?a ?l ?c ?k
      (case a => k_is); (case l => k_is); (case c => k_is); (case k => k_is)
    obtain e_pieces_of : ∃ fa, FAt _ "pieces_of" (topS 49) fa := by
      refine' FAt.mk' (f := "pieces_of") (st := topS 49) KX ?a ?l ?c ?k
      (case a => k_is); (case l => k_is); (case c => k_is); (case k => k_is)
    obtain e_check_time : ∃ fa, FAt _ "check_time" (topS 50) fa := by
      refine' FAt.mk' (f := "check_time") (st := topS 50) KX ?a ?l ?c ?k
      (case a => k_is); (case l => k_is); (case c => k_is); (case k => k_is)
    obtain e__law_pot : ∃ fa, FAt _ "_law_pot" (topS 52) fa := by
      refine' FAt.mk' (f := "_law_pot") (st := topS 52) KX ?a ?l ?c ?k
      (case a => k_is); (case l => k_is); (case c => k_is); (case k => k_is)
    obtain e__law_take : ∃ fa, FAt _ "_law_take" (topS 53) fa := by
      refine' FAt.mk' (f := "_law_take") (st := topS 53) KX ?a ?l ?c ?k
      (case a => k_is); (case l => k_is); (case c => k_is); (case k => k_is)
    obtain e__law_of : ∃ fa, FAt _ "_law_of" (topS 54) fa := by
      refine' FAt.mk' (f := "_law_of") (st := topS 54) KX ?a ?l ?c ?k
      (case a => k_is); (case l => k_is); (case c => k_is); (case k => k_is)
    obtain e__law_cells : ∃ fa, FAt _ "_law_cells" (topS 55) fa := by
      refine' FAt.mk' (f := "_law_cells") (st := topS 55) KX ?a ?l ?c ?k
      (case a => k_is); (case l => k_is); (case c => k_is); (case k => k_is)
    obtain e__law_is_int : ∃ fa, FAt _ "_law_is_int" (topS 56) fa := by
      refine' FAt.mk' (f := "_law_is_int") (st := topS 56) KX ?a ?l ?c ?k
      (case a => k_is); (case l => k_is); (case c => k_is); (case k => k_is)
    obtain e__law_frac_common : ∃ fa, FAt _ "_law_frac_common" (topS 57) fa := by
      refine' FAt.mk' (f := "_law_frac_common") (st := topS 57) KX ?a ?l ?c ?k
      (case a => k_is); (case l => k_is); (case c => k_is); (case k => k_is)
    obtain e__law_frac : ∃ fa, FAt _ "_law_frac" (topS 58) fa := by
      refine' FAt.mk' (f := "_law_frac") (st := topS 58) KX ?a ?l ?c ?k
      (case a => k_is); (case l => k_is); (case c => k_is); (case k => k_is)
    obtain e__law_frac_times : ∃ fa, FAt _ "_law_frac_times" (topS 59) fa := by
      refine' FAt.mk' (f := "_law_frac_times") (st := topS 59) KX ?a ?l ?c ?k
      (case a => k_is); (case l => k_is); (case c => k_is); (case k => k_is)
    obtain e__law_frac_over : ∃ fa, FAt _ "_law_frac_over" (topS 60) fa := by
      refine' FAt.mk' (f := "_law_frac_over") (st := topS 60) KX ?a ?l ?c ?k
      (case a => k_is); (case l => k_is); (case c => k_is); (case k => k_is)
    obtain e__law_frac_is_less : ∃ fa, FAt _ "_law_frac_is_less" (topS 61) fa := by
      refine' FAt.mk' (f := "_law_frac_is_less") (st := topS 61) KX ?a ?l ?c ?k
      (case a => k_is); (case l => k_is); (case c => k_is); (case k => k_is)
    obtain e__law_frac_text : ∃ fa, FAt _ "_law_frac_text" (topS 62) fa := by
      refine' FAt.mk' (f := "_law_frac_text") (st := topS 62) KX ?a ?l ?c ?k
      (case a => k_is); (case l => k_is); (case c => k_is); (case k => k_is)
    obtain e__law_frac_drawn : ∃ fa, FAt _ "_law_frac_drawn" (topS 63) fa := by
      refine' FAt.mk' (f := "_law_frac_drawn") (st := topS 63) KX ?a ?l ?c ?k
      (case a => k_is); (case l => k_is); (case c => k_is); (case k => k_is)
    obtain e__law_frac_pace : ∃ fa, FAt _ "_law_frac_pace" (topS 64) fa := by
      refine' FAt.mk' (f := "_law_frac_pace") (st := topS 64) KX ?a ?l ?c ?k
      (case a => k_is); (case l => k_is); (case c => k_is); (case k => k_is)
    obtain e__law_frac_time : ∃ fa, FAt _ "_law_frac_time" (topS 65) fa := by
      refine' FAt.mk' (f := "_law_frac_time") (st := topS 65) KX ?a ?l ?c ?k
      (case a => k_is); (case l => k_is); (case c => k_is); (case k => k_is)
    obtain e__law_event_drawn : ∃ fa, FAt _ "_law_event_drawn" (topS 66) fa := by
      refine' FAt.mk' (f := "_law_event_drawn") (st := topS 66) KX ?a ?l ?c ?k
      (case a => k_is); (case l => k_is); (case c => k_is); (case k => k_is)
    obtain e__law_event_text : ∃ fa, FAt _ "_law_event_text" (topS 67) fa := by
      refine' FAt.mk' (f := "_law_event_text") (st := topS 67) KX ?a ?l ?c ?k
      (case a => k_is); (case l => k_is); (case c => k_is); (case k => k_is)
    obtain e__law_power : ∃ fa, FAt _ "_law_power" (topS 68) fa := by
      refine' FAt.mk' (f := "_law_power") (st := topS 68) KX ?a ?l ?c ?k
      (case a => k_is); (case l => k_is); (case c => k_is); (case k => k_is)
    obtain e__law_remainder : ∃ fa, FAt _ "_law_remainder" (topS 69) fa := by
      refine' FAt.mk' (f := "_law_remainder") (st := topS 69) KX ?a ?l ?c ?k
      (case a => k_is); (case l => k_is); (case c => k_is); (case k => k_is)
    obtain e__law_is_thrown_right : ∃ fa, FAt _ "_law_is_thrown_right" (topS 70) fa := by
      refine' FAt.mk' (f := "_law_is_thrown_right") (st := topS 70) KX ?a ?l ?c ?k
      (case a => k_is); (case l => k_is); (case c => k_is); (case k => k_is)
    obtain e__law_right : ∃ fa, FAt _ "_law_right" (topS 71) fa := by
      refine' FAt.mk' (f := "_law_right") (st := topS 71) KX ?a ?l ?c ?k
      (case a => k_is); (case l => k_is); (case c => k_is); (case k => k_is)
    obtain e_law : ∃ fa, FAt _ "law" (topS 72) fa := by
      refine' FAt.mk' (f := "law") (st := topS 72) KX ?a ?l ?c ?k
      (case a => k_is); (case l => k_is); (case c => k_is); (case k => k_is)
    obtain c_ONE : CAt2 _ "ONE" 1 1 := by
      refine' CAt2.mk' KX ?a ?l
      (case a => k_is); (case l => k_is)
    obtain c_ZERO : CAt2 _ "ZERO" 0 1 := by
      refine' CAt2.mk' KX ?a ?l
      (case a => k_is); (case l => k_is)
    obtain i_Flight : (∃ Cc fa, PySem.W.nsIn _ mainGlobals "Flight" = some (some (.ref Cc)) ∧ Mk _ Cc fa ∧ FAtC _ "__init__" "Flight.__init__" (subS 44 0) fa) := by
      refine' IAt.mk' (K := _) KX ?a ?mk ?f1 ?i1 ?kc ?l ?c ?k
      (case a => k_is); (case mk => k_is); (case f1 => k_is); (case i1 => k_is); (case kc => k_is); (case l => k_is); (case c => k_is); (case k => k_is)
    obtain o_Flight_at : (∃ Cc fa, PySem.W.nsIn _ mainGlobals "Flight" = some (some (.ref Cc)) ∧ Cls _ Cc ∧ Meth _ Cc "at" fa ∧ FAtC _ "at" "Flight.at" (subS 44 3) fa) := by
      refine' MAt.mk' (K := _) KX ?a ?pg ?hd ?po ?sa ?f1 ?i1 ?l ?c ?k
      (case a => k_is); (case pg => k_is); (case hd => k_is); (case po => k_is); (case sa => k_is); (case f1 => k_is); (case i1 => k_is); (case l => k_is); (case c => k_is); (case k => k_is)
    obtain a_Flight_goal : (∃ Cc, PySem.W.nsIn _ mainGlobals "Flight" = some (some (.ref Cc)) ∧ Cls _ Cc ∧ NoAttr _ Cc "goal") := by
      refine' AAt.mk' (K := _) KX ?a ?pg ?hd ?po ?sa ?n
      (case a => k_is); (case pg => k_is); (case hd => k_is); (case po => k_is); (case sa => k_is); (case n => k_is)
    obtain a_Flight_pace : (∃ Cc, PySem.W.nsIn _ mainGlobals "Flight" = some (some (.ref Cc)) ∧ Cls _ Cc ∧ NoAttr _ Cc "pace") := by
      refine' AAt.mk' (K := _) KX ?a ?pg ?hd ?po ?sa ?n
      (case a => k_is); (case pg => k_is); (case hd => k_is); (case po => k_is); (case sa => k_is); (case n => k_is)
    obtain a_Flight_pieces : (∃ Cc, PySem.W.nsIn _ mainGlobals "Flight" = some (some (.ref Cc)) ∧ Cls _ Cc ∧ NoAttr _ Cc "pieces") := by
      refine' AAt.mk' (K := _) KX ?a ?pg ?hd ?po ?sa ?n
      (case a => k_is); (case pg => k_is); (case hd => k_is); (case po => k_is); (case sa => k_is); (case n => k_is)
    obtain a_Flight_start : (∃ Cc, PySem.W.nsIn _ mainGlobals "Flight" = some (some (.ref Cc)) ∧ Cls _ Cc ∧ NoAttr _ Cc "start") := by
      refine' AAt.mk' (K := _) KX ?a ?pg ?hd ?po ?sa ?n
      (case a => k_is); (case pg => k_is); (case hd => k_is); (case po => k_is); (case sa => k_is); (case n => k_is)
    obtain a_Flight_steps : (∃ Cc, PySem.W.nsIn _ mainGlobals "Flight" = some (some (.ref Cc)) ∧ Cls _ Cc ∧ NoAttr _ Cc "steps") := by
      refine' AAt.mk' (K := _) KX ?a ?pg ?hd ?po ?sa ?n
      (case a => k_is); (case pg => k_is); (case hd => k_is); (case po => k_is); (case sa => k_is); (case n => k_is)
    obtain a_Flight_stops : (∃ Cc, PySem.W.nsIn _ mainGlobals "Flight" = some (some (.ref Cc)) ∧ Cls _ Cc ∧ NoAttr _ Cc "stops") := by
      refine' AAt.mk' (K := _) KX ?a ?pg ?hd ?po ?sa ?n
      (case a => k_is); (case pg => k_is); (case hd => k_is); (case po => k_is); (case sa => k_is); (case n => k_is)
    obtain a_Flight_text : (∃ Cc, PySem.W.nsIn _ mainGlobals "Flight" = some (some (.ref Cc)) ∧ Cls _ Cc ∧ NoAttr _ Cc "text") := by
      refine' AAt.mk' (K := _) KX ?a ?pg ?hd ?po ?sa ?n
      (case a => k_is); (case pg => k_is); (case hd => k_is); (case po => k_is); (case sa => k_is); (case n => k_is)
    obtain a_Flight_whole : (∃ Cc, PySem.W.nsIn _ mainGlobals "Flight" = some (some (.ref Cc)) ∧ Cls _ Cc ∧ NoAttr _ Cc "whole") := by
      refine' AAt.mk' (K := _) KX ?a ?pg ?hd ?po ?sa ?n
      (case a => k_is); (case pg => k_is); (case hd => k_is); (case po => k_is); (case sa => k_is); (case n => k_is)
    have M : Mod _ mg G T 100000 := mod_mk KX Gm e__wall e_is_plain_integer e_is_fraction e_is_time e_in_least_terms e_added e_subtracted e_multiplied e_divided e_is_less e_is_integer_text e_read_fraction e_read_above_zero e_inverse e_is_event e_check_event e_flown e_last_stop e_place_at e_rate e_time_at e_hearing e_heard e_check_throw e_thrown_plain e_thrown e_is_modulus e_power e_read_flight e_read_first e_read_step e_stops_of e_pieces_of e_check_time e__law_pot e__law_take e__law_of e__law_cells e__law_is_int e__law_frac_common e__law_frac e__law_frac_times e__law_frac_over e__law_frac_is_less e__law_frac_text e__law_frac_drawn e__law_frac_pace e__law_frac_time e__law_event_drawn e__law_event_text e__law_power e__law_remainder e__law_is_thrown_right e__law_right e_law (by k_is) (by k_is) (by k_is) (by k_is) (by k_is) (by k_is) (by k_is) (by k_is) (by k_is) (by k_is) (by k_is) (by k_is) (by k_is) (by k_is) (by k_is) (by k_is) (by k_is) c_ONE c_ZERO i_Flight o_Flight_at a_Flight_goal a_Flight_pace a_Flight_pieces a_Flight_start a_Flight_steps a_Flight_stops a_Flight_text a_Flight_whole
    exact law_fin (dd := d_law) (lv := 11) M KX Gm e_law (by kernel_rfl) rfl sc_law ck_law rfl (fun _ _ _ _ _ _ us hl => match us, hl with | [_], _ => rfl) hmg
