import PyProof.Rows.All
import Wide.All
import OpenK.AllK
import Wide.FinOn
import HandS.ForMost
import HandS.Exc
import HandS.TryOnly
import HandS.ExcOwn
import HandS.ExcInit
import HandS.WordsExc
import HandS.Wide
import HandS.IsInst
import HandS.Flow
import HandS.Zip
import HandS.Style
import HandS.Lambda
import HandS.HotCalls
import HandS.More
import HandS.Dict
import HandS.DictTup
import HandS.Deep
import PyProof.P3In
import HandS.DictComp
import HandS.Walk
import KE.GoesEnum
import HandS.CallSlots
import HandS.ExcField
import HandS.ExcIs
import KE.KExcIs
import HandS.OwnEq
import HandS.SlotsOwn
import HandS.SetFor
import HandS.Strs
import KE.SortKeyHeap
import KE.KRevSl
import PyProof.Rows.StrRev
import HandS.SortKw
import HandS.Conv
import HandS.IterVal
import OpenK.KWalk
import PyProof.InstNe
import KE.KOwnIter
import HandS.Nested
import HandS.EndTab
import HandS.HeadHook4
import HandS.HeadWalk
import HandS.Head2
import KE.KStateDown
import Lean
import PySem.Challenge.RW_toldpaths_k80_hands_refused
set_option Elab.async false
set_option linter.all false
set_option autoImplicit false
set_option maxRecDepth 100000
namespace XV
open PySem

def mkS (l : List Nat) : Str := ⟨l.toArray⟩

inductive D where
  | non | bl (b : Bool) | int (i : Int) | str (x : List Nat)
  | tup (ds : List D) | lst (ds : List D)
  | dct (ks : List L2.Key) (ds : List D)
  | dctT (ks : List (List L2.Key)) (ds : List D)
  | err (c : Nat) (ks : List Str) (ds : List D)
  | obj (c : Nat) (ks : List Str) (ds : List D)
  | ref (c : Nat)
  | scr (ns : List Int)

inductive C where
  | lst (ds : List D) | dct (ks : List L2.Key) (ds : List D) | ins (c : Nat) (ks : List Str) (ds : List D)

inductive SV where
  | un | cb | d (x : D) | own (ds : List D) | ownD (ks : List L2.Key) (ds : List D) | ownI (c : Nat) (ks : List Str) (ds : List D)

inductive Out (α : Type) where
  | ok (a : α) (cs : List C) | exc (c : Nat) (ds : List D) (cs : List C) | bad
def Out.bind {α β : Type} (o : Out α) (f : α → List C → Out β) : Out β :=
  match o with
  | .ok a cs => f a cs
  | .exc c ds cs => .exc c ds cs
  | .bad => .bad
def ofO {α : Type} (o : Option α) (cs : List C) : Out α :=
  match o with
  | some a => .ok a cs
  | none => .bad
@[simp] theorem Out.bind_ok {α β : Type} (a : α) (cs : List C) (f : α → List C → Out β) : (Out.ok a cs).bind f = f a cs := rfl
@[simp] theorem Out.bind_exc {α β : Type} (c : Nat) (ds : List D) (cs : List C) (f : α → List C → Out β) : (Out.exc c ds cs).bind f = .exc c ds cs := rfl
@[simp] theorem Out.bind_bad {α β : Type} (f : α → List C → Out β) : (Out.bad).bind f = .bad := rfl
@[simp] theorem ofO_some {α : Type} (a : α) (cs : List C) : ofO (some a) cs = .ok a cs := rfl
@[simp] theorem ofO_none {α : Type} (cs : List C) : ofO (none : Option α) cs = .bad := rfl

inductive Bop where
  | add | sub | mul | mod | fdiv | pow | band | bor | bxor | shl | shr
  deriving DecidableEq
inductive Bi where
  | len | list | tuple | all | any | int | str | sorted | sum | min | max | lenset | sortset | sortlen
  deriving DecidableEq
inductive Mt where
  | join | upper | lower | swapcase | get1 | get2 | split | startswith | bitlen | keys | values | index | count
  deriving DecidableEq
inductive Ty where
  | b (n : String) | c (k : Nat)
  deriving DecidableEq
inductive Tg where
  | nm (i : Nat) | tup (gs : List Tg)

mutual
inductive T where
  | k (d : D) | v (i : Nat) | pk (i : Nat) | g (n : Nat)
  | tup (ts : Ts) | lst (ts : Ts) | lstC (ts : Ts)
  | bin (op : Bop) (a b : T) | neg (a : T) | not (a : T) | and (a b : T) | or (a b : T)
  | cmp (op : CmpOp) (a b : T) | cmp2 (op op' : CmpOp) (a b c : T)
  | ife (c a b : T)
  | ix (a i : T) | slc (a : T) (lo hi : Cd)
  | call (f : Nat) (ts : Ts)
  | bi (n : Bi) (ts : Ts)
  | mt (m : Mt) (o : T) (ts : Ts)
  | isi (a : T) (tys : List String)
  | comp (own : List Nat) (tg : Tg) (it : I) (cond : Cd) (e : T)
  | tried (g : Nat) (e : T)
  | fld (o : T) (f : Str)
  | meth (o : T) (m : Str) (ts : Ts)
  | new (c : Nat) (ts : Ts)
  | lenM (o : T)
  | lstE (t : T)
  | pop (o : T)
  | srt (t : T)
  | rev (t : T)
  | srs (t : T)
  | srk (t : T)
  | tupE (t : T)
  | popAt (o k : T)
  | rngL (t : T)
  | isC (t : T) (c : Nat)
  | eqO (ne : Bool) (a b : T)
  | dc (own : List Nat) (tg : Tg) (it : I) (cond : Cd) (k e : T)
  | dcT (own : List Nat) (tg : Tg) (it : I) (cond : Cd) (ks : Ts) (e : T)
  | sum (t : T)
  | dc2 (own : List Nat) (tg : Tg) (it : I) (vs1 : List Nat) (tg1 : Tg) (it1 : I) (k e : T)
  | lsK (t : T)
  | cbk (i : Nat) (ts : Ts)
  | callK (f : Nat) (ts : Ts) (own : List Nat) (body : T)
  | callP (f : Nat) (ts : Ts) (i : Nat)
  | callF (f : Nat) (ts : Ts) (h : Nat)
  | newE (c : Nat) (f : Str) (t : T)
  | newEK (c : Nat) (f : Str) (t : T)
  | newE0 (c : Nat)
  | fldE (t : T) (c : Nat) (f : Str)
  | isE (t : T) (tbl : List (Nat × Bool))
  | dl (ts : Ts)
inductive Ts where
  | nil | cons (t : T) (ts : Ts)
inductive Cd where
  | no | one (t : T)
inductive I where
  | val (t : T) | rng1 (a : T) | rng2 (a b : T) | enum (t : T) | zip (a b : T) | own (t : T) (c : Nat) (f : Str)
end

inductive Pm where
  | val (t : T) | own (ts : Ts) | ownD | ownE (t : T)
mutual
inductive S where
  | asg (tg : Tg) (e : T)
  | set1 (i : Nat) (p : Pm)
  | par (i j : Nat) (p q : Pm)
  | par3 (i j k : Nat) (p q s : Pm)
  | setIx (o i e : T)
  | app (i : Nat) (e : T)
  | appC (o e : T)
  | setOwn (i : Nat) (k e : T)
  | augOwn (i : Nat) (k : T) (op : Bop) (e : T)
  | aug (i : Nat) (op : Bop) (e : T)
  | expr (e : T)
  | ret (e : T)
  | retN
  | iff (c : T) (a b : Ss)
  | whl (c : T) (b : Ss)
  | forr (it : I) (tg : Tg) (b : Ss)
  | brk | cnt | pass
  | raise (c : Nat) (ts : Ts)
  | frz (i : Nat)
  | setF (f : Str) (e : T)
  | nvr
inductive Ss where
  | nil | cons (s : S) (ss : Ss)
end

def LIM : Nat := 1000000
def lim {α : Type} (n : Nat) (x : α) : Option α := if n ≤ LIM then some x else none

mutual
def D.eqb : D → D → Bool
  | .non, b => match b with | .non => true | _ => false
  | .bl a, b => match b with | .bl b => decide (a = b) | _ => false
  | .int a, b => match b with | .int b => decide (a = b) | _ => false
  | .str a, b => match b with | .str b => decide (a = b) | _ => false
  | .tup a, b => match b with | .tup b => D.eqbs a b | _ => false
  | .lst a, b => match b with | .lst b => D.eqbs a b | _ => false
  | .dct ks a, b => match b with | .dct ls b => decide (ks = ls) && D.eqbs a b | _ => false
  | .dctT ks a, b => match b with | .dctT ls b => decide (ks = ls) && D.eqbs a b | _ => false
  | .obj c ks a, b => match b with | .obj d ls b => decide (c = d) && (decide (ks = ls) && D.eqbs a b) | _ => false
  | .err c ks a, b => match b with | .err d ls b => decide (c = d) && (decide (ks = ls) && D.eqbs a b) | _ => false
  | .ref a, b => match b with | .ref b => decide (a = b) | _ => false
  | .scr a, b => match b with | .scr b => decide (a = b) | _ => false
def D.eqbs : List D → List D → Bool
  | [], b => match b with | [] => true | _ => false
  | a :: as, b => match b with | b :: bs => D.eqb a b && D.eqbs as bs | _ => false
end
mutual
theorem D.eqb_t : ∀ (a b : D), D.eqb a b = true → a = b
  | .non, b, h => by unfold D.eqb at h; split at h <;> first | rfl | cases h
  | .bl a, b, h => by unfold D.eqb at h; split at h <;> first | (cases (of_decide_eq_true h); rfl) | cases h
  | .int a, b, h => by unfold D.eqb at h; split at h <;> first | (cases (of_decide_eq_true h); rfl) | cases h
  | .str a, b, h => by unfold D.eqb at h; split at h <;> first | (cases (of_decide_eq_true h); rfl) | cases h
  | .tup a, b, h => by unfold D.eqb at h; split at h <;> first | (cases D.eqbs_t _ _ h; rfl) | cases h
  | .lst a, b, h => by unfold D.eqb at h; split at h <;> first | (cases D.eqbs_t _ _ h; rfl) | cases h
  | .dct ks a, b, h => by
    unfold D.eqb at h
    split at h
    · obtain ⟨h1, h2⟩ := Bool.and_eq_true_iff.mp h
      cases (of_decide_eq_true h1); cases D.eqbs_t _ _ h2; rfl
    · cases h
  | .dctT ks a, b, h => by
    unfold D.eqb at h
    split at h
    · obtain ⟨h1, h2⟩ := Bool.and_eq_true_iff.mp h
      cases (of_decide_eq_true h1); cases D.eqbs_t _ _ h2; rfl
    · cases h
  | .obj c ks a, b, h => by
    unfold D.eqb at h
    split at h
    · obtain ⟨h0, h1⟩ := Bool.and_eq_true_iff.mp h
      obtain ⟨h1, h2⟩ := Bool.and_eq_true_iff.mp h1
      cases (of_decide_eq_true h0); cases (of_decide_eq_true h1); cases D.eqbs_t _ _ h2; rfl
    · cases h
  | .err c ks a, b, h => by
    unfold D.eqb at h
    split at h
    · obtain ⟨h0, h1⟩ := Bool.and_eq_true_iff.mp h
      obtain ⟨h1, h2⟩ := Bool.and_eq_true_iff.mp h1
      cases (of_decide_eq_true h0); cases (of_decide_eq_true h1); cases D.eqbs_t _ _ h2; rfl
    · cases h
  | .ref a, b, h => by unfold D.eqb at h; split at h <;> first | (cases (of_decide_eq_true h); rfl) | cases h
  | .scr a, b, h => by unfold D.eqb at h; split at h <;> first | (cases (of_decide_eq_true h); rfl) | cases h
theorem D.eqbs_t : ∀ (a b : List D), D.eqbs a b = true → a = b
  | [], b, h => by unfold D.eqbs at h; split at h <;> first | rfl | cases h
  | a :: as, b, h => by
    unfold D.eqbs at h
    split at h
    · obtain ⟨h1, h2⟩ := Bool.and_eq_true_iff.mp h
      cases D.eqb_t _ _ h1; cases D.eqbs_t _ _ h2; rfl
    · cases h
end
mutual
theorem D.eqb_r : ∀ (a : D), D.eqb a a = true
  | .non => rfl
  | .bl a => by simp [D.eqb]
  | .int a => by simp [D.eqb]
  | .str a => by simp [D.eqb]
  | .tup a => by simp [D.eqb, D.eqbs_r a]
  | .lst a => by simp [D.eqb, D.eqbs_r a]
  | .dct ks a => by simp [D.eqb, D.eqbs_r a]
  | .dctT ks a => by simp [D.eqb, D.eqbs_r a]
  | .obj c ks a => by simp [D.eqb, D.eqbs_r a]
  | .err c ks a => by simp [D.eqb, D.eqbs_r a]
  | .ref a => by simp [D.eqb]
  | .scr a => by simp [D.eqb]
theorem D.eqbs_r : ∀ (a : List D), D.eqbs a a = true
  | [] => rfl
  | a :: as => by simp [D.eqbs, D.eqb_r a, D.eqbs_r as]
end
abbrev Ws := List (Nat × List D)
def okWs : Ws → List C → Bool
  | [], _ => true
  | q :: ws, cs => (match cs[q.1]? with | some (.lst ds) => D.eqbs ds q.2 | _ => false) && okWs ws cs
mutual
def D.py : D → Option PyData
  | .non => some .none
  | .bl b => some (.bool b)
  | .int i => some (.int i)
  | .str x => some (.str (mkS x))
  | .tup ds => (D.pys ds).map .tuple
  | .lst ds => (D.pys ds).map .list
  | .dct _ _ => none
  | .dctT _ _ => none
  | .obj _ _ _ => none
  | .err _ _ _ => none
  | .ref _ => none
  | .scr _ => none
def D.pys : List D → Option (List PyData)
  | [] => some []
  | d :: ds => match d.py, D.pys ds with
    | some x, some xs => some (x :: xs)
    | _, _ => none
end
def top (cs : List C) : D → D
  | .ref c => match cs[c]? with
    | some (.lst ds) => .lst ds
    | some (.dct ks ds) => .dct ks ds
    | _ => .ref c
  | d => d
def flatD : D → Bool
  | .non => true
  | .bl _ => true
  | .int _ => true
  | .str _ => true
  | _ => false
def eqF (a b : D) : Option Bool :=
  match a with
  | .dct ks ds => match b with
    | .dct ls es => if decide (ks = ls) && (D.eqbs ds es && ds.all flatD) then some true else none
    | _ => none
  | _ => none
def eqD (cs : List C) (a b : D) : Option Bool :=
  match (top cs a).py, (top cs b).py with
  | some x, some y => if SeqAt.shaped x && SeqAt.shaped y then some (PyData.eqv x y) else none
  | _, _ => eqF (top cs a) (top cs b)
def D.flat : D → Option L2.V
  | .non => some .non
  | .bl b => some (.bl b)
  | .int i => some (.int i)
  | .str x => some (.str (mkS x))
  | _ => none
def flats : List D → Option (List L2.V)
  | [] => some []
  | d :: ds => match d.flat, flats ds with
    | some x, some xs => some (x :: xs)
    | _, _ => none
def inF (x : D) (ds : List D) : Option Bool :=
  match x.flat, flats ds with
  | some v, some vs => some (L2.inV v vs)
  | _, _ => none
def inP (cs : List C) (x : D) (ds : List D) : Option Bool :=
  match (top cs x).py, D.pys ds with
  | some d, some es => if SeqAt.shaped d && SeqAt.shaped (.list es) then some (es.any fun z => PyData.eqv z d) else none
  | _, _ => none
def inL (cs : List C) (x : D) (ds : List D) : Option Bool :=
  match inF x ds with
  | some b => some b
  | none => inP cs x ds
def keyD : D → Option L2.Key
  | .int i => some (.inl i)
  | .str x => some (.inr (mkS x))
  | _ => none
def keysD : List D → Option (List L2.Key)
  | [] => some []
  | d :: ds => match keyD d, keysD ds with
    | some k, some ks => some (k :: ks)
    | _, _ => none
def keysL (ds : List D) : Option (List L2.Key) := if ds.length ≤ LIM then keysD ds else none
def hasK {κ : Type} [DecidableEq κ] : List κ → κ → Bool
  | k :: ks, x => decide (k = x) || hasK ks x
  | [], _ => false
def getK {κ : Type} [DecidableEq κ] : List κ → List D → κ → Option D
  | k :: ks, d :: ds, x => if k = x then some d else getK ks ds x
  | _, _, _ => none
def setKd {κ α : Type} [DecidableEq κ] : List κ → List α → κ → α → List α
  | k :: ks, d :: ds, x, y => if k = x then y :: ds else d :: setKd ks ds x y
  | _, _, _, _ => []
def putD {κ : Type} [DecidableEq κ] (ks : List κ) (ds : List D) (x : κ) (y : D) : List κ × List D :=
  if hasK ks x then (ks, setKd ks ds x y) else (ks ++ [x], ds ++ [y])
def inD (cs : List C) (x y : D) : Option Bool :=
  match top cs y with
  | .str z => match x with
    | .str [c] => some (decide (c ∈ z))
    | _ => none
  | .lst ds => inL cs x ds
  | .tup ds => inL cs x ds
  | .dct ks _ => (keyD x).map fun k => hasK ks k
  | .dctT ks _ => match x with
    | .tup ds => (keysD ds).map fun k => hasK ks k
    | _ => none
  | _ => none
def intD (f : Int → Int → Option Int) (a b : D) : Option D :=
  match a, b with
  | .int i, .int j => (f i j).map .int
  | _, _ => none
def addD (cs : List C) (a b : D) : Option D :=
  match top cs a, top cs b with
  | .int i, .int j => some (.int (i + j))
  | .str x, .str y => lim (x.length + y.length) (.str (x ++ y))
  | .lst x, .lst y => lim (x.length + y.length) (.lst (x ++ y))
  | _, _ => none
def mulD (cs : List C) (a b : D) : Option D :=
  match top cs a, b with
  | .int i, .int j => if (-(2 ^ 64) < i ∧ i < 2 ^ 64) ∨ (-(2 ^ 64) < j ∧ j < 2 ^ 64) then some (.int (i * j)) else none
  | .lst x, .int k => if 0 ≤ k ∧ k ≤ 1000 then lim (x.length * k.toNat) (.lst ((List.replicate k.toNat x).flatten)) else none
  | .str x, .int k => if 0 ≤ k ∧ k ≤ 1000 then lim (x.length * k.toNat) (.str ((List.replicate k.toNat x).flatten)) else none
  | _, _ => none
def binD (op : Bop) (cs : List C) (a b : D) : Option D :=
  match op with
  | .add => addD cs a b
  | .sub => intD (fun i j => some (i - j)) a b
  | .mul => mulD cs a b
  | .mod => intD (fun i j => if 0 < j then some (i % j) else none) a b
  | .fdiv => intD (fun i j => if 0 < j ∧ j < 1073741824 then some (i / j) else none) a b
  | .pow => intD (fun i j => if 0 ≤ j ∧ j ≤ 1000000 ∧ i.natAbs < 2 ^ 64 then some (i ^ j.toNat) else none) a b
  | .band => intD (fun i j => some (Builtin.bitAnd i j)) a b
  | .bor => intD (fun i j => some (Builtin.bitOr i j)) a b
  | .bxor => intD (fun i j => some (Builtin.bitXor i j)) a b
  | .shl => intD (fun i j => if 0 ≤ j ∧ j ≤ 1000000 ∧ i.natAbs < 2 ^ 64 then some (i * 2 ^ j.toNat) else none) a b
  | .shr => intD (fun i j => if 0 ≤ j then some (i / 2 ^ j.toNat) else none) a b
def iopD (op : Bop) (a b : D) : Option D :=
  match op, a, b with
  | .add, .int i, .int j => some (.int (i + j))
  | .add, .str x, .str y => lim (x.length + y.length) (.str (x ++ y))
  | .sub, .int i, .int j => some (.int (i - j))
  | .bor, .int i, .int j => some (.int (Builtin.bitOr i j))
  | _, _, _ => none
def isD00 : D → Bool
  | .dct [] [] => true
  | _ => false
def cmpD (op : CmpOp) (cs : List C) (a b : D) : Option Bool :=
  match op with
  | .Eq => if isD00 a && isD00 b then some true else eqD cs a b
  | .NotEq => (eqD cs a b).map (!·)
  | .Lt => match a, b with
    | .int i, .int j => some (decide (i < j))
    | .str x, .str y => some (decide (x < y))
    | _, _ => none
  | .LtE => match a, b with
    | .int i, .int j => some (decide (i ≤ j))
    | .str x, .str y => some (!decide (y < x))
    | _, _ => none
  | .Gt => match a, b with
    | .int i, .int j => some (decide (j < i))
    | .str x, .str y => some (decide (y < x))
    | _, _ => none
  | .GtE => match a, b with
    | .int i, .int j => some (decide (j ≤ i))
    | .str x, .str y => some (!decide (x < y))
    | _, _ => none
  | .Is => match b with
    | .non => some (match a with | .non => true | _ => false)
    | .bl k => match a with
      | .bl j => some (j == k)
      | _ => none
    | _ => none
  | .IsNot => match b with
    | .non => some (match a with | .non => false | _ => true)
    | .bl k => match a with
      | .bl j => some (!(j == k))
      | _ => none
    | _ => none
  | .In => inD cs a b
  | .NotIn => (inD cs a b).map (!·)
def truD (cs : List C) (a : D) : Option Bool :=
  match top cs a with
  | .non => some false
  | .bl b => some b
  | .int i => some (i != 0)
  | .str x => if x.length ≤ LIM then some (!x.isEmpty) else none
  | .lst x => some (!x.isEmpty)
  | .tup x => some (!x.isEmpty)
  | .dct _ x => some (!x.isEmpty)
  | _ => none
def ixD (cs : List C) (a i : D) : Option D :=
  match top cs a, i with
  | .lst ds, .int k => L2.atI ds k
  | .tup ds, .int k => L2.atI ds k
  | .str x, .int k => if x.length ≤ LIM then (L2.atI x k).map fun c => .str [c] else none
  | .dct ks ds, x => (keyD x).bind fun k => getK ks ds k
  | .dctT ks ds, .tup es => (keysD es).bind fun k => getK ks ds k
  | _, _ => none
def cutL {α : Type} (xs : List α) (lo hi : Option Int) : List α := (xs.drop (HT.sIx xs.length 0 lo)).take (HT.sIx xs.length xs.length hi - HT.sIx xs.length 0 lo)
def slcD (cs : List C) (a : D) (l h : Option Int) : Option D :=
  match top cs a with
  | .lst ds => some (.lst (cutL ds l h))
  | .scr ns => some (.lst ((cutL ns l h).map .int))
  | .str x => if x.length ≤ LIM then some (.str (cutL x l h)) else none
  | _ => none
def iterD (cs : List C) (a : D) : Option (List D) :=
  match a with
  | .lst ds => some ds
  | .tup ds => some ds
  | .str x => some (x.map fun c => .str [c])
  | _ => none
def iterW (cs : List C) (a : D) : Option (List D × Ws) :=
  match a with
  | .ref c => match cs[c]? with
    | some (.lst ds) => some (ds, [(c, ds)])
    | _ => none
  | a => (iterD cs a).map fun ds => (ds, [])
def D.ints : List D → Option (List Int)
  | [] => some []
  | .int i :: ds => (D.ints ds).map (i :: ·)
  | _ :: _ => none
def D.strs : List D → Option (List (List Nat))
  | [] => some []
  | .str i :: ds => (D.strs ds).map (i :: ·)
  | _ :: _ => none
def insL (x : List Nat) : List (List Nat) → List (List Nat)
  | [] => [x]
  | y :: r => if x < y then x :: y :: r else if x = y then y :: r else y :: insL x r
def srtL : List (List Nat) → List (List Nat)
  | [] => []
  | x :: r => insL x (srtL r)
def insI (x : Int) : List Int → List Int
  | [] => [x]
  | y :: r => if x < y then x :: y :: r else if x = y then y :: r else y :: insI x r
def srtI : List Int → List Int
  | [] => []
  | x :: r => insI x (srtI r)
def srtD (cs : List C) (x : D) : Option D :=
  match top cs x with
  | .str z => if z.length < 64 then some (.lst ((srtL (z.map fun c => [c])).map .str)) else none
  | .lst ds => match D.strs ds with
    | some l => if l.length < 64 then some (.lst ((srtL l).map .str)) else none
    | none => match D.ints ds with
      | some l => if l.length < 64 then some (.lst ((srtI l).map .int)) else none
      | none => none
  | _ => none
def sumD (cs : List C) (x : D) : Option D :=
  match top cs x with
  | .lst ds => (D.ints ds).map fun l => .int l.sum
  | _ => none
def srsD (cs : List C) (x : D) : Option D :=
  match top cs x with
  | .lst ds => match D.strs ds with
    | some l => if l.length < 64 ∧ l.Nodup then some (.lst ((srtL l).map .str)) else none
    | none => none
  | _ => none
def srkD (cs : List C) (x : D) : Option (List D) :=
  match top cs x with
  | .lst ds => match D.strs ds with
    | some l => if l.length ≤ LIM ∧ (∀ x ∈ l, x.length ≤ LIM) then some ((l.mergeSort fun a b => decide (a.length ≤ b.length)).map .str) else none
    | none => none
  | _ => none
def revD (cs : List C) (x : D) : Option D :=
  match top cs x with
  | .str x => if x.length ≤ LIM then some (.str x.reverse) else none
  | .lst ds => some (.lst ds.reverse)
  | _ => none
def tupD (cs : List C) (x : D) : Option D :=
  match top cs x with
  | .lst ds => some (.tup ds)
  | .tup ds => some (.tup ds)
  | _ => none
def rngD : D → Option D
  | .int n => if -1000000 < n ∧ n < 1000000 then some (.lst ((List.range n.toNat).map fun (k : Nat) => D.int (k : Int))) else none
  | _ => none
def popD (cs : List C) (x y : D) : Option (D × List C) :=
  match x, y with
  | .ref c, .int i => match cs[c]? with
    | some (.lst ds) => if 0 ≤ i ∧ i < 1000000 then (ds[i.toNat]?).map fun d => (d, cs.set c (.lst (ds.eraseIdx i.toNat))) else none
    | _ => none
  | _, _ => none
def D.bls : List D → Option (List Bool)
  | [] => some []
  | .bl i :: ds => (D.bls ds).map (i :: ·)
  | _ :: _ => none
def joinL (s : List Nat) : List (List Nat) → List Nat
  | [] => []
  | [x] => x
  | x :: y :: r => x ++ s ++ joinL s (y :: r)
def tyN (cs : List C) (a : D) : Option String :=
  match a with
  | .non => some "NoneType"
  | .bl _ => some "bool"
  | .int _ => some "int"
  | .str _ => some "str"
  | .tup _ => some "tuple"
  | .lst _ => some "list"
  | .dct _ _ => some "dict"
  | .dctT _ _ => some "dict"
  | .ref c => match cs[c]? with
    | some (.lst _) => some "list"
    | some (.dct _ _) => some "dict"
    | _ => none
  | _ => none
def tyB (n : String) : List String → Bool
  | [] => false
  | m :: ms => n == m || (n == "bool" && m == "int") || tyB n ms
def isCD (cs : List C) (x : D) (c : Nat) : Option D :=
  match x with
  | .obj k _ _ => if k = c then some (.bl true) else none
  | x => (tyN cs x).map fun _ => .bl false
def eqOk (ne : Bool) (c : Nat) (cs : List C) (y : D) : Bool :=
  match y with
  | .obj k _ _ => decide (k = c)
  | y => !ne && (tyN cs y).isSome
def isiD (cs : List C) (x : D) (ms : List String) : Option D := (tyN cs x).map fun n => .bl (tyB n ms)
def lenD (cs : List C) (a : D) : Option D :=
  match top cs a with
  | .lst x => some (.int x.length)
  | .tup x => some (.int x.length)
  | .str x => if x.length ≤ LIM then some (.int x.length) else none
  | .dct _ x => some (.int x.length)
  | _ => none
def listD (cs : List C) (a : D) : Option D :=
  match top cs a with
  | .lst x => some (.lst x)
  | .tup x => some (.lst x)
  | .str x => lim x.length (.lst (x.map fun c => .str [c]))
  | _ => none
def allD : D → Option D
  | .lst x => (D.bls x).map fun bs => .bl (bs.all id)
  | _ => none
def anyD : D → Option D
  | .lst x => (D.bls x).map fun bs => .bl (bs.any id)
  | _ => none
def int1D : D → Option D
  | .int i => some (.int i)
  | _ => none
def one1 (f : D → Option D) : List D → Option D
  | [a] => f a
  | _ => none
def biD (n : Bi) (cs : List C) (ds : List D) : Option D :=
  match n with
  | .len => one1 (lenD cs) ds
  | .list => one1 (listD cs) ds
  | .all => one1 allD ds
  | .any => one1 anyD ds
  | .int => one1 int1D ds
  | _ => none
def joinD (o : D) (ds : List D) : Option D :=
  match o, ds with
  | .str s, [.lst x] => match D.strs x with
    | some xs => if ((xs.map (·.length)).sum + xs.length * s.length ≤ LIM) then some (.str (joinL s xs)) else none
    | none => none
  | _, _ => none
def str0 (f : Str → Str) (o : D) (ds : List D) : Option D :=
  match o, ds with
  | .str s, [] => if s.length ≤ LIM then some (.str (f (mkS s)).cps.toList) else none
  | _, _ => none
def isStrD : D → Bool
  | .str _ => true
  | _ => false
def mtOk (m : Mt) (x : D) : Bool :=
  match m with
  | .join | .upper | .lower | .swapcase | .split | .startswith => isStrD x
  | _ => true
def mtD (m : Mt) (cs : List C) (o : D) (ds : List D) : Option D :=
  match m with
  | .join => joinD o (ds.map (top cs))
  | .upper => str0 Txt.upper o ds
  | .lower => str0 Txt.lower o ds
  | .swapcase => str0 Txt.swapcase o ds
  | _ => none

mutual
def asgT : Tg → D → List SV → Option (List SV)
  | .nm i, d, env => if i < env.length then some (env.set i (.d d)) else none
  | .tup gs, d, env => match d with
    | .tup ds => asgTs gs ds env
    | .lst ds => asgTs gs ds env
    | _ => none
def asgTs : List Tg → List D → List SV → Option (List SV)
  | [], [], env => some env
  | g :: gs, d :: ds, env => match asgT g d env with
    | some env' => asgTs gs ds env'
    | none => none
  | _, _, _ => none
end

structure Cfg where
  gk : Nat → Option D
  call : Nat → List D → List C → Out D
  init : Nat → List D → List C → Out D
  meth : Nat → Str → Option Nat
  flds : Nat → List Str
  err : Nat → List D → Option D
  cb : List D → List C → Out D
  callK : (List D → List C → Out D) → Nat → List D → List C → Out D

def dlD : List D → List L2.Key → List D → Option (List L2.Key × List D)
  | [], ks, ds => some (ks, ds)
  | [_], _, _ => none
  | k :: v :: r, ks, ds => match keyD k with
    | some x => dlD r (putD ks ds x v).1 (putD ks ds x v).2
    | none => none
def envD : List SV → List SV
  | [] => []
  | .d x :: r => .d x :: envD r
  | _ :: r => .un :: envD r
def putE (env : List SV) : List Nat → List D → List SV
  | i :: is, d :: ds => putE (env.set i (.d d)) is ds
  | _, _ => env
def compL (f : List SV → List C → Out (Option D)) (tg : Tg) (env : List SV) : List D → List C → List D → Out (List D)
  | [], cs, acc => .ok acc cs
  | d :: ds, cs, acc => match asgT tg d env with
    | none => .bad
    | some env' => (f env' cs).bind fun r cs' => match r with
      | some y => if acc.length < LIM then compL f tg env ds cs' (acc ++ [y]) else .bad
      | none => compL f tg env ds cs' acc
def compW (ws : Ws) (f : List SV → List C → Out (Option D)) (tg : Tg) (env : List SV) : List D → List C → List D → Out (List D)
  | [], cs, acc => .ok acc cs
  | d :: ds, cs, acc => match asgT tg d env with
    | none => .bad
    | some env' => (f env' cs).bind fun r cs' => if okWs ws cs' = true then (match r with
      | some y => if acc.length < LIM then compW ws f tg env ds cs' (acc ++ [y]) else .bad
      | none => compW ws f tg env ds cs' acc) else .bad
theorem compW_nil (f : List SV → List C → Out (Option D)) (tg : Tg) (env : List SV) : ∀ (ds : List D) (cs : List C) (acc : List D), compW [] f tg env ds cs acc = compL f tg env ds cs acc
  | [], cs, acc => rfl
  | d :: ds, cs, acc => by
    unfold compW compL
    cases asgT tg d env with
    | none => rfl
    | some e1 =>
      simp only
      congr 1
      funext r c
      rw [if_pos (show okWs [] c = true from rfl)]
      cases r with
      | none => exact compW_nil f tg env ds c acc
      | some y => simp only [compW_nil f tg env ds c]
def dcW {κ : Type} [DecidableEq κ] (ws : Ws) (f : List SV → List C → Out (Option (κ × D))) (tg : Tg) (env : List SV) : List D → List C → List κ → List D → Out (List κ × List D)
  | [], cs, ks, vs => .ok (ks, vs) cs
  | d :: ds, cs, ks, vs => match asgT tg d env with
    | none => .bad
    | some env' => (f env' cs).bind fun r cs' => if okWs ws cs' = true then (match r with
      | some p => if ks.length < LIM then dcW ws f tg env ds cs' (putD ks vs p.1 p.2).1 (putD ks vs p.1 p.2).2 else .bad
      | none => dcW ws f tg env ds cs' ks vs) else .bad
def nestW {κ : Type} (ws : Ws) (f : List SV → List C → List κ → List D → Out (List κ × List D)) (tg : Tg) (env : List SV) : List D → List C → List κ → List D → Out (List κ × List D)
  | [], cs, ks, vs => .ok (ks, vs) cs
  | d :: ds, cs, ks, vs => match asgT tg d env with
    | none => .bad
    | some env' => (f env' cs ks vs).bind fun p cs' => if okWs ws cs' = true then nestW ws f tg env ds cs' p.1 p.2 else .bad
def kD : L2.Key → D
  | .inl i => .int i
  | .inr s => .str s.cps.toList
def lsKD (cs : List C) (x : D) : Option D := match top cs x with
  | .dct ks _ => lim ks.length (.lst (ks.map kD))
  | _ => none
def calm {α : Type} : Out α → Out α
  | .exc _ _ _ => .bad
  | o => o
def wipeE (env : List SV) : List Nat → List SV
  | [] => env
  | v :: vs => (wipeE env vs).set v .un

section
variable (P : Cfg)
mutual
def evE : T → List SV → List C → Out D
  | .k d, _, cs => .ok d cs
  | .v i, env, cs => match env[i]? with
    | some (.d d) => .ok d cs
    | _ => .bad
  | .pk i, env, cs => match env[i]? with
    | some (.d d) => .ok d cs
    | some (.own ds) => .ok (.lst ds) cs
    | _ => .bad
  | .g n, _, cs => ofO (P.gk n) cs
  | .tup ts, env, cs => (evTs ts env cs).bind fun ds cs' => ofO (lim ds.length (.tup ds)) cs'
  | .lst ts, env, cs => (evTs ts env cs).bind fun ds cs' => ofO (lim ds.length (.lst ds)) cs'
  | .lstC ts, env, cs => (evTs ts env cs).bind fun ds cs' => if ds.length ≤ LIM then .ok (.ref cs'.length) (cs' ++ [.lst ds]) else .bad
  | .bin op a b, env, cs => (evE a env cs).bind fun x cs1 => (evE b env cs1).bind fun y cs2 => ofO (binD op cs2 x y) cs2
  | .neg a, env, cs => (evE a env cs).bind fun x cs1 => match x with
    | .int i => .ok (.int (-i)) cs1
    | _ => .bad
  | .not a, env, cs => (evE a env cs).bind fun x cs1 => (ofO (truD cs1 x) cs1).bind fun b cs1 => .ok (.bl (!b)) cs1
  | .and a b, env, cs => (evE a env cs).bind fun x cs1 => (ofO (truD cs1 x) cs1).bind fun k cs1 => if k then evE b env cs1 else .ok x cs1
  | .or a b, env, cs => (evE a env cs).bind fun x cs1 => (ofO (truD cs1 x) cs1).bind fun k cs1 => if k then .ok x cs1 else evE b env cs1
  | .cmp op a b, env, cs => (evE a env cs).bind fun x cs1 => (evE b env cs1).bind fun y cs2 => (ofO (cmpD op cs2 x y) cs2).bind fun k cs2 => .ok (.bl k) cs2
  | .cmp2 op op' a b c, env, cs => (evE a env cs).bind fun x cs1 => (evE b env cs1).bind fun y cs2 => (ofO (cmpD op cs2 x y) cs2).bind fun k cs2 =>
      if k then (evE c env cs2).bind fun z cs3 => (ofO (cmpD op' cs3 y z) cs3).bind fun k' cs3 => .ok (.bl k') cs3 else .ok (.bl false) cs2
  | .ife c a b, env, cs => (evE c env cs).bind fun x cs1 => (ofO (truD cs1 x) cs1).bind fun k cs1 => if k then evE a env cs1 else evE b env cs1
  | .ix a i, env, cs => (evE a env cs).bind fun x cs1 => (evE i env cs1).bind fun y cs2 => ofO (ixD cs2 x y) cs2
  | .slc a lo hi, env, cs => (evE a env cs).bind fun x cs1 => (evP lo env cs1).bind fun y cs2 => (evP hi env cs2).bind fun z cs3 => ofO (slcD cs3 x y z) cs3
  | .call f ts, env, cs => (evTs ts env cs).bind fun ds cs1 => P.call f ds cs1
  | .bi n ts, env, cs => (evTs ts env cs).bind fun ds cs1 => ofO (biD n cs1 ds) cs1
  | .mt m o ts, env, cs => (evE o env cs).bind fun x cs1 => if mtOk m x then (evTs ts env cs1).bind fun ds cs2 => ofO (mtD m cs2 x ds) cs2 else .bad
  | .isi a tys, env, cs => (evE a env cs).bind fun x cs1 => ofO (isiD cs1 x tys) cs1
  | .comp own tg it cond e, env, cs => calm ((evI it env cs).bind fun q cs1 =>
      (compW q.2 (fun env' cs' => match cond with
        | .no => (evE e env' cs').bind fun y cs'' => .ok (some y) cs''
        | .one c => (evE c env' cs').bind fun x cs2 => (ofO (truD cs2 x) cs2).bind fun k cs2 => if k then (evE e env' cs2).bind fun y cs'' => .ok (some y) cs'' else .ok none cs2) tg (wipeE env own) q.1 cs1 []).bind fun ys cs2 => .ok (.lst ys) cs2)
  | .tried _ e, env, cs => match evE e env cs with
    | .ok d cs1 => .ok (.tup [.str ("told".toList.map Char.toNat), d]) cs1
    | .exc c ds cs1 => ofO (P.err c ds) cs1
    | .bad => .bad
  | .fld o f, env, cs => (evE o env cs).bind fun x cs1 => match x with
    | .obj c ks ds => if (P.flds c).contains f then ofO ((ks.zip ds).lookup f) cs1 else .bad
    | _ => .bad
  | .meth o m ts, env, cs => (evE o env cs).bind fun x cs1 => match x with
    | .obj c ks ds => match P.meth c m with
      | some f => if ks.contains m then .bad else (evTs ts env cs1).bind fun as cs2 => P.call f (.obj c ks ds :: as) cs2
      | none => .bad
    | _ => .bad
  | .lenM o, env, cs => (evE o env cs).bind fun x cs1 => match x with
    | .obj c ks ds => match P.meth c "__len__" with
      | some f => calm ((P.call f [.obj c ks ds] cs1).bind fun d cs2 => match d with
        | .int i => if 0 ≤ i ∧ i < 1000000 then .ok (.int i) cs2 else .bad
        | _ => .bad)
      | none => .bad
    | _ => .bad
  | .new c ts, env, cs => (evTs ts env cs).bind fun ds cs1 => P.init c ds cs1
  | .lstE t, env, cs => (evE t env cs).bind fun x cs1 => match listD cs1 x with
    | some (.lst ds) => .ok (.ref cs1.length) (cs1 ++ [.lst ds])
    | _ => .bad
  | .srt t, env, cs => (evE t env cs).bind fun x cs1 => ofO (srtD cs1 x) cs1
  | .rev t, env, cs => (evE t env cs).bind fun x cs1 => ofO (revD cs1 x) cs1
  | .tupE t, env, cs => (evE t env cs).bind fun x cs1 => ofO (tupD cs1 x) cs1
  | .rngL t, env, cs => (evE t env cs).bind fun x cs1 => ofO (rngD x) cs1
  | .isC t c, env, cs => (evE t env cs).bind fun x cs1 => ofO (isCD cs1 x c) cs1
  | .popAt o k, env, cs => (evE o env cs).bind fun x cs1 => match x with
    | .ref c => match cs1[c]? with
      | some (.lst _) => (evE k env cs1).bind fun y cs2 => match popD cs2 (.ref c) y with
        | some (d, cs3) => .ok d cs3
        | none => .bad
      | _ => .bad
    | _ => .bad
  | .eqO ne a b, env, cs => (evE a env cs).bind fun x cs1 => (evE b env cs1).bind fun y cs2 => match x with
    | .obj c ks ds => match P.meth c "__eq__" with
      | some f => if eqOk ne c cs2 y = true then calm ((P.call f [.obj c ks ds, y] cs2).bind fun d cs3 => match d with
        | .bl r => .ok (.bl (r != ne)) cs3
        | _ => .bad) else .bad
      | none => .bad
    | _ => .bad
  | .dc own tg it cond kx e, env, cs => calm ((evI it env cs).bind fun q cs1 =>
      (dcW q.2 (fun env' cs' => match cond with
        | .no => ((evE kx env' cs').bind fun y cs2 => ofO (keyD y) cs2).bind fun k cs2 => (evE e env' cs2).bind fun z cs3 => .ok (some (k, z)) cs3
        | .one c => (evE c env' cs').bind fun x cs2 => (ofO (truD cs2 x) cs2).bind fun kk cs2 => if kk then ((evE kx env' cs2).bind fun y cs2 => ofO (keyD y) cs2).bind fun k cs2 => (evE e env' cs2).bind fun z cs3 => .ok (some (k, z)) cs3
          else .ok none cs2) tg (wipeE env own) q.1 cs1 [] []).bind fun p cs2 => .ok (.dct p.1 p.2) cs2)
  | .dcT own tg it cond kx e, env, cs => calm ((evI it env cs).bind fun q cs1 =>
      (dcW q.2 (fun env' cs' => match cond with
        | .no => ((evTs kx env' cs').bind fun y cs2 => ofO (keysL y) cs2).bind fun k cs2 => (evE e env' cs2).bind fun z cs3 => .ok (some (k, z)) cs3
        | .one c => (evE c env' cs').bind fun x cs2 => (ofO (truD cs2 x) cs2).bind fun kk cs2 => if kk then ((evTs kx env' cs2).bind fun y cs2 => ofO (keysL y) cs2).bind fun k cs2 => (evE e env' cs2).bind fun z cs3 => .ok (some (k, z)) cs3
          else .ok none cs2) tg (wipeE env own) q.1 cs1 [] []).bind fun p cs2 => .ok (.dctT p.1 p.2) cs2)
  | .sum t, env, cs => (evE t env cs).bind fun x cs1 => ofO (sumD cs1 x) cs1
  | .dc2 own tg it vs1 tg1 it1 kx e, env, cs => calm ((evI it env cs).bind fun q cs1 => (nestW q.2 (fun env1 cs' ks vs => (evI it1 env1 cs').bind fun q1 cs2 =>
      dcW q1.2 (fun env' cs' => ((evE kx env' cs').bind fun y cs2 => ofO (keyD y) cs2).bind fun k cs2 => (evE e env' cs2).bind fun z cs3 => .ok (some (k, z)) cs3) tg1 (wipeE env1 vs1) q1.1 cs2 ks vs) tg (wipeE env own) q.1 cs1 [] []).bind fun p cs2 => .ok (.dct p.1 p.2) cs2)
  | .lsK t, env, cs => (evE t env cs).bind fun x cs1 => ofO (lsKD cs1 x) cs1
  | .srs t, env, cs => (evE t env cs).bind fun x cs1 => ofO (srsD cs1 x) cs1
  | .srk t, env, cs => (evE t env cs).bind fun x cs1 => match srkD cs1 x with
    | some ds => .ok (.ref cs1.length) (cs1 ++ [.lst ds])
    | none => .bad
  | .cbk i ts, env, cs => match env[i]? with
    | some .cb => (evTs ts env cs).bind fun ds cs1 => calm (P.cb ds cs1)
    | _ => .bad
  | .callK f ts own body, env, cs => (evTs ts env cs).bind fun ds cs1 => P.callK (fun as cs2 => if as.length = own.length then evE body (putE (envD env) own as) cs2 else .bad) f ds cs1
  | .callP f ts i, env, cs => match env[i]? with
    | some .cb => (evTs ts env cs).bind fun ds cs1 => P.callK P.cb f ds cs1
    | _ => .bad
  | .callF f ts h, env, cs => (evTs ts env cs).bind fun ds cs1 => P.callK (P.call h) f ds cs1
  | .newE c f t, env, cs => (evE t env cs).bind fun x cs1 => .ok (.err c [f] [x]) cs1
  | .newEK c f t, env, cs => (evE t env cs).bind fun x cs1 => .ok (.err c [f] [x]) cs1
  | .newE0 c, env, cs => .ok (.err c [] []) cs
  | .fldE t c f, env, cs => (evE t env cs).bind fun x cs1 => match x with
    | .err c' [f'] [d] => if c' = c ∧ f' = f then .ok d cs1 else .bad
    | _ => .bad
  | .dl ts, env, cs => (evTs ts env cs).bind fun ds cs1 => match dlD ds [] [] with
    | some p => if ds.length ≤ 30 then .ok (.dct p.1 p.2) cs1 else .bad
    | none => .bad
  | .isE t tbl, env, cs => (evE t env cs).bind fun x cs1 => match x with
    | .err c _ _ => match tbl.lookup c with
      | some b => .ok (.bl b) cs1
      | none => .bad
    | _ => .bad
  | .pop o, env, cs => (evE o env cs).bind fun x cs1 => match x with
    | .ref c => match cs1[c]? with
      | some (.lst ds) => match ds.getLast? with
        | some d => .ok d (cs1.set c (.lst ds.dropLast))
        | none => .bad
      | _ => .bad
    | _ => .bad
def evTs : Ts → List SV → List C → Out (List D)
  | .nil, _, cs => .ok [] cs
  | .cons t ts, env, cs => (evE t env cs).bind fun d cs1 => (evTs ts env cs1).bind fun ds cs2 => .ok (d :: ds) cs2
def evP : Cd → List SV → List C → Out (Option Int)
  | .no, _, cs => .ok none cs
  | .one t, env, cs => (evE t env cs).bind fun d cs1 => match d with
    | .int i => .ok (some i) cs1
    | _ => .bad
def evI : I → List SV → List C → Out (List D × Ws)
  | .val t, env, cs => (evE t env cs).bind fun d cs1 => ofO (iterW cs1 d) cs1
  | .rng1 a, env, cs => (evE a env cs).bind fun d cs1 => match d with
    | .int j => if -1000000 < j ∧ j < 1000000 then .ok (((List.range j.toNat).map fun (k : Nat) => D.int (k : Int)), []) cs1 else .bad
    | _ => .bad
  | .rng2 a b, env, cs => (evE a env cs).bind fun d cs1 => (evE b env cs1).bind fun d' cs2 => match d, d' with
    | .int i, .int j => if (-1000000 < i ∧ i < 1000000) ∧ (-1000000 < j ∧ j < 1000000) then .ok (((List.range (j - i).toNat).map fun (k : Nat) => D.int (i + (k : Int))), []) cs2 else .bad
    | _, _ => .bad
  | .enum t, env, cs => (evE t env cs).bind fun d cs1 => (ofO (iterW cs1 d) cs1).bind fun q cs1 => .ok (((List.range q.1.length).zipWith (fun (k : Nat) d => D.tup [.int (k : Int), d]) q.1), q.2) cs1
  | .zip a b, env, cs => (evE a env cs).bind fun d cs1 => (evE b env cs1).bind fun d' cs2 => (ofO (iterW cs2 d) cs2).bind fun p cs2 => (ofO (iterW cs2 d') cs2).bind fun q cs2 => .ok ((p.1.zipWith (fun x y => D.tup [x, y]) q.1), p.2 ++ q.2) cs2
  | .own t c f, env, cs => (evE t env cs).bind fun x cs1 => match x with
    | .obj k ks ds => if k = c then (match (ks.zip ds).lookup f with
      | some (.lst xs) => .ok (xs, []) cs1
      | _ => .bad) else .bad
    | _ => .bad
end

inductive Fl where
  | nx (env : List SV) (cs : List C) | ret (d : D) (cs : List C) | brk (env : List SV) (cs : List C) | cnt (env : List SV) (cs : List C)
  | exc (c : Nat) (ds : List D) (cs : List C) | bad
def Out.toF {α : Type} (o : Out α) (f : α → List C → Fl) : Fl :=
  match o with
  | .ok a cs => f a cs
  | .exc c ds cs => .exc c ds cs
  | .bad => .bad
@[simp] theorem Out.toF_ok {α : Type} (a : α) (cs : List C) (f : α → List C → Fl) : (Out.ok a cs).toF f = f a cs := rfl
@[simp] theorem Out.toF_exc {α : Type} (c : Nat) (ds : List D) (cs : List C) (f : α → List C → Fl) : (Out.exc c ds cs : Out α).toF f = .exc c ds cs := rfl
@[simp] theorem Out.toF_bad {α : Type} (f : α → List C → Fl) : (Out.bad : Out α).toF f = .bad := rfl
def Fl.seq (r : Fl) (f : List SV → List C → Fl) : Fl :=
  match r with
  | .nx env cs => f env cs
  | r => r
@[simp] theorem Fl.seq_nx (env : List SV) (cs : List C) (f : List SV → List C → Fl) : (Fl.nx env cs).seq f = f env cs := rfl
@[simp] theorem Fl.seq_ret (d : D) (cs : List C) (f : List SV → List C → Fl) : (Fl.ret d cs).seq f = .ret d cs := rfl
@[simp] theorem Fl.seq_brk (env : List SV) (cs : List C) (f : List SV → List C → Fl) : (Fl.brk env cs).seq f = .brk env cs := rfl
@[simp] theorem Fl.seq_cnt (env : List SV) (cs : List C) (f : List SV → List C → Fl) : (Fl.cnt env cs).seq f = .cnt env cs := rfl
@[simp] theorem Fl.seq_exc (c : Nat) (ds : List D) (cs : List C) (f : List SV → List C → Fl) : (Fl.exc c ds cs).seq f = .exc c ds cs := rfl
@[simp] theorem Fl.seq_bad (f : List SV → List C → Fl) : Fl.bad.seq f = .bad := rfl
def Fl.turn (r : Fl) (f : List SV → List C → Fl) : Fl :=
  match r with
  | .nx env cs => f env cs
  | .cnt env cs => f env cs
  | .brk env cs => .nx env cs
  | r => r
@[simp] theorem Fl.turn_nx (env : List SV) (cs : List C) (f : List SV → List C → Fl) : (Fl.nx env cs).turn f = f env cs := rfl
@[simp] theorem Fl.turn_ret (d : D) (cs : List C) (f : List SV → List C → Fl) : (Fl.ret d cs).turn f = .ret d cs := rfl
@[simp] theorem Fl.turn_brk (env : List SV) (cs : List C) (f : List SV → List C → Fl) : (Fl.brk env cs).turn f = .nx env cs := rfl
@[simp] theorem Fl.turn_cnt (env : List SV) (cs : List C) (f : List SV → List C → Fl) : (Fl.cnt env cs).turn f = f env cs := rfl
@[simp] theorem Fl.turn_exc (c : Nat) (ds : List D) (cs : List C) (f : List SV → List C → Fl) : (Fl.exc c ds cs).turn f = .exc c ds cs := rfl
@[simp] theorem Fl.turn_bad (f : List SV → List C → Fl) : Fl.bad.turn f = .bad := rfl

def whlL (c : List SV → List C → Out Bool) (b : List SV → List C → Fl) : Nat → List SV → List C → Fl
  | 0, _, _ => .bad
  | n + 1, env, cs => (c env cs).toF fun k cs1 => if k then (b env cs1).turn (whlL c b n) else .nx env cs1
def forL (b : List SV → List C → Fl) (tg : Tg) : List D → List SV → List C → Fl
  | [], env, cs => .nx env cs
  | d :: ds, env, cs => match asgT tg d env with
    | none => .bad
    | some env' => (b env' cs).turn (forL b tg ds)
def forW (ws : Ws) (b : List SV → List C → Fl) (tg : Tg) : List D → List SV → List C → Fl
  | [], env, cs => .nx env cs
  | d :: ds, env, cs => match asgT tg d env with
    | none => .bad
    | some env' => (b env' cs).turn fun e c => if okWs ws c = true then forW ws b tg ds e c else .bad
theorem forW_nil (b : List SV → List C → Fl) (tg : Tg) : ∀ (ds : List D) (env : List SV) (cs : List C), forW [] b tg ds env cs = forL b tg ds env cs
  | [], env, cs => rfl
  | d :: ds, env, cs => by
    unfold forW forL
    cases asgT tg d env with
    | none => rfl
    | some e1 =>
      simp only
      congr 1
      funext e c
      rw [if_pos (show okWs [] c = true from rfl)]
      exact forW_nil b tg ds e c
def setD (cs : List C) (o i d : D) : Option (List C) :=
  match o, i with
  | .ref c, .int k => match cs[c]? with
    | some (.lst ds) => (L2.ixN ds.length k).map fun j => cs.set c (.lst (ds.set j d))
    | _ => none
  | _, _ => none
def isLstC (cs : List C) (x : D) : Bool :=
  match x with
  | .ref c => match cs[c]? with
    | some (.lst _) => true
    | _ => false
  | _ => false
def appD (cs : List C) (x d : D) : Option (List C) :=
  match x with
  | .ref c => match cs[c]? with
    | some (.lst ds) => if ds.length < LIM then some (cs.set c (.lst (ds ++ [d]))) else none
    | _ => none
  | _ => none
def evPm : Pm → List SV → List C → Out SV
  | .val t, env, cs => (evE P t env cs).bind fun d cs1 => .ok (.d d) cs1
  | .own ts, env, cs => (evTs P ts env cs).bind fun ds cs1 => if ds.length ≤ LIM then .ok (.own ds) cs1 else .bad
  | .ownD, _, cs => .ok (.ownD [] []) cs
  | .ownE t, env, cs => (evE P t env cs).bind fun d cs1 => match d with
    | .lst ds => .ok (.own ds) cs1
    | _ => .bad
mutual
def evS (fu : Nat) : S → List SV → List C → Fl
  | .asg tg e, env, cs => (evE P e env cs).toF fun d cs1 => match asgT tg d env with
    | some env' => .nx env' cs1
    | none => .bad
  | .set1 i p, env, cs => (evPm P p env cs).toF fun x cs1 => if i < env.length then .nx (env.set i x) cs1 else .bad
  | .par i j p q, env, cs => (evPm P p env cs).toF fun x cs1 => (evPm P q env cs1).toF fun y cs2 =>
      if i < env.length ∧ j < env.length then .nx ((env.set i x).set j y) cs2 else .bad
  | .par3 i j k p q s, env, cs => (evPm P p env cs).toF fun x cs1 => (evPm P q env cs1).toF fun y cs2 => (evPm P s env cs2).toF fun z cs3 =>
      if i < env.length ∧ j < env.length ∧ k < env.length then .nx (((env.set i x).set j y).set k z) cs3 else .bad
  | .setIx o i e, env, cs => (evE P e env cs).toF fun d cs1 => (evE P o env cs1).toF fun x cs2 => (evE P i env cs2).toF fun y cs3 =>
      match setD cs3 x y d with
      | some cs4 => .nx env cs4
      | none => .bad
  | .app i e, env, cs => match env[i]? with
    | some (.own _) => (evE P e env cs).toF fun d cs1 => match env[i]? with
      | some (.own ds) => if ds.length < LIM then .nx (env.set i (.own (ds ++ [d]))) cs1 else .bad
      | _ => .bad
    | _ => .bad
  | .appC o e, env, cs => (evE P o env cs).toF fun x cs1 => match isLstC cs1 x with
    | true => (evE P e env cs1).toF fun d cs2 => match appD cs2 x d with
      | some cs3 => .nx env cs3
      | none => .bad
    | false => .bad
  | .setOwn i k e, env, cs => match env[i]? with
    | some (.own ds) => (evE P e env cs).toF fun d cs1 => (evE P k env cs1).toF fun y cs2 => match y with
      | .int n => match L2.ixN ds.length n with
        | some j => .nx (env.set i (.own (ds.set j d))) cs2
        | none => .bad
      | _ => .bad
    | _ => .bad
  | .augOwn i k op e, env, cs => match env[i]? with
    | some (.own ds) => (evE P k env cs).toF fun y cs1 => match y with
      | .int n => match L2.ixN ds.length n, L2.atI ds n with
        | some j, some x => (evE P e env cs1).toF fun z cs2 => match iopD op x z with
          | some w => .nx (env.set i (.own (ds.set j w))) cs2
          | none => .bad
        | _, _ => .bad
      | _ => .bad
    | _ => .bad
  | .aug i op e, env, cs => match env[i]? with
    | some (.d x) => (evE P e env cs).toF fun y cs1 => match iopD op x y with
      | some z => .nx (env.set i (.d z)) cs1
      | none => .bad
    | _ => .bad
  | .expr e, env, cs => (evE P e env cs).toF fun _ cs1 => .nx env cs1
  | .ret e, env, cs => (evE P e env cs).toF fun d cs1 => .ret d cs1
  | .retN, _, cs => .ret .non cs
  | .iff c a b, env, cs => (evE P c env cs).toF fun x cs1 => (ofO (truD cs1 x) cs1).toF fun k cs1 => if k then evSs fu a env cs1 else evSs fu b env cs1
  | .whl c b, env, cs => whlL (fun env cs => (evE P c env cs).bind fun x cs1 => ofO (truD cs1 x) cs1) (fun env cs => evSs fu b env cs) fu env cs
  | .forr it tg b, env, cs => (evI P it env cs).toF fun q cs1 => forW q.2 (fun env cs => evSs fu b env cs) tg q.1 env cs1
  | .brk, env, cs => .brk env cs
  | .cnt, env, cs => .cnt env cs
  | .pass, env, cs => .nx env cs
  | .raise c ts, env, cs => (evTs P ts env cs).toF fun ds cs1 => .exc c ds cs1
  | .frz i, env, cs => match env[i]? with
    | some (.own ds) => .nx (env.set i (.d (.lst ds))) cs
    | some (.ownD ks ds) => .nx (env.set i (.d (.dct ks ds))) cs
    | _ => .bad
  | .setF f e, env, cs => (evE P e env cs).toF fun d cs1 => match env[(0 : Nat)]? with
    | some (.ownI c ks ds) => if (P.flds c).contains f ∧ ks.contains f = false ∧ ks.length < 1000 then .nx (env.set 0 (.ownI c (ks ++ [f]) (ds ++ [d]))) cs1 else .bad
    | _ => .bad
  | .nvr, _, _ => .bad
def evSs (fu : Nat) : Ss → List SV → List C → Fl
  | .nil, env, cs => .nx env cs
  | .cons s ss, env, cs => (evS fu s env cs).seq fun env' cs' => evSs fu ss env' cs'
end
end

structure Fn where
  np : Nat
  ns : Nat
  body : Ss
structure Prog where
  fns : List Fn
  gk : List D
  meths : List (List (Str × Nat))
  flds : List (List Str)
  inits : List (Option Nat)
  errs : Nat → List D → Option D
  fu : Nat
def start (f : Fn) (ds : List D) : List SV := ds.map .d ++ List.replicate (f.ns - f.np) .un
def ends (r : Fl) : Out D :=
  match r with
  | .ret d cs => .ok d cs
  | .nx _ cs => .ok .non cs
  | .exc c ds cs => .exc c ds cs
  | _ => .bad
def endsI (r : Fl) : Out D :=
  match r with
  | .nx env cs => match env[(0 : Nat)]? with
    | some (.ownI c ks ds) => .ok (.obj c ks ds) cs
    | _ => .bad
  | .exc c ds cs => .exc c ds cs
  | _ => .bad
def startK (f : Fn) (ds : List D) : List SV := ds.map .d ++ (.cb :: List.replicate (f.ns - f.np) .un)
def Prog.cfg0 (p : Prog) (run : Bool → Nat → List D → List C → Out D) (cb : List D → List C → Out D) (ck : (List D → List C → Out D) → Nat → List D → List C → Out D) : Cfg where
  gk := fun n => p.gk[n]?
  call := run false
  init := run true
  meth := fun c m => (p.meths[c]?).bind fun l => l.lookup m
  flds := fun c => (p.flds[c]?).getD []
  err := p.errs
  cb := cb
  callK := ck
def Prog.runK (p : Prog) (run : Bool → Nat → List D → List C → Out D) : Nat → (List D → List C → Out D) → Nat → List D → List C → Out D
  | 0, _, _, _, _ => .bad
  | n + 1, cb, f, ds, cs => match p.fns[f]? with
    | some fn => if ds.length + 1 = fn.np then ends (evSs (p.cfg0 run cb (p.runK run n)) p.fu fn.body (startK fn ds) cs) else .bad
    | none => .bad
def Prog.cfg (p : Prog) (run : Bool → Nat → List D → List C → Out D) : Cfg := p.cfg0 run (fun _ _ => .bad) (p.runK run 3)
def Prog.run (p : Prog) : Nat → Bool → Nat → List D → List C → Out D
  | 0, _, _, _, _ => .bad
  | k + 1, false, f, ds, cs => match p.fns[f]? with
    | some fn => if ds.length = fn.np then ends (evSs (p.cfg (p.run k)) p.fu fn.body (start fn ds) cs) else .bad
    | none => .bad
  | k + 1, true, c, ds, cs => match p.inits[c]? with
    | some (some f) => match p.fns[f]? with
      | some fn => if ds.length + 1 = fn.np then endsI (evSs (p.cfg (p.run k)) p.fu fn.body (.ownI c [] [] :: (ds.map .d ++ List.replicate (fn.ns - fn.np) .un)) cs) else .bad
      | none => .bad
    | _ => .bad
end XV
set_option Elab.async false
set_option linter.all false
set_option autoImplicit false
set_option maxRecDepth 100000
namespace XV
open PySem PySem.Spec PyProof.Rows L2

structure Lay where
  cls : Nat → Addr
  fld : Nat → List Str
  tabs : List (Addr × Str)
  codes : List (Addr × Str) := []
  cb : Option Addr := none
  G0 : Hp := fun _ => none
  r0 : List Addr := []
def TabsC (L : Lay) (H : Hp) : Prop := LamX.Tabs L.tabs H ∧ ∀ p ∈ L.codes, H p.1 = some (LamX.CodeO p.1 p.2)
theorem TabsC.ext {L : Lay} {H H' : Hp} (t : TabsC L H) (e : ∀ b o, H b = some o → H' b = some o) : TabsC L H' := ⟨t.1.ext e, fun p hp => e _ _ (t.2 p hp)⟩
def LaterL (L : Lay) (G : Hp) (r : List Addr) : Prop := Same L.G0 G ∧ ∃ t, r = L.r0 ++ t
theorem LaterL.more {L : Lay} {G G' : Hp} {r r' : List Addr} (h : LaterL L G r) (e : Same G G') (e2 : ∃ t, r' = r ++ t) : LaterL L G' r' := by
  obtain ⟨h1, t, rfl⟩ := h
  obtain ⟨t', rfl⟩ := e2
  exact ⟨h1.trans e, t ++ t', by rw [List.append_assoc]⟩

theorem Same.tupq {K : PySem.W.Frag} {H H' : Hp} {a : Addr} {xs : List V} (e : Same H H') (h : SqT K H a xs) : SqT K H' a xs := by
  rcases h with (h | ⟨o, h⟩) | h
  · exact .inl (.inl (e _ _ h))
  · exact .inl (.inr ⟨o, e _ _ h⟩)
  · exact .inr h
theorem Same.rd {H H' : Hp} {a : Addr} {u : HO} (e : Same H H') (h : Rd H a u) : Rd H' a u := by
  rcases h with h | ⟨o, h⟩
  · exact .inl (e _ _ h)
  · exact .inr ⟨o, e _ _ h⟩

mutual
inductive Rep (K : PySem.W.Frag) (L : Lay) (G : Hp) (r : List Addr) : D → V → Prop
  | non : Rep K L G r .non .non
  | bl (b : Bool) : Rep K L G r (.bl b) (.bl b)
  | int (i : Int) : Rep K L G r (.int i) (.int i)
  | str (x : List Nat) : Rep K L G r (.str x) (.str (mkS x))
  | lst {a : Addr} {vs : List V} {ds : List D} : G a = some (.lst vs) → Reps K L G r ds vs → Rep K L G r (.lst ds) (.ref a)
  | tup {a : Addr} {vs : List V} {ds : List D} : SqT K G a vs → Reps K L G r ds vs → Rep K L G r (.tup ds) (.ref a)
  | dct {a : Addr} {ks : List Key} {vs : List V} {ds : List D} : G a = some (.dK (ks.zip vs)) → ks.length = ds.length → ks.Nodup → Reps K L G r ds vs → Rep K L G r (.dct ks ds) (.ref a)
  | dctT {a : Addr} {ks : List (List Key)} {vs : List V} {ds : List D} : G a = some (.dT (ks.zip vs)) → ks.length = ds.length → ks.Nodup → Reps K L G r ds vs → Rep K L G r (.dctT ks ds) (.ref a)
  | obj {a dx : Addr} {c : Nat} {ks : List Str} {vs : List V} {ds : List D} : G a = some (.ins (L.cls c) dx (ks.zip vs)) → ks.length = ds.length → Reps K L G r ds vs → Rep K L G r (.obj c ks ds) (.ref a)
  | err0 {a : Addr} {c : Nat} : G a = some (exo a (L.cls c) none) → Rep K L G r (.err c [] []) (.ref a)
  | err1 {a dx : Addr} {c : Nat} {f : Str} {d : D} {v : V} : G a = some (exo a (L.cls c) (some dx)) → G dx = some (exd dx [(f, v)]) → Rep K L G r d v → Rep K L G r (.err c [f] [d]) (.ref a)
  | ref {a : Addr} {c : Nat} : r[c]? = some a → Rep K L G r (.ref c) (.ref a)
  | scr {a : Addr} {ns : List Int} : SqL K G a (ns.map V.int) → Rep K L G r (.scr ns) (.ref a)
inductive Reps (K : PySem.W.Frag) (L : Lay) (G : Hp) (r : List Addr) : List D → List V → Prop
  | nil : Reps K L G r [] []
  | cons {d : D} {v : V} {ds : List D} {vs : List V} : Rep K L G r d v → Reps K L G r ds vs → Reps K L G r (d :: ds) (v :: vs)
end

section
variable {K : PySem.W.Frag} {L : Lay} {G G' : Hp} {r : List Addr}
theorem pre_get {r t : List Addr} {c : Nat} {a : Addr} (h : r[c]? = some a) : (r ++ t)[c]? = some a := by
  rw [List.getElem?_append_left (List.getElem?_eq_some_iff.mp h).1]
  exact h
mutual
theorem Rep.mono {t : List Addr} (e : Same G G') : ∀ {d : D} {v : V}, Rep K L G r d v → Rep K L G' (r ++ t) d v
  | _, _, .non => .non
  | _, _, .bl b => .bl b
  | _, _, .int i => .int i
  | _, _, .str x => .str x
  | _, _, .lst h q => .lst (e _ _ h) (Reps.mono e q)
  | _, _, .tup h q => .tup (Same.tupq e h) (Reps.mono e q)
  | _, _, .dct h l n q => .dct (e _ _ h) l n (Reps.mono e q)
  | _, _, .dctT h l n q => .dctT (e _ _ h) l n (Reps.mono e q)
  | _, _, .obj h l q => .obj (e _ _ h) l (Reps.mono e q)
  | _, _, .err0 h => .err0 (e _ _ h)
  | _, _, .err1 h h2 q => .err1 (e _ _ h) (e _ _ h2) (Rep.mono e q)
  | _, _, .ref h => .ref (pre_get h)
  | _, _, .scr h => .scr (e.seq h)
theorem Reps.mono {t : List Addr} (e : Same G G') : ∀ {ds : List D} {vs : List V}, Reps K L G r ds vs → Reps K L G' (r ++ t) ds vs
  | _, _, .nil => .nil
  | _, _, .cons h q => .cons (Rep.mono e h) (Reps.mono e q)
end
theorem Reps.length : ∀ {ds : List D} {vs : List V}, Reps K L G r ds vs → ds.length = vs.length
  | _, _, .nil => rfl
  | _, _, .cons _ q => congrArg (· + 1) (Reps.length q)
theorem Reps.get : ∀ {ds : List D} {vs : List V} {i : Nat} {d : D}, Reps K L G r ds vs → ds[i]? = some d → ∃ v, vs[i]? = some v ∧ Rep K L G r d v
  | _, _, _, _, .nil, e => by simp at e
  | _, _, 0, _, .cons h _, e => by simp at e; subst e; exact ⟨_, rfl, h⟩
  | _, _, i + 1, d, .cons _ q, e => by
    obtain ⟨v, h1, h2⟩ := Reps.get (i := i) (d := d) q (by simpa using e)
    exact ⟨v, by simpa using h1, h2⟩
theorem Reps.append : ∀ {ds es : List D} {vs ws : List V}, Reps K L G r ds vs → Reps K L G r es ws → Reps K L G r (ds ++ es) (vs ++ ws)
  | _, _, _, _, .nil, s => s
  | _, _, _, _, .cons h t, s => .cons h (Reps.append t s)
theorem Reps.one {d : D} {v : V} (h : Rep K L G r d v) : Reps K L G r [d] [v] := .cons h .nil
theorem Reps.take : ∀ {ds : List D} {vs : List V} (n : Nat), Reps K L G r ds vs → Reps K L G r (ds.take n) (vs.take n)
  | _, _, 0, _ => .nil
  | _, _, _ + 1, .nil => .nil
  | _, _, n + 1, .cons h q => .cons h (Reps.take n q)
theorem Reps.drop : ∀ {ds : List D} {vs : List V} (n : Nat), Reps K L G r ds vs → Reps K L G r (ds.drop n) (vs.drop n)
  | _, _, 0, q => q
  | _, _, _ + 1, .nil => .nil
  | _, _, n + 1, .cons _ q => Reps.drop n q
theorem Reps.set {d : D} {v : V} (h : Rep K L G r d v) : ∀ {ds : List D} {vs : List V} (i : Nat), Reps K L G r ds vs → Reps K L G r (ds.set i d) (vs.set i v)
  | _, _, _, .nil => .nil
  | _, _, 0, .cons _ t => .cons h t
  | _, _, i + 1, .cons q t => .cons q (Reps.set h i t)
end

def CellR (K : PySem.W.Frag) (L : Lay) (G : Hp) (r : List Addr) (H : Hp) (a : Addr) : C → Prop
  | .lst ds => ∃ vs, H a = some (.lst vs) ∧ Reps K L G r ds vs
  | .dct ks ds => ∃ vs, H a = some (.dK (ks.zip vs)) ∧ ks.length = ds.length ∧ ks.Nodup ∧ Reps K L G r ds vs
  | .ins c ks ds => ∃ dx vs, H a = some (.ins (L.cls c) dx (ks.zip vs)) ∧ ks.length = ds.length ∧ Reps K L G r ds vs
def Fr (H : Hp) (a : Addr) : Prop := ∀ o, H a = some o → ∃ ps, o = .tbl ps
theorem Fr.of {H : Hp} {a : Addr} (h : H a = none) : Fr H a := fun o e => by rw [h] at e; cases e
theorem nFr {H : Hp} {a : Addr} {o : HO} (h : H a = some o) (n : ∀ ps, o ≠ .tbl ps) : ¬ Fr H a := fun f => let ⟨ps, e⟩ := f _ h; n ps e
theorem Fr.ne {H : Hp} {a b : Addr} (h : ¬ Fr H b) (f : Fr H a) : b ≠ a := fun z => h (z ▸ f)
theorem Fr.upd {H : Hp} {a b : Addr} {x : HO} (n : b ≠ a) : Fr (upd H a x) b ↔ Fr H b := by unfold Fr; rw [upd_ne n]
structure Sep (K : PySem.W.Frag) (L : Lay) (G : Hp) (r : List Addr) (cs : List C) (H : Hp) : Prop where
  same : Same G H
  nod : r.Nodup
  len : r.length = cs.length
  cell : ∀ (c : Nat) (k : C), cs[c]? = some k → ∃ a, r[c]? = some a ∧ G a = none ∧ CellR K L G r H a k
  tabs : TabsC L H
  gt : ∀ b ps, G b ≠ some (.tbl ps)
  lat : LaterL L G r
structure Go (G : Hp) (r : List Addr) (H : Hp) (G' : Hp) (r' : List Addr) (H' : Hp) : Prop where
  g : Same G G'
  gf : ∀ b, ¬ Fr H b → G' b = G b
  rr : ∃ t, r' = r ++ t ∧ ∀ a ∈ t, Fr H a
  keep : ∀ b o, H b = some o → b ∉ r → (∀ ps, o ≠ .tbl ps) → H' b = some o
  dom : ∀ b, ¬ Fr H b → ¬ Fr H' b
theorem Go.refl (G : Hp) (r : List Addr) (H : Hp) : Go G r H G r H := ⟨Same.refl G, fun _ _ => rfl, ⟨[], by simp, by simp⟩, fun _ _ h _ _ => h, fun _ h => h⟩
section
variable {K : PySem.W.Frag} {L : Lay} {G G' G2 : Hp} {r r' r2 : List Addr} {H H' H2 : Hp}
theorem Go.trans (a : Go G r H G' r' H') (b : Go G' r' H' G2 r2 H2) : Go G r H G2 r2 H2 := by
  obtain ⟨t, e, hh⟩ := a.rr
  obtain ⟨t', e', hh'⟩ := b.rr
  subst e
  have nx : ∀ a ∈ t', Fr H a := fun x hx => Classical.byContradiction fun q => a.dom x q (hh' x hx)
  refine ⟨a.g.trans b.g, fun x hx => (b.gf x (a.dom x hx)).trans (a.gf x hx), ⟨t ++ t', by rw [e', List.append_assoc], fun x hx => (List.mem_append.mp hx).elim (hh x) (nx x)⟩, fun x o h hr ht => ?_, fun x h => b.dom x (a.dom x h)⟩
  refine b.keep x o (a.keep x o h hr ht) (fun hm => ?_) ht
  rcases List.mem_append.mp hm with hm | hm
  · exact hr hm
  · obtain ⟨ps, e⟩ := hh x hm _ h
    exact ht ps e
theorem Rep.go {d : D} {v : V} (h : Rep K L G r d v) (g : Go G r H G' r' H') : Rep K L G' r' d v := by
  obtain ⟨t, e, _⟩ := g.rr
  subst e
  exact h.mono g.g
theorem Reps.go {d : List D} {v : List V} (h : Reps K L G r d v) (g : Go G r H G' r' H') : Reps K L G' r' d v := by
  obtain ⟨t, e, _⟩ := g.rr
  subst e
  exact h.mono g.g
theorem CellR.mono {t : List Addr} {a : Addr} {k : C} (e : Same G G') (h : H a = H' a) (q : CellR K L G r H a k) : CellR K L G' (r ++ t) H' a k := by
  cases k with
  | lst ds => obtain ⟨vs, h1, h2⟩ := q; exact ⟨vs, h ▸ h1, h2.mono e⟩
  | dct ks ds => obtain ⟨vs, h1, l, n, h2⟩ := q; exact ⟨vs, h ▸ h1, l, n, h2.mono e⟩
  | ins c ks ds => obtain ⟨dx, vs, h1, l, h2⟩ := q; exact ⟨dx, vs, h ▸ h1, l, h2.mono e⟩
theorem CellR.some {a : Addr} {k : C} (q : CellR K L G r H a k) : ¬ Fr H a := by
  cases k with
  | lst ds => obtain ⟨vs, h1, h2⟩ := q; exact nFr h1 fun _ z => by cases z
  | dct ks ds => obtain ⟨vs, h1, l, n, h2⟩ := q; exact nFr h1 fun _ z => by cases z
  | ins c ks ds => obtain ⟨dx, vs, h1, l, h2⟩ := q; exact nFr h1 fun _ z => by cases z
theorem Sep.mem {cs : List C} (s : Sep K L G r cs H) {a : Addr} (h : a ∈ r) : G a = none ∧ ¬ Fr H a := by
  obtain ⟨i, hi, e⟩ := List.getElem_of_mem h
  have hc : i < cs.length := by rw [← s.len]; exact hi
  obtain ⟨b, h1, h2, h3⟩ := s.cell i cs[i] (List.getElem?_eq_getElem hc)
  rw [List.getElem?_eq_getElem hi] at h1
  have : a = b := by rw [← e]; exact Option.some.inj h1
  subst this
  exact ⟨h2, h3.some⟩
theorem Go.new {cs : List C} (s : Sep K L G r cs H) {p : Addr} (o : HO) (hp : H p = none) : Go G r H (upd G p o) r (upd H p o) := by
  have gp : G p = none := Same.free s.same hp
  refine ⟨fun b x h => ?_, fun b h => ?_, ⟨[], by simp, by simp⟩, fun b x h _ _ => ?_, fun b h => ?_⟩
  · rw [upd_ne (ne_of_none h gp)]; exact h
  · rw [upd_ne (Fr.ne h (.of hp))]
  · rw [upd_ne (ne_of_none h hp)]; exact h
  · rw [Fr.upd (Fr.ne h (.of hp))]; exact h
theorem Sep.new {cs : List C} (s : Sep K L G r cs H) {p : Addr} (o : HO) (hp : H p = none) (no : ∀ ps, o ≠ .tbl ps := by intro _ z; cases z) : Sep K L (upd G p o) r cs (upd H p o) := by
  have g := Go.new s o hp
  refine ⟨fun b x h => ?_, s.nod, s.len, fun c k e => ?_, s.tabs.ext fun b x h => by rw [upd_ne (ne_of_none h hp)]; exact h, fun b ps z => ?_, s.lat.more g.g ⟨[], by simp⟩⟩
  · by_cases eb : b = p
    · subst eb; rw [upd_same] at h ⊢; exact h
    · rw [upd_ne eb] at h ⊢; exact s.same b x h
  · obtain ⟨a, h1, h2, h3⟩ := s.cell c k e
    have ne : a ≠ p := Fr.ne h3.some (.of hp)
    refine ⟨a, h1, by rw [upd_ne ne]; exact h2, ?_⟩
    have := CellR.mono (t := []) g.g (H' := upd H p o) (by rw [upd_ne ne]) h3
    simpa using this
  · by_cases eb : b = p
    · subst eb; rw [upd_same] at z; exact no ps (Option.some.inj z)
    · rw [upd_ne eb] at z; exact s.gt b ps z
end

theorem tabs_upd {T : List (Addr × Str)} {H : Hp} {a : Addr} {x : HO} (t : LamX.Tabs T H) (h : ∀ o, H a = some o → (∀ ps, o ≠ .tbl ps) ∧ ∀ c q, o ≠ LamX.CodeO c q) : LamX.Tabs T (upd H a x) := by
  intro p hp
  obtain ⟨ps, h1, h2, h3⟩ := t p hp
  have n1 : p.1 ≠ a := fun z => (h _ (z ▸ h1)).1 ps rfl
  refine ⟨ps, by rw [upd_ne n1]; exact h1, h2, fun pos cv hc => ?_⟩
  obtain ⟨c, e1, e2⟩ := h3 pos cv hc
  have n2 : c ≠ a := fun z => by subst z; exact (h _ e2).2 _ _ rfl
  exact ⟨c, e1, by rw [upd_ne n2]; exact e2⟩
def Mt3 : Option HO → Prop
  | none => True
  | some (.lst _) => True
  | some (.dK _) => True
  | some (.dT _) => True
  | some (.ins _ _ _) => True
  | _ => False
theorem tabsC_upd {L : Lay} {H : Hp} {a : Addr} {x : HO} (t : TabsC L H) (h : ∀ o, H a = some o → (∀ ps, o ≠ .tbl ps) ∧ ∀ c q, o ≠ LamX.CodeO c q) : TabsC L (upd H a x) :=
  ⟨tabs_upd t.1 h, fun p hp => by
    have e := t.2 p hp
    rw [upd_ne (fun z => by subst z; exact (h _ e).2 _ _ rfl)]
    exact e⟩
theorem Mt3.tabs {L : Lay} {H : Hp} {a : Addr} {x : HO} (t : TabsC L H) (m : Mt3 (H a)) : TabsC L (upd H a x) :=
  tabsC_upd t fun o h => ⟨fun ps z => by rw [h, z] at m; exact m, fun c q z => by rw [h, z] at m; exact m⟩

def isOwn : SV → Bool
  | .un => false
  | .cb => false
  | .d _ => false
  | _ => true
def SvR (K : PySem.W.Frag) (L : Lay) (G : Hp) (r : List Addr) (H : Hp) (o : Option (Option V)) : SV → Prop
  | .un => True
  | .cb => ∃ a, L.cb = some a ∧ o = some (some (.ref a))
  | .d x => ∃ v, o = some (some v) ∧ Rep K L G r x v
  | .own ds => ∃ a vs, o = some (some (.ref a)) ∧ H a = some (.lst vs) ∧ G a = none ∧ a ∉ r ∧ Reps K L G r ds vs
  | .ownD ks ds => ∃ a vs, o = some (some (.ref a)) ∧ H a = some (.dK (ks.zip vs)) ∧ ks.length = ds.length ∧ ks.Nodup ∧ G a = none ∧ a ∉ r ∧ Reps K L G r ds vs
  | .ownI c ks ds => ∃ a dx vs, o = some (some (.ref a)) ∧ H a = some (.ins (L.cls c) dx (ks.zip vs)) ∧ ks.length = ds.length ∧ G a = none ∧ a ∉ r ∧ Reps K L G r ds vs
structure EnvR (K : PySem.W.Frag) (L : Lay) (G : Hp) (r : List Addr) (H : Hp) (env : List SV) (σ : List (Option V)) : Prop where
  len : env.length = σ.length
  get : ∀ (i : Nat) (sv : SV), env[i]? = some sv → SvR K L G r H σ[i]? sv
  sep : ∀ (i j : Nat) (sv sv' : SV) (a : Addr), i ≠ j → env[i]? = some sv → isOwn sv = true → env[j]? = some sv' → isOwn sv' = true → σ[i]? = some (some (.ref a)) → σ[j]? = some (some (.ref a)) → False
section
variable {K : PySem.W.Frag} {L : Lay} {G G' : Hp} {r r' : List Addr} {H H' : Hp}
theorem SvR.go {o : Option (Option V)} {sv : SV} (h : SvR K L G r H o sv) (g : Go G r H G' r' H') : SvR K L G' r' H' o sv := by
  have nr : ∀ a, a ∉ r → ¬ Fr H a → a ∉ r' := fun a h1 h2 h3 => by
    obtain ⟨t, e, ht⟩ := g.rr
    subst e
    rcases List.mem_append.mp h3 with q | q
    · exact h1 q
    · exact h2 (ht a q)
  cases sv with
  | un => trivial
  | cb => exact h
  | d x => obtain ⟨v, e, q⟩ := h; exact ⟨v, e, q.go g⟩
  | own ds =>
    obtain ⟨a, vs, e, h1, h2, h3, h4⟩ := h
    have hn : ¬ Fr H a := nFr h1 fun _ z => by cases z
    exact ⟨a, vs, e, g.keep a _ h1 h3 (fun _ z => by cases z), (g.gf a hn).trans h2, nr a h3 hn, h4.go g⟩
  | ownD ks ds =>
    obtain ⟨a, vs, e, h1, l, n, h2, h3, h4⟩ := h
    have hn : ¬ Fr H a := nFr h1 fun _ z => by cases z
    exact ⟨a, vs, e, g.keep a _ h1 h3 (fun _ z => by cases z), l, n, (g.gf a hn).trans h2, nr a h3 hn, h4.go g⟩
  | ownI c ks ds =>
    obtain ⟨a, dx, vs, e, h1, l, h2, h3, h4⟩ := h
    have hn : ¬ Fr H a := nFr h1 fun _ z => by cases z
    exact ⟨a, dx, vs, e, g.keep a _ h1 h3 (fun _ z => by cases z), l, (g.gf a hn).trans h2, nr a h3 hn, h4.go g⟩
theorem EnvR.go {env : List SV} {σ : List (Option V)} (h : EnvR K L G r H env σ) (g : Go G r H G' r' H') : EnvR K L G' r' H' env σ :=
  ⟨h.len, fun i sv e => (h.get i sv e).go g, h.sep⟩
end

def ExR (K : PySem.W.Frag) (L : Lay) (c : Nat) (ds : List D) (cls : Value) (dd : Option Addr) (G : Hp) (r : List Addr) (H : Hp) : Prop :=
  cls = .ref (L.cls c) ∧ ∃ d vs, dd = some d ∧ H d = some (.xd ((L.fld c).zip vs)) ∧ (L.fld c).length = ds.length ∧ Reps K L G r ds vs
def KO {α β : Type} (K : PySem.W.Frag) (L : Lay) (R : Hp → List Addr → α → β → Prop) (E : XK) (G : Hp) (r : List Addr) (H : Hp) (o : Out α) (Q : β → Hp → Prop) : Prop :=
  match o with
  | .ok a cs' => ∀ v G' r' H', Go G r H G' r' H' → Sep K L G' r' cs' H' → R G' r' a v → Q v H'
  | .exc c ds cs' => ∀ cls dd G' r' H', Go G r H G' r' H' → Sep K L G' r' cs' H' → ExR K L c ds cls dd G' r' H' → E cls dd H'
  | .bad => False
section
variable {K : PySem.W.Frag} {L : Lay} {E : XK} {G : Hp} {r : List Addr} {H : Hp}
theorem KO.bind {α β α1 β1 : Type} {R : Hp → List Addr → α → β → Prop} {R1 : Hp → List Addr → α1 → β1 → Prop} {o : Out α1} {f : α1 → List C → Out α} {Q : β → Hp → Prop} {Q1 : β1 → Hp → Prop}
    (h : KO K L R E G r H (o.bind f) Q)
    (k : ∀ a cs', o = .ok a cs' → ∀ v G' r' H', Go G r H G' r' H' → Sep K L G' r' cs' H' → R1 G' r' a v → KO K L R E G' r' H' (f a cs') Q → Q1 v H') : KO K L R1 E G r H o Q1 := by
  cases o with
  | ok a cs' =>
    intro v G' r' H' go sep rr
    refine k a cs' rfl v G' r' H' go sep rr ?_
    have h : KO K L R E G r H (f a cs') Q := h
    cases e : f a cs' with
    | ok b cs2 =>
      rw [e] at h
      intro w G2 r2 H2 go2 sep2 q
      exact h w G2 r2 H2 (go.trans go2) sep2 q
    | exc c ds cs2 =>
      rw [e] at h
      intro cls dd G2 r2 H2 go2 sep2 q
      exact h cls dd G2 r2 H2 (go.trans go2) sep2 q
    | bad => rw [e] at h; exact h
  | exc c ds cs' => exact h
  | bad => exact h
theorem KO.ok0 {α β : Type} {R : Hp → List Addr → α → β → Prop} {a : α} {cs : List C} {v : β} {Q : β → Hp → Prop} (h : KO K L R E G r H (.ok a cs) Q) (s : Sep K L G r cs H) (q : R G r a v) : Q v H :=
  h v G r H (Go.refl G r H) s q
theorem KO.mono {α β : Type} {R : Hp → List Addr → α → β → Prop} {o : Out α} {Q Q' : β → Hp → Prop} (h : KO K L R E G r H o Q) (k : ∀ v H', Q v H' → Q' v H') : KO K L R E G r H o Q' := by
  cases o with
  | ok a cs' => exact fun v G' r' H' g s q => k _ _ (h v G' r' H' g s q)
  | exc c ds cs' => exact h
  | bad => exact h
theorem KO.some_of {α β : Type} {R : Hp → List Addr → α → β → Prop} {o : Option α} {cs : List C} {Q : β → Hp → Prop} (h : KO K L R E G r H (ofO o cs) Q) : ∃ a, o = some a ∧ KO K L R E G r H (.ok a cs) Q := by
  cases o with
  | some a => exact ⟨a, rfl, h⟩
  | none => exact h.elim
end
end XV
set_option Elab.async false
set_option linter.all false
set_option autoImplicit false
set_option maxRecDepth 100000
namespace XV
open PySem PySem.Spec PyProof.Rows L2

theorem PE.imp {X : Cx} {e : Expr} {t t' : TE} (h : PE X e t) (k : ∀ σ H Q, t' σ H Q → t σ H Q) : PE X e t' := ⟨fun pins s σ H Q I q => h.run pins s σ H Q I (k _ _ _ q)⟩
theorem PT.imp {X : Cx} {e : Expr} {t t' : TT} (h : PT X e t) (k : ∀ σ H Q, t' σ H Q → t σ H Q) : PT X e t' := ⟨fun pins s σ H Q I q => h.run pins s σ H Q I (k _ _ _ q)⟩
theorem PA.imp {X : Cx} {e : List Expr} {t t' : TA} (h : PA X e t) (k : ∀ σ H Q, t' σ H Q → t σ H Q) : PA X e t' := ⟨fun p pins s σ H Q I q => h.run p pins s σ H Q I (k _ _ _ q)⟩
theorem PW.imp {X : Cx} {e : Expr} {t t' : TT} (h : PW X e t) (k : ∀ σ H Q, t' σ H Q → t σ H Q) : PW X e t' := ⟨fun w pins s σ H Q I q => h.run w pins s σ H Q I (k _ _ _ q)⟩

abbrev wE (W : WX) (σ : L2.St) : XK := fun cls dd H' => W cls dd σ H'
abbrev RB : Hp → List Addr → Bool → Bool → Prop := fun _ _ a b => a = b
section
variable (K : PySem.W.Frag) (L : Lay) (P : Cfg) (W : WX)
def tE (t : T) : TE := fun σ H Q => ∃ G r cs env, Sep K L G r cs H ∧ EnvR K L G r H env σ ∧ KO K L (Rep K L) (wE W σ) G r H (evE P t env cs) Q
def tT (t : T) : TT := fun σ H Q => ∃ G r cs env, Sep K L G r cs H ∧ EnvR K L G r H env σ ∧ KO K L RB (wE W σ) G r H ((evE P t env cs).bind fun x cs1 => ofO (truD cs1 x) cs1) Q
def tTs (ts : Ts) : TA := fun σ H Q => ∃ G r cs env, Sep K L G r cs H ∧ EnvR K L G r H env σ ∧ KO K L (Reps K L) (wE W σ) G r H (evTs P ts env cs) Q
end

section
variable {K : PySem.W.Frag} {L : Lay} {G : Hp} {r : List Addr} {H : Hp} {cs : List C} {x : D} {v : V}
theorem Rep.int_of {i : Int} (h : Rep K L G r (.int i) v) : v = .int i := by cases h; rfl
theorem Rep.bl_of {i : Bool} (h : Rep K L G r (.bl i) v) : v = .bl i := by cases h; rfl
theorem Rep.str_of {i : List Nat} (h : Rep K L G r (.str i) v) : v = .str (mkS i) := by cases h; rfl
theorem Rep.non_of (h : Rep K L G r .non v) : v = .non := by cases h; rfl
theorem top_flat {d : D} (e : top cs x = d) (h : ∀ c, x ≠ .ref c) : x = d := by
  cases x <;> first | exact e | (exact absurd rfl (h _))
theorem top_ref {c : Nat} : (∃ ds, top cs (.ref c) = .lst ds ∧ cs[c]? = some (.lst ds)) ∨ (∃ ks ds, top cs (.ref c) = .dct ks ds ∧ cs[c]? = some (.dct ks ds)) ∨ top cs (.ref c) = .ref c := by
  cases e : cs[c]? with
  | none => exact .inr (.inr (by simp [top, e]))
  | some k => cases k with
    | lst ds => exact .inl ⟨ds, by simp [top, e], rfl⟩
    | dct ks ds => exact .inr (.inl ⟨ks, ds, by simp [top, e], rfl⟩)
    | ins c ks ds => exact .inr (.inr (by simp [top, e]))
theorem top_int {i : Int} (e : top cs x = .int i) : x = .int i := by
  cases x <;> first
    | exact e
    | (rename_i c; rcases @top_ref cs c with ⟨ds, q, _⟩ | ⟨ks, ds, q, _⟩ | q <;> rw [q] at e <;> cases e)
theorem top_str {i : List Nat} (e : top cs x = .str i) : x = .str i := by
  cases x <;> first
    | exact e
    | (rename_i c; rcases @top_ref cs c with ⟨ds, q, _⟩ | ⟨ks, ds, q, _⟩ | q <;> rw [q] at e <;> cases e)
theorem top_bl {i : Bool} (e : top cs x = .bl i) : x = .bl i := by
  cases x <;> first
    | exact e
    | (rename_i c; rcases @top_ref cs c with ⟨ds, q, _⟩ | ⟨ks, ds, q, _⟩ | q <;> rw [q] at e <;> cases e)
theorem top_non (e : top cs x = .non) : x = .non := by
  cases x <;> first
    | exact e
    | (rename_i c; rcases @top_ref cs c with ⟨ds, q, _⟩ | ⟨ks, ds, q, _⟩ | q <;> rw [q] at e <;> cases e)
theorem top_tup {i : List D} (e : top cs x = .tup i) : x = .tup i := by
  cases x <;> first
    | exact e
    | (rename_i c; rcases @top_ref cs c with ⟨ds, q, _⟩ | ⟨ks, ds, q, _⟩ | q <;> rw [q] at e <;> cases e)
theorem top_lst (s : Sep K L G r cs H) (h : Rep K L G r x v) {ds : List D} (e : top cs x = .lst ds) : ∃ a vs, v = .ref a ∧ H a = some (.lst vs) ∧ Reps K L G r ds vs := by
  cases x with
  | lst es =>
    have e : D.lst es = .lst ds := e
    cases e
    cases h with
    | lst h1 h2 => exact ⟨_, _, rfl, s.same _ _ h1, h2⟩
  | ref c =>
    rcases @top_ref cs c with ⟨es, q, q2⟩ | ⟨ks, es, q, _⟩ | q <;> rw [q] at e <;> cases e
    cases h with
    | ref hr =>
      obtain ⟨a, h1, h2, vs, h3, h4⟩ := s.cell c _ q2
      rw [hr] at h1
      cases h1
      exact ⟨_, vs, rfl, h3, h4⟩
  | _ => exact absurd e (by intro z; cases z)
theorem tup_of (s : Sep K L G r cs H) {ds : List D} (h : Rep K L G r (.tup ds) v) : ∃ a vs, v = .ref a ∧ SqT K H a vs ∧ Reps K L G r ds vs := by
  cases h with
  | tup h1 h2 => exact ⟨_, _, rfl, Same.tupq s.same h1, h2⟩
theorem top_dct (s : Sep K L G r cs H) (h : Rep K L G r x v) {ks : List Key} {ds : List D} (e : top cs x = .dct ks ds) : ∃ a vs, v = .ref a ∧ H a = some (.dK (ks.zip vs)) ∧ ks.length = ds.length ∧ ks.Nodup ∧ Reps K L G r ds vs := by
  cases x with
  | dct ks' es =>
    have e : D.dct ks' es = .dct ks ds := e
    cases e
    cases h with
    | dct h1 l n h2 => exact ⟨_, _, rfl, s.same _ _ h1, l, n, h2⟩
  | ref c =>
    rcases @top_ref cs c with ⟨es, q, q2⟩ | ⟨ks, es, q, q2⟩ | q <;> rw [q] at e <;> cases e
    cases h with
    | ref hr =>
      obtain ⟨a, h1, h2, vs, h3, l, n, h4⟩ := s.cell c _ q2
      rw [hr] at h1
      cases h1
      exact ⟨_, vs, rfl, h3, l, n, h4⟩
  | _ => exact absurd e (by intro z; cases z)
theorem LIM_le {n : Nat} (h : n ≤ LIM) : n ≤ sizeLine := Nat.le_trans h (by decide)
theorem mkS_len (x : List Nat) : (mkS x).length = x.length := by show x.toArray.size = _; simp
theorem zip_nil {α β : Type} {ks : List α} {vs : List β} (h : ks.length = vs.length) : (ks.zip vs).isEmpty = vs.isEmpty := by
  cases ks <;> cases vs <;> simp_all
theorem Reps.isEmpty {ds : List D} {vs : List V} (h : Reps K L G r ds vs) : vs.isEmpty = ds.isEmpty := by cases h <;> rfl
theorem truD_ok (s : Sep K L G r cs H) (h : Rep K L G r x v) {k : Bool} (e : truD cs x = some k) : TruV K v H k := by
  unfold truD at e
  cases t : top cs x with
  | non => rw [t] at e; cases e; cases top_non t; cases h; rfl
  | bl b => rw [t] at e; cases e; cases top_bl t; cases h; rfl
  | int i => rw [t] at e; cases e; cases top_int t; cases h; rfl
  | str y =>
    rw [t] at e
    cases top_str t
    cases h
    simp only at e
    split at e
    · rename_i q
      cases e
      refine ⟨by rw [mkS_len]; exact LIM_le q, ?_⟩
      rw [mkS_len]
      cases y <;> simp
      omega
    · cases e
  | lst y =>
    rw [t] at e; cases e
    obtain ⟨a, vs, rfl, h1, h2⟩ := top_lst s h t
    exact .inl ⟨vs, SqL.of h1, by rw [h2.isEmpty]⟩
  | tup y =>
    rw [t] at e; cases e
    cases top_tup t
    obtain ⟨a, vs, rfl, h1, h2⟩ := tup_of s h
    exact .inr (.inl ⟨vs, h1, by rw [h2.isEmpty]⟩)
  | dct ks y =>
    rw [t] at e; cases e
    obtain ⟨a, vs, rfl, h1, l, _, h2⟩ := top_dct s h t
    exact .inr (.inr ⟨_, h1, by rw [zip_nil (l.trans h2.length), h2.isEmpty]⟩)
  | dctT ks ds => rw [t] at e; cases e
  | obj c ks ds => rw [t] at e; cases e
  | err c ks ds => rw [t] at e; cases e
  | ref c => rw [t] at e; cases e
  | scr c => rw [t] at e; cases e
mutual
theorem Rep.dp : ∀ {d : D} {v : V} {x : PyData}, Same G H → Rep K L G r d v → d.py = some x → Dp K H v x
  | .non, _, _, _, h, e => by cases h; cases e; exact .non
  | .bl b, _, _, _, h, e => by cases h; cases e; exact .bl b
  | .int b, _, _, _, h, e => by cases h; cases e; exact .int b
  | .str b, _, _, _, h, e => by cases h; cases e; exact .str _
  | .tup ds, _, x, g, h, e => by
    cases h with
    | tup h1 h2 =>
      have e : (D.pys ds).map PyData.tuple = some x := e
      cases q : D.pys ds with
      | none => rw [q] at e; cases e
      | some xs => rw [q] at e; cases e; exact .tup (Same.tupq g h1) (Reps.dp g h2 q)
  | .lst ds, _, x, g, h, e => by
    cases h with
    | lst h1 h2 =>
      have e : (D.pys ds).map PyData.list = some x := e
      cases q : D.pys ds with
      | none => rw [q] at e; cases e
      | some xs => rw [q] at e; cases e; exact .lst (SqL.of (g _ _ h1)) (Reps.dp g h2 q)
  | .dct _ _, _, _, _, _, e => by cases e
  | .obj _ _ _, _, _, _, _, e => by cases e
  | .ref _, _, _, _, _, e => by cases e
  | .scr _, _, _, _, _, e => by cases e
theorem Reps.dp : ∀ {ds : List D} {vs : List V} {xs : List PyData}, Same G H → Reps K L G r ds vs → D.pys ds = some xs → DpAll K H vs xs
  | [], _, _, _, h, e => by cases h; cases e; exact .nil
  | d :: ds, _, xs, g, h, e => by
    cases h with
    | cons h1 h2 =>
      unfold D.pys at e
      cases q : d.py with
      | none => rw [q] at e; cases e
      | some x =>
        cases q2 : D.pys ds with
        | none => rw [q, q2] at e; cases e
        | some xs => rw [q, q2] at e; cases e; exact .cons (Rep.dp g h1 q) (Reps.dp g h2 q2)
end
theorem top_dp (s : Sep K L G r cs H) (h : Rep K L G r x v) {y : PyData} (e : (top cs x).py = some y) : Dp K H v y := by
  cases t : top cs x with
  | non => cases top_non t; rw [t] at e; exact h.dp s.same e
  | bl b => cases top_bl t; rw [t] at e; exact h.dp s.same e
  | int i => cases top_int t; rw [t] at e; exact h.dp s.same e
  | str y => cases top_str t; rw [t] at e; exact h.dp s.same e
  | tup y => cases top_tup t; rw [t] at e; exact h.dp s.same e
  | lst ds =>
    rw [t] at e
    obtain ⟨a, vs, rfl, h1, h2⟩ := top_lst s h t
    have e : (D.pys ds).map PyData.list = some y := e
    cases q : D.pys ds with
    | none => rw [q] at e; cases e
    | some xs => rw [q] at e; cases e; exact .lst (SqL.of h1) (h2.dp s.same q)
  | dct _ _ => rw [t] at e; cases e
  | dctT _ _ => rw [t] at e; cases e
  | obj _ _ _ => rw [t] at e; cases e
  | err _ _ _ => rw [t] at e; cases e
  | ref _ => rw [t] at e; cases e
  | scr _ => rw [t] at e; cases e
theorem flat_ok {w : V} (h : Rep K L G r x v) (e : x.flat = some w) : v = w ∧ flatV w = true := by
  cases x <;> first
    | (cases e; done)
    | (cases h; cases e; exact ⟨rfl, rfl⟩)
theorem flats_ok : ∀ {ds : List D} {vs ws : List V}, Reps K L G r ds vs → flats ds = some ws → vs = ws ∧ ws.all flatV = true
  | [], _, _, h, e => by cases h; cases e; exact ⟨rfl, rfl⟩
  | d :: ds, _, _, h, e => by
    cases h with
    | cons h1 h2 =>
      unfold flats at e
      cases q : d.flat with
      | none => rw [q] at e; cases e
      | some x =>
        cases q2 : flats ds with
        | none => rw [q, q2] at e; cases e
        | some xs =>
          rw [q, q2] at e; cases e
          obtain ⟨e1, f1⟩ := flat_ok h1 q
          obtain ⟨e2, f2⟩ := flats_ok h2 q2
          exact ⟨by rw [e1, e2], by rw [List.all_cons, f1, f2]; rfl⟩
end

section
variable {K : PySem.W.Frag} {L : Lay} {E : XK} {G : Hp} {r : List Addr} {H : Hp} {cs : List C}
theorem KO.lst {ds : List D} {vs : List V} {Q : VK} (h : KO K L (Rep K L) E G r H (.ok (.lst ds) cs) Q) (s : Sep K L G r cs H) (q : Reps K L G r ds vs) {p : Addr} (hp : H p = none) : Q (.ref p) (upd H p (.lst vs)) :=
  h _ _ _ _ (Go.new s _ hp) (s.new _ hp) (.lst upd_same (q.go (Go.new s _ hp)))
theorem KO.tup {ds : List D} {vs : List V} {Q : VK} (h : KO K L (Rep K L) E G r H (.ok (.tup ds) cs) Q) (s : Sep K L G r cs H) (q : Reps K L G r ds vs) {p : Addr} (hp : H p = none) : Q (.ref p) (upd H p (.tup vs)) :=
  h _ _ _ _ (Go.new s _ hp) (s.new _ hp) (.tup (SqT.of upd_same) (q.go (Go.new s _ hp)))
end

end XV
set_option Elab.async false
set_option linter.all false
set_option autoImplicit false
set_option maxRecDepth 100000
namespace XV
open PySem PySem.Spec PyProof.Rows L2

def plainT : Expr → Bool
  | .UnaryOp .Not _ _ => false
  | .BoolOp _ _ _ => false
  | .IfExp _ _ _ _ => false
  | .Compare _ _ _ _ => false
  | _ => true
theorem plainT_ok {e : Expr} (h : plainT e = true) (env : Env) (whole : Sem Value) : isTrue e env whole = (do let v ← whole; standAt e.pos; holding [v] (truthy v)) := by
  cases e <;> first
    | rfl
    | (rename_i op _ _; cases op <;> first | rfl | (simp [plainT] at h))
    | (simp [plainT] at h)
def isStar : Expr → Bool
  | .Starred _ _ => true
  | _ => false
theorem star_ok {e : Expr} {es : List Expr} {env : Env} (h : isStar e = false) : starEach (e :: es) env = (false, eval e env) :: starEach es env := by
  cases e <;> first | rfl | (simp [isStar] at h)
def isSlice : Expr → Bool
  | .Slice _ _ _ _ => true
  | _ => false
theorem plainIx_ok {e : Expr} (h : isSlice e = false) : PlainIx e := by
  intro o i
  cases e <;> first | rfl | (simp [isSlice] at h)
def isSetD : Expr → Bool
  | .Set _ _ _ => true
  | _ => false
theorem folded_ok {e : Expr} {env : Env} (h : isSetD e = false) (x : Value) : foldedSetIterable e env x = pure x := by
  cases e <;> first | rfl | (simp [isSetD] at h)
def isComp : Expr → Bool
  | .ListComp _ _ _ _ => true
  | .SetComp _ _ _ _ => true
  | .DictComp _ _ _ _ _ => true
  | _ => false
theorem swaps_ok {e : Expr} {t : Option Expr} {l : Nat} {env : Env} (h : isComp e = false) : swapsWith e t l env = pure false := by
  cases e <;> first | rfl | (simp [isComp] at h)
def isCall0 : Expr → Bool
  | .Call _ [] [] _ => true
  | _ => false
theorem attr_ok {e : Expr} {f : Str} {env : Env} (h : isCall0 e = false) : attributeBase e f env (eval e env) = eval e env := by
  cases e <;> first
    | rfl
    | (rename_i f' args kws pos; cases args <;> cases kws <;> first | (simp [isCall0] at h; done) | (cases f' <;> rfl))

section
variable {X : Cx} {L : Lay} {P : Cfg} {W : WX} {pos : Pos}

theorem sE_name {i : Nat} {x : Str} (hN : X.N[i]? = some x) (hv : Vis X.env.scope x) (hd : (x == ("__debug__" : Str)) = false) (hcd : (x == ("__classdict__" : Str)) = false) : PE X (.Name x pos) (tE X.K L P W (.v i)) := by
  refine PE.imp (pe_var hN hv hd hcd) fun σ H Q h => ?_
  obtain ⟨G, r, cs, env, s, e, k⟩ := h
  unfold evE at k
  cases q : env[i]? with
  | none => rw [q] at k; exact k.elim
  | some sv =>
    rw [q] at k
    cases sv with
    | d x =>
      obtain ⟨v, e1, e2⟩ := e.get i _ q
      exact ⟨v, e1, k.ok0 s e2⟩
    | _ => exact k.elim
theorem sE_non {j : Nat} : PE X (.Constant .none j pos) (tE X.K L P W (.k .non)) :=
  PE.imp pe_non fun σ H Q ⟨G, r, cs, env, s, e, k⟩ => KO.ok0 (v := V.non) k s .non
theorem sE_bl {b : Bool} {j : Nat} : PE X (.Constant (.bool b) j pos) (tE X.K L P W (.k (.bl b))) :=
  PE.imp pe_bl fun σ H Q ⟨G, r, cs, env, s, e, k⟩ => KO.ok0 (v := V.bl b) k s (.bl b)
theorem sE_int {i : Int} {j : Nat} : PE X (.Constant (.int i) j pos) (tE X.K L P W (.k (.int i))) :=
  PE.imp pe_int fun σ H Q ⟨G, r, cs, env, s, e, k⟩ => KO.ok0 (v := V.int i) k s (.int i)
theorem sE_str {x : Str} {l : List Nat} {j : Nat} (h : x = mkS l) : PE X (.Constant (.str x) j pos) (tE X.K L P W (.k (.str l))) := by
  subst h
  exact PE.imp pe_str fun σ H Q ⟨G, r, cs, env, s, e, k⟩ => KO.ok0 (v := V.str (mkS l)) k s (.str l)
theorem sE_glob {x : Str} {n : Nat} {u : Value} {d : D} {v : V} (hg : Gl X x) (hm : X.mg x = some u) (rv : RelV v u) (hk : P.gk n = some d) (hr : ∀ G r, Rep X.K L G r d v) (hd : (x == ("__debug__" : Str)) = false) : PE X (.Name x pos) (tE X.K L P W (.g n)) := by
  refine PE.imp (pe_glob hg hm rv hd) fun σ H Q ⟨G, r, cs, env, s, e, k⟩ => ?_
  unfold evE at k
  rw [hk] at k
  exact KO.ok0 (v := v) k s (hr G r)

theorem sA_nil : PA X [] (tTs X.K L P W .nil) :=
  PA.imp pa_nil fun σ H Q ⟨G, r, cs, env, s, e, k⟩ => KO.ok0 (v := []) k s .nil
theorem sA_cons {e : Expr} {es : List Expr} {t : T} {ts : Ts} (he : PE X e (tE X.K L P W t)) (hs : PA X es (tTs X.K L P W ts)) (hn : isStar e = false) : PA X (e :: es) (tTs X.K L P W (.cons t ts)) := by
  refine PA.imp (pa_cons he hs (star_ok hn)) fun σ H Q ⟨G, r, cs, env, s, er, k⟩ => ?_
  unfold evTs at k
  refine ⟨G, r, cs, env, s, er, k.bind fun x cs1 _ v G1 r1 H1 g1 s1 rx k1 => ?_⟩
  refine ⟨G1, r1, cs1, env, s1, er.go g1, k1.bind fun xs cs2 _ vs G2 r2 H2 g2 s2 rxs k2 => ?_⟩
  exact k2.ok0 s2 (.cons (rx.go g2) rxs)
theorem lim_some {α : Type} {n : Nat} {x y : α} (h : lim n x = some y) : n ≤ LIM ∧ x = y := by
  unfold lim at h
  split at h
  · rename_i q; cases h; exact ⟨q, rfl⟩
  · cases h
theorem sE_tup {es : List Expr} {x1 : Nat} {ts : Ts} (h : PA X es (tTs X.K L P W ts)) : PE X (.Tuple es x1 pos) (tE X.K L P W (.tup ts)) := by
  refine PE.imp (pe_tup h) fun σ H Q ⟨G, r, cs, env, s, er, k⟩ => ?_
  unfold evE at k
  refine ⟨G, r, cs, env, s, er, k.bind fun xs cs1 _ vs G1 r1 H1 g1 s1 rx k1 => ?_⟩
  obtain ⟨d, e, k2⟩ := k1.some_of
  obtain ⟨hl, e2⟩ := lim_some e
  subst e2
  exact ⟨by rw [← rx.length]; exact LIM_le hl, fun p hp => k2.tup s1 rx hp⟩
theorem sE_lst {es : List Expr} {ts : Ts} (h : PA X es (tTs X.K L P W ts)) : PE X (.List es pos) (tE X.K L P W (.lst ts)) := by
  refine PE.imp (pe_lst h) fun σ H Q ⟨G, r, cs, env, s, er, k⟩ => ?_
  unfold evE at k
  refine ⟨G, r, cs, env, s, er, k.bind fun xs cs1 _ vs G1 r1 H1 g1 s1 rx k1 => ?_⟩
  obtain ⟨d, e, k2⟩ := k1.some_of
  obtain ⟨hl, e2⟩ := lim_some e
  subst e2
  exact ⟨by rw [← rx.length]; exact LIM_le hl, fun p hp => k2.lst s1 rx hp⟩
theorem Go.cellNew {K : PySem.W.Frag} {L : Lay} {G : Hp} {r : List Addr} {H : Hp} {cs : List C} (s : Sep K L G r cs H) {p : Addr} (o : HO) (hp : H p = none) : Go G r H G (r ++ [p]) (upd H p o) := by
  refine ⟨Same.refl G, fun _ _ => rfl, ⟨[p], rfl, fun a ha => by
    have e : a = p := by simpa using ha
    subst e; exact .of hp⟩, fun b x h _ _ => by rw [upd_ne (ne_of_none h hp)]; exact h, fun b h => ?_⟩
  rw [Fr.upd (Fr.ne h (.of hp))]; exact h
theorem Sep.cellNew {K : PySem.W.Frag} {L : Lay} {G : Hp} {r : List Addr} {H : Hp} {cs : List C} (s : Sep K L G r cs H) {p : Addr} {o : HO} {k : C} (hp : H p = none) (hk : CellR K L G (r ++ [p]) (upd H p o) p k) : Sep K L G (r ++ [p]) (cs ++ [k]) (upd H p o) := by
  have gp : G p = none := Same.free s.same hp
  have np : p ∉ r := fun hm => (s.mem hm).2 (.of hp)
  refine ⟨fun b x h => by rw [upd_ne (ne_of_none h gp)]; exact s.same b x h, ?_, by rw [List.length_append, List.length_append, s.len]; rfl, fun c k' e => ?_, s.tabs.ext fun b x h => by rw [upd_ne (ne_of_none h hp)]; exact h, s.gt, s.lat.more (Same.refl G) ⟨[p], rfl⟩⟩
  · exact List.nodup_append.mpr ⟨s.nod, by simp, fun a ha b hb => by simp at hb; subst hb; exact fun z => np (z ▸ ha)⟩
  · by_cases hc : c < cs.length
    · rw [List.getElem?_append_left hc] at e
      obtain ⟨a, h1, h2, h3⟩ := s.cell c k' e
      have ne : a ≠ p := fun z => h3.some (z ▸ .of hp)
      exact ⟨a, pre_get h1, h2, CellR.mono (Same.refl G) (by rw [upd_ne ne]) h3⟩
    · rw [List.getElem?_append_right (by omega)] at e
      have e0 : c - cs.length = 0 := by
        cases q : c - cs.length with
        | zero => rfl
        | succ n => rw [q] at e; simp at e
      rw [e0] at e
      cases e
      refine ⟨p, ?_, gp, hk⟩
      have : c = r.length := by have := s.len; omega
      rw [this, List.getElem?_append_right (Nat.le_refl _)]
      simp
theorem sE_lstC {es : List Expr} {ts : Ts} (h : PA X es (tTs X.K L P W ts)) : PE X (.List es pos) (tE X.K L P W (.lstC ts)) := by
  refine PE.imp (pe_lst h) fun σ H Q ⟨G, r, cs, env, s, er, k⟩ => ?_
  unfold evE at k
  refine ⟨G, r, cs, env, s, er, k.bind fun xs cs1 _ vs G1 r1 H1 g1 s1 rx k1 => ?_⟩
  by_cases hl : xs.length ≤ LIM
  · rw [if_pos hl] at k1
    refine ⟨by rw [← rx.length]; exact LIM_le hl, fun p hp => ?_⟩
    have g := Go.cellNew s1 (.lst vs) hp
    refine k1 _ _ _ _ g (s1.cellNew hp ⟨vs, upd_same, rx.go g⟩) (.ref ?_)
    rw [← s1.len, List.getElem?_append_right (Nat.le_refl _)]
    simp
  · rw [if_neg hl] at k1; exact k1.elim

theorem sE_bin {op : Operator} {o : Bop} {R : R2} {a b : Expr} {ta tb : T} (ho : OpR X (binaryOp op) R) (ha : PE X a (tE X.K L P W ta)) (hb : PE X b (tE X.K L P W tb))
    (hR : ∀ (E : XK) G r H cs x y v w Q, Sep X.K L G r cs H → Rep X.K L G r x v → Rep X.K L G r y w → KO X.K L (Rep X.K L) E G r H (ofO (binD o cs x y) cs) Q → R v w H Q) : PE X (.BinOp a op b pos) (tE X.K L P W (.bin o ta tb)) := by
  refine PE.imp (pe_op ho ha hb) fun σ H Q ⟨G, r, cs, env, s, er, k⟩ => ?_
  unfold evE at k
  refine ⟨G, r, cs, env, s, er, k.bind fun x cs1 _ v G1 r1 H1 g1 s1 rx k1 => ?_⟩
  refine ⟨G1, r1, cs1, env, s1, er.go g1, k1.bind fun y cs2 _ w G2 r2 H2 g2 s2 ry k2 => ?_⟩
  exact hR _ G2 r2 H2 cs2 x y v w Q s2 (rx.go g2) ry k2
section
variable {E : XK} {G : Hp} {r : List Addr} {H : Hp} {cs : List C} {x y : D} {v w : V} {Q : VK}
theorem intD_some {f : Int → Int → Option Int} {d : D} (e : intD f x y = some d) : ∃ i j n, x = .int i ∧ y = .int j ∧ f i j = some n ∧ d = .int n := by
  unfold intD at e
  split at e
  · rename_i i j
    cases q : f i j with
    | none => rw [q] at e; cases e
    | some n => rw [q] at e; cases e; exact ⟨i, j, n, rfl, rfl, q, rfl⟩
  · cases e
theorem r_int {op : Bop} {f : Int → Int → Option Int} {Cd : Int → Int → Prop} {g : Int → Int → Int} (hb : ∀ cs x y, binD op cs x y = intD f x y) (hf : ∀ i j n, f i j = some n → Cd i j ∧ n = g i j)
    (s : Sep X.K L G r cs H) (rx : Rep X.K L G r x v) (ry : Rep X.K L G r y w) (k : KO X.K L (Rep X.K L) E G r H (ofO (binD op cs x y) cs) Q) : rI Cd (fun i j => .int (g i j)) v w H Q := by
  obtain ⟨d, e, k⟩ := k.some_of
  rw [hb] at e
  obtain ⟨i, j, n, rfl, rfl, q, rfl⟩ := intD_some e
  obtain ⟨c, rfl⟩ := hf i j n q
  exact ⟨i, j, rx.int_of, ry.int_of, c, k.ok0 s (.int _)⟩
theorem mkS_app (i j : List Nat) : mkS i ++ mkS j = mkS (i ++ j) := by
  show (⟨i.toArray ++ j.toArray⟩ : Str) = ⟨(i ++ j).toArray⟩
  simp
theorem r_add (s : Sep X.K L G r cs H) (rx : Rep X.K L G r x v) (ry : Rep X.K L G r y w) (k : KO X.K L (Rep X.K L) E G r H (ofO (binD .add cs x y) cs) Q) :
    rI0 (fun i j => .int (i + j)) v w H Q ∨ (∃ i j, v = .str i ∧ w = .str j ∧ i.length + j.length ≤ sizeLine ∧ Q (.str (i ++ j)) H) ∨ rCat v w H Q := by
  obtain ⟨d, e, k⟩ := k.some_of
  replace e : addD cs x y = some d := e
  unfold addD at e
  split at e
  · rename_i i j t1 t2
    cases top_int t1; cases top_int t2
    cases e
    exact .inl ⟨i, j, rx.int_of, ry.int_of, k.ok0 s (.int _)⟩
  · rename_i i j t1 t2
    cases top_str t1; cases top_str t2
    obtain ⟨hl, e⟩ := lim_some e
    subst e
    refine .inr (.inl ⟨_, _, rx.str_of, ry.str_of, by rw [mkS_len, mkS_len]; exact LIM_le hl, ?_⟩)
    rw [mkS_app]
    exact k.ok0 s (.str _)
  · rename_i i j t1 t2
    obtain ⟨hl, e⟩ := lim_some e
    subst e
    obtain ⟨a, vs, rfl, h1, h2⟩ := top_lst s rx t1
    obtain ⟨b, ws, rfl, h3, h4⟩ := top_lst s ry t2
    exact .inr (.inr ⟨a, b, vs, ws, rfl, rfl, h1, h3, by rw [← h2.length, ← h4.length]; exact LIM_le hl, fun p hp => k.lst s (h2.append h4) hp⟩)
  · cases e
theorem foldl_cps (x : Array Nat) : ∀ (n : Nat) (acc : Array Nat), (List.replicate n x).foldl (· ++ ·) acc = acc ++ ((List.replicate n x.toList).flatten).toArray
  | 0, acc => by simp
  | n + 1, acc => by
    rw [List.replicate_succ, List.foldl_cons, foldl_cps x n, List.replicate_succ, List.flatten_cons]
    apply Array.ext'
    simp
def rMulS : R2 := fun x y H Q => ∃ (a : List Nat) (k : Int), x = .str (mkS a) ∧ y = .int k ∧ 0 ≤ k ∧ k ≤ 1000 ∧ a.length * k.toNat ≤ 1000000 ∧ Q (.str (mkS (List.replicate k.toNat a).flatten)) H
theorem op_mulS : OpR X (binaryOp .Mult) rMulS := by
  intro pins s σ H x y v u Q I rx ry h
  obtain ⟨a, k, rfl, rfl, h0, h1, h2, q⟩ := h
  obtain ⟨t, rfl⟩ := rx
  obtain ⟨t2, rfl⟩ := ry
  have hlen : (mkS a).length = a.length := by unfold mkS; rfl
  refine P.mul_str (by rw [decide_eq_false (by omega), decide_eq_false (by omega)]; rfl) (fun q1 q2 => ?_) (fun q1 q2 => ?_) ?_
  · rw [hlen]
    have : (a.length : Int) ≤ 1000000 := by
      have : a.length ≤ a.length * k.toNat := Nat.le_mul_of_pos_right _ (by omega)
      omega
    have h3 : (1000000 : Int) ≤ (2 ^ 63 - 1) / k := Int.le_ediv_of_mul_le (by omega) (by omega)
    omega
  · rw [hlen]
    refine decide_eq_false ?_
    have : (1000000 : Nat) ≤ sizeLine := by decide
    omega
  · have fin : ∀ (z : Str) (tk : Nat), z = mkS (List.replicate k.toNat a).flatten → EP X pins σ Q (.str z s.toks) { s with toks := tk } := fun z tk e => by
      subst e
      exact ⟨.str _, H, I.tok _, ⟨_, rfl⟩, q⟩
    by_cases c1 : k < 1
    · rw [if_pos c1]
      refine ⟨by decide, fin _ _ ?_⟩
      have : k.toNat = 0 := by omega
      rw [this]; rfl
    · rw [if_neg c1]
      by_cases c2 : (k == 1 || (mkS a).length == 0) = true
      · rw [if_pos c2]
        show EP X pins σ Q (.str (mkS a) t) s
        have e : mkS a = mkS (List.replicate k.toNat a).flatten := by
          rw [Bool.or_eq_true] at c2
          rcases c2 with z | z
          · have : k = 1 := by simpa using z
            subst this
            simp
          · have : a = [] := by
              rw [hlen] at z
              exact List.eq_nil_of_length_eq_zero (by simpa using z)
            subst this
            simp
        refine ⟨.str _, H, I, ⟨t, ?_⟩, q⟩
        rw [e]
      · rw [if_neg c2]
        have e : (⟨(List.replicate k.toNat (mkS a).cps).foldl (· ++ ·) #[]⟩ : Str) = mkS (List.replicate k.toNat a).flatten := by
          have := foldl_cps (mkS a).cps k.toNat #[]
          rw [this]
          simp [mkS]
        refine ⟨?_, fin _ _ e⟩
        rw [e]
        have h5 : (List.replicate k.toNat a).flatten.length = k.toNat * a.length := by simp [List.length_flatten]
        have h6 : (mkS (List.replicate k.toNat a).flatten).length = (List.replicate k.toNat a).flatten.length := by unfold mkS; rfl
        have : (1000000 : Nat) ≤ sizeLine := by decide
        rw [h6, h5, Nat.mul_comm]
        omega
theorem Reps.rep : ∀ (n : Nat) {ds : List D} {vs : List V}, Reps X.K L G r ds vs → Reps X.K L G r (List.replicate n ds).flatten (List.replicate n vs).flatten
  | 0, _, _, _ => .nil
  | n + 1, ds, vs, h => by
    rw [List.replicate_succ, List.replicate_succ, List.flatten_cons, List.flatten_cons]
    exact h.append (Reps.rep n h)
end
section
variable {E : XK} {G : Hp} {r : List Addr} {H : Hp} {cs : List C} {x y : D} {v w : V} {Q : VK}
theorem r_mul (s : Sep X.K L G r cs H) (rx : Rep X.K L G r x v) (ry : Rep X.K L G r y w) (k : KO X.K L (Rep X.K L) E G r H (ofO (binD .mul cs x y) cs) Q) :
    rI CMul (fun i j => .int (i * j)) v w H Q ∨ rRep v w H Q ∨ rMulS v w H Q := by
  obtain ⟨d, e, k⟩ := k.some_of
  replace e : mulD cs x y = some d := e
  unfold mulD at e
  split at e
  · rename_i i j t1
    cases top_int t1
    split at e
    · rename_i c
      cases e
      exact .inl ⟨_, _, rx.int_of, ry.int_of, c, k.ok0 s (.int _)⟩
    · cases e
  · rename_i i j t1
    split at e
    · rename_i c
      obtain ⟨hl, e⟩ := lim_some e
      subst e
      obtain ⟨a, vs, rfl, h1, h2⟩ := top_lst s rx t1
      exact .inr (.inl ⟨a, _, vs, rfl, ry.int_of, h1, by omega, by omega, by rw [← h2.length]; exact LIM_le hl, fun p hp => k.lst s (h2.rep _) hp⟩)
    · cases e
  · rename_i i j t1
    split at e
    · rename_i c
      obtain ⟨hl, e⟩ := lim_some e
      subst e
      rw [top_str t1] at rx
      exact .inr (.inr ⟨i, _, rx.str_of, ry.int_of, c.1, c.2, hl, KO.ok0 (v := V.str (mkS (List.replicate j.toNat i).flatten)) k s (Rep.str _)⟩)
    · cases e
  · cases e
end
def oB : Bop → Operator
  | .add => .Add | .sub => .Sub | .mul => .Mult | .mod => .Mod | .fdiv => .FloorDiv | .pow => .Pow
  | .band => .BitAnd | .bor => .BitOr | .bxor => .BitXor | .shl => .LShift | .shr => .RShift
theorem ite_some {α : Type} {c : Prop} [Decidable c] {a b : α} (h : (if c then some a else none) = some b) : c ∧ b = a := by
  split at h
  · rename_i q; cases h; exact ⟨q, rfl⟩
  · cases h
theorem sE_op {o : Bop} {a b : Expr} {ta tb : T} (ha : PE X a (tE X.K L P W ta)) (hb : PE X b (tE X.K L P W tb)) : PE X (.BinOp a (oB o) b pos) (tE X.K L P W (.bin o ta tb)) := by
  cases o with
  | add => exact sE_bin (op_add.or (op_add_str.or op_cat)) ha hb fun E G r H cs x y v w Q s rx ry k => r_add s rx ry k
  | sub =>
    exact sE_bin op_sub ha hb fun E G r H cs x y v w Q s rx ry k => by
      obtain ⟨i, j, h1, h2, _, h3⟩ := r_int (op := .sub) (Cd := fun _ _ => True) (g := fun i j => i - j) (fun _ _ _ => rfl) (fun i j n h => ⟨trivial, (Option.some.inj h).symm⟩) s rx ry k
      exact ⟨i, j, h1, h2, h3⟩
  | mul => exact sE_bin (op_mul.or (op_rep.or op_mulS)) ha hb fun E G r H cs x y v w Q s rx ry k => r_mul s rx ry k
  | mod => exact sE_bin op_mod ha hb fun E G r H cs x y v w Q s rx ry k => r_int (op := .mod) (fun _ _ _ => rfl) (fun i j n h => ite_some h) s rx ry k
  | fdiv => exact sE_bin op_fdiv ha hb fun E G r H cs x y v w Q s rx ry k => r_int (op := .fdiv) (fun _ _ _ => rfl) (fun i j n h => ite_some (c := 0 < j ∧ j < 1073741824) h) s rx ry k
  | pow => exact sE_bin op_pow ha hb fun E G r H cs x y v w Q s rx ry k => r_int (op := .pow) (fun _ _ _ => rfl) (fun i j n h => ite_some (c := 0 ≤ j ∧ j ≤ 1000000 ∧ i.natAbs < 2 ^ 64) h) s rx ry k
  | band =>
    exact sE_bin op_and ha hb fun E G r H cs x y v w Q s rx ry k => by
      obtain ⟨i, j, h1, h2, _, h3⟩ := r_int (op := .band) (Cd := fun _ _ => True) (g := Builtin.bitAnd) (fun _ _ _ => rfl) (fun i j n h => ⟨trivial, (Option.some.inj h).symm⟩) s rx ry k
      exact ⟨i, j, h1, h2, h3⟩
  | bor =>
    exact sE_bin op_or ha hb fun E G r H cs x y v w Q s rx ry k => by
      obtain ⟨i, j, h1, h2, _, h3⟩ := r_int (op := .bor) (Cd := fun _ _ => True) (g := Builtin.bitOr) (fun _ _ _ => rfl) (fun i j n h => ⟨trivial, (Option.some.inj h).symm⟩) s rx ry k
      exact ⟨i, j, h1, h2, h3⟩
  | bxor =>
    exact sE_bin op_xor ha hb fun E G r H cs x y v w Q s rx ry k => by
      obtain ⟨i, j, h1, h2, _, h3⟩ := r_int (op := .bxor) (Cd := fun _ _ => True) (g := Builtin.bitXor) (fun _ _ _ => rfl) (fun i j n h => ⟨trivial, (Option.some.inj h).symm⟩) s rx ry k
      exact ⟨i, j, h1, h2, h3⟩
  | shl => exact sE_bin op_shl ha hb fun E G r H cs x y v w Q s rx ry k => r_int (op := .shl) (fun _ _ _ => rfl) (fun i j n h => ite_some (c := 0 ≤ j ∧ j ≤ 1000000 ∧ i.natAbs < 2 ^ 64) h) s rx ry k
  | shr => exact sE_bin op_shr ha hb fun E G r H cs x y v w Q s rx ry k => r_int (op := .shr) (fun _ _ _ => rfl) (fun i j n h => ite_some h) s rx ry k
theorem sE_neg {a : Expr} {ta : T} (ha : PE X a (tE X.K L P W ta)) : PE X (.UnaryOp .USub a pos) (tE X.K L P W (.neg ta)) := by
  refine PE.imp (pe_un un_neg ha) fun σ H Q ⟨G, r, cs, env, s, er, k⟩ => ?_
  unfold evE at k
  refine ⟨G, r, cs, env, s, er, k.bind fun x cs1 _ v G1 r1 H1 g1 s1 rx k1 => ?_⟩
  cases x <;> first | exact k1.elim | skip
  exact ⟨_, rx.int_of, k1.ok0 s1 (.int _)⟩

theorem sT_of {e : Expr} {t : T} (h : PE X e (tE X.K L P W t)) (hp : plainT e = true) : PT X e (tT X.K L P W t) := by
  refine PT.imp (pt_truth h (plainT_ok hp X.env)) fun σ H Q ⟨G, r, cs, env, s, er, k⟩ => ?_
  refine ⟨G, r, cs, env, s, er, k.bind fun x cs1 _ v G1 r1 H1 g1 s1 rx k1 => ?_⟩
  obtain ⟨b, e, k2⟩ := k1.some_of
  exact ⟨b, truD_ok s1 rx e, k2.ok0 s1 rfl⟩
theorem sE_not {a : Expr} {ta : T} (ha : PE X a (tE X.K L P W ta)) : PE X (.UnaryOp .Not a pos) (tE X.K L P W (.not ta)) := by
  refine PE.imp (pe_notT ha) fun σ H Q ⟨G, r, cs, env, s, er, k⟩ => ?_
  unfold evE at k
  refine ⟨G, r, cs, env, s, er, k.bind fun x cs1 _ v G1 r1 H1 g1 s1 rx k1 => ?_⟩
  obtain ⟨b, e⟩ : ∃ b, truD cs1 x = some b := by
    cases q : truD cs1 x with
    | none => rw [q] at k1; exact k1.elim
    | some b => exact ⟨b, rfl⟩
  rw [e] at k1
  exact ⟨b, truD_ok s1 rx e, KO.ok0 (v := V.bl (!b)) k1 s1 (.bl _)⟩
theorem sT_not {a : Expr} {ta : T} (ha : PT X a (tT X.K L P W ta)) : PT X (.UnaryOp .Not a pos) (tT X.K L P W (.not ta)) := by
  refine PT.imp (pt_not ha) fun σ H Q ⟨G, r, cs, env, s, er, k⟩ => ?_
  unfold evE at k
  refine ⟨G, r, cs, env, s, er, ?_⟩
  cases e : evE P ta env cs with
  | bad => rw [e] at k; exact k.elim
  | exc c ds cs1 => rw [e] at k; exact k
  | ok x cs1 =>
    rw [e] at k
    show KO _ _ _ _ _ _ _ (ofO (truD cs1 x) cs1) _
    cases q : truD cs1 x with
    | none => simp [q] at k; exact k.elim
    | some b =>
      simp only [Out.bind_ok, q, ofO_some] at k
      intro v G' r' H' g' s' rv
      cases rv
      exact k (!b) G' r' H' g' s' rfl
end
end XV
set_option Elab.async false
set_option linter.all false
set_option autoImplicit false
set_option maxRecDepth 100000
namespace XV
open PySem PySem.Spec PyProof.Rows L2

theorem KO.go {α β : Type} {K : PySem.W.Frag} {L : Lay} {R : Hp → List Addr → α → β → Prop} {E : XK} {G G' : Hp} {r r' : List Addr} {H H' : Hp} {o : Out α} {Q : β → Hp → Prop} (h : KO K L R E G r H o Q) (g : Go G r H G' r' H') : KO K L R E G' r' H' o Q := by
  cases o with
  | ok a cs' => exact fun v G2 r2 H2 g2 s q => h v G2 r2 H2 (g.trans g2) s q
  | exc c ds cs' => exact fun cls dd G2 r2 H2 g2 s q => h cls dd G2 r2 H2 (g.trans g2) s q
  | bad => exact h

section
variable {X : Cx} {L : Lay} {P : Cfg} {W : WX} {pos : Pos} {a b c : Expr} {rest : List Expr} {ta tb tc : T}

theorem tru_cases {K : PySem.W.Frag} {E : XK} {G : Hp} {r : List Addr} {H : Hp} {α β : Type} {R : Hp → List Addr → α → β → Prop} {cs : List C} {x : D} {f : Bool → List C → Out α} {Q : β → Hp → Prop} (h : KO K L R E G r H ((ofO (truD cs x) cs).bind f) Q) : ∃ k, truD cs x = some k ∧ KO K L R E G r H (f k cs) Q := by
  cases q : truD cs x with
  | none => rw [q] at h; exact h.elim
  | some k => rw [q] at h; exact ⟨k, rfl, h⟩

theorem sE_and (ha : PE X a (tE X.K L P W ta)) (hb : PE X (.BoolOp .And (b :: rest) pos) (tE X.K L P W tb)) : PE X (.BoolOp .And (a :: b :: rest) pos) (tE X.K L P W (.and ta tb)) := by
  refine PE.imp (pe_andT ha hb) fun σ H Q ⟨G, r, cs, env, s, er, k⟩ => ?_
  unfold evE at k
  refine ⟨G, r, cs, env, s, er, k.bind fun x cs1 _ v G1 r1 H1 g1 s1 rx k1 => ?_⟩
  obtain ⟨kk, e, k2⟩ := tru_cases k1
  refine ⟨kk, truD_ok s1 rx e, ?_⟩
  cases kk with
  | true => exact ⟨G1, r1, cs1, env, s1, er.go g1, k2⟩
  | false => exact KO.ok0 (a := x) k2 s1 rx
theorem sE_or (ha : PE X a (tE X.K L P W ta)) (hb : PE X (.BoolOp .Or (b :: rest) pos) (tE X.K L P W tb)) : PE X (.BoolOp .Or (a :: b :: rest) pos) (tE X.K L P W (.or ta tb)) := by
  refine PE.imp (pe_orT ha hb) fun σ H Q ⟨G, r, cs, env, s, er, k⟩ => ?_
  unfold evE at k
  refine ⟨G, r, cs, env, s, er, k.bind fun x cs1 _ v G1 r1 H1 g1 s1 rx k1 => ?_⟩
  obtain ⟨kk, e, k2⟩ := tru_cases k1
  refine ⟨kk, truD_ok s1 rx e, ?_⟩
  cases kk with
  | false => exact ⟨G1, r1, cs1, env, s1, er.go g1, k2⟩
  | true => exact KO.ok0 (a := x) k2 s1 rx
theorem tT_bind {σ : L2.St} {H : Hp} {Q : Bool → Hp → Prop} {α : Type} {β : Type} {R : Hp → List Addr → α → β → Prop} {Q0 : β → Hp → Prop} {G : Hp} {r : List Addr} {cs : List C} {env : List SV} {t : T} {f : D → Bool → List C → Out α} (s : Sep X.K L G r cs H) (er : EnvR X.K L G r H env σ)
    (k : KO X.K L R (wE W σ) G r H ((evE P t env cs).bind fun x cs1 => (ofO (truD cs1 x) cs1).bind fun kk cs1 => f x kk cs1) Q0)
    (h : ∀ x kk cs1 G' r' H', Go G r H G' r' H' → Sep X.K L G' r' cs1 H' → EnvR X.K L G' r' H' env σ → truD cs1 x = some kk → KO X.K L R (wE W σ) G' r' H' (f x kk cs1) Q0 → Q kk H') : tT X.K L P W t σ H Q := by
  refine ⟨G, r, cs, env, s, er, ?_⟩
  cases e : evE P t env cs with
  | bad => rw [e] at k; exact k.elim
  | exc c ds cs1 => rw [e] at k; exact k
  | ok x cs1 =>
    rw [e] at k
    obtain ⟨kk, q, k2⟩ := tru_cases k
    show KO _ _ _ _ _ _ _ (ofO (truD cs1 x) cs1) _
    rw [q]
    intro v G' r' H' g' s' rv
    cases rv
    exact h x kk cs1 G' r' H' g' s' (er.go g') q (k2.go g')
theorem tT_split {K : PySem.W.Frag} {E : XK} {G : Hp} {r : List Addr} {H : Hp} {Q : Bool → Hp → Prop} {cs : List C} {env : List SV} {t : T} {f : D → Bool → List C → Out D}
    (k : KO K L RB E G r H (((evE P t env cs).bind fun x cs1 => (ofO (truD cs1 x) cs1).bind fun kk cs1 => f x kk cs1).bind fun x cs1 => ofO (truD cs1 x) cs1) Q) :
    KO K L RB E G r H ((evE P t env cs).bind fun x cs1 => (ofO (truD cs1 x) cs1).bind fun kk cs1 => (f x kk cs1).bind fun x cs1 => ofO (truD cs1 x) cs1) Q := by
  cases e : evE P t env cs with
  | bad => rw [e] at k; exact k
  | exc c ds cs1 => rw [e] at k; exact k
  | ok x cs1 =>
    rw [e] at k
    simp only [Out.bind_ok] at k ⊢
    cases q : truD cs1 x with
    | none => rw [q] at k; exact k
    | some kk => rw [q] at k; exact k
theorem sW_and (ha : PT X a (tT X.K L P W ta)) (hb : PW X (.BoolOp .And (b :: rest) pos) (tT X.K L P W tb)) : PW X (.BoolOp .And (a :: b :: rest) pos) (tT X.K L P W (.and ta tb)) := by
  refine PW.imp (pw_and ha hb) fun σ H Q ⟨G, r, cs, env, s, er, k⟩ => ?_
  unfold evE at k
  refine tT_bind s er (tT_split (f := fun x k cs1 => if k then evE P tb env cs1 else .ok x cs1) k) fun x kk cs1 G' r' H' g' s' er' q k' => ?_
  cases kk with
  | true => exact ⟨G', r', cs1, env, s', er', k'⟩
  | false =>
    have k' : KO X.K L RB (wE W σ) G' r' H' (ofO (truD cs1 x) cs1) Q := k'
    rw [q] at k'
    exact k'.ok0 s' rfl
theorem sW_or (ha : PT X a (tT X.K L P W ta)) (hb : PW X (.BoolOp .Or (b :: rest) pos) (tT X.K L P W tb)) : PW X (.BoolOp .Or (a :: b :: rest) pos) (tT X.K L P W (.or ta tb)) := by
  refine PW.imp (pw_or ha hb) fun σ H Q ⟨G, r, cs, env, s, er, k⟩ => ?_
  unfold evE at k
  refine tT_bind s er (tT_split (f := fun x k cs1 => if k then .ok x cs1 else evE P tb env cs1) k) fun x kk cs1 G' r' H' g' s' er' q k' => ?_
  cases kk with
  | false => exact ⟨G', r', cs1, env, s', er', k'⟩
  | true =>
    have k' : KO X.K L RB (wE W σ) G' r' H' (ofO (truD cs1 x) cs1) Q := k'
    rw [q] at k'
    exact k'.ok0 s' rfl
theorem sE_one {op : BoolOp} (ha : PE X a (tE X.K L P W ta)) : PE X (.BoolOp op [a] pos) (tE X.K L P W ta) := pe_one ha
theorem sW_and1 (ha : PT X a (tT X.K L P W ta)) : PW X (.BoolOp .And [a] pos) (tT X.K L P W ta) := pw_and1 ha
theorem sW_or1 (ha : PT X a (tT X.K L P W ta)) : PW X (.BoolOp .Or [a] pos) (tT X.K L P W ta) := pw_or1 ha
theorem sE_ife (hc : PT X c (tT X.K L P W tc)) (ha : PE X a (tE X.K L P W ta)) (hb : PE X b (tE X.K L P W tb)) : PE X (.IfExp c a b pos) (tE X.K L P W (.ife tc ta tb)) := by
  refine PE.imp (pe_ifExp hc ha hb) fun σ H Q ⟨G, r, cs, env, s, er, k⟩ => ?_
  unfold evE at k
  refine tT_bind (f := fun x k cs1 => if k then evE P ta env cs1 else evE P tb env cs1) s er k fun x kk cs1 G' r' H' g' s' er' q k' => ?_
  cases kk with
  | true => exact ⟨G', r', cs1, env, s', er', k'⟩
  | false => exact ⟨G', r', cs1, env, s', er', k'⟩

def CmpOk (K : PySem.W.Frag) (L : Lay) (op : CmpOp) (R : R2) : Prop :=
  ∀ G r H cs x y v w kk (Q : VK), Sep K L G r cs H → Rep K L G r x v → Rep K L G r y w → cmpD op cs x y = some kk → Q (.bl kk) H → R v w H Q
theorem sE_cmpR {op : CmpOp} {R : R2} (ho : OpR X (compareOp op) R) (hR : CmpOk X.K L op R) (ha : PE X a (tE X.K L P W ta)) (hb : PE X b (tE X.K L P W tb)) (hm : behindInMarks op b = false) : PE X (.Compare a [op] [b] pos) (tE X.K L P W (.cmp op ta tb)) := by
  refine PE.imp (pe_cmpR ho ha hb hm) fun σ H Q ⟨G, r, cs, env, s, er, k⟩ => ?_
  unfold evE at k
  refine ⟨G, r, cs, env, s, er, k.bind fun x cs1 _ v G1 r1 H1 g1 s1 rx k1 => ?_⟩
  refine ⟨G1, r1, cs1, env, s1, er.go g1, k1.bind fun y cs2 _ w G2 r2 H2 g2 s2 ry k2 => ?_⟩
  cases q : cmpD op cs2 x y with
  | none => rw [q] at k2; exact k2.elim
  | some kk =>
    rw [q] at k2
    exact hR G2 r2 H2 cs2 x y v w kk Q s2 (rx.go g2) ry q (KO.ok0 (v := V.bl kk) k2 s2 (.bl _))
theorem sT_cmpR {op : CmpOp} {R : R2} (ho : OpR X (compareOp op) R) (hR : CmpOk X.K L op R) (ha : PE X a (tE X.K L P W ta)) (hb : PE X b (tE X.K L P W tb)) (hm : behindInMarks op b = false) : PT X (.Compare a [op] [b] pos) (tT X.K L P W (.cmp op ta tb)) := by
  refine PT.imp (pt_cmpR ho ha hb hm) fun σ H Q ⟨G, r, cs, env, s, er, k⟩ => ?_
  unfold evE at k
  have k : KO X.K L RB (wE W σ) G r H ((evE P ta env cs).bind fun x cs1 => (evE P tb env cs1).bind fun y cs2 => ofO (cmpD op cs2 x y) cs2) Q := by
    cases e1 : evE P ta env cs with
    | bad => rw [e1] at k; exact k
    | exc c ds cs1 => rw [e1] at k; exact k
    | ok x cs1 =>
      rw [e1] at k
      simp only [Out.bind_ok] at k ⊢
      cases e2 : evE P tb env cs1 with
      | bad => rw [e2] at k; exact k
      | exc c ds cs1 => rw [e2] at k; exact k
      | ok y cs2 =>
        rw [e2] at k
        simp only [Out.bind_ok] at k ⊢
        cases q : cmpD op cs2 x y with
        | none => rw [q] at k; exact k
        | some kk => rw [q] at k; exact k
  refine ⟨G, r, cs, env, s, er, k.bind fun x cs1 _ v G1 r1 H1 g1 s1 rx k1 => ?_⟩
  refine ⟨G1, r1, cs1, env, s1, er.go g1, k1.bind fun y cs2 _ w G2 r2 H2 g2 s2 ry k2 => ?_⟩
  obtain ⟨kk, q, k3⟩ := k2.some_of
  exact hR G2 r2 H2 cs2 x y v w kk _ s2 (rx.go g2) ry q ⟨kk, rfl, KO.ok0 (v := kk) k3 s2 rfl⟩
theorem flat_val {K : PySem.W.Frag} {G : Hp} {r : List Addr} {d : D} {v w : V} (h : flatD d = true) (p : Rep K L G r d v) (q : Rep K L G r d w) : v = w ∧ flatB v = true := by
  cases d <;> first | (cases h; done) | skip
  · cases p.non_of; cases q.non_of; exact ⟨rfl, rfl⟩
  · cases p.bl_of; cases q.bl_of; exact ⟨rfl, rfl⟩
  · cases p.int_of; cases q.int_of; exact ⟨rfl, rfl⟩
  · cases p.str_of; cases q.str_of; exact ⟨rfl, rfl⟩
theorem flat_vals {K : PySem.W.Frag} {G : Hp} {r : List Addr} : ∀ {ds : List D} {vs ws : List V}, ds.all flatD = true → Reps K L G r ds vs → Reps K L G r ds ws → vs = ws ∧ ∀ v ∈ vs, flatB v = true
  | [], _, _, _, .nil, .nil => ⟨rfl, fun v hv => by cases hv⟩
  | d :: ds, _, _, h, .cons p1 p2, .cons q1 q2 => by
    rw [List.all_cons, Bool.and_eq_true] at h
    obtain ⟨e1, f1⟩ := flat_val h.1 p1 q1
    obtain ⟨e2, f2⟩ := flat_vals h.2 p2 q2
    exact ⟨by rw [e1, e2], fun v hv => (List.mem_cons.mp hv).elim (fun z => z ▸ f1) (f2 v)⟩
theorem zip_keys {κ α : Type} : ∀ {ks : List κ} {vs : List α}, ks.length = vs.length → (ks.zip vs).map (·.1) = ks
  | [], [], _ => rfl
  | [], _ :: _, h => by cases h
  | _ :: _, [], h => by cases h
  | k :: ks, v :: vs, h => by
    rw [List.zip_cons_cons, List.map_cons, zip_keys (by simpa using h)]
theorem eqF_some {K : PySem.W.Frag} {G : Hp} {r : List Addr} {H : Hp} {cs : List C} {x y : D} {v w : V} {kk : Bool} (s : Sep K L G r cs H) (rx : Rep K L G r x v) (ry : Rep K L G r y w) (e : eqF (top cs x) (top cs y) = some kk) :
    kk = true ∧ ∃ a b kvs, v = .ref a ∧ w = .ref b ∧ H a = some (.dK kvs) ∧ H b = some (.dK kvs) ∧ (kvs.map (·.1)).Nodup ∧ ∀ p ∈ kvs, flatB p.2 = true := by
  unfold eqF at e
  split at e
  · rename_i ks ds t1
    split at e
    · rename_i ls es t2
      split at e
      · rename_i c
        cases e
        simp only [Bool.and_eq_true, decide_eq_true_eq] at c
        obtain ⟨c1, c2, c3⟩ := c
        have c2 := D.eqbs_t _ _ c2
        subst c1 c2
        obtain ⟨a, vs, rfl, h1, l1, n1, q1⟩ := top_dct s rx t1
        obtain ⟨b, ws, rfl, h2, l2, n2, q2⟩ := top_dct s ry t2
        obtain ⟨e1, f1⟩ := flat_vals c3 q1 q2
        subst e1
        refine ⟨rfl, a, b, _, rfl, rfl, h1, h2, ?_, fun p hp => f1 _ (List.of_mem_zip hp).2⟩
        rw [zip_keys (by rw [l1, q1.length])]
        exact n1
      · cases e
    · cases e
  · cases e
theorem eqD_some {K : PySem.W.Frag} {G : Hp} {r : List Addr} {H : Hp} {cs : List C} {x y : D} {v w : V} {kk : Bool} (s : Sep K L G r cs H) (rx : Rep K L G r x v) (ry : Rep K L G r y w) (e : eqD cs x y = some kk) :
    (∃ d d', Dp K H v d ∧ Dp K H w d' ∧ SeqAt.shaped d = true ∧ SeqAt.shaped d' = true ∧ kk = PyData.eqv d d') ∨
    (kk = true ∧ ∃ a b kvs, v = .ref a ∧ w = .ref b ∧ H a = some (.dK kvs) ∧ H b = some (.dK kvs) ∧ (kvs.map (·.1)).Nodup ∧ ∀ p ∈ kvs, flatB p.2 = true) := by
  unfold eqD at e
  cases q1 : (top cs x).py with
  | none => rw [q1] at e; exact .inr (eqF_some s rx ry e)
  | some d =>
    cases q2 : (top cs y).py with
    | none => rw [q1, q2] at e; exact .inr (eqF_some s rx ry e)
    | some d' =>
      rw [q1, q2] at e
      simp only at e
      split at e
      · rename_i c
        rw [Bool.and_eq_true] at c
        cases e
        exact .inl ⟨d, d', top_dp s rx q1, top_dp s ry q2, c.1, c.2, rfl⟩
      · cases e
theorem d00_of {K : PySem.W.Frag} {G : Hp} {r : List Addr} {H : Hp} {cs : List C} {x : D} {v : V} (s : Sep K L G r cs H) (rx : Rep K L G r x v) (e : isD00 x = true) : ∃ a, v = .ref a ∧ H a = some (.dK []) := by
  unfold isD00 at e
  split at e
  · cases rx with
    | dct h1 _ _ _ => exact ⟨_, rfl, s.same _ _ h1⟩
  · cases e
def rEmp : R2 := fun x y H Q => ∃ a b kvs, x = .ref a ∧ y = .ref b ∧ H a = some (.dK kvs) ∧ H b = some (.dK kvs) ∧ (kvs.map (·.1)).Nodup ∧ (∀ p ∈ kvs, flatB p.2 = true) ∧ Q (.bl true) H
theorem ok_eq {K : PySem.W.Frag} : CmpOk K L .Eq (fun x y H Q => rEqD K x y H Q ∨ rEmp x y H Q) := fun G r H cs x y v w kk Q s rx ry e q => by
  have e : (if isD00 x && isD00 y then some true else eqD cs x y) = some kk := e
  split at e
  · rename_i h
    cases e
    obtain ⟨h1, h2⟩ := Bool.and_eq_true_iff.mp h
    obtain ⟨a, rfl, e1⟩ := d00_of s rx h1
    obtain ⟨b, rfl, e2⟩ := d00_of s ry h2
    exact .inr ⟨a, b, [], rfl, rfl, e1, e2, List.nodup_nil, fun p hp => (List.not_mem_nil hp).elim, q⟩
  · rcases eqD_some s rx ry e with ⟨d, d', h1, h2, h3, h4, rfl⟩ | ⟨rfl, a, b, kvs, h1, h2, h3, h4, h5, h6⟩
    · exact .inl ⟨d, d', h1, h2, h3, h4, q⟩
    · exact .inr ⟨a, b, kvs, h1, h2, h3, h4, h5, h6, q⟩
theorem valV_nodup {p : Key × V} : ∀ {kvs : List (Key × V)}, (kvs.map (·.1)).Nodup → p ∈ kvs → valV kvs p.1 = some p.2
  | [], _, h => by cases h
  | q :: kvs, n, h => by
    rw [List.map_cons] at n
    obtain ⟨n1, n2⟩ := List.nodup_cons.mp n
    unfold valV
    rcases List.mem_cons.mp h with rfl | h
    · simp
    · have ne : q.1 ≠ p.1 := fun z => n1 (z ▸ List.mem_map.mpr ⟨p, h, rfl⟩)
      have ih := valV_nodup n2 h
      unfold valV at ih
      simp [ne, ih]
theorem op_ne_dict {X : Cx} (hu : X.A.units < cLine) : OpR X (compareOp .NotEq) (fun x y H Q => ∃ a b kvs, x = .ref a ∧ y = .ref b ∧ H a = some (.dK kvs) ∧ H b = some (.dK kvs) ∧ (kvs.map (·.1)).Nodup ∧ (∀ p ∈ kvs, flatB p.2 = true) ∧ Q (.bl false) H) := by
  intro pins s σ H x y v u Q I rx ry h
  obtain ⟨a, b, kvs, h1, h2, h3, h4, nd, fl, q⟩ := h
  exact op_ne_dictA hu pins s σ H x y v u Q I rx ry ⟨a, b, kvs, kvs, h1, h2, h3, h4, rfl, fun p hp => ⟨valV_nodup nd hp, fl p hp⟩, q⟩
def rEmpN : R2 := fun x y H Q => ∃ a b kvs, x = .ref a ∧ y = .ref b ∧ H a = some (.dK kvs) ∧ H b = some (.dK kvs) ∧ (kvs.map (·.1)).Nodup ∧ (∀ p ∈ kvs, flatB p.2 = true) ∧ Q (.bl false) H
theorem ok_ne {K : PySem.W.Frag} : CmpOk K L .NotEq (fun x y H Q => rNeD K x y H Q ∨ rEmpN x y H Q) := fun G r H cs x y v w kk Q s rx ry e q => by
  have e : (eqD cs x y).map (!·) = some kk := e
  cases q1 : eqD cs x y with
  | none => rw [q1] at e; cases e
  | some k0 =>
    rw [q1] at e; cases e
    rcases eqD_some s rx ry q1 with ⟨d, d', h1, h2, h3, h4, rfl⟩ | ⟨rfl, a, b, kvs, h1, h2, h3, h4, h5, h6⟩
    · exact .inl ⟨d, d', h1, h2, h3, h4, q⟩
    · exact .inr ⟨a, b, kvs, h1, h2, h3, h4, h5, h6, q⟩
abbrev rStr (f : List Nat → List Nat → Bool) : R2 := fun x y H Q => ∃ i j : Str, x = .str i ∧ y = .str j ∧ Q (.bl (f i.cps.toList j.cps.toList)) H
theorem ok_lt {K : PySem.W.Frag} : CmpOk K L .Lt (fun x y H Q => rI0 (fun i j => .bl (decide (i < j))) x y H Q ∨ ∃ i j : Str, x = .str i ∧ y = .str j ∧ Q (.bl (decide (i.cps.toList < j.cps.toList))) H) := fun G r H cs x y v w kk Q s rx ry e q => by
  unfold cmpD at e
  cases x <;> cases y <;> first
    | (cases e; done)
    | (cases e; exact .inl ⟨_, _, rx.int_of, ry.int_of, q⟩)
    | (cases e; exact .inr ⟨_, _, rx.str_of, ry.str_of, q⟩)
theorem ok_le {K : PySem.W.Frag} : CmpOk K L .LtE (fun x y H Q => rI0 (fun i j => .bl (decide (i ≤ j))) x y H Q ∨ ∃ i j : Str, x = .str i ∧ y = .str j ∧ Q (.bl (!decide (j.cps.toList < i.cps.toList))) H) := fun G r H cs x y v w kk Q s rx ry e q => by
  unfold cmpD at e
  cases x <;> cases y <;> first
    | (cases e; done)
    | (cases e; exact .inl ⟨_, _, rx.int_of, ry.int_of, q⟩)
    | (cases e; exact .inr ⟨_, _, rx.str_of, ry.str_of, q⟩)
theorem ok_gt {K : PySem.W.Frag} : CmpOk K L .Gt (fun x y H Q => rI0 (fun i j => .bl (decide (j < i))) x y H Q ∨ ∃ i j : Str, x = .str i ∧ y = .str j ∧ Q (.bl (decide (j.cps.toList < i.cps.toList))) H) := fun G r H cs x y v w kk Q s rx ry e q => by
  unfold cmpD at e
  cases x <;> cases y <;> first
    | (cases e; done)
    | (cases e; exact .inl ⟨_, _, rx.int_of, ry.int_of, q⟩)
    | (cases e; exact .inr ⟨_, _, rx.str_of, ry.str_of, q⟩)
theorem ok_ge {K : PySem.W.Frag} : CmpOk K L .GtE (fun x y H Q => rI0 (fun i j => .bl (decide (j ≤ i))) x y H Q ∨ ∃ i j : Str, x = .str i ∧ y = .str j ∧ Q (.bl (!decide (i.cps.toList < j.cps.toList))) H) := fun G r H cs x y v w kk Q s rx ry e q => by
  unfold cmpD at e
  cases x <;> cases y <;> first
    | (cases e; done)
    | (cases e; exact .inl ⟨_, _, rx.int_of, ry.int_of, q⟩)
    | (cases e; exact .inr ⟨_, _, rx.str_of, ry.str_of, q⟩)
theorem ok_is {K : PySem.W.Frag} : CmpOk K L .Is (fun x y H Q => (y = .non ∧ Q (.bl (decide (x = .non))) H) ∨ rIsB x y H Q) := fun G r H cs x y v w kk Q s rx ry e q => by
  unfold cmpD at e
  cases y with
  | non =>
    refine .inl ⟨ry.non_of, ?_⟩
    cases e
    cases rx <;> exact q
  | bl k =>
    cases x with
    | bl j =>
      cases e
      refine .inr ⟨j, k, rx.bl_of, ry.bl_of, ?_⟩
      rw [← Bool.beq_eq_decide_eq]
      exact q
    | _ => cases e
  | _ => cases e
theorem ok_isnot {K : PySem.W.Frag} : CmpOk K L .IsNot (fun x y H Q => (y = .non ∧ Q (.bl (!decide (x = .non))) H) ∨ rNotB x y H Q) := fun G r H cs x y v w kk Q s rx ry e q => by
  unfold cmpD at e
  cases y with
  | non =>
    refine .inl ⟨ry.non_of, ?_⟩
    cases e
    cases rx <;> exact q
  | bl k =>
    cases x with
    | bl j =>
      cases e
      refine .inr ⟨j, k, rx.bl_of, ry.bl_of, ?_⟩
      rw [← Bool.beq_eq_decide_eq]
      exact q
    | _ => cases e
  | _ => cases e
theorem inF_some {K : PySem.W.Frag} {G : Hp} {r : List Addr} {x : D} {v : V} {ds : List D} {vs : List V} {kk : Bool} (rx : Rep K L G r x v) (h : Reps K L G r ds vs) (e : inF x ds = some kk) : flatV v = true ∧ vs.all flatV = true ∧ kk = inV v vs := by
  unfold inF at e
  cases q1 : x.flat with
  | none => rw [q1] at e; cases e
  | some v' =>
    cases q2 : flats ds with
    | none => rw [q1, q2] at e; cases e
    | some vs' =>
      rw [q1, q2] at e; cases e
      obtain ⟨e1, f1⟩ := flat_ok rx q1
      obtain ⟨e2, f2⟩ := flats_ok h q2
      subst e1 e2
      exact ⟨f1, f2, rfl⟩
def rInP (K : PySem.W.Frag) (neg : Bool) : R2 := fun x y H Q => ∃ d ds, Dp K H x d ∧ (Dp K H y (.list ds) ∨ Dp K H y (.tuple ds)) ∧ SeqAt.shaped d = true ∧ SeqAt.shaped (.list ds) = true ∧ Q (.bl ((ds.any fun z => PyData.eqv z d) != neg)) H
def rDin (K : PySem.W.Frag) (neg : Bool) : R2 := fun x y H Q => ∃ a, y = .ref a ∧ ((∃ kvs k, Rd H a (.dK kvs) ∧ x = kV k ∧ Q (.bl ((valV kvs k).isSome != neg)) H) ∨
  ∃ kvs k b, Rd H a (.dT kvs) ∧ x = .ref b ∧ SqT K H b (k.map kV) ∧ Q (.bl ((valV kvs k).isSome != neg)) H)
section
variable {X : Cx}
theorem keyT_of {pins : List (Addr × Obj)} {σ : L2.St} {H : Hp} {s : Shared} {b : Addr} {k : List Key} (I : Inv X pins σ H s) (h : SqT X.K H b (k.map kV)) : (tupleKind (mixKind X.prog X.w)).is s.heap k b := by
  obtain ⟨its, r, ⟨o, e, c, n, d⟩, _⟩ := I.tuple h
  exact ⟨o, its.toArray, n, e, c, d, by simpa using items_are r⟩
theorem op_inP (hu : X.A.units + 65 < cLine) : OpR X (compareOp .In) (rInP X.K false) := by
  intro pins s σ H x y v u Q I rx ry h
  obtain ⟨d, ds, hd, he, sd, se, q⟩ := h
  obtain ⟨as, r1⟩ := Dp.reads I d x v hd rx
  rw [Bool.bne_false] at q
  rcases he with he | he <;> obtain ⟨bs, r2⟩ := Dp.reads I _ y u he ry
  · exact SeqAt.in_list_reads r2 r1 (SeqAt.canLay_of_shaped se) (SeqAt.canLay_of_shaped sd) (room_in_shaped sd hu) ⟨.bl _, H, I, rfl, q⟩
  · exact SeqAt.in_tuple_reads r2 r1 (SeqAt.canLay_of_shaped se) (SeqAt.canLay_of_shaped sd) (room_in_shaped sd hu) ⟨.bl _, H, I, rfl, q⟩
theorem op_ninP (hu : X.A.units + 65 < cLine) : OpR X (compareOp .NotIn) (rInP X.K true) := by
  intro pins s σ H x y v u Q I rx ry h
  obtain ⟨d, ds, hd, he, sd, se, q⟩ := h
  obtain ⟨as, r1⟩ := Dp.reads I d x v hd rx
  rw [Bool.bne_true] at q
  rcases he with he | he <;> obtain ⟨bs, r2⟩ := Dp.reads I _ y u he ry
  · exact SeqAt.notIn_list_reads r2 r1 (SeqAt.canLay_of_shaped se) (SeqAt.canLay_of_shaped sd) (room_in_shaped sd hu) ⟨.bl _, H, I, rfl, q⟩
  · exact SeqAt.notIn_tuple_reads r2 r1 (SeqAt.canLay_of_shaped se) (SeqAt.canLay_of_shaped sd) (room_in_shaped sd hu) ⟨.bl _, H, I, rfl, q⟩
theorem op_din (hu : X.A.units + 1 < cLine) : OpR X (compareOp .In) (rDin X.K false) := by
  intro pins s σ H x y v u Q I rx ry h
  obtain ⟨a, rfl, h⟩ := h
  cases ry
  rcases h with ⟨kvs, k, e, rfl, q⟩ | ⟨kvs, k, b, e, rfl, eb, q⟩ <;> rw [Bool.bne_false] at q
  · obtain ⟨z, hd, vs, rel, dd⟩ := dk_rd I.hok e
    refine wpAny_in_of (kV_is rx) hd dd.mapOf ?_
    rw [← (rel.val k).isSome_eq]
    exact ⟨.bl _, H, I.tok _, rfl, q⟩
  · cases rx
    obtain ⟨z, hd, xs, rel, dd⟩ := dt_rd I.hok e
    refine wpAny_in_heap (tupleKind_room_in1 hu) (keyT_of I eb) hd dd ?_
    have q2 := (rel.val k).isSome_eq
    rw [Option.isSome_map] at q2
    rw [← q2]
    exact ⟨.bl _, H, I.tok _, rfl, q⟩
theorem op_ndin (hu : X.A.units + 1 < cLine) : OpR X (compareOp .NotIn) (rDin X.K true) := by
  intro pins s σ H x y v u Q I rx ry h
  obtain ⟨a, rfl, h⟩ := h
  cases ry
  rcases h with ⟨kvs, k, e, rfl, q⟩ | ⟨kvs, k, b, e, rfl, eb, q⟩ <;> rw [Bool.bne_true] at q
  · obtain ⟨z, hd, vs, rel, dd⟩ := dk_rd I.hok e
    refine wpAny_notIn_of (kV_is rx) hd dd.mapOf ?_
    rw [← (rel.val k).isSome_eq]
    exact ⟨.bl _, H, I.tok _, rfl, q⟩
  · cases rx
    obtain ⟨z, hd, xs, rel, dd⟩ := dt_rd I.hok e
    refine wpAny_notIn_heap (tupleKind_room_in1 hu) (keyT_of I eb) hd dd ?_
    have q2 := (rel.val k).isSome_eq
    rw [Option.isSome_map] at q2
    rw [← q2]
    exact ⟨.bl _, H, I.tok _, rfl, q⟩
end
section
variable {κ : Type} [DecidableEq κ]
theorem hasK_zip {K : PySem.W.Frag} {G : Hp} {r : List Addr} : ∀ {ks : List κ} {ds : List D} {vs : List V} (k : κ), ks.length = ds.length → Reps K L G r ds vs → (valV (ks.zip vs) k).isSome = hasK ks k
  | [], _, _, k, _, _ => rfl
  | k' :: ks, [], _, k, l, _ => by cases l
  | k' :: ks, d :: ds, _, k, l, .cons (v := v) (vs := vs) h q => by
    show (valV ((k', v) :: ks.zip vs) k).isSome = (decide (k' = k) || hasK ks k)
    by_cases e : k' = k
    · rw [valV_pos (p := (k', v)) e, decide_eq_true e]; rfl
    · rw [valV_neg (p := (k', v)) e, hasK_zip k (by simpa using l) q, decide_eq_false e]; rfl
theorem getK_zip {K : PySem.W.Frag} {G : Hp} {r : List Addr} : ∀ {ks : List κ} {ds : List D} {vs : List V} {k : κ} {d : D}, ks.length = ds.length → Reps K L G r ds vs → getK ks ds k = some d → ∃ v, valV (ks.zip vs) k = some v ∧ Rep K L G r d v
  | [], _, _, k, _, _, _, e => by cases e
  | k' :: ks, [], _, k, _, l, _, e => by cases l
  | k' :: ks, d :: ds, _, k, x, l, .cons (v := v) (vs := vs) h q, e => by
    have e : (if k' = k then some d else getK ks ds k) = some x := e
    show ∃ w, valV ((k', v) :: ks.zip vs) k = some w ∧ _
    by_cases c : k' = k
    · rw [if_pos c] at e; cases e
      exact ⟨v, valV_pos (p := (k', v)) c, h⟩
    · rw [if_neg c] at e
      obtain ⟨w, h1, h2⟩ := getK_zip (ds := ds) (by simpa using l) q e
      exact ⟨w, by rw [valV_neg (p := (k', v)) c]; exact h1, h2⟩
end
theorem keyD_ok {K : PySem.W.Frag} {G : Hp} {r : List Addr} {x : D} {v : V} {k : Key} (h : Rep K L G r x v) (e : keyD x = some k) : v = kV k := by
  cases x <;> first
    | (cases e; done)
    | (cases h; cases e; rfl)
theorem keysD_ok {K : PySem.W.Frag} {G : Hp} {r : List Addr} : ∀ {ds : List D} {vs : List V} {ks : List Key}, Reps K L G r ds vs → keysD ds = some ks → vs = ks.map kV
  | [], _, _, h, e => by cases h; cases e; rfl
  | d :: ds, _, _, h, e => by
    cases h with
    | cons h1 h2 =>
      unfold keysD at e
      cases q : keyD d with
      | none => rw [q] at e; cases e
      | some k =>
        cases q2 : keysD ds with
        | none => rw [q, q2] at e; cases e
        | some ks => rw [q, q2] at e; cases e; rw [keyD_ok h1 q, keysD_ok h2 q2]; rfl
theorem dctT_of {K : PySem.W.Frag} {G : Hp} {r : List Addr} {H : Hp} {cs : List C} {v : V} (s : Sep K L G r cs H) {ks : List (List Key)} {ds : List D} (h : Rep K L G r (.dctT ks ds) v) : ∃ a vs, v = .ref a ∧ H a = some (.dT (ks.zip vs)) ∧ ks.length = ds.length ∧ ks.Nodup ∧ Reps K L G r ds vs := by
  cases h with
  | dctT h1 l n h2 => exact ⟨_, _, rfl, s.same _ _ h1, l, n, h2⟩
theorem top_dctT {cs : List C} {x : D} {ks : List (List Key)} {ds : List D} (e : top cs x = .dctT ks ds) : x = .dctT ks ds := by
  cases x <;> first
    | exact e
    | (rename_i c; rcases @top_ref cs c with ⟨ds, q, _⟩ | ⟨ks, ds, q, _⟩ | q <;> rw [q] at e <;> cases e)
def rIns (K : PySem.W.Frag) (neg : Bool) : R2 := fun x y H Q => (∃ (c : Nat) (z : Str), x = .str ⟨#[c]⟩ ∧ y = .str z ∧ Q (.bl (decide (c ∈ z.cps.toList) != neg)) H) ∨ rIn K neg x y H Q ∨ rInP K neg x y H Q ∨ rDin K neg x y H Q
theorem rIn_ne {K : PySem.W.Frag} {neg : Bool} {x y : V} {H : Hp} {Q : VK} {p : Addr} {xs : List V} (e : y = .ref p) (h : SqL K H p xs ∨ SqT K H p xs) (f1 : flatV x = true) (f2 : xs.all flatV = true) (q : Q (.bl (inV x xs != neg)) H) : rIn K neg x y H Q := by
  cases neg with
  | false => exact ⟨p, xs, e, h, f1, f2, by rw [Bool.bne_false] at q; exact q⟩
  | true => exact ⟨p, xs, e, h, f1, f2, by rw [Bool.bne_true] at q; exact q⟩
theorem inL_some {K : PySem.W.Frag} {G : Hp} {r : List Addr} {H : Hp} {cs : List C} {x : D} {v w : V} {ds : List D} {vs : List V} {a : Addr} {kk neg : Bool} {Q : VK} (s : Sep K L G r cs H) (rx : Rep K L G r x v) (e1 : w = .ref a) (h1 : SqL K H a vs ∨ SqT K H a vs) (h2 : Reps K L G r ds vs) (e : inL cs x ds = some kk) (q : Q (.bl (kk != neg)) H) : rIns K neg v w H Q := by
  unfold inL at e
  cases q1 : inF x ds with
  | some b =>
    rw [q1] at e; cases e
    obtain ⟨f1, f2, e2⟩ := inF_some rx h2 q1
    subst e2
    exact .inr (.inl (rIn_ne e1 h1 f1 f2 q))
  | none =>
    rw [q1] at e
    simp only at e
    unfold inP at e
    cases p1 : (top cs x).py with
    | none => rw [p1] at e; cases e
    | some d =>
      cases p2 : D.pys ds with
      | none => rw [p1, p2] at e; cases e
      | some es =>
        rw [p1, p2] at e
        simp only at e
        split at e
        · rename_i c
          rw [Bool.and_eq_true] at c
          cases e
          refine .inr (.inr (.inl ⟨d, es, top_dp s rx p1, ?_, c.1, c.2, q⟩))
          rw [e1]
          rcases h1 with h1 | h1
          · exact .inl (.lst h1 (h2.dp s.same p2))
          · exact .inr (.tup h1 (h2.dp s.same p2))
        · cases e
theorem inD_some {K : PySem.W.Frag} {G : Hp} {r : List Addr} {H : Hp} {cs : List C} {x y : D} {v w : V} {kk neg : Bool} {Q : VK} (s : Sep K L G r cs H) (rx : Rep K L G r x v) (ry : Rep K L G r y w) (e : inD cs x y = some kk) (q : Q (.bl (kk != neg)) H) : rIns K neg v w H Q := by
  unfold inD at e
  split at e
  · rename_i z t
    cases top_str t
    split at e
    · rename_i c
      cases e
      exact .inl ⟨c, mkS z, rx.str_of, ry.str_of, q⟩
    · cases e
  · rename_i ds t
    obtain ⟨a, vs, e1, h1, h2⟩ := top_lst s ry t
    exact inL_some s rx e1 (.inl (SqL.of h1)) h2 e q
  · rename_i ds t
    cases top_tup t
    obtain ⟨a, vs, e1, h1, h2⟩ := tup_of s ry
    exact inL_some s rx e1 (.inr h1) h2 e q
  · rename_i ks ds t
    obtain ⟨a, vs, rfl, h1, l, n, h2⟩ := top_dct s ry t
    cases ek : keyD x with
    | none => rw [ek] at e; cases e
    | some k =>
      rw [ek] at e
      cases e
      refine .inr (.inr (.inr ⟨a, rfl, .inl ⟨_, k, .inl h1, keyD_ok rx ek, ?_⟩⟩))
      rw [hasK_zip k l h2]
      exact q
  · rename_i ks ds t
    cases top_dctT t
    obtain ⟨a, vs, rfl, h1, l, n, h2⟩ := dctT_of s ry
    cases x <;> first | (cases e; done) | skip
    rename_i es
    simp only at e
    cases ek : keysD es with
    | none => rw [ek] at e; cases e
    | some k =>
      rw [ek] at e
      cases e
      obtain ⟨b, us, rfl, hb, hr⟩ := tup_of s rx
      refine .inr (.inr (.inr ⟨a, rfl, .inr ⟨_, k, b, .inl h1, rfl, by rw [← keysD_ok hr ek]; exact hb, ?_⟩⟩))
      rw [hasK_zip k l h2]
      exact q
  · cases e
theorem ok_in {K : PySem.W.Frag} : CmpOk K L .In (rIns K false) := fun G r H cs x y v w kk Q s rx ry e q => inD_some s rx ry e (by rw [Bool.bne_false]; exact q)
theorem ok_notin {K : PySem.W.Frag} : CmpOk K L .NotIn (rIns K true) := fun G r H cs x y v w kk Q s rx ry e q => by
  have e : (inD cs x y).map (!·) = some kk := e
  cases q1 : inD cs x y with
  | none => rw [q1] at e; cases e
  | some k0 =>
    rw [q1] at e; cases e
    exact inD_some s rx ry q1 (by rw [Bool.bne_true]; exact q)
theorem op_ins {X : Cx} (hu : X.A.units + 65 < cLine) : OpR X (compareOp .In) (rIns X.K false) := by
  have h := op_in_sign.or (op_in_seq.or ((op_inP hu).or (op_din (X := X) (by omega))))
  intro pins s σ H x y v u Q I rx ry q
  refine h pins s σ H x y v u Q I rx ry ?_
  rcases q with ⟨c, z, h1, h2, q⟩ | q
  · exact .inl ⟨c, z, h1, h2, by rw [Bool.bne_false] at q; exact q⟩
  · exact .inr q
theorem op_nins {X : Cx} (hu : X.A.units + 65 < cLine) : OpR X (compareOp .NotIn) (rIns X.K true) := by
  have h := op_notIn_sign.or (op_notIn_seq.or ((op_ninP hu).or (op_ndin (X := X) (by omega))))
  intro pins s σ H x y v u Q I rx ry q
  refine h pins s σ H x y v u Q I rx ry ?_
  rcases q with ⟨c, z, h1, h2, q⟩ | q
  · exact .inl ⟨c, z, h1, h2, by rw [Bool.bne_true] at q; exact q⟩
  · exact .inr q
theorem cmp_rule (hu : X.A.units + 100 < cLine) (op : CmpOp) : ∃ R, OpR X (compareOp op) R ∧ CmpOk X.K L op R := by
  cases op with
  | Eq => exact ⟨_, (op_eqD (by omega)).or (op_eq_dict (by omega)), ok_eq⟩
  | NotEq => exact ⟨_, (op_neD (by omega)).or (op_ne_dict (by omega)), ok_ne⟩
  | Lt => exact ⟨_, op_lt.or op_lt_str, ok_lt⟩
  | LtE => exact ⟨_, op_le.or op_le_str, ok_le⟩
  | Gt => exact ⟨_, op_gt.or op_gt_str, ok_gt⟩
  | GtE => exact ⟨_, op_ge.or op_ge_str, ok_ge⟩
  | Is => exact ⟨_, op_isN.or op_isBl, ok_is⟩
  | IsNot => exact ⟨_, op_notN.or op_notBl, ok_isnot⟩
  | In => exact ⟨_, op_ins (by omega), ok_in⟩
  | NotIn => exact ⟨_, op_nins (by omega), ok_notin⟩
theorem sE_cmp {op : CmpOp} (hu : X.A.units + 100 < cLine) (ha : PE X a (tE X.K L P W ta)) (hb : PE X b (tE X.K L P W tb)) (hm : behindInMarks op b = false) : PE X (.Compare a [op] [b] pos) (tE X.K L P W (.cmp op ta tb)) := by
  obtain ⟨R, h1, h2⟩ := cmp_rule (L := L) hu op
  exact sE_cmpR h1 h2 ha hb hm
theorem sT_cmp {op : CmpOp} (hu : X.A.units + 100 < cLine) (ha : PE X a (tE X.K L P W ta)) (hb : PE X b (tE X.K L P W tb)) (hm : behindInMarks op b = false) : PT X (.Compare a [op] [b] pos) (tT X.K L P W (.cmp op ta tb)) := by
  obtain ⟨R, h1, h2⟩ := cmp_rule (L := L) hu op
  exact sT_cmpR h1 h2 ha hb hm
theorem chain_imp {op op' : CmpOp} {R R' : R2} (h1 : CmpOk X.K L op R) (h2 : CmpOk X.K L op' R') (σ : L2.St) (H : Hp) (Q : VK) (h : tE X.K L P W (.cmp2 op op' ta tb tc) σ H Q) : tChain R R' (tE X.K L P W ta) (tE X.K L P W tb) (tE X.K L P W tc) σ H Q := by
  obtain ⟨G, r, cs, env, s, er, k⟩ := h
  unfold evE at k
  refine ⟨G, r, cs, env, s, er, k.bind fun x cs1 _ v G1 r1 H1 g1 s1 rx k1 => ?_⟩
  refine ⟨G1, r1, cs1, env, s1, er.go g1, k1.bind fun y cs2 _ w G2 r2 H2 g2 s2 ry k2 => ?_⟩
  cases q : cmpD op cs2 x y with
  | none => rw [q] at k2; exact k2.elim
  | some kk =>
    rw [q] at k2
    refine h1 G2 r2 H2 cs2 x y v w kk _ s2 (rx.go g2) ry q ⟨kk, rfl, ?_⟩
    cases kk with
    | false => exact KO.ok0 (a := D.bl false) (v := V.bl false) k2 s2 (.bl _)
    | true =>
      refine ⟨G2, r2, cs2, env, s2, (er.go g1).go g2, KO.bind (R1 := Rep X.K L) k2 fun z cs3 _ w' G3 r3 H3 g3 s3 rz k3 => ?_⟩
      cases q' : cmpD op' cs3 y z with
      | none => rw [q'] at k3; exact k3.elim
      | some k' =>
        rw [q'] at k3
        exact h2 G3 r3 H3 cs3 y z w w' k' Q s3 (ry.go g3) rz q' (KO.ok0 (v := V.bl k') k3 s3 (.bl _))
theorem sE_cmp2 {op op' : CmpOp} (hu : X.A.units + 100 < cLine) (ha : PE X a (tE X.K L P W ta)) (hb : PE X b (tE X.K L P W tb)) (hc : PE X c (tE X.K L P W tc)) (hm : lastMarks [op, op'] [b, c] = false) : PE X (.Compare a [op, op'] [b, c] pos) (tE X.K L P W (.cmp2 op op' ta tb tc)) := by
  obtain ⟨R, h1, h2⟩ := cmp_rule (L := L) hu op
  obtain ⟨R', h1', h2'⟩ := cmp_rule (L := L) hu op'
  exact PE.imp (pe_chain h1 h1' ha hb hc hm) (chain_imp h2 h2')
theorem tE_of_tT {t : T} {σ : L2.St} {H : Hp} {Q : Bool → Hp → Prop} (h : tT X.K L P W t σ H Q) (hb : ∀ env cs x cs1, evE P t env cs = .ok x cs1 → ∃ k, x = .bl k) : tE X.K L P W t σ H (fun x H' => ∃ k, x = .bl k ∧ Q k H') := by
  obtain ⟨G, r, cs, env, s, er, k⟩ := h
  refine ⟨G, r, cs, env, s, er, ?_⟩
  cases e : evE P t env cs with
  | bad => rw [e] at k; exact k
  | exc c ds cs1 => rw [e] at k; exact k
  | ok x cs1 =>
    obtain ⟨b, rfl⟩ := hb env cs x cs1 e
    rw [e] at k
    intro v G' r' H' g' s' rv
    exact ⟨b, rv.bl_of, k b G' r' H' g' s' rfl⟩
theorem cmp2_bl {op op' : CmpOp} (env : List SV) (cs : List C) (x : D) (cs1 : List C) (h : evE P (.cmp2 op op' ta tb tc) env cs = .ok x cs1) : ∃ k, x = .bl k := by
  unfold evE at h
  cases e1 : evE P ta env cs with
  | bad => rw [e1] at h; cases h
  | exc _ _ _ => rw [e1] at h; cases h
  | ok a1 c1 =>
    rw [e1] at h; simp only [Out.bind_ok] at h
    cases e2 : evE P tb env c1 with
    | bad => rw [e2] at h; cases h
    | exc _ _ _ => rw [e2] at h; cases h
    | ok a2 c2 =>
      rw [e2] at h; simp only [Out.bind_ok] at h
      cases e3 : cmpD op c2 a1 a2 with
      | none => rw [e3] at h; cases h
      | some k =>
        rw [e3] at h; simp only [ofO_some, Out.bind_ok] at h
        cases k with
        | false => cases h; exact ⟨_, rfl⟩
        | true =>
          simp only [if_true] at h
          cases e4 : evE P tc env c2 with
          | bad => rw [e4] at h; cases h
          | exc _ _ _ => rw [e4] at h; cases h
          | ok a3 c3 =>
            rw [e4] at h; simp only [Out.bind_ok] at h
            cases e5 : cmpD op' c3 a2 a3 with
            | none => rw [e5] at h; cases h
            | some k' => rw [e5] at h; cases h; exact ⟨_, rfl⟩
theorem sT_cmp2 {op op' : CmpOp} (hu : X.A.units + 100 < cLine) (ha : PE X a (tE X.K L P W ta)) (hb : PE X b (tE X.K L P W tb)) (hc : PE X c (tE X.K L P W tc)) (hm : lastMarks [op, op'] [b, c] = false) : PT X (.Compare a [op, op'] [b, c] pos) (tT X.K L P W (.cmp2 op op' ta tb tc)) := by
  obtain ⟨R, h1, h2⟩ := cmp_rule (L := L) hu op
  obtain ⟨R', h1', h2'⟩ := cmp_rule (L := L) hu op'
  exact PT.imp (pt_chain h1 h1' ha hb hc hm) fun σ H Q h => chain_imp h2 h2' σ H _ (tE_of_tT h cmp2_bl)

theorem atI_rep {K : PySem.W.Frag} {G : Hp} {r : List Addr} {ds : List D} {vs : List V} {i : Int} {d : D} (h : Reps K L G r ds vs) (e : atI ds i = some d) : ∃ v, atI vs i = some v ∧ Rep K L G r d v := by
  unfold atI at e ⊢
  rw [← h.length]
  cases q : ixN ds.length i with
  | none => rw [q] at e; cases e
  | some j =>
    rw [q] at e
    obtain ⟨v, h1, h2⟩ := h.get e
    exact ⟨v, h1, h2⟩
def rIxD (K : PySem.W.Frag) : R2 := fun x y H Q => ∃ a v, x = .ref a ∧ ((∃ kvs k, Rd H a (.dK kvs) ∧ y = kV k ∧ valV kvs k = some v) ∨ ∃ kvs k b, Rd H a (.dT kvs) ∧ y = .ref b ∧ SqT K H b (k.map kV) ∧ valV kvs k = some v) ∧ Q v H
theorem ix_dict {X : Cx} (hu : X.A.units + 1 < cLine) : IxR X (rIxD X.K) := by
  intro value slice pins s σ H x y v u Q I rx ry h hs
  obtain ⟨a, z, rfl, h, q⟩ := h
  cases rx
  rcases h with ⟨kvs, k, e, rfl, l⟩ | ⟨kvs, k, b, e, rfl, eb, l⟩
  · obtain ⟨_, hd, vs, rel, dd⟩ := dk_rd I.hok e
    obtain ⟨w', hw, rw'⟩ := RelO.some_of (v := z) (o := valueAt vs k) (by rw [← l]; exact rel.val k)
    exact tail_any dd.typeIs PySem.F.slot_dict_getitem.lookup (wpAny_getItem_of (kV_is ry) dd.mapOf hw ⟨z, H, I.tok _, rw', q⟩) hs
  · cases ry
    obtain ⟨_, hd, xs, rel, dd⟩ := dt_rd I.hok e
    obtain ⟨w', hw, rw'⟩ := RelO.some_of (v := z) (o := (atKey xs k).map (·.2)) (by rw [← l]; exact rel.val k)
    obtain ⟨p, hp, hp2⟩ := Option.map_eq_some_iff.mp hw
    have T : s.TypeIs (.ref a) "dict" := dd.typeIs
    refine tail_any T PySem.F.slot_dict_getitem.lookup (wpAny_getItem_heap (tupleKind_room_in1 hu) (keyT_of I eb) dd hp ?_) hs
    rw [hp2]
    exact ⟨z, H, I.tok _, rw', q⟩
theorem r_ix {K : PySem.W.Frag} {E : XK} {G : Hp} {r : List Addr} {H : Hp} {cs : List C} {x y : D} {v w : V} {Q : VK} (s : Sep K L G r cs H) (rx : Rep K L G r x v) (ry : Rep K L G r y w) (k : KO K L (Rep K L) E G r H (ofO (ixD cs x y) cs) Q) : rIx K v w H Q ∨ rIxD K v w H Q := by
  obtain ⟨d, e, k2⟩ := k.some_of
  clear k
  unfold ixD at e
  split at e
  · rename_i ds i t
    obtain ⟨p, vs, rfl, h1, h2⟩ := top_lst s rx t
    obtain ⟨u, h3, h4⟩ := atI_rep h2 e
    exact .inl (.inl ⟨p, vs, _, u, rfl, ry.int_of, SqL.of h1, h3, k2.ok0 s h4⟩)
  · rename_i ds i t
    cases top_tup t
    obtain ⟨p, vs, rfl, h1, h2⟩ := tup_of s rx
    obtain ⟨u, h3, h4⟩ := atI_rep h2 e
    exact .inl (.inr (.inl ⟨p, vs, _, u, rfl, ry.int_of, h1, h3, k2.ok0 s h4⟩))
  · rename_i z i t
    cases top_str t
    split at e
    · rename_i hl
      revert e
      generalize hq : atI _ _ = q
      intro e
      cases q with
      | none => cases e
      | some c =>
        cases e
        exact .inl (.inr (.inr ⟨mkS _, _, c, rx.str_of, ry.int_of, by rw [mkS_len]; exact LIM_le hl, hq, KO.ok0 (v := V.str ⟨#[c]⟩) k2 s (.str [c])⟩))
    · cases e
  · rename_i ks ds t
    obtain ⟨a, vs, rfl, h1, l, n, h2⟩ := top_dct s rx t
    revert e
    generalize hk : keyD _ = q
    intro e
    cases q with
    | none => cases e
    | some kk =>
      have ek := hk
      obtain ⟨u, h3, h4⟩ := getK_zip l h2 (show getK ks ds kk = some d from e)
      exact .inr ⟨a, u, rfl, .inl ⟨_, kk, .inl h1, keyD_ok ry ek, h3⟩, k2.ok0 s h4⟩
  · rename_i ks ds es t
    cases top_dctT t
    obtain ⟨a, vs, rfl, h1, l, n, h2⟩ := dctT_of s rx
    cases ek : keysD es with
    | none => rw [ek] at e; cases e
    | some kk =>
      rw [ek] at e
      obtain ⟨u, h3, h4⟩ := getK_zip l h2 (show getK ks ds kk = some d from e)
      obtain ⟨b, us, rfl, hb, hr⟩ := tup_of s ry
      exact .inr ⟨a, u, rfl, .inr ⟨_, kk, b, .inl h1, rfl, by rw [← keysD_ok hr ek]; exact hb, h3⟩, k2.ok0 s h4⟩
  · cases e
theorem sE_ix (hu : X.A.units + 100 < cLine) (ha : PE X a (tE X.K L P W ta)) (hb : PE X b (tE X.K L P W tb)) (hs : isSlice b = false) : PE X (.Subscript a b pos) (tE X.K L P W (.ix ta tb)) := by
  refine PE.imp (pe_ix (ix_seq.or (ix_dict (by omega))) ha hb (plainIx_ok hs)) fun σ H Q ⟨G, r, cs, env, s, er, k⟩ => ?_
  unfold evE at k
  refine ⟨G, r, cs, env, s, er, k.bind fun x cs1 _ v G1 r1 H1 g1 s1 rx k1 => ?_⟩
  refine ⟨G1, r1, cs1, env, s1, er.go g1, k1.bind fun y cs2 _ w G2 r2 H2 g2 s2 ry k2 => ?_⟩
  exact r_ix s2 (rx.go g2) ry k2
def tP (K : PySem.W.Frag) (L : Lay) (P : Cfg) (W : WX) (t : Cd) : TO := fun σ H Q => ∃ G r cs env, Sep K L G r cs H ∧ EnvR K L G r H env σ ∧ KO K L (fun _ _ a b => a = b) (wE W σ) G r H (evP P t env cs) Q
theorem PO.imp {o : Option Expr} {t t' : TO} (h : PO X o t) (k : ∀ σ H Q, t' σ H Q → t σ H Q) : PO X o t' := ⟨fun pins s σ H Q I q => h.run pins s σ H Q I (k _ _ _ q)⟩
theorem sP_none : PO X none (tP X.K L P W .no) := PO.imp po_none fun σ H Q ⟨G, r, cs, env, s, er, k⟩ => KO.ok0 (v := none) k s rfl
theorem sP_some (ha : PE X a (tE X.K L P W ta)) : PO X (some a) (tP X.K L P W (.one ta)) := by
  refine PO.imp (po_some ha) fun σ H Q ⟨G, r, cs, env, s, er, k⟩ => ?_
  unfold evP at k
  refine ⟨G, r, cs, env, s, er, k.bind fun x cs1 _ v G1 r1 H1 g1 s1 rx k1 => ?_⟩
  cases x <;> first | exact k1.elim | skip
  exact ⟨_, rx.int_of, KO.ok0 (v := some _) k1 s1 rfl⟩
theorem cut_reps {K : PySem.W.Frag} {G : Hp} {r : List Addr} {ds : List D} {vs : List V} (h : Reps K L G r ds vs) (l u : Option Int) : Reps K L G r (cutL ds l u) (cutV vs l u) := by
  unfold cutL cutV
  rw [← h.length]
  exact (h.drop _).take _
theorem ints_reps {K : PySem.W.Frag} {G : Hp} {r : List Addr} : ∀ ns : List Int, Reps K L G r (ns.map .int) (ns.map V.int)
  | [] => .nil
  | n :: ns => .cons (.int n) (ints_reps ns)
theorem top_scr {cs : List C} {x : D} {ns : List Int} (e : top cs x = .scr ns) : x = .scr ns := by
  cases x <;> first
    | exact e
    | (rename_i c; rcases @top_ref cs c with ⟨ds, q, _⟩ | ⟨ks, ds, q, _⟩ | q <;> rw [q] at e <;> cases e)
theorem cut_map {α β : Type} (f : α → β) (xs : List α) (l u : Option Int) : (cutL (xs.map f) l u) = (cutL xs l u).map f := by
  unfold cutL
  simp [List.map_drop, List.map_take]
theorem sE_slc {lo hi : Option Expr} {tl tu : Cd} {p2 : Pos} (ha : PE X a (tE X.K L P W ta)) (hl : PO X lo (tP X.K L P W tl)) (hh : PO X hi (tP X.K L P W tu)) : PE X (.Subscript a (.Slice lo hi none p2) pos) (tE X.K L P W (.slc ta tl tu)) := by
  refine PE.imp (pe_slice (sl_list.or sl_str) ha hl hh) fun σ H Q ⟨G, r, cs, env, s, er, k⟩ => ?_
  unfold evE at k
  refine ⟨G, r, cs, env, s, er, k.bind fun x cs1 _ v G1 r1 H1 g1 s1 rx k1 => ?_⟩
  refine ⟨G1, r1, cs1, env, s1, er.go g1, k1.bind fun l cs2 _ l' G2 r2 H2 g2 s2 e2 k2 => ?_⟩
  refine ⟨G2, r2, cs2, env, s2, (er.go g1).go g2, k2.bind fun u cs3 _ u' G3 r3 H3 g3 s3 e3 k3 => ?_⟩
  cases e2; cases e3
  have rx := (rx.go g2).go g3
  obtain ⟨d, e, k4⟩ := k3.some_of
  unfold slcD at e
  split at e
  · rename_i ds t
    cases e
    obtain ⟨p, vs, rfl, h1, h2⟩ := top_lst s3 rx t
    exact .inl ⟨p, vs, rfl, SqL.of h1, fun q hq => k4.lst s3 (cut_reps h2 l u) hq⟩
  · rename_i ns t
    have hx : x = .scr ns := top_scr t
    subst hx
    cases e
    cases rx with
    | scr h1 =>
      refine .inl ⟨_, _, rfl, s3.same.seq h1, fun q hq => ?_⟩
      refine k4.lst s3 ?_ hq
      have := cut_reps (K := X.K) (L := L) (G := G3) (r := r3) (ints_reps ns) l u
      rw [cut_map] at this
      exact this
  · rename_i z t
    cases top_str t
    split at e
    · rename_i hl
      cases e
      exact .inr ⟨mkS z, rx.str_of, by rw [mkS_len]; exact LIM_le hl, KO.ok0 (v := V.str (cutS (mkS z) l u)) k4 s3 (by
        have e : cutS (mkS z) l u = mkS (cutL z l u) := by
          unfold cutS cutL mkS
          simp [Str.length]
        rw [e]
        exact .str _)⟩
    · cases e
  · cases e
end
end XV
set_option Elab.async false
set_option linter.all false
set_option autoImplicit false
set_option maxRecDepth 100000
namespace XV
open PySem PySem.Spec PyProof.Rows L2

theorem vals_of_get : ∀ {xs : List V} {its : List Value}, xs.length = its.length → (∀ (j : Nat) x v, xs[j]? = some x → its[j]? = some v → RelV x v) → Vals xs its
  | [], [], _, _ => .nil
  | [], _ :: _, h, _ => by simp at h
  | _ :: _, [], h, _ => by simp at h
  | x :: xs, v :: its, h, k => .cons (k 0 x v rfl rfl) (vals_of_get (by simpa using h) fun j a b e1 e2 => k (j + 1) a b (by simpa using e1) (by simpa using e2))
def chars (z : Str) : List V := z.cps.toList.map fun c => .str ⟨#[c]⟩
theorem call_list_text {X : Cx} (hc : X.calm = true) : CallR X (.type "list") (fun xs H Q => ∃ z, xs = [.str z] ∧ z.length ≤ sizeLine ∧ ∀ l, H l = none → Q (.ref l) (upd H l (.lst (chars z)))) := by
  intro pins s σ H xs us Q I r h
  obtain ⟨z, rfl, hz, q⟩ := h
  obtain ⟨u, rfl, ru⟩ := vals1 r
  obtain ⟨t, rfl⟩ := ru
  refine call_list_str (I.ok.hd hc) z t (hn := hz) fun h' tk acc' c' hk hS' hacc => ?_
  have hn : H s.heap.objs.size = none := I.hok.fresh (Nat.le_refl _)
  refine ⟨.ref _, _, I.laid (t' := tk) (o := .lst (chars z)) hk (Nat.le_refl _) ?_, rfl, q _ hn⟩
  have hl : (chars z).length = acc'.toList.length := by
    unfold chars
    rw [List.length_map, Array.length_toList, Array.length_toList, hacc.1]
  refine ⟨by unfold chars; rw [List.length_map, Array.length_toList]; exact hz, acc'.toList, c', vals_of_get hl fun j x v e1 e2 => ?_, by rw [hS']⟩
  obtain ⟨c, u, hcj, rfl⟩ := hacc.2 j v (by simpa using e2)
  unfold chars at e1
  rw [List.getElem?_map] at e1
  have : z.cps.toList[j]? = some c := by simpa using hcj
  rw [this] at e1
  cases e1
  exact ⟨u, rfl⟩

section
variable {X : Cx} {L : Lay} {P : Cfg} {W : WX} {pos p : Pos} {e : Expr} {es : List Expr} {ts : Ts}
def BiOk (K : PySem.W.Frag) (L : Lay) (n : Bi) (R : List V → Hp → VK → Prop) : Prop :=
  ∀ (E : XK) G r H cs ds vs (Q : VK) d, Sep K L G r cs H → Reps K L G r ds vs → biD n cs ds = some d → KO K L (Rep K L) E G r H (.ok d cs) Q → R vs H Q
theorem bi_imp {n : Bi} {R : List V → Hp → VK → Prop} (hR : BiOk X.K L n R) (σ : L2.St) (H : Hp) (Q : VK) (h : tE X.K L P W (.bi n ts) σ H Q) : tCB R (tTs X.K L P W ts) σ H Q := by
  obtain ⟨G, r, cs, env, s, er, k⟩ := h
  unfold evE at k
  refine ⟨G, r, cs, env, s, er, k.bind fun ds cs1 _ vs G1 r1 H1 g1 s1 rx k1 => ?_⟩
  obtain ⟨d, e, k2⟩ := k1.some_of
  exact hR _ G1 r1 H1 cs1 ds vs Q d s1 rx e k2
theorem sE_callB {n : Bi} {x : Str} {id : String} {R : List V → Hp → VK → Prop} (hc : CallR X (.builtin id) R) (hR : BiOk X.K L n R) (hg : Gl X x) (hm : X.mg x = none) (hv : bootBuiltins x = some (.builtin id))
    (ha : PA X (e :: es) (tTs X.K L P W ts)) (hst : isStar e = false) (hn : x ≠ "__name__") (hdb : (x == ("__debug__" : Str)) = false) (hpl : (backTo pos (starEach es X.env)).any (·.1) = false) : PE X (.Call (.Name x p) (e :: es) [] pos) (tE X.K L P W (.bi n ts)) :=
  PE.imp (pe_callB hc hg hm hv ha hn hdb (star_ok hst) hpl) (bi_imp hR)
theorem sE_callTy {n : Bi} {x : Str} {id : String} {R : List V → Hp → VK → Prop} (hc : CallR X (.type id) R) (hR : BiOk X.K L n R) (hg : Gl X x) (hm : X.mg x = none) (hv : bootBuiltins x = some (.type id))
    (ha : PA X (e :: es) (tTs X.K L P W ts)) (hst : isStar e = false) (hn : x ≠ "__name__") (hdb : (x == ("__debug__" : Str)) = false) (hpl : (backTo pos (starEach es X.env)).any (·.1) = false) : PE X (.Call (.Name x p) (e :: es) [] pos) (tE X.K L P W (.bi n ts)) :=
  PE.imp (pe_callTy hc hg hm hv ha hn hdb (star_ok hst) hpl) (bi_imp hR)
variable {K : PySem.W.Frag}
theorem one_of {G : Hp} {r : List Addr} {a : D} {vs : List V} (h : Reps K L G r [a] vs) : ∃ v, vs = [v] ∧ Rep K L G r a v := by
  cases h with
  | cons h1 h2 => cases h2; exact ⟨_, rfl, h1⟩
theorem one1_some {G : Hp} {r : List Addr} {f : D → Option D} {ds : List D} {vs : List V} {d : D} (h : Reps K L G r ds vs) (e : one1 f ds = some d) : ∃ a v, f a = some d ∧ vs = [v] ∧ Rep K L G r a v := by
  unfold one1 at e
  split at e
  · obtain ⟨v, h1, h2⟩ := one_of h
    exact ⟨_, v, e, h1, h2⟩
  · cases e
theorem ok_len : BiOk K L .len (fun xs H Q => (∃ x n, xs = [x] ∧ LenV K x H n ∧ Q (.int n) H) ∨ ∃ a kvs, xs = [V.ref a] ∧ H a = some (.dK kvs) ∧ Q (.int kvs.length) H) := by
  intro E G r H cs ds vs Q d s rx e k
  obtain ⟨a, v, e, rfl, rv⟩ := one1_some rx (show one1 (lenD cs) ds = some d from e)
  unfold lenD at e
  split at e
  · rename_i x t
    cases e
    obtain ⟨p, ws, rfl, h1, h2⟩ := top_lst s rv t
    refine .inl ⟨_, x.length, rfl, .inl ⟨ws, SqL.of h1, h2.length⟩, k.ok0 s (.int _)⟩
  · rename_i x t
    cases e
    cases top_tup t
    obtain ⟨p, ws, rfl, h1, h2⟩ := tup_of s rv
    exact .inl ⟨_, x.length, rfl, .inr ⟨ws, h1, h2.length⟩, k.ok0 s (.int _)⟩
  · rename_i x t
    cases top_str t
    obtain ⟨c, e⟩ := ite_some e
    subst e
    refine .inl ⟨_, x.length, rfl, ?_, k.ok0 s (.int _)⟩
    rw [rv.str_of]
    exact ⟨by rw [mkS_len]; exact LIM_le c, by rw [mkS_len]⟩
  · rename_i ks x t
    cases e
    obtain ⟨p, ws, rfl, h1, l, _, h2⟩ := top_dct s rv t
    refine .inr ⟨p, _, rfl, h1, ?_⟩
    have : ((ks.zip ws).length : Int) = x.length := by rw [List.length_zip, l, h2.length, Nat.min_self]
    rw [this]
    exact k.ok0 s (.int _)
  · cases e
theorem chars_reps {G : Hp} {r : List Addr} (x : List Nat) : Reps K L G r (x.map fun c => D.str [c]) (chars (mkS x)) := by
  unfold chars
  show Reps K L G r (x.map fun c => D.str [c]) (x.map fun c => V.str ⟨#[c]⟩)
  induction x with
  | nil => exact .nil
  | cons c x ih => exact .cons (.str [c]) ih
theorem ok_list : BiOk K L .list (fun xs H Q => (∃ p ys, xs = [.ref p] ∧ (SqL K H p ys ∨ SqT K H p ys) ∧ ∀ l, H l = none → Q (.ref l) (upd H l (.lst ys))) ∨ ∃ z, xs = [.str z] ∧ z.length ≤ sizeLine ∧ ∀ l, H l = none → Q (.ref l) (upd H l (.lst (chars z)))) := by
  intro E G r H cs ds vs Q d s rx e k
  obtain ⟨a, v, e, rfl, rv⟩ := one1_some rx (show one1 (listD cs) ds = some d from e)
  unfold listD at e
  split at e
  · rename_i x t
    cases e
    obtain ⟨p, ws, rfl, h1, h2⟩ := top_lst s rv t
    exact .inl ⟨p, ws, rfl, .inl (SqL.of h1), fun l hl => k.lst s h2 hl⟩
  · rename_i x t
    cases e
    cases top_tup t
    obtain ⟨p, ws, rfl, h1, h2⟩ := tup_of s rv
    exact .inl ⟨p, ws, rfl, .inr h1, fun l hl => k.lst s h2 hl⟩
  · rename_i x t
    cases top_str t
    obtain ⟨hl, e⟩ := lim_some e
    subst e
    rw [rv.str_of]
    exact .inr ⟨_, rfl, by rw [mkS_len]; exact LIM_le hl, fun l hl => k.lst s (chars_reps x) hl⟩
  · cases e
theorem bls_ok {G : Hp} {r : List Addr} : ∀ {ds : List D} {vs : List V} {bs : List Bool}, Reps K L G r ds vs → D.bls ds = some bs → vs = bs.map V.bl
  | [], _, _, h, e => by cases h; cases e; rfl
  | d :: ds, _, _, h, e => by
    cases h with
    | cons h1 h2 =>
      cases d <;> first | (cases e; done) | skip
      rename_i b
      have e : (D.bls ds).map (b :: ·) = some _ := e
      cases q : D.bls ds with
      | none => rw [q] at e; cases e
      | some bs => rw [q] at e; cases e; rw [h1.bl_of, bls_ok h2 q]; rfl
theorem bools_of {G : Hp} {r : List Addr} {H : Hp} {cs : List C} {f : List Bool → D} {a d : D} {v : V} (s : Sep K L G r cs H) (rv : Rep K L G r a v) (e : (match a with | .lst x => (D.bls x).map f | _ => none) = some d) : ∃ p bs, v = .ref p ∧ SqL K H p (bs.map V.bl) ∧ d = f bs := by
  cases a <;> first | (cases e; done) | skip
  rename_i x
  have e : (D.bls x).map f = some d := e
  cases q : D.bls x with
  | none => rw [q] at e; cases e
  | some bs =>
    rw [q] at e; cases e
    cases rv with
    | lst h1 h2 => exact ⟨_, bs, rfl, by rw [← bls_ok h2 q]; exact SqL.of (s.same _ _ h1), rfl⟩
theorem ok_all : BiOk K L .all (rAll K) := by
  intro E G r H cs ds vs Q d s rx e k
  obtain ⟨a, v, e, rfl, rv⟩ := one1_some rx (show one1 allD ds = some d from e)
  obtain ⟨p, bs, rfl, h, rfl⟩ := bools_of (f := fun bs => .bl (bs.all id)) s rv (by cases a <;> exact e)
  exact ⟨p, bs, rfl, h, k.ok0 s (.bl _)⟩
theorem ok_any : BiOk K L .any (rAny K) := by
  intro E G r H cs ds vs Q d s rx e k
  obtain ⟨a, v, e, rfl, rv⟩ := one1_some rx (show one1 anyD ds = some d from e)
  obtain ⟨p, bs, rfl, h, rfl⟩ := bools_of (f := fun bs => .bl (bs.any id)) s rv (by cases a <;> exact e)
  exact ⟨p, bs, rfl, h, k.ok0 s (.bl _)⟩
theorem ok_int : BiOk K L .int (fun xs H Q => (∃ i, xs = [.int i] ∧ Q (.int i) H) ∨ ∃ k, xs = [.bl k] ∧ Q (.int (if k then 1 else 0)) H) := by
  intro E G r H cs ds vs Q d s rx e k
  obtain ⟨a, v, e, rfl, rv⟩ := one1_some rx (show one1 int1D ds = some d from e)
  cases a <;> first | (cases e; done) | skip
  cases e
  rw [rv.int_of]
  exact .inl ⟨_, rfl, k.ok0 s (.int _)⟩

variable {o : Expr} {to : T} {apos cpos : Pos}
theorem strs_ok {G : Hp} {r : List Addr} : ∀ {ds : List D} {vs : List V} {xs : List (List Nat)}, Reps K L G r ds vs → D.strs ds = some xs → vs = (xs.map mkS).map V.str
  | [], _, _, h, e => by cases h; cases e; rfl
  | d :: ds, _, _, h, e => by
    cases h with
    | cons h1 h2 =>
      cases d <;> first | (cases e; done) | skip
      rename_i b
      have e : (D.strs ds).map (b :: ·) = some _ := e
      cases q : D.strs ds with
      | none => rw [q] at e; cases e
      | some bs => rw [q] at e; cases e; rw [h1.str_of, strs_ok h2 q]; rfl
theorem isStr_of {x : D} (h : isStrD x = true) : ∃ z, x = .str z := by
  cases x <;> first | exact ⟨_, rfl⟩ | (cases h; done)
theorem sE_m0 {m : Mt} {id : String} {name : Str} {R : V → List V → Hp → VK → Prop} (slot : Slot "str" name id) (ty : typeOf (.builtin id) = pure (.type "method_descriptor")) (rule : MtR X id R)
    (hR : ∀ (E : XK) G r H cs (x : List Nat) (Q : VK) d, Sep X.K L G r cs H → mtD m cs (.str x) [] = some d → KO X.K L (Rep X.K L) E G r H (.ok d cs) Q → R (.str (mkS x)) [] H Q)
    (hS : ∀ x, mtOk m x = isStrD x) (ho : PE X o (tE X.K L P W to)) (hcall : isCall0 o = false) (hline : (apos.endLine == cpos.line) = true) : PE X (.Call (.Attribute o name apos) [] [] cpos) (tE X.K L P W (.mt m to .nil)) := by
  refine PE.imp (pe_m0 slot ty rule ho (attr_ok hcall) hline) fun σ H Q ⟨G, r, cs, env, s, er, k⟩ => ?_
  unfold evE at k
  refine ⟨G, r, cs, env, s, er, k.bind fun x cs1 _ v G1 r1 H1 g1 s1 rx k1 => ?_⟩
  rw [hS] at k1
  cases hx : isStrD x with
  | false => rw [hx] at k1; exact k1.elim
  | true =>
    obtain ⟨z, rfl⟩ := isStr_of hx
    have k1 : KO X.K L (Rep X.K L) (wE W σ) G1 r1 H1 (ofO (mtD m cs1 (.str z) []) cs1) Q := k1
    obtain ⟨d, e, k2⟩ := k1.some_of
    rw [rx.str_of]
    exact ⟨⟨_, rfl⟩, hR _ G1 r1 H1 cs1 z Q d s1 e k2⟩
theorem sE_m1 {m : Mt} {id : String} {name : Str} {R : V → List V → Hp → VK → Prop} {a : Expr} {ta : T} (slot : Slot "str" name id) (ty : typeOf (.builtin id) = pure (.type "method_descriptor")) (rule : MtR X id R)
    (hR : ∀ (E : XK) G r H cs (x : List Nat) (Q : VK) y w d, Sep X.K L G r cs H → Rep X.K L G r y w → mtD m cs (.str x) [y] = some d → KO X.K L (Rep X.K L) E G r H (.ok d cs) Q → R (.str (mkS x)) [w] H Q)
    (hS : ∀ x, mtOk m x = isStrD x) (ho : PE X o (tE X.K L P W to)) (ha : PE X a (tE X.K L P W ta)) (hst : isStar a = false) (hcall : isCall0 o = false) (hline : (apos.endLine == cpos.line) = true) :
    PE X (.Call (.Attribute o name apos) [a] [] cpos) (tE X.K L P W (.mt m to (.cons ta .nil))) := by
  refine PE.imp (pe_m1 slot ty rule ho ha (star_ok hst) (attr_ok hcall) hline) fun σ H Q ⟨G, r, cs, env, s, er, k⟩ => ?_
  unfold evE at k
  refine ⟨G, r, cs, env, s, er, k.bind fun x cs1 _ v G1 r1 H1 g1 s1 rx k1 => ?_⟩
  rw [hS] at k1
  cases hx : isStrD x with
  | false => rw [hx] at k1; exact k1.elim
  | true =>
    obtain ⟨z, rfl⟩ := isStr_of hx
    have k1 : KO X.K L (Rep X.K L) (wE W σ) G1 r1 H1 ((evE P ta env cs1).bind fun y cs2 => ofO (mtD m cs2 (.str z) [y]) cs2) Q := by
      rw [hx] at k1
      unfold evTs at k1
      cases e1 : evE P ta env cs1 with
      | bad => rw [e1] at k1; exact k1
      | exc c ds cs2 => rw [e1] at k1; exact k1
      | ok y cs2 => rw [e1] at k1; exact k1
    rw [rx.str_of]
    refine ⟨⟨_, rfl⟩, G1, r1, cs1, env, s1, er.go g1, k1.bind fun y cs2 _ w G2 r2 H2 g2 s2 ry k2 => ?_⟩
    obtain ⟨d, e, k3⟩ := k2.some_of
    exact hR _ G2 r2 H2 cs2 z Q y w d s2 ry e k3
theorem txt_rep {G : Hp} {r : List Addr} (z : Str) : Rep K L G r (.str z.cps.toList) (.str z) := by
  have : z = mkS z.cps.toList := by unfold mkS; simp
  have h := Rep.str (K := K) (L := L) (G := G) (r := r) z.cps.toList
  rw [← this] at h
  exact h
theorem sE_case {m : Mt} {id : String} {name : Str} {f : Str → Str} (slot : Slot "str" name id) (ty : typeOf (.builtin id) = pure (.type "method_descriptor"))
    (rule : MtR X id (fun x xs H Q => ∃ a, x = .str a ∧ xs = [] ∧ a.length ≤ 5592405 ∧ Q (.str (f a)) H)) (hm : ∀ cs x ds, mtD m cs x ds = str0 f x ds) (hs : ∀ x, mtOk m x = isStrD x) (ho : PE X o (tE X.K L P W to)) (hcall : isCall0 o = false) (hline : (apos.endLine == cpos.line) = true) :
    PE X (.Call (.Attribute o name apos) [] [] cpos) (tE X.K L P W (.mt m to .nil)) :=
  sE_m0 slot ty rule (fun E G r H cs x Q d s e k => by
    rw [hm] at e
    obtain ⟨c, e⟩ := ite_some (show (if x.length ≤ LIM then some (D.str (f (mkS x)).cps.toList) else none) = some d from e)
    subst e
    exact ⟨_, rfl, rfl, by rw [mkS_len]; exact Nat.le_trans c (by decide), k.ok0 s (txt_rep _)⟩) hs ho hcall hline
theorem sE_upper (ho : PE X o (tE X.K L P W to)) (hcall : isCall0 o = false) (hline : (apos.endLine == cpos.line) = true) : PE X (.Call (.Attribute o "upper" apos) [] [] cpos) (tE X.K L P W (.mt .upper to .nil)) :=
  sE_case F.slot_str_upper F.type_str_upper mt_upper (fun _ _ _ => rfl) (fun _ => rfl) ho hcall hline
theorem sE_lower (ho : PE X o (tE X.K L P W to)) (hcall : isCall0 o = false) (hline : (apos.endLine == cpos.line) = true) : PE X (.Call (.Attribute o "lower" apos) [] [] cpos) (tE X.K L P W (.mt .lower to .nil)) :=
  sE_case F.slot_str_lower F.type_str_lower mt_lower (fun _ _ _ => rfl) (fun _ => rfl) ho hcall hline
theorem join_mkS0 (s : List Nat) : ∀ xs : List (List Nat), Str.join (mkS s) (xs.map mkS) = mkS (joinL s xs)
  | [] => rfl
  | [x] => rfl
  | x :: y :: r => by
    have ih := join_mkS0 s (y :: r)
    show mkS x ++ mkS s ++ Str.join (mkS s) ((y :: r).map mkS) = mkS (x ++ s ++ joinL s (y :: r))
    rw [ih, mkS_app, mkS_app]
theorem join_mkS (s : List Nat) (xs : List (List Nat)) : Txt.join (mkS s) (xs.map mkS) = mkS (joinL s xs) :=
  (PySem.StrLaws.glued_eq_join _ _).trans (join_mkS0 s xs)
theorem sE_join {a : Expr} {ta : T} (ho : PE X o (tE X.K L P W to)) (ha : PE X a (tE X.K L P W ta)) (hst : isStar a = false) (hcall : isCall0 o = false) (hline : (apos.endLine == cpos.line) = true) :
    PE X (.Call (.Attribute o "join" apos) [a] [] cpos) (tE X.K L P W (.mt .join to (.cons ta .nil))) :=
  sE_m1 F.slot_str_join F.type_str_join mt_join (fun E G r H cs x Q y w d s ry e k => by
    replace e : joinD (.str x) [top cs y] = some d := e
    unfold joinD at e
    cases t : top cs y <;> rw [t] at e <;> first | (cases e; done) | skip
    rename_i ys
    simp only at e
    obtain ⟨a, vs, rfl, h1, h2⟩ := top_lst s ry t
    cases q : D.strs ys with
    | none => rw [q] at e; cases e
    | some xs =>
      rw [q] at e
      obtain ⟨c, e⟩ := ite_some e
      subst e
      have hv := strs_ok h2 q
      subst hv
      refine ⟨mkS x, _, xs.map mkS, rfl, rfl, .inl (SqL.of h1), ?_, ?_⟩
      · rw [List.map_map, List.length_map, mkS_len]
        have : (xs.map ((fun z : Str => z.length) ∘ mkS)) = xs.map (·.length) := List.map_congr_left fun z _ => mkS_len z
        rw [this]
        exact Nat.le_trans c (by decide)
      · rw [join_mkS]
        exact k.ok0 s (.str _)) (fun _ => rfl) ho ha hst hcall hline
end
end XV
set_option Elab.async false
set_option linter.all false
set_option autoImplicit false
set_option maxRecDepth 100000
namespace XV
open PySem PySem.Spec PyProof.Rows L2 PySem.W

inductive Src where
  | li (a : Addr) | tu (a : Addr) | tx (z : Str) (k : Tok)
def Src.val : Src → Value
  | .li a => .ref a
  | .tu a => .ref a
  | .tx z t => .str z t
def Src.v : Src → V
  | .li a => .ref a
  | .tu a => .ref a
  | .tx z _ => .str z
def Src.it : Src → Addr → Nat → Heap → Prop
  | .li a, it, i, h => h.IsListIter it a i
  | .tu a, it, i, h => h.IsTupleIter it a i
  | .tx z t, it, i, h => h.IsStrIter it (strIterType z) z t i
def Src.ob : Src → Obj
  | .li a => { cls := .type "list_iterator", data := .fields #[.ref a, .int 0 0] }
  | .tu a => { cls := .type "tuple_iterator", data := .fields #[.ref a, .int 0 0] }
  | .tx z t => { cls := .type (strIterType z), data := .fields #[.str z t, .int 0 0] }
def Src.at (K : PySem.W.Frag) (H : Hp) (xs : List V) : Src → Prop
  | .li a => SqL K H a xs
  | .tu a => SqT K H a xs
  | .tx z _ => xs = chars z
theorem vals_back : ∀ {xs : List V} {us : List Value} {i : Nat} {u : Value}, Vals xs us → us[i]? = some u → ∃ x, xs[i]? = some x ∧ RelV x u
  | _, _, _, _, .nil, e => by simp at e
  | _, _, 0, _, .cons r _, e => by simp at e; subst e; exact ⟨_, rfl, r⟩
  | _, _, i + 1, u, .cons _ q, e => by
    obtain ⟨x, h1, h2⟩ := vals_back (i := i) (u := u) q (by simpa using e)
    exact ⟨x, by simpa using h1, h2⟩
theorem Src.begin (S : Src) {it : Addr} {h : Heap} (e : h.get? it = some S.ob) : S.it it 0 h := by
  cases S with
  | li a => exact ⟨_, e, rfl, rfl⟩
  | tu a => exact ⟨_, e, rfl, rfl⟩
  | tx z t => exact ⟨_, e, rfl, rfl⟩
theorem Src.keep (S : Src) {it : Addr} {i : Nat} {h h' : Heap} (x : S.it it i h) (k : ∀ o, h.get? it = some o → h'.get? it = some o) : S.it it i h' := by
  cases S with
  | li a => exact Heap.IsListIter.at x k
  | tu a => exact Heap.IsTupleIter.at x k
  | tx z t => obtain ⟨o, e, c, d⟩ := x; exact ⟨o, k _ e, c, d⟩
theorem Src.obj (S : Src) {it : Addr} {i : Nat} {h : Heap} (x : S.it it i h) : ∃ o vs, h.get? it = some o ∧ o.data = .fields vs := by
  cases S with
  | li a => obtain ⟨o, e, c, d⟩ := x; exact ⟨o, _, e, d⟩
  | tu a => obtain ⟨o, e, c, d⟩ := x; exact ⟨o, _, e, d⟩
  | tx z t => obtain ⟨o, e, c, d⟩ := x; exact ⟨o, _, e, d⟩
section
variable {X : Cx} {pins : List (Addr × Obj)} {σ : L2.St} {H : Hp} {s : Shared} {xs : List V}
theorem Src.begins (S : Src) (I : Inv X pins σ H s) (e : S.at X.K H xs) : ∃ ob : Heap → Prop, Begins S.val S.ob ob ∧ ob s.heap := by
  cases S with
  | li a => obtain ⟨its, rv, p, _⟩ := I.list e; exact ⟨_, begins_list a its.toArray, p.isList⟩
  | tu a => obtain ⟨its, rv, p, _⟩ := I.tuple e; exact ⟨_, begins_tuple a its.toArray, p⟩
  | tx z t => exact ⟨_, begins_text z t, trivial⟩
theorem Src.draws (S : Src) (I : Inv X pins σ H s) (e : S.at X.K H xs) {A : Around} (hh : A.handled = none) {it : Addr} (hne : ∀ a, S.val = .ref a → a ≠ it) : ∃ (P : Nat → Value → Prop) (fp : List Addr) (ob : Heap → Prop),
    Draws X.prog X.w A it fp xs.length P (fun i h => S.it it i h ∧ ob h) ∧ ob s.heap ∧ (∀ i u, P i u → ∃ x, xs[i]? = some x ∧ RelV x u) ∧ it ∈ fp ∧ (∀ b ∈ fp, b = it ∨ S.val = .ref b) := by
  cases S with
  | li a =>
    obtain ⟨its, rv, p, _⟩ := I.list e
    have D := Draws.list (prog := X.prog) (w := X.w) hh it a (hne a rfl) its.toArray
    rw [List.size_toArray, ← rv.length] at D
    exact ⟨_, _, _, D, p.isList, fun i u q => vals_back rv (by simpa using q), by simp, fun b hb => by
      rcases List.mem_cons.mp hb with z | z
      · exact .inl z
      · exact .inr (by simp at z; subst z; rfl)⟩
  | tu a =>
    obtain ⟨its, rv, p, _⟩ := I.tuple e
    have D := Draws.tuple (prog := X.prog) (w := X.w) hh it a (hne a rfl) its.toArray
    rw [List.size_toArray, ← rv.length] at D
    exact ⟨_, _, _, D, p, fun i u q => vals_back rv (by simpa using q), by simp, fun b hb => by
      rcases List.mem_cons.mp hb with z | z
      · exact .inl z
      · exact .inr (by simp at z; subst z; rfl)⟩
  | tx z t =>
    have D := Draws.text (prog := X.prog) (w := X.w) hh it z t
    have e : xs = chars z := e
    have hl : xs.length = z.cps.size := by rw [e]; unfold chars; simp
    rw [← hl] at D
    refine ⟨_, [it], fun _ => True, ⟨fun i h st => D.live i h st.1, fun i h h' st k => ⟨D.frame i h h' st.1 k, trivial⟩, fun i s Q E hi st hQ => D.item i s Q E hi st.1 fun x h' tk p st' sb => hQ x h' tk p ⟨st', trivial⟩ sb, fun s Q E st hE => D.done s Q E st.1 hE⟩, trivial, fun i u q => ?_, by simp, fun b hb => .inl (by simpa using hb)⟩
    · obtain ⟨c, t', q1, rfl⟩ := q
      refine ⟨.str ⟨#[c]⟩, ?_, ⟨_, rfl⟩⟩
      rw [e]; unfold chars
      rw [List.getElem?_map, Array.getElem?_toList, q1]; rfl
end
theorem Src.same (S : Src) {X : Cx} {pins : List (Addr × Obj)} {σ : L2.St} {H : Hp} {s : Shared} {xs ys : List V} (I : Inv X pins σ H s) (e : S.at X.K H xs) (e2 : S.at X.K H ys) : ys = xs := by
  cases S with
  | li a => exact I.list_inj e2 e
  | tu a => exact I.tuple_inj e2 e
  | tx z t => exact (show ys = chars z from e2).trans (show xs = chars z from e).symm
structure ZD (z TI TO i1 i2 : Addr) (S1 S2 : Src) : Prop where
  nd : [z, TI, TO, i1, i2].Nodup
  o1 : ∀ a, S1.val = .ref a → a ∉ [z, TI, TO, i1, i2]
  o2 : ∀ a, S2.val = .ref a → a ∉ [z, TI, TO, i1, i2]
theorem ZD.sep {z TI TO i1 i2 : Addr} {S1 S2 : Src} (D : ZD z TI TO i1 i2 S1 S2) {fp1 fp2 : List Addr} (m1 : i1 ∈ fp1) (m2 : i2 ∈ fp2) (f1 : ∀ b ∈ fp1, b = i1 ∨ S1.val = .ref b) (f2 : ∀ b ∈ fp2, b = i2 ∨ S2.val = .ref b) : ZipSep2 z TI TO i1 i2 fp1 fp2 := by
  have nd := D.nd
  simp only [List.nodup_cons, List.mem_cons, List.not_mem_nil, or_false, not_or, not_false_eq_true, List.nodup_nil, and_true] at nd
  obtain ⟨⟨h1, h2, h3, h4⟩, ⟨h5, h6, h7⟩, ⟨h8, h9⟩, h10⟩ := nd
  have no1 : ∀ c ∈ [z, TI, TO, i1, i2], c ≠ i1 → c ∉ fp1 := fun c hc hn hm => (f1 c hm).elim hn fun e => D.o1 c e hc
  have no2 : ∀ c ∈ [z, TI, TO, i1, i2], c ≠ i2 → c ∉ fp2 := fun c hc hn hm => (f2 c hm).elim hn fun e => D.o2 c e hc
  exact { TIz := Ne.symm h1, TOz := Ne.symm h2, TITO := h5, TIi1 := h6, mem1 := m1, zf1 := no1 _ (by simp) h3, Tf1 := no1 _ (by simp) h8, TIi2 := h7, mem2 := m2, zf2 := no2 _ (by simp) h4, Tf2 := no2 _ (by simp) h9, sep1_2 := no2 _ (by simp) h10, sep2_1 := no1 _ (by simp) (Ne.symm h10) }
def Itzs (K : PySem.W.Frag) (S1 S2 : Src) : It :=
  ⟨fun i H => ∃ xs ys, S1.at K H xs ∧ S2.at K H ys ∧ i < xs.length ∧ i < ys.length,
    fun i H v H' => ∃ T x y, v = .ref T ∧ H T = none ∧ H' = upd H T (.tup [x, y]) ∧ (∀ xs, S1.at K H xs → xs[i]? = some x) ∧ (∀ ys, S2.at K H ys → ys[i]? = some y),
    fun i H => ∃ xs ys, S1.at K H xs ∧ S2.at K H ys ∧ i ≤ xs.length ∧ i ≤ ys.length ∧ (i = xs.length ∨ i = ys.length)⟩
theorem turn_zipS {P : Program} {w : World} {K : PySem.W.Frag} {elts : List Expr} {kk : Nat} {tpos : Pos} {z TI TO i1 i2 : Addr} {S1 S2 : Src} (D : ZD z TI TO i1 i2 S1 S2) :
    Turn P w K (.Tuple elts kk tpos) (Itzs K S1 S2) [z, TI, TO, i1, i2] z (fun i h => IsZip h z TI TO .none ∧ IsTupOf2 h TI (.ref i1) (.ref i2) ∧ (∃ x y, IsTupOf2 h TO x y) ∧ S1.it i1 i h ∧ S2.it i2 i h) where
  mem := by simp
  obj := fun i h st c hc => by
    obtain ⟨hz, hTI, ⟨x, y, hTO⟩, h1, h2⟩ := st
    obtain ⟨o1, v1, e1, d1⟩ := S1.obj h1
    obtain ⟨o2, v2, e2, d2⟩ := S2.obj h2
    have e' : c = z ∨ c = TI ∨ c = TO ∨ c = i1 ∨ c = i2 := by simpa using hc
    rcases e' with q | q | q | q | q
    · rw [q]; exact ⟨_, hz, fun v q => nomatch q⟩
    · rw [q]; exact ⟨_, hTI, fun v q => nomatch q⟩
    · rw [q]; exact ⟨_, hTO, fun v q => nomatch q⟩
    · rw [q]; exact ⟨o1, e1, fun v q => by rw [d1] at q; cases q⟩
    · rw [q]; exact ⟨o2, e2, fun v q => by rw [d2] at q; cases q⟩
  keep := fun i h h' st k => by
    obtain ⟨hz, hTI, ⟨x, y, hTO⟩, h1, h2⟩ := st
    exact ⟨k z (by simp) _ hz, k TI (by simp) _ hTI, ⟨x, y, k TO (by simp) _ hTO⟩, S1.keep h1 fun o q => k i1 (by simp) o q, S2.keep h2 fun o q => k i2 (by simp) o q⟩
  item := by
    intro X hP hw hK hc i pins s σ H E I hf st hg
    subst hP hw hK
    obtain ⟨hz, hTI, ⟨x0, y0, hTO⟩, h1, h2⟩ := st
    obtain ⟨xs, ys, q1, q2, hlt1, hlt2⟩ := hg
    have hh : X.A.in1.handled = none := I.ok.hd hc
    obtain ⟨P1, fp1, ob1, D1, b1, r1, m1, f1⟩ := S1.draws (it := i1) I q1 hh fun a e z => D.o1 a e (by simp [z])
    obtain ⟨P2, fp2, ob2, D2, b2, r2, m2, f2⟩ := S2.draws (it := i2) I q2 hh fun a e z => D.o2 a e (by simp [z])
    have S := D.sep m1 m2 f1 f2
    have hzl : z < s.heap.objs.size := Heap.lt_size hz
    refine wpAny_pyNext_zipD2_item S D1 D2 hz hTI hTO ⟨h1, b1⟩ ⟨h2, b2⟩ hlt1 hlt2 fun u u2 h' tk p1 p2 z' TO' h1' h2' hT hsz hk => ?_
    obtain ⟨x, hx, ru⟩ := r1 _ _ p1
    obtain ⟨y, hy, ru2⟩ := r2 _ _ p2
    refine ⟨_, rfl, wpAny_letOwnedTupleGo_zip (s := { s with heap := h', toks := tk }) z' fun h'' z'' sb => ?_⟩
    have hT2 : h''.get? s.heap.objs.size = some { cls := .type "tuple", data := .seq #[u, u2] } := (sb.2 _ (Nat.ne_of_gt hzl)).trans hT
    have new : ObjOk X.prog X.w (upd H s.heap.objs.size (.tup [x, y])) h'' s.heap.objs.size (.tup [x, y]) :=
      ⟨by show 2 ≤ sizeLine; decide, [u, u2], .cons ru (.cons ru2 .nil), ⟨_, hT2, rfl, _, rfl⟩⟩
    have I1 : Inv X pins σ (upd H s.heap.objs.size (.tup [x, y])) { s with heap := h'', toks := tk } :=
      I.turnedNew (t' := tk) (ch := [z, TI, TO, i1, i2]) (fun c o hb q => (sb.2 c (fun q' => hb (by simp [q']))).trans (hk c o (fun q' => hb (by simp [q'])) (fun q' => hb (by simp [q'])) (fun q' => hb (by simp [q'])) (fun q' => hb (by simp [q'])) q)) hf (Nat.le_refl _) new
    refine ⟨.ref s.heap.objs.size, _, I1, rfl, ⟨_, x, y, rfl, I.hok.fresh (Nat.le_refl _), rfl, fun zs hz => by rw [S1.same I q1 hz]; exact hx, fun zs hz => by rw [S2.same I q2 hz]; exact hy⟩, ⟨z'', ?_, ⟨u, u2, ?_⟩, ?_, ?_⟩, fun c hcm => ?_⟩
    · exact (sb.2 _ S.TIz).trans (hk _ _ S.TIz S.TITO S.TIi1 S.TIi2 hTI)
    · exact (sb.2 _ S.TOz).trans TO'
    · exact S1.keep h1'.1 fun o q => (sb.2 _ (Ne.symm S.zi1)).trans q
    · exact S2.keep h2'.1 fun o q => (sb.2 _ (Ne.symm S.zi2)).trans q
    · have hlt : c < s.heap.objs.size := by
        have e' : c = z ∨ c = TI ∨ c = TO ∨ c = i1 ∨ c = i2 := by simpa using hcm
        rcases e' with q | q | q | q | q
        · rw [q]; exact hzl
        · rw [q]; exact Heap.lt_size hTI
        · rw [q]; exact Heap.lt_size hTO
        · rw [q]; obtain ⟨_, _, e1, _⟩ := S1.obj h1; exact Heap.lt_size e1
        · rw [q]; obtain ⟨_, _, e2, _⟩ := S2.obj h2; exact Heap.lt_size e2
      rw [upd_ne (Nat.ne_of_lt hlt)]
      exact (hf c hcm).1
  done := by
    intro X hP hw hK hc i pins s σ H E I hf st hg
    subst hP hw hK
    obtain ⟨hz, hTI, ⟨x0, y0, hTO⟩, h1, h2⟩ := st
    obtain ⟨xs, ys, q1, q2, hle1, hle2, hend⟩ := hg
    have hh : X.A.in1.handled = none := I.ok.hd hc
    obtain ⟨P1, fp1, ob1, D1, b1, r1, m1, f1⟩ := S1.draws (it := i1) I q1 hh fun a e z => D.o1 a e (by simp [z])
    obtain ⟨P2, fp2, ob2, D2, b2, r2, m2, f2⟩ := S2.draws (it := i2) I q2 hh fun a e z => D.o2 a e (by simp [z])
    exact wpAny_pyNext_zipD2_end (D.sep m1 m2 f1 f2) D1 D2 hz hTI hTO ⟨h1, b1⟩ ⟨h2, b2⟩ hle1 hle2 hend fun h' tk hk => ⟨rfl, I.turnedL (t' := tk) (ch := [z, TI, TO, i1, i2]) (fun c o hb q =>
      hk c o (fun q' => hb (by simp [q'])) (fun q' => hb (by simp [q'])) (fun q' => hb (by simp [q'])) (fun q' => hb (by simp [q'])) q) hf⟩
  self := fun A i s Q E st h => wpAny_pyIter_zip st.1 h
theorem Src.real (S : Src) {u : Value} (r : RelV S.v u) : ∃ S' : Src, S'.val = u ∧ S'.v = S.v ∧ (∀ K H xs, S.at K H xs → S'.at K H xs) ∧ ∀ K H xs, S'.at K H xs → S.at K H xs := by
  cases S with
  | li a => exact ⟨.li a, (show u = .ref a from r).symm, rfl, fun _ _ _ h => h, fun _ _ _ h => h⟩
  | tu a => exact ⟨.tu a, (show u = .ref a from r).symm, rfl, fun _ _ _ h => h, fun _ _ _ h => h⟩
  | tx z k => obtain ⟨t, q⟩ := (show ∃ t, u = Value.str z t from r); exact ⟨.tx z t, q.symm, rfl, fun _ _ _ h => h, fun _ _ _ h => h⟩
theorem Src.lt {X : Cx} {pins : List (Addr × Obj)} {σ : L2.St} {H : Hp} {s : Shared} {xs : List V} (S : Src) (I : Inv X pins σ H s) (e : S.at X.K H xs) {a : Addr} (ea : S.val = .ref a) : a < s.heap.objs.size := by
  cases S with
  | li b => cases ea; obtain ⟨its, rv, p, _⟩ := I.list e; exact p.lt
  | tu b => cases ea; obtain ⟨its, rv, p, _⟩ := I.tuple e; obtain ⟨o, q, _⟩ := p; exact Heap.lt_size q
  | tx z k => cases ea
theorem five_le {n c : Nat} (h : c = n + 4 ∨ c = n + 2 ∨ c = n + 3 ∨ c = n ∨ c = n + 1) : n ≤ c := by omega
theorem five_not {n a : Nat} (h : a < n) : ¬ (a = n + 4 ∨ a = n + 2 ∨ a = n + 3 ∨ a = n ∨ a = n + 1) := by omega
theorem five_mem {n c : Nat} (h : c ∈ [n + 4, n + 2, n + 3, n, n + 1]) : c = n + 4 ∨ c = n + 2 ∨ c = n + 3 ∨ c = n ∨ c = n + 1 := by simpa using h
def iZipS (K : PySem.W.Frag) (ta : TA) : TI := fun σ H R => ta σ H fun vs H1 => ∃ (S1 S2 : Src) (xs ys : List V), vs = [S1.v, S2.v] ∧ S1.at K H1 xs ∧ S2.at K H1 ys ∧ ∀ S1' S2' : Src, (∀ H xs, S1.at K H xs → S1'.at K H xs) → (∀ H xs, S1'.at K H xs → S1.at K H xs) → (∀ H ys, S2.at K H ys → S2'.at K H ys) → (∀ H ys, S2'.at K H ys → S2.at K H ys) → R (Itzs K S1' S2') H1
theorem pi_zipS {X : Cx} {e e2 : Expr} {ta : TA} {p pos tpos : Pos} {elts : List Expr} {kk : Nat} (hg : Gl X "zip") (hm : X.mg "zip" = none) (ha : PA X [e, e2] ta)
    (hs : starEach [e, e2] X.env = (false, eval e X.env) :: starEach [e2] X.env) (hpl : (backTo pos (starEach [e2] X.env)).any (·.1) = false) :
    PI X (.Tuple elts kk tpos) (.Call (.Name "zip" p) [e, e2] [] pos) (iZipS X.K ta) := by
  refine ⟨fun pins s σ H R I h => ?_⟩
  refine Call_ (ld_blt I hg hm PyProof.Rows.boot_zip (PyProof.Rows.callWith_type1 (thn (ha.run pos pins s σ H _ I h) fun us s1 ⟨vs, H1, I1, r1, q1⟩ => ?_) hs hpl))
  obtain ⟨S1, S2, xs, ys, ex, hqx, hqy, q⟩ := q1
  subst ex
  obtain ⟨u1, u2, rfl, ru1, ru2⟩ := vals2 r1
  obtain ⟨T1, e1, v1, k1, k1b⟩ := S1.real ru1
  obtain ⟨T2, e2, v2, k2, k2b⟩ := S2.real ru2
  have a1 := k1 _ _ _ hqx
  have a2 := k2 _ _ _ hqy
  obtain ⟨ob1, B1, b1⟩ := T1.begins I1 a1
  obtain ⟨ob2, B2, b2⟩ := T2.begins I1 a2
  rw [← e1, ← e2]
  refine zip_begins2 B1 B2 b1 b2 fun h' hz hTI hTO h1 h2 hsz hk => wpAny_pyIter_zip hz ?_
  have I2 : Inv X pins σ H1 { s1 with heap := h' } := I1.kept (t' := s1.toks) hk
  have D : ZD (s1.heap.objs.size + 4) (s1.heap.objs.size + 2) (s1.heap.objs.size + 3) s1.heap.objs.size (s1.heap.objs.size + 1) T1 T2 := by
    refine ⟨by simp, fun a ea hm => ?_, fun a ea hm => ?_⟩
    · exact five_not (T1.lt I1 a1 ea) (five_mem hm)
    · exact five_not (T2.lt I1 a2 ea) (five_mem hm)
  refine ⟨s1.heap.objs.size + 4, [s1.heap.objs.size + 4, s1.heap.objs.size + 2, s1.heap.objs.size + 3, s1.heap.objs.size, s1.heap.objs.size + 1], _, _, H1, rfl, I2, turn_zipS D, ⟨hz, hTI, ⟨_, _, hTO⟩, T1.begin h1, T2.begin h2⟩, fun c hcm => ?_, q T1 T2 (k1 _) (k1b _) (k2 _) (k2b _)⟩
  have hle : s1.heap.objs.size ≤ c := by
    exact five_le (five_mem hcm)
  exact I1.fpOk hle (I1.hok.fresh hle)

set_option maxHeartbeats 1000000 in
theorem meets_enum1 {v : Value} {o : Obj} {H : Heap → Prop} (B : Begins v o H) :
    Meets (Builtin.«enumerate.__new__» ⟨[.type "enumerate", v], []⟩) (fun _ R s => H s.heap ∧
      R (.ok (.ret (.ref (s.heap.push o).objs.size))) { s with heap := (s.heap.push o).push { cls := .type "enumerate", data := .fields #[.none, .bool false, .ref s.heap.objs.size, rawInt 0, .none, .none] } }) :=
  .of_wp fun prog w A R s h => by
    obtain ⟨hp, g, d, tk, os⟩ := s
    obtain ⟨h1, h⟩ := h
    have hsub := sub_enumerate
    have q1 : ∀ {A' : Around} {E : Value → Shared → Prop} {Q : Value → Shared → Prop}, Q (.ref hp.objs.size) ⟨hp.push o, g, d, tk, os⟩ → wpAny (model prog w) A' (pyIter v) Q E ⟨hp, g, d, tk, os⟩ :=
      fun q => B.iter prog w _ _ ⟨hp, g, d, tk, os⟩ _ h1 q
    wp_walk using q1
    refine wpAny_stack_any fun st => wpAny_pure ?_
    split
    · rename_i c _ _ _ _ _
      cases (c == Value.type "enumerate") <;> (wp_walk using q1; exact ⟨_, rfl, h⟩)
    · wp_walk using q1
      exact ⟨_, rfl, h⟩
theorem enum1_begins {prog : Program} {w : World} {A : Around} {E : Value → Shared → Prop} {s : Shared} {v : Value} {o : Obj} {H : Heap → Prop} {Q : Value → Shared → Prop} (B : Begins v o H) (h1 : H s.heap)
    (h : ∀ h', IsEnum h' (s.heap.objs.size + 1) s.heap.objs.size 0 .none → h'.get? s.heap.objs.size = some o → (∀ b o, s.heap.get? b = some o → h'.get? b = some o) → Q (.ref (s.heap.objs.size + 1)) { s with heap := h' }) :
    wpAny (model prog w) A (call (.type "enumerate") [v]) Q E s := by
  have hz : (s.heap.push o).objs.size = s.heap.objs.size + 1 := Heap.size_push ..
  refine callType_new F.called_enumerate (by decide) (F.typeCall_enumerate_1 _) (F.newCall_enumerate_1 _) (fun obj => F.args_object_init_2 obj _) F.entry_enumerate_new (meets_enum1 B) ⟨h1, ?_⟩
  show _ ∧ _
  rw [hz]
  have he : IsEnum ((s.heap.push o).push { cls := .type "enumerate", data := .fields #[.none, .bool false, .ref s.heap.objs.size, rawInt 0, .none, .none] }) (s.heap.objs.size + 1) s.heap.objs.size 0 .none := by
    have := Heap.get?_push_size (s.heap.push o) (o := { cls := .type "enumerate", data := .fields #[.none, .bool false, .ref s.heap.objs.size, rawInt 0, .none, .none] }) rfl
    rw [hz] at this
    exact this
  exact ⟨⟨_, he, rfl⟩, h _ he (Heap.get?_push_of_some _ (Heap.get?_push_size _ B.free)) fun b o x => Heap.get?_push_of_some _ (Heap.get?_push_of_some _ x)⟩
def Ites (K : PySem.W.Frag) (S : Src) : It :=
  ⟨fun i H => ∃ xs, S.at K H xs ∧ i < xs.length, fun i H v H' => ∃ T x, v = .ref T ∧ H T = none ∧ H' = upd H T (.tup [.int (i : Nat), x]) ∧ ∀ xs, S.at K H xs → xs[i]? = some x, fun i H => ∃ xs, S.at K H xs ∧ i = xs.length⟩
theorem turn_enumS {P : Program} {w : World} {K : PySem.W.Frag} {elts : List Expr} {kk : Nat} {tpos : Pos} {e it : Addr} {S : Src} (hne : e ≠ it) (ho : ∀ a, S.val = .ref a → a ≠ e ∧ a ≠ it) :
    Turn P w K (.Tuple elts kk tpos) (Ites K S) [e, it] e (fun i h => (∃ old, IsEnum h e it ((i : Nat) : Int) old) ∧ S.it it i h) where
  mem := by simp
  obj := fun i h st b hb => by
    obtain ⟨⟨old, he⟩, hi⟩ := st
    obtain ⟨o, vs, e1, d1⟩ := S.obj hi
    have e' : b = e ∨ b = it := by simpa using hb
    rcases e' with z | z
    · rw [z]; exact ⟨_, he, fun v q => nomatch q⟩
    · rw [z]; exact ⟨o, e1, fun v q => by rw [d1] at q; cases q⟩
  keep := fun i h h' st k => let ⟨⟨old, he⟩, hi⟩ := st; ⟨⟨old, k e (by simp) _ he⟩, S.keep hi fun o q => k it (by simp) o q⟩
  item := by
    intro X hP hw hK hc i pins s σ H E I hf st hg
    subst hP hw hK
    obtain ⟨⟨old, he⟩, hit⟩ := st
    obtain ⟨xs, q1, hlt⟩ := hg
    obtain ⟨P1, fp, ob, D, b1, r1, m1, f1⟩ := S.draws (it := it) (A := X.A.in1) I q1 (I.ok.hd hc) fun a ea => (ho a ea).2
    have hef : e ∉ fp := fun hm => (f1 e hm).elim hne fun z => (ho e z).1 rfl
    have hel : e < s.heap.objs.size := Heap.lt_size he
    refine wpAny_pyNext_enum_itemC D he ⟨hit, b1⟩ hlt hne hef fun u h' tk p eo hit' hT hsz hk => ?_
    obtain ⟨x, hx, ru⟩ := r1 _ _ p
    refine ⟨_, rfl, wpAny_letOwnedTupleGo_enum (s := { s with heap := h', toks := tk + 1 }) eo fun h'' he' sb => ?_⟩
    have hT2 : h''.get? s.heap.objs.size = some { cls := .type "tuple", data := .seq #[.int i tk, u] } := (sb.2 _ (Nat.ne_of_gt hel)).trans hT
    have new : ObjOk X.prog X.w (upd H s.heap.objs.size (.tup [.int (i : Nat), x])) h'' s.heap.objs.size (.tup [.int (i : Nat), x]) :=
      ⟨by show 2 ≤ sizeLine; decide, [.int i tk, u], .cons ⟨_, rfl⟩ (.cons ru .nil), ⟨_, hT2, rfl, _, rfl⟩⟩
    have I1 : Inv X pins σ (upd H s.heap.objs.size (.tup [.int (i : Nat), x])) { s with heap := h'', toks := tk + 1 } :=
      I.turnedNew (ch := [e, it]) (fun b o hb q => (sb.2 b (fun z => hb (by simp [z]))).trans (hk b o (fun z => hb (by simp [z])) (fun z => hb (by simp [z])) q)) hf (Nat.le_refl _) new
    refine ⟨.ref s.heap.objs.size, _, I1, rfl, ⟨_, x, rfl, I.hok.fresh (Nat.le_refl _), rfl, fun zs hz => by rw [S.same I q1 hz]; exact hx⟩, ⟨⟨u, ?_⟩, S.keep hit'.1 fun o q => (sb.2 it (Ne.symm hne)).trans q⟩, fun b hb => ?_⟩
    · have e1 : ((i + 1 : Nat) : Int) = (i : Int) + 1 := by omega
      rw [e1]; exact he'
    · have hb' : b < s.heap.objs.size := by
        have e' : b = e ∨ b = it := by simpa using hb
        rcases e' with z | z
        · rw [z]; exact hel
        · rw [z]; obtain ⟨_, _, q, _⟩ := S.obj hit; exact Heap.lt_size q
      rw [upd_ne (Nat.ne_of_lt hb')]
      exact (hf b hb).1
  done := by
    intro X hP hw hK hc i pins s σ H E I hf st hg
    subst hP hw hK
    obtain ⟨⟨old, he⟩, hit⟩ := st
    obtain ⟨xs, q1, rfl⟩ := hg
    obtain ⟨P1, fp, ob, D, b1, r1, m1, f1⟩ := S.draws (it := it) (A := X.A.in1) I q1 (I.ok.hd hc) fun a ea => (ho a ea).2
    obtain ⟨f0, f2, f3, f4, f5, f6⟩ := hf it (by simp)
    exact wpAny_pyNext_enum_endD D he ⟨hit, b1⟩ fun h' eb => ⟨rfl, I.turned (t' := s.toks) (fun b o hb q => eb b o hb q) f0 f2 f4 f5 f6⟩
  self := fun A i s Q E st h => let ⟨⟨_, he⟩, _⟩ := st; wpAny_pyIter_enum he h
def iEnumS (K : PySem.W.Frag) (ta : TA) : TI := fun σ H R => ta σ H fun vs H1 => ∃ (S : Src) (xs : List V), vs = [S.v] ∧ S.at K H1 xs ∧ ∀ S' : Src, (∀ H xs, S.at K H xs → S'.at K H xs) → (∀ H xs, S'.at K H xs → S.at K H xs) → R (Ites K S') H1
theorem pi_enumS {X : Cx} {e : Expr} {ta : TA} {p pos tpos : Pos} {elts : List Expr} {kk : Nat} (hg : Gl X "enumerate") (hm : X.mg "enumerate" = none) (ha : PA X [e] ta) (hs : starEach [e] X.env = [(false, eval e X.env)]) :
    PI X (.Tuple elts kk tpos) (.Call (.Name "enumerate" p) [e] [] pos) (iEnumS X.K ta) := by
  refine ⟨fun pins s σ H R I h => ?_⟩
  refine Call_ (ld_blt I hg hm boot_enumerate (PyProof.Rows.callWith_type1 (thn (ha.run pos pins s σ H _ I h) fun us s1 ⟨vs, H1, I1, r1, q1⟩ => ?_) hs rfl))
  obtain ⟨S, xs, ex, hq, q⟩ := q1
  subst ex
  obtain ⟨u, rfl, ru⟩ : ∃ u, us = [u] ∧ RelV S.v u := by
    cases r1 with
    | cons r rr => cases rr; exact ⟨_, rfl, r⟩
  obtain ⟨T, e1, v1, k1, k1b⟩ := S.real ru
  have a1 := k1 _ _ _ hq
  obtain ⟨ob, B, b1⟩ := T.begins I1 a1
  rw [← e1]
  refine enum1_begins B b1 fun h' he ho hk => wpAny_pyIter_enum he ?_
  have I2 : Inv X pins σ H1 { s1 with heap := h' } := I1.kept (t' := s1.toks) hk
  refine ⟨s1.heap.objs.size + 1, [s1.heap.objs.size + 1, s1.heap.objs.size], _, _, H1, rfl, I2, turn_enumS (S := T) (Nat.succ_ne_self _) (fun a ea => ?_), ⟨⟨.none, he⟩, T.begin ho⟩, fun b hb => ?_, q T (k1 _) (k1b _)⟩
  · have := T.lt I1 a1 ea
    exact ⟨Nat.ne_of_lt (Nat.lt_succ_of_lt this), Nat.ne_of_lt this⟩
  · have e' : b = s1.heap.objs.size + 1 ∨ b = s1.heap.objs.size := by simpa using hb
    have hle : s1.heap.objs.size ≤ b := by
      rcases e' with z | z
      · rw [z]; exact Nat.le_add_right _ _
      · rw [z]; exact Nat.le_refl _
    exact I1.fpOk hle (I1.hok.fresh hle)
end XV
set_option Elab.async false
set_option linter.all false
set_option autoImplicit false
set_option maxRecDepth 100000
namespace XV
open PySem PySem.Spec PyProof.Rows L2

mutual
def gOf (K : PySem.W.Frag) : Tg → TG
  | .nm i => gName i
  | .tup gs => fun v σ H Q => gTup K gs.length (gsOf K gs) v σ H Q ∨ gLst K gs.length (gsOf K gs) v σ H Q
def gsOf (K : PySem.W.Frag) : List Tg → TGs
  | [] => gNil
  | g :: gs => gCons (gOf K g) (gsOf K gs)
end
mutual
def Tg.ins (own : List Nat) : Tg → Bool
  | .nm i => own.contains i
  | .tup gs => Tg.insAll own gs
def Tg.insAll (own : List Nat) : List Tg → Bool
  | [] => true
  | g :: gs => g.ins own && Tg.insAll own gs
end
theorem wipe_set {σ : L2.St} {i : Nat} {x : Option V} : ∀ {vs : List Nat}, i ∈ vs → wipe (σ.set i x) vs = wipe σ vs
  | v :: vs, h => by
    unfold wipe
    by_cases e : i = v
    · subst e
      have : ∀ (τ τ' : L2.St) (ws : List Nat), (∀ j, j ≠ i → τ[j]? = τ'[j]?) → τ.length = τ'.length → (wipe τ ws).set i none = (wipe τ' ws).set i none := by
        intro τ τ' ws hh hl
        apply List.ext_getElem?
        intro j
        by_cases ej : j = i
        · subst ej
          rw [List.getElem?_set_self', List.getElem?_set_self']
          have l1 : (wipe τ ws).length = (wipe τ' ws).length := by rw [wipe_length, wipe_length, hl]
          by_cases hj : j < (wipe τ ws).length
          · rw [List.getElem?_eq_getElem hj, List.getElem?_eq_getElem (l1 ▸ hj)]
            rfl
          · rw [List.getElem?_eq_none (by omega), List.getElem?_eq_none (by omega)]
        · rw [List.getElem?_set_ne (Ne.symm ej), List.getElem?_set_ne (Ne.symm ej)]
          clear hl
          induction ws with
          | nil => exact hh j ej
          | cons w ws ih =>
            unfold wipe
            by_cases ew : w = j
            · subst ew
              rw [List.getElem?_set_self', List.getElem?_set_self']
              rw [ih]
            · rw [List.getElem?_set_ne ew, List.getElem?_set_ne ew]
              exact ih
      exact this _ _ vs (fun j hj => List.getElem?_set_ne (Ne.symm hj)) (by simp)
    · have hm : i ∈ vs := by
        rcases List.mem_cons.mp h with z | z
        · exact absurd z e
        · exact z
      rw [wipe_set hm]
section
variable {K : PySem.W.Frag} {L : Lay} {G : Hp} {r : List Addr} {H : Hp} {cs : List C}
theorem EnvR.set {env : List SV} {σ : L2.St} {i : Nat} {d : D} {v : V} (h : EnvR K L G r H env σ) (q : Rep K L G r d v) : EnvR K L G r H (env.set i (.d d)) (σ.set i (some v)) := by
  refine ⟨by simpa using h.len, fun j sv e => ?_, fun j k sv sv' a hjk e1 o1 e2 o2 s1 s2 => ?_⟩
  · by_cases ej : i = j
    · subst ej
      have hi : i < env.length := by
        by_cases hi : i < env.length
        · exact hi
        · rw [List.getElem?_eq_none (by simpa using hi)] at e; cases e
      rw [List.getElem?_set_self hi] at e
      cases e
      exact ⟨v, by rw [List.getElem?_set_self (by rw [← h.len]; exact hi)], q⟩
    · rw [List.getElem?_set_ne ej] at e ⊢
      exact h.get j sv e
  · have ne : ∀ {m : Nat} {sv : SV}, (env.set i (.d d))[m]? = some sv → isOwn sv = true → i ≠ m := fun {m sv} e o z => by
      subst z
      by_cases hi : i < env.length
      · rw [List.getElem?_set_self hi] at e; cases e; cases o
      · rw [List.getElem?_eq_none (by simpa using hi)] at e; cases e
    have n1 := ne e1 o1
    have n2 := ne e2 o2
    rw [List.getElem?_set_ne n1] at e1 s1
    rw [List.getElem?_set_ne n2] at e2 s2
    exact h.sep j k sv sv' a hjk e1 o1 e2 o2 s1 s2
def OwnIn (env env' : List SV) (σ σ' : L2.St) : Prop := ∀ (i : Nat) (sv : SV), env'[i]? = some sv → isOwn sv = true → env[i]? = some sv ∧ σ'[i]? = σ[i]?
mutual
theorem asgT_ok : ∀ {g : Tg} {d : D} {v : V} {env env' : List SV} {σ : L2.St} {Q : L2.St → Hp → Prop}, Sep K L G r cs H → EnvR K L G r H env σ → Rep K L G r d v → asgT g d env = some env' →
    (∀ σ', EnvR K L G r H env' σ' → (∀ own, g.ins own = true → wipe σ' own = wipe σ own) → OwnIn env env' σ σ' → Q σ' H) → gOf K g v σ H Q
  | .nm i, d, v, env, env', σ, Q, s, er, rd, e, k => by
    unfold asgT at e
    obtain ⟨hi, e⟩ := ite_some e
    subst e
    show Q (σ.set i (some v)) H
    refine k _ (er.set rd) (fun own ho => ?_) fun j sv e o => ?_
    · exact wipe_set (by simpa [Tg.ins] using ho)
    · have ne : i ≠ j := fun z => by
        subst z
        rw [List.getElem?_set_self hi] at e; cases e; cases o
      rw [List.getElem?_set_ne ne] at e
      exact ⟨e, List.getElem?_set_ne ne⟩
  | .tup gs, d, v, env, env', σ, Q, s, er, rd, e, k => by
    cases d <;> first | (cases e; done) | skip
    · rename_i ds
      have e : asgTs gs ds env = some env' := e
      obtain ⟨a, vs, rfl, h1, h2⟩ := tup_of s rd
      have hl := asgTs_len e
      refine .inl ⟨a, vs, rfl, h1, by rw [← h2.length, hl], ?_⟩
      exact asgTs_ok s er h2 e fun σ' er' hw ho' => k σ' er' (fun own ho => hw own ho) ho'
    · rename_i ds
      have e : asgTs gs ds env = some env' := e
      have hl := asgTs_len e
      cases rd with
      | lst h1 h2 =>
        refine .inr ⟨_, _, rfl, SqL.of (s.same _ _ h1), by rw [← h2.length, hl], ?_⟩
        exact asgTs_ok s er h2 e fun σ' er' hw ho' => k σ' er' (fun own ho => hw own ho) ho'
theorem asgTs_len : ∀ {gs : List Tg} {ds : List D} {env env' : List SV}, asgTs gs ds env = some env' → ds.length = gs.length
  | [], [], _, _, _ => rfl
  | [], _ :: _, _, _, e => by cases e
  | _ :: _, [], _, _, e => by cases e
  | g :: gs, d :: ds, env, env', e => by
    unfold asgTs at e
    cases q : asgT g d env with
    | none => rw [q] at e; cases e
    | some e1 => rw [q] at e; exact congrArg (· + 1) (asgTs_len e)
theorem asgTs_ok : ∀ {gs : List Tg} {ds : List D} {vs : List V} {env env' : List SV} {σ : L2.St} {Q : L2.St → Hp → Prop}, Sep K L G r cs H → EnvR K L G r H env σ → Reps K L G r ds vs → asgTs gs ds env = some env' →
    (∀ σ', EnvR K L G r H env' σ' → (∀ own, Tg.insAll own gs = true → wipe σ' own = wipe σ own) → OwnIn env env' σ σ' → Q σ' H) → gsOf K gs vs σ H Q
  | [], [], vs, env, env', σ, Q, s, er, rd, e, k => by
    cases rd
    cases e
    exact ⟨rfl, k σ er (fun _ _ => rfl) fun _ _ e o => ⟨e, rfl⟩⟩
  | [], _ :: _, _, _, _, _, _, _, _, _, e, _ => by cases e
  | _ :: _, [], _, _, _, _, _, _, _, _, e, _ => by cases e
  | g :: gs, d :: ds, vs, env, env', σ, Q, s, er, rd, e, k => by
    unfold asgTs at e
    cases rd with
    | cons r1 r2 =>
      cases q : asgT g d env with
      | none => rw [q] at e; cases e
      | some e1 =>
        rw [q] at e
        refine ⟨_, _, rfl, asgT_ok s er r1 q fun σ1 er1 hw1 ho1 => ?_⟩
        refine asgTs_ok s er1 r2 e fun σ2 er2 hw2 ho2 => k σ2 er2 (fun own ho => ?_) fun j sv e3 o3 => ?_
        · have ho : (g.ins own && Tg.insAll own gs) = true := ho
          rw [Bool.and_eq_true] at ho
          exact (hw2 own ho.2).trans (hw1 own ho.1)
        · obtain ⟨e4, e5⟩ := ho2 j sv e3 o3
          obtain ⟨e6, e7⟩ := ho1 j sv e4 o3
          exact ⟨e6, e5.trans e7⟩
end
theorem EnvR.wipe {env : List SV} {σ : L2.St} (h : EnvR K L G r H env σ) : ∀ own : List Nat, EnvR K L G r H (wipeE env own) (L2.wipe σ own)
  | [] => h
  | w :: own => by
    have ih := EnvR.wipe h own
    show EnvR K L G r H ((wipeE env own).set w .un) ((L2.wipe σ own).set w none)
    refine ⟨by simpa using ih.len, fun j sv e => ?_, fun j k sv sv' a hjk e1 o1 e2 o2 s1 s2 => ?_⟩
    · by_cases ej : w = j
      · subst ej
        by_cases hi : w < (wipeE env own).length
        · rw [List.getElem?_set_self hi] at e; cases e; trivial
        · rw [List.getElem?_eq_none (by simpa using hi)] at e; cases e
      · rw [List.getElem?_set_ne ej] at e ⊢
        exact ih.get j sv e
    · have ne : ∀ {m : Nat} {sv : SV}, ((wipeE env own).set w .un)[m]? = some sv → isOwn sv = true → w ≠ m := fun {m sv} e o z => by
        subst z
        by_cases hi : w < (wipeE env own).length
        · rw [List.getElem?_set_self hi] at e; cases e; cases o
        · rw [List.getElem?_eq_none (by simpa using hi)] at e; cases e
      have n1 := ne e1 o1
      have n2 := ne e2 o2
      rw [List.getElem?_set_ne n1] at e1 s1
      rw [List.getElem?_set_ne n2] at e2 s2
      exact ih.sep j k sv sv' a hjk e1 o1 e2 o2 s1 s2
end

structure Wk (K : PySem.W.Frag) (L : Lay) (J : It) (G : Hp) (r : List Addr) (ds : List D) (ws : Ws) : Prop where
  go : ∀ i H G' t cs, i < ds.length → Same G G' → Sep K L G' (r ++ t) cs H → okWs ws cs = true → J.go i H
  stop : ∀ H G' t cs, Same G G' → Sep K L G' (r ++ t) cs H → okWs ws cs = true → J.stop ds.length H
  yld : ∀ i d G' t cs H x H', ds[i]? = some d → Same G G' → Sep K L G' (r ++ t) cs H → okWs ws cs = true → J.yld i H x H' → ∃ G'', Go G' (r ++ t) H G'' (r ++ t) H' ∧ Sep K L G'' (r ++ t) cs H' ∧ Rep K L G'' (r ++ t) d x
def tI (K : PySem.W.Frag) (L : Lay) (P : Cfg) (W : WX) (it : I) : TI := fun σ H R => ∃ G r cs env, Sep K L G r cs H ∧ EnvR K L G r H env σ ∧ KO K L (fun G r (q : List D × Ws) J => Wk K L J G r q.1 q.2) (wE W σ) G r H (evI P it env cs) R
theorem PI.imp {X : Cx} {tg e : Expr} {w w' : TI} (h : PI X tg e w) (k : ∀ σ H R, w' σ H R → w σ H R) : PI X tg e w' := ⟨fun pins s σ H R I q => h.run pins s σ H R I (k _ _ _ q)⟩
theorem PI.or {X : Cx} {tg e : Expr} {w w' : TI} (h : PI X tg e w) (h' : PI X tg e w') : PI X tg e (fun σ H R => w σ H R ∨ w' σ H R) := ⟨fun pins s σ H R I q => q.elim (h.run pins s σ H R I) (h'.run pins s σ H R I)⟩
section
variable {K : PySem.W.Frag} {L : Lay} {G : Hp} {r : List Addr}
theorem okWs_app {a b : Ws} {cs : List C} (h : okWs (a ++ b) cs = true) : okWs a cs = true ∧ okWs b cs = true := by
  induction a with
  | nil => exact ⟨rfl, h⟩
  | cons q a ih =>
    obtain ⟨h1, h2⟩ := Bool.and_eq_true_iff.mp (show (_ && okWs (a ++ b) cs) = true from h)
    obtain ⟨h3, h4⟩ := ih h2
    exact ⟨Bool.and_eq_true_iff.mpr ⟨h1, h3⟩, h4⟩
theorem okWs_two {a b : Ws} {cs : List C} (h : okWs a cs = true) (h2 : okWs b cs = true) : okWs (a ++ b) cs = true := by
  induction a with
  | nil => exact h2
  | cons q a ih =>
    obtain ⟨h1, h3⟩ := Bool.and_eq_true_iff.mp (show (_ && okWs a cs) = true from h)
    exact Bool.and_eq_true_iff.mpr ⟨h1, ih h3⟩
theorem okWs_at {c : Nat} {ds : List D} {cs : List C} (h : okWs [(c, ds)] cs = true) : cs[c]? = some (.lst ds) := by
  obtain ⟨h1, _⟩ := Bool.and_eq_true_iff.mp (show (_ && okWs [] cs) = true from h)
  simp only at h1
  split at h1
  · rename_i ds' e
    rw [e, D.eqbs_t _ _ h1]
  · cases h1
theorem okWs_of {c : Nat} {ds : List D} {cs : List C} (h : cs[c]? = some (.lst ds)) : okWs [(c, ds)] cs = true := by
  show (_ && okWs [] cs) = true
  simp only [h, D.eqbs_r, Bool.true_and]
  rfl
theorem iterW_ok {cs : List C} {d : D} {q : List D × Ws} (h : iterW cs d = some q) : okWs q.2 cs = true := by
  unfold iterW at h
  split at h
  · split at h
    · rename_i e
      cases h
      exact okWs_of e
    · cases h
  · cases hi : iterD cs d with
    | none => rw [hi] at h; cases h
    | some ds => rw [hi] at h; cases h; rfl
def Stays (K : PySem.W.Frag) (L : Lay) (G : Hp) (r : List Addr) (S : Src) (ds : List D) (ws : Ws) : Prop :=
  ∀ G' t cs H, Same G G' → Sep K L G' (r ++ t) cs H → okWs ws cs = true → ∃ xs, S.at K H xs ∧ Reps K L G' (r ++ t) ds xs
theorem Stays.now {S : Src} {ds : List D} {ws : Ws} {cs : List C} {H : Hp} (h : Stays K L G r S ds ws) (s : Sep K L G r cs H) (w : okWs ws cs = true) : ∃ xs, S.at K H xs ∧ Reps K L G r ds xs := by
  have := h G [] cs H (Same.refl G) (by simpa using s) w
  simpa using this
theorem stays_lst {a : Addr} {xs : List V} {ds : List D} (h : G a = some (.lst xs)) (q : Reps K L G r ds xs) : Stays K L G r (.li a) ds [] := fun G' t cs H g s _ => ⟨xs, SqL.of (s.same _ _ (g _ _ h)), q.mono g⟩
theorem stays_tup {a : Addr} {xs : List V} {ds : List D} (h : SqT K G a xs) (q : Reps K L G r ds xs) : Stays K L G r (.tu a) ds [] := fun G' t cs H g s _ => ⟨xs, Same.tupq (g.trans s.same) h, q.mono g⟩
theorem stays_str (z : List Nat) (k : Tok) : Stays K L G r (.tx (mkS z) k) (z.map fun c => .str [c]) [] := fun G' t cs H g s _ => ⟨_, rfl, chars_reps z⟩
theorem stays_ref {a : Addr} {c : Nat} {ds : List D} (h : r[c]? = some a) : Stays K L G r (.li a) ds [(c, ds)] := fun G' t cs H g s w => by
  obtain ⟨b, h1, h2, vs, h3, h4⟩ := s.cell c _ (okWs_at w)
  rw [pre_get h] at h1
  cases h1
  exact ⟨vs, SqL.of h3, h4⟩
theorem src_of {cs : List C} {d : D} {v : V} {q : List D × Ws} (h : Rep K L G r d v) (e : iterW cs d = some q) : ∃ S : Src, S.v = v ∧ Stays K L G r S q.1 q.2 := by
  cases d <;> first | (cases e; done) | skip
  · cases e
    rw [h.str_of]
    exact ⟨.tx (mkS _) 0, rfl, stays_str _ _⟩
  · cases e
    cases h with
    | tup h1 h2 => exact ⟨.tu _, rfl, stays_tup h1 h2⟩
  · cases e
    cases h with
    | lst h1 h2 => exact ⟨.li _, rfl, stays_lst h1 h2⟩
  · unfold iterW at e
    simp only at e
    split at e
    · cases e
      cases h with
      | ref h1 => exact ⟨.li _, rfl, stays_ref h1⟩
    · cases e
def Src.itr (K : PySem.W.Frag) : Src → It
  | .li a => Itl K a
  | .tu a => Itt K a
  | .tx z _ => Its z
theorem wk_src {S : Src} {ds : List D} {ws : Ws} (hS : Stays K L G r S ds ws) : Wk K L (S.itr K) G r ds ws := by
  have hy : ∀ {i : Nat} {d : D} {G' : Hp} {t : List Addr} {cs : List C} {H : Hp} {x : V}, ds[i]? = some d → Same G G' → Sep K L G' (r ++ t) cs H → okWs ws cs = true → (∀ xs, S.at K H xs → xs[i]? = some x) → ∃ G'', Go G' (r ++ t) H G'' (r ++ t) H ∧ Sep K L G'' (r ++ t) cs H ∧ Rep K L G'' (r ++ t) d x := fun {i d G' t cs H x} e g s w y => by
    obtain ⟨xs, h1, h2⟩ := hS G' t cs H g s w
    obtain ⟨v, h3, h4⟩ := h2.get e
    rw [y xs h1] at h3
    cases h3
    exact ⟨G', Go.refl _ _ _, s, h4⟩
  have at_ : ∀ {i : Nat} {xs : List V} {G' : Hp} {t : List Addr}, i < ds.length → Reps K L G' (r ++ t) ds xs → ∃ x, xs[i]? = some x := fun {i xs G' t} hi h2 => by
    rw [h2.length] at hi
    exact ⟨xs[i], List.getElem?_eq_getElem hi⟩
  cases S with
  | li a =>
    refine ⟨fun i H G' t cs hi g s w => ?_, fun H G' t cs g s w => ?_, fun i d G' t cs H x H' e g s w y => ?_⟩
    · obtain ⟨xs, h1, h2⟩ := hS G' t cs H g s w
      obtain ⟨x, h3⟩ := at_ hi h2
      exact ⟨xs, x, h1, h3⟩
    · obtain ⟨xs, h1, h2⟩ := hS G' t cs H g s w
      exact ⟨xs, h1, by rw [h2.length]; exact Nat.le_refl _⟩
    · obtain ⟨rfl, y⟩ := y
      exact hy e g s w y
  | tu a =>
    refine ⟨fun i H G' t cs hi g s w => ?_, fun H G' t cs g s w => ?_, fun i d G' t cs H x H' e g s w y => ?_⟩
    · obtain ⟨xs, h1, h2⟩ := hS G' t cs H g s w
      obtain ⟨x, h3⟩ := at_ hi h2
      exact ⟨xs, x, h1, h3⟩
    · obtain ⟨xs, h1, h2⟩ := hS G' t cs H g s w
      exact ⟨xs, h1, by rw [h2.length]; exact Nat.le_refl _⟩
    · obtain ⟨rfl, y⟩ := y
      exact hy e g s w y
  | tx z k =>
    have hc : (chars z).length = z.cps.size := by unfold chars; simp
    refine ⟨fun i H G' t cs hi g s w => ?_, fun H G' t cs g s w => ?_, fun i d G' t cs H x H' e g s w y => ?_⟩
    · obtain ⟨xs, h1, h2⟩ := hS G' t cs H g s w
      have h1 : xs = chars z := h1
      rw [h2.length, h1, hc] at hi
      exact hi
    · obtain ⟨xs, h1, h2⟩ := hS G' t cs H g s w
      have h1 : xs = chars z := h1
      show z.cps.size ≤ ds.length
      rw [h2.length, h1, hc]
      exact Nat.le_refl _
    · obtain ⟨rfl, c, h2, h3⟩ := y
      subst h3
      refine hy e g s w fun xs h1 => ?_
      have h1 : xs = chars z := h1
      subst h1
      unfold chars
      rw [List.getElem?_map, Array.getElem?_toList, h2]
      rfl
theorem wk_range (lo : Int) (n : Nat) : Wk K L (Itr lo n) G r ((List.range n).map fun (k : Nat) => D.int (lo + (k : Int))) [] := by
  have hl : ((List.range n).map fun (k : Nat) => D.int (lo + (k : Int))).length = n := by simp
  refine ⟨fun i H G' t cs hi _ _ _ => by rw [hl] at hi; exact hi, fun H G' t cs _ _ _ => by rw [hl]; exact Nat.le_refl n, fun i d G' t cs H x H' e g s _ y => ?_⟩
  obtain ⟨rfl, rfl⟩ := y
  have hi : i < n := by rw [← hl]; exact (List.getElem?_eq_some_iff.mp e).1
  rw [List.getElem?_map, List.getElem?_range hi] at e
  cases e
  exact ⟨G', Go.refl _ _ _, s, .int _⟩
end
section
variable {X : Cx} {L : Lay} {P : Cfg} {W : WX} {tg e e2 : Expr} {t t2 : T} {p pos : Pos}
theorem tI_val {σ : L2.St} {H : Hp} {R : It → Hp → Prop} (h : tI X.K L P W (.val t) σ H R) : (iList X.K (tE X.K L P W t) σ H R ∨ iTup X.K (tE X.K L P W t) σ H R) ∨ iStr (tE X.K L P W t) σ H R := by
  obtain ⟨G, r, cs, env, s, er, k⟩ := h
  unfold evI at k
  cases e1 : evE P t env cs with
  | bad => rw [e1] at k; exact k.elim
  | exc c ds cs1 =>
    rw [e1] at k
    exact .inl (.inl ⟨G, r, cs, env, s, er, by rw [e1]; exact k⟩)
  | ok d cs1 =>
    have k' := k
    rw [e1] at k
    obtain ⟨q, e2, k2⟩ := KO.some_of k
    have w0 := iterW_ok e2
    have go : ∀ {Q : V → Hp → Prop}, (∀ v G1 r1 H1, Sep X.K L G1 r1 cs1 H1 → Rep X.K L G1 r1 d v → KO X.K L (fun G r (q : List D × Ws) J => Wk X.K L J G r q.1 q.2) (wE W σ) G1 r1 H1 (.ok q cs1) R → Q v H1) → tE X.K L P W t σ H Q := fun hh => by
      refine ⟨G, r, cs, env, s, er, KO.bind (R1 := Rep X.K L) k' fun x cs1' e3 v G1 r1 H1 g1 s1 rx k3 => ?_⟩
      rw [e1] at e3
      cases e3
      rw [e2] at k3
      exact hh v G1 r1 H1 s1 rx k3
    cases d <;> first | (cases e2; done) | skip
    · cases e2
      exact .inr (go fun v G1 r1 H1 s1 rx k3 => ⟨_, rx.str_of, k3.ok0 s1 (wk_src (stays_str _ 0))⟩)
    · cases e2
      refine .inl (.inr (go fun v G1 r1 H1 s1 rx k3 => ?_))
      cases rx with
      | tup h1 h2 => exact ⟨_, rfl, ⟨_, Same.tupq s1.same h1⟩, k3.ok0 s1 (wk_src (stays_tup h1 h2))⟩
    · cases e2
      refine .inl (.inl (go fun v G1 r1 H1 s1 rx k3 => ?_))
      cases rx with
      | lst h1 h2 => exact ⟨_, rfl, ⟨_, SqL.of (s1.same _ _ h1)⟩, k3.ok0 s1 (wk_src (stays_lst h1 h2))⟩
    · unfold iterW at e2
      simp only at e2
      split at e2
      · cases e2
        refine .inl (.inl (go fun v G1 r1 H1 s1 rx k3 => ?_))
        cases rx with
        | ref h1 =>
          obtain ⟨xs, h2, _⟩ := (stays_ref h1).now s1 w0
          exact ⟨_, rfl, ⟨_, h2⟩, k3.ok0 s1 (wk_src (stays_ref h1))⟩
      · cases e2
theorem sI_val (h : PE X e (tE X.K L P W t)) : PI X tg e (tI X.K L P W (.val t)) := PI.imp (PI.or (PI.or (pi_list h) (pi_tup h)) (pi_str h)) fun _ _ _ q => tI_val q
theorem tTs_one {α β : Type} {R0 : Hp → List Addr → α → β → Prop} {Q0 : β → Hp → Prop} {f : D → List C → Out α} {σ : L2.St} {H : Hp} {Q : List V → Hp → Prop} {G : Hp} {r : List Addr} {cs : List C} {env : List SV}
    (s : Sep X.K L G r cs H) (er : EnvR X.K L G r H env σ) (k : KO X.K L R0 (wE W σ) G r H ((evE P t env cs).bind f) Q0)
    (h : ∀ d cs1 v G' r' H', Go G r H G' r' H' → Sep X.K L G' r' cs1 H' → Rep X.K L G' r' d v → KO X.K L R0 (wE W σ) G' r' H' (f d cs1) Q0 → Q [v] H') : tTs X.K L P W (.cons t .nil) σ H Q := by
  refine ⟨G, r, cs, env, s, er, ?_⟩
  unfold evTs
  cases e1 : evE P t env cs with
  | bad => rw [e1] at k; exact k.elim
  | exc c ds cs1 => rw [e1] at k; exact k
  | ok d cs1 =>
    rw [e1] at k
    intro vs G' r' H' g s' rv
    cases rv with
    | cons r1 r2 =>
      cases r2
      exact h d cs1 _ G' r' H' g s' r1 (KO.go k g)
theorem tTs_two {α β : Type} {R0 : Hp → List Addr → α → β → Prop} {Q0 : β → Hp → Prop} {f : D → D → List C → Out α} {σ : L2.St} {H : Hp} {Q : List V → Hp → Prop} {G : Hp} {r : List Addr} {cs : List C} {env : List SV}
    (s : Sep X.K L G r cs H) (er : EnvR X.K L G r H env σ) (k : KO X.K L R0 (wE W σ) G r H ((evE P t env cs).bind fun d cs1 => (evE P t2 env cs1).bind fun d' cs2 => f d d' cs2) Q0)
    (h : ∀ d d' cs2 v v' G' r' H', Go G r H G' r' H' → Sep X.K L G' r' cs2 H' → Rep X.K L G' r' d v → Rep X.K L G' r' d' v' → KO X.K L R0 (wE W σ) G' r' H' (f d d' cs2) Q0 → Q [v, v'] H') : tTs X.K L P W (.cons t (.cons t2 .nil)) σ H Q := by
  refine ⟨G, r, cs, env, s, er, ?_⟩
  unfold evTs
  cases e1 : evE P t env cs with
  | bad => rw [e1] at k; exact k.elim
  | exc c ds cs1 => rw [e1] at k; exact k
  | ok d cs1 =>
    rw [e1] at k
    unfold evTs
    simp only [Out.bind_ok] at k ⊢
    cases e2 : evE P t2 env cs1 with
    | bad => rw [e2] at k; exact k.elim
    | exc c ds cs1 => rw [e2] at k; exact k
    | ok d' cs2 =>
      rw [e2] at k
      unfold evTs
      intro vs G' r' H' g s' rv
      cases rv with
      | cons r1 r2 =>
        cases r2 with
        | cons r2 r3 =>
          cases r3
          exact h d d' cs2 _ _ G' r' H' g s' r1 r2 (KO.go k g)
theorem sI_rng1 (hg : Gl X "range") (hm : X.mg "range" = none) (h : PE X e (tE X.K L P W t)) (hst : isStar e = false) : PI X tg (.Call (.Name "range" p) [e] [] pos) (tI X.K L P W (.rng1 t)) := by
  refine PI.imp (pi_range1 hg hm (sA_cons h sA_nil hst) (star_ok hst)) fun σ H R ⟨G, r, cs, env, s, er, k⟩ => ?_
  unfold evI at k
  refine tTs_one s er k fun d cs1 v G1 r1 H1 g1 s1 rd k1 => ?_
  cases d <;> first | exact k1.elim | skip
  rename_i j
  by_cases hj : -1000000 < j ∧ j < 1000000
  · simp only [hj, and_self, if_true] at k1
    refine ⟨j, by rw [rd.int_of], by omega, by omega, KO.ok0 k1 s1 ?_⟩
    have := wk_range (K := X.K) (L := L) (G := G1) (r := r1) 0 j.toNat
    simpa using this
  · simp only [hj, if_false] at k1
    exact k1.elim
theorem sI_rng2 (hg : Gl X "range") (hm : X.mg "range" = none) (h : PE X e (tE X.K L P W t)) (h2 : PE X e2 (tE X.K L P W t2)) (hst : isStar e = false) (hst2 : isStar e2 = false) : PI X tg (.Call (.Name "range" p) [e, e2] [] pos) (tI X.K L P W (.rng2 t t2)) := by
  refine PI.imp (pi_range2 hg hm (sA_cons h (sA_cons h2 sA_nil hst2) hst) (by rw [star_ok hst, star_ok hst2]; rfl) (star_ok hst2)) fun σ H R ⟨G, r, cs, env, s, er, k⟩ => ?_
  unfold evI at k
  refine tTs_two s er k fun d d' cs1 v v' G1 r1 H1 g1 s1 rd rd' k1 => ?_
  cases d <;> first | exact k1.elim | skip
  cases d' <;> first | exact k1.elim | skip
  rename_i i j
  by_cases hj : (-1000000 < i ∧ i < 1000000) ∧ (-1000000 < j ∧ j < 1000000)
  · simp only [hj, and_self, if_true] at k1
    exact ⟨i, j, by rw [rd.int_of, rd'.int_of], ⟨by omega, by omega, by omega, by omega⟩, KO.ok0 k1 s1 (wk_range i _)⟩
  · simp only [hj, if_false] at k1
    exact k1.elim
variable {elts : List Expr} {kk : Nat} {tpos : Pos}
theorem sI_enum (hg : Gl X "enumerate") (hm : X.mg "enumerate" = none) (h : PE X e (tE X.K L P W t)) (hst : isStar e = false) : PI X (.Tuple elts kk tpos) (.Call (.Name "enumerate" p) [e] [] pos) (tI X.K L P W (.enum t)) := by
  refine PI.imp (pi_enumS hg hm (sA_cons h sA_nil hst) (star_ok hst)) fun σ H R ⟨G, r, cs, env, s, er, k⟩ => ?_
  unfold evI at k
  refine tTs_one s er k fun d cs1 v G1 r1 H1 g1 s1 rd k1 => ?_
  cases ei : iterW cs1 d with
  | none => simp only [ei] at k1; exact k1.elim
  | some q =>
    simp only [ei] at k1
    obtain ⟨S, rfl, hS⟩ := src_of rd ei
    obtain ⟨xs, h1, h2⟩ := hS.now s1 (iterW_ok ei)
    have hz : ((List.range q.1.length).zipWith (fun (k : Nat) d => D.tup [.int (k : Int), d]) q.1).length = q.1.length := by rw [List.length_zipWith, List.length_range, Nat.min_self]
    refine ⟨S, xs, rfl, h1, fun S' ka kb => KO.ok0 k1 s1 ⟨fun i H G' t cs hi g s w => ?_, fun H G' t cs g s w => ?_, fun i d G' t cs H x H' ed g s w y => ?_⟩⟩
    · obtain ⟨ys, h3, h4⟩ := hS G' t cs H g s w
      rw [hz] at hi
      exact ⟨ys, ka H ys h3, by rw [← h4.length]; exact hi⟩
    · obtain ⟨ys, h3, h4⟩ := hS G' t cs H g s w
      exact ⟨ys, ka H ys h3, by rw [hz, h4.length]⟩
    · obtain ⟨ys, h3, h4⟩ := hS G' t cs H g s w
      obtain ⟨T, x1, rfl, hT, rfl, h5⟩ := y
      have h5 := h5 ys (ka H ys h3)
      rw [List.getElem?_zipWith] at ed
      cases e1 : q.1[i]? with
      | none => rw [e1] at ed; cases hq : (List.range q.1.length)[i]? <;> (rw [hq] at ed; cases ed)
      | some x0 =>
        have hi := (List.getElem?_eq_some_iff.mp e1).1
        rw [e1, List.getElem?_range hi] at ed
        cases ed
        obtain ⟨v, h6, h7⟩ := h4.get e1
        rw [h5] at h6
        cases h6
        have gg := Go.new s (.tup [.int (i : Nat), x1]) hT
        exact ⟨_, gg, s.new _ hT, .tup (SqT.of upd_same) (.cons (.int _) (.cons (h7.go gg) .nil))⟩
theorem sI_zip (hg : Gl X "zip") (hm : X.mg "zip" = none) (h : PE X e (tE X.K L P W t)) (h2 : PE X e2 (tE X.K L P W t2)) (hst : isStar e = false) (hst2 : isStar e2 = false) : PI X (.Tuple elts kk tpos) (.Call (.Name "zip" p) [e, e2] [] pos) (tI X.K L P W (.zip t t2)) := by
  refine PI.imp (pi_zipS hg hm (sA_cons h (sA_cons h2 sA_nil hst2) hst) (star_ok hst) (by rw [star_ok hst2]; rfl)) fun σ H R ⟨G, r, cs, env, s, er, k⟩ => ?_
  unfold evI at k
  refine tTs_two s er k fun d d' cs1 v v' G1 r1 H1 g1 s1 rd rd' k1 => ?_
  cases ei : iterW cs1 d with
  | none => simp only [ei] at k1; exact k1.elim
  | some p =>
    rw [ei] at k1
    simp only [ofO_some, Out.bind_ok] at k1
    cases ei2 : iterW cs1 d' with
    | none => rw [ei2] at k1; exact k1.elim
    | some q =>
      rw [ei2] at k1
      simp only [ofO_some, Out.bind_ok] at k1
      obtain ⟨S, rfl, hS⟩ := src_of rd ei
      obtain ⟨S2, rfl, hS2⟩ := src_of rd' ei2
      obtain ⟨xs, a1, a2⟩ := hS.now s1 (iterW_ok ei)
      obtain ⟨ys, a3, a4⟩ := hS2.now s1 (iterW_ok ei2)
      refine ⟨S, S2, xs, ys, rfl, a1, a3, fun S' S2' ka kb la lb => KO.ok0 k1 s1 ⟨fun i H G' t cs hi g s w => ?_, fun H G' t cs g s w => ?_, fun i d G' t cs H x H' ed g s w y => ?_⟩⟩
      · obtain ⟨xs, b1, b2⟩ := hS G' t cs H g s (okWs_app w).1
        obtain ⟨ys, b3, b4⟩ := hS2 G' t cs H g s (okWs_app w).2
        rw [List.length_zipWith] at hi
        exact ⟨xs, ys, ka H xs b1, la H ys b3, by rw [← b2.length]; omega, by rw [← b4.length]; omega⟩
      · obtain ⟨xs, b1, b2⟩ := hS G' t cs H g s (okWs_app w).1
        obtain ⟨ys, b3, b4⟩ := hS2 G' t cs H g s (okWs_app w).2
        rw [List.length_zipWith]
        exact ⟨xs, ys, ka H xs b1, la H ys b3, by rw [← b2.length]; omega, by rw [← b4.length]; omega, by rw [← b2.length, ← b4.length]; omega⟩
      · obtain ⟨xs, b1, b2⟩ := hS G' t cs H g s (okWs_app w).1
        obtain ⟨ys, b3, b4⟩ := hS2 G' t cs H g s (okWs_app w).2
        obtain ⟨T, x1, x2, rfl, hT, rfl, h1, h3⟩ := y
        have h1 := h1 xs (ka H xs b1)
        have h3 := h3 ys (la H ys b3)
        rw [List.getElem?_zipWith] at ed
        cases e1 : p.1[i]? with
        | none => rw [e1] at ed; cases hq : q.1[i]? <;> (rw [hq] at ed; cases ed)
        | some x0 =>
          cases e2 : q.1[i]? with
          | none => rw [e1, e2] at ed; cases ed
          | some y0 =>
            rw [e1, e2] at ed
            cases ed
            obtain ⟨v, h6, h7⟩ := b2.get e1
            obtain ⟨v', h8, h9⟩ := b4.get e2
            rw [h1] at h6
            rw [h3] at h8
            cases h6
            cases h8
            have gg := Go.new s (.tup [x1, x2]) hT
            exact ⟨_, gg, s.new _ hT, .tup (SqT.of upd_same) (.cons (h7.go gg) (.cons (h9.go gg) .nil))⟩
theorem evI_ok {it : I} {env : List SV} {cs cs1 : List C} {q : List D × Ws} (h : evI P it env cs = .ok q cs1) : okWs q.2 cs1 = true := by
  have ofs : ∀ {α : Type} {o : Option α} {c : List C} {a : α} {c1 : List C}, ofO o c = .ok a c1 → o = some a ∧ c = c1 := fun {α o c a c1} e => by
    cases o with
    | none => cases e
    | some b => cases e; exact ⟨rfl, rfl⟩
  have bnd : ∀ {α β : Type} {o : Out α} {f : α → List C → Out β} {b : β} {c : List C}, o.bind f = .ok b c → ∃ a c0, o = .ok a c0 ∧ f a c0 = .ok b c := fun {α β o f b c} e => by
    cases o with
    | ok a c0 => exact ⟨a, c0, rfl, e⟩
    | exc _ _ _ => cases e
    | bad => cases e
  cases it with
  | val t =>
    unfold evI at h
    obtain ⟨d, c0, _, h⟩ := bnd h
    obtain ⟨g1, rfl⟩ := ofs h
    exact iterW_ok g1
  | rng1 t =>
    unfold evI at h
    obtain ⟨d, c0, _, h⟩ := bnd h
    cases d <;> first | (cases h; done) | skip
    simp only at h
    split at h
    · cases h; rfl
    · cases h
  | rng2 t u =>
    unfold evI at h
    obtain ⟨d, c0, _, h⟩ := bnd h
    obtain ⟨d', c2, _, h⟩ := bnd h
    cases d <;> first | (cases h; done) | skip
    cases d' <;> first | (cases h; done) | skip
    simp only at h
    split at h
    · cases h; rfl
    · cases h
  | enum t =>
    unfold evI at h
    obtain ⟨d, c0, _, h⟩ := bnd h
    obtain ⟨q, c2, h2, h⟩ := bnd h
    obtain ⟨g1, rfl⟩ := ofs h2
    cases h
    have := iterW_ok g1
    exact this
  | zip t u =>
    unfold evI at h
    obtain ⟨d, c0, _, h⟩ := bnd h
    obtain ⟨d', c2, _, h⟩ := bnd h
    obtain ⟨p, c3, h2, h⟩ := bnd h
    obtain ⟨g1, rfl⟩ := ofs h2
    obtain ⟨q, c4, h3, h⟩ := bnd h
    obtain ⟨g2, rfl⟩ := ofs h3
    cases h
    exact okWs_two (iterW_ok g1) (iterW_ok g2)
  | own t c f =>
    unfold evI at h
    obtain ⟨d, c0, _, h⟩ := bnd h
    cases d <;> first | (cases h; done) | skip
    simp only at h
    split at h
    · split at h
      · cases h; rfl
      · cases h
    · cases h
end

theorem KO.calm {α β : Type} {K : PySem.W.Frag} {L : Lay} {R : Hp → List Addr → α → β → Prop} {E E' : XK} {G : Hp} {r : List Addr} {H : Hp} {o : Out α} {Q : β → Hp → Prop} (h : KO K L R E G r H (XV.calm o) Q) : KO K L R E' G r H o Q := by
  cases o with
  | ok a cs => exact h
  | exc c ds cs => exact h.elim
  | bad => exact h
theorem calm_bind {α β : Type} {o : Out α} {f : α → List C → Out β} : XV.calm (o.bind f) = (XV.calm o).bind fun a cs => XV.calm (f a cs) := by
  cases o <;> rfl
def W0 : WX := fun _ _ _ _ => False
def condL (P : Cfg) (cond : Cd) (e : T) : List SV → List C → Out (Option D) := fun env' cs' => match cond with
  | .no => (evE P e env' cs').bind fun y cs'' => .ok (some y) cs''
  | .one c => (evE P c env' cs').bind fun x cs2 => (ofO (truD cs2 x) cs2).bind fun k cs2 => if k then (evE P e env' cs2).bind fun y cs'' => .ok (some y) cs'' else .ok none cs2
def tCd (K : PySem.W.Frag) (L : Lay) (P : Cfg) (cond : Cd) : TT := match cond with
  | .no => tYes
  | .one c => tT K L P W0 c
structure CI (K : PySem.W.Frag) (L : Lay) (D0 : Addr) (G1 : Hp) (r1 : List Addr) (H1 : Hp) (G : Hp) (r : List Addr) (cs : List C) (acc : List D) (vs : List V) (H : Hp) : Prop where
  go : Go G1 r1 H1 G r H
  sep : Sep K L G r cs H
  out : H D0 = some (.lst vs)
  frz : G D0 = none
  notin : D0 ∉ r
  reps : Reps K L G r acc vs
section
variable {K : PySem.W.Frag} {L : Lay} {D0 : Addr} {G1 : Hp} {r1 : List Addr} {H1 : Hp} {G G' : Hp} {r r' : List Addr} {cs cs' : List C} {acc : List D} {vs : List V} {H H' : Hp}
theorem CI.step (c : CI K L D0 G1 r1 H1 G r cs acc vs H) (g : Go G r H G' r' H') (s : Sep K L G' r' cs' H') : CI K L D0 G1 r1 H1 G' r' cs' acc vs H' := by
  have hn : ¬ Fr H D0 := nFr c.out fun _ z => by cases z
  refine ⟨c.go.trans g, s, g.keep _ _ c.out c.notin (fun _ z => by cases z), (g.gf _ hn).trans c.frz, ?_, c.reps.go g⟩
  obtain ⟨t, e, ht⟩ := g.rr
  subst e
  exact fun hm => (List.mem_append.mp hm).elim c.notin fun z => hn (ht _ z)
theorem CI.app (c : CI K L D0 G1 r1 H1 G r cs acc vs H) (hD : H1 D0 = none) {y : D} {v : V} (q : Rep K L G r y v) : CI K L D0 G1 r1 H1 G r cs (acc ++ [y]) (vs ++ [v]) (upd H D0 (.lst (vs ++ [v]))) := by
  refine ⟨⟨c.go.g, c.go.gf, c.go.rr, fun b o h hr ht => ?_, fun b h => ?_⟩, ⟨fun b o h => ?_, c.sep.nod, c.sep.len, fun i k e => ?_, Mt3.tabs c.sep.tabs (by rw [c.out]; trivial), c.sep.gt, c.sep.lat⟩, upd_same, c.frz, c.notin, c.reps.append (.one q)⟩
  · rw [upd_ne (ne_of_none h hD)]; exact c.go.keep b o h hr ht
  · by_cases e : b = D0
    · subst e; exact absurd (.of hD) h
    · rw [Fr.upd e]; exact c.go.dom b h
  · rw [upd_ne (ne_of_none h c.frz)]; exact c.sep.same b o h
  · obtain ⟨a, h1, h2, h3⟩ := c.sep.cell i k e
    have ne : a ≠ D0 := fun z => c.notin (z ▸ List.mem_of_getElem? h1)
    have := CellR.mono (t := []) (Same.refl G) (H' := upd H D0 (.lst (vs ++ [v]))) (by rw [upd_ne ne]) h3
    exact ⟨a, h1, h2, by simpa using this⟩
theorem CI.fin (c : CI K L D0 G1 r1 H1 G r cs acc vs H) (hD : H1 D0 = none) : Go G1 r1 H1 (upd G D0 (.lst vs)) r H ∧ Sep K L (upd G D0 (.lst vs)) r cs H ∧ Rep K L (upd G D0 (.lst vs)) r (.lst acc) (.ref D0) := by
  have sm : Same G (upd G D0 (.lst vs)) := fun b o h => by rw [upd_ne (ne_of_none h c.frz)]; exact h
  refine ⟨⟨c.go.g.trans sm, fun b h => ?_, c.go.rr, c.go.keep, c.go.dom⟩, ⟨fun b o h => ?_, c.sep.nod, c.sep.len, fun i k e => ?_, c.sep.tabs, fun b ps z => ?_, c.sep.lat.more sm ⟨[], by simp⟩⟩, .lst upd_same ?_⟩
  · have : b ≠ D0 := fun z => h (z ▸ .of hD)
    rw [upd_ne this]; exact c.go.gf b h
  · by_cases e : b = D0
    · subst e; rw [upd_same] at h; cases h; exact c.out
    · rw [upd_ne e] at h; exact c.sep.same b o h
  · obtain ⟨a, h1, h2, h3⟩ := c.sep.cell i k e
    have ne : a ≠ D0 := fun z => c.notin (z ▸ List.mem_of_getElem? h1)
    have := CellR.mono (t := []) sm (H' := H) rfl h3
    exact ⟨a, h1, by rw [upd_ne ne]; exact h2, by simpa using this⟩
  · by_cases e : b = D0
    · subst e; rw [upd_same] at z; cases z
    · rw [upd_ne e] at z; exact c.sep.gt b ps z
  · have := Reps.mono (t := []) sm c.reps
    simpa using this
end
section
variable {X : Cx} {L : Lay} {P : Cfg} {W : WX} {pos : Pos}
theorem Out.bind_assoc {α β γ : Type} {o : Out α} {f : α → List C → Out β} {g : β → List C → Out γ} : (o.bind f).bind g = o.bind fun a cs => (f a cs).bind g := by cases o <;> rfl
theorem comp_imp {own : List (Str × Nat)} {tg : Tg} {it : I} {cond : Cd} {e : T} (hin : tg.ins (own.map (·.2)) = true) (σ : L2.St) (H : Hp) (Q : VK) (h : tE X.K L P W (.comp (own.map (·.2)) tg it cond e) σ H Q) :
    tLc (tI X.K L P W it) (gOf X.K tg) (tCd X.K L P cond) (tE X.K L P W0 e) (own.map (·.2)) σ H Q := by
  generalize own.map (·.2) = vs0 at *
  obtain ⟨G, r, cs, env, s, er, k⟩ := h
  unfold evE at k
  rw [calm_bind] at k
  have k := KO.bind (R1 := fun G r (q : List D × Ws) J => Wk X.K L J G r q.1 q.2) (o := calm (evI P it env cs)) (Q1 := fun (J : It) H1 => ∀ D, H1 D = none → ∃ W' : Nat → Nat → Hp → Prop, (∃ m, W' 0 m (upd H1 D (.lst []))) ∧ ∀ i m H, W' i m H →
      (J.stop i H ∧ Q (.ref D) H) ∨ (J.go i H ∧ ∃ Nx : Hp → Prop, (∀ H', Nx H' → ∃ m', m' < m ∧ W' (i + 1) m' H') ∧ ∀ x H', J.yld i H x H' → gOf X.K tg x (wipe σ vs0) H' fun σ2 H2 => wipe σ2 vs0 = wipe σ vs0 ∧ tCd X.K L P cond σ2 H2 fun b H3 =>
        if b = true then tE X.K L P W0 e σ2 H3 fun y H4 => ∃ acc, H4 D = some (.lst acc) ∧ acc.length < sizeLine ∧ Nx (upd H4 D (.lst (acc ++ [y]))) else Nx H3)) k (fun q cs1 hds J G1 r1 H1 g1 s1 wk k1 D0 hD => ?_)
  · exact ⟨G, r, cs, env, s, er, k.calm⟩
  have w1 : okWs q.2 cs1 = true := evI_ok (P := P) (it := it) (env := env) (cs := cs) (by
    cases he : evI P it env cs <;> rw [he] at hds <;> first | (cases hds; done) | exact hds)
  obtain ⟨ds, ws⟩ := q
  simp only at wk w1 k1
  have k1 : KO X.K L (Rep X.K L) (wE W0 σ) G1 r1 H1 ((compW ws (condL P cond e) tg (wipeE env vs0) ds cs1 []).bind fun ys cs2 => .ok (.lst ys) cs2) Q := KO.calm k1
  have er1 := er.go g1
  refine ⟨fun i m H => m = ds.length - i ∧ i ≤ ds.length ∧ ∃ G2 r2 cs2 acc vs, CI X.K L D0 G1 r1 H1 G2 r2 cs2 acc vs H ∧ okWs ws cs2 = true ∧ KO X.K L (Rep X.K L) (wE W0 σ) G1 r1 H1 ((compW ws (condL P cond e) tg (wipeE env vs0) (ds.drop i) cs2 acc).bind fun ys cs2 => .ok (.lst ys) cs2) Q,
    ⟨ds.length, by simp, Nat.zero_le _, G1, r1, cs1, [], [], ?_, w1, by simpa using k1⟩, ?_⟩
  · refine ⟨⟨Same.refl G1, fun _ _ => rfl, ⟨[], by simp, by simp⟩, fun b o h _ _ => by rw [upd_ne (ne_of_none h hD)]; exact h, fun b h => ?_⟩, ⟨fun b o h => ?_, s1.nod, s1.len, fun i k e => ?_, Mt3.tabs s1.tabs (by rw [hD]; trivial), s1.gt, s1.lat⟩, upd_same, Same.free s1.same hD, fun hm => (s1.mem hm).2 (.of hD), .nil⟩
    · have : b ≠ D0 := fun z => h (z ▸ .of hD)
      rw [Fr.upd this]; exact h
    · have gD : G1 D0 = none := Same.free s1.same hD
      rw [upd_ne (ne_of_none h gD)]; exact s1.same b o h
    · obtain ⟨a, h1, h2, h3⟩ := s1.cell i k e
      have ne : a ≠ D0 := fun z => h3.some (z ▸ .of hD)
      have := CellR.mono (t := []) (Same.refl G1) (H' := upd H1 D0 (.lst [])) (by rw [upd_ne ne]) h3
      exact ⟨a, h1, h2, by simpa using this⟩
  · rintro i m Hc ⟨rfl, hi, G2, r2, cs2, acc, vs, ci, w2, kc⟩
    by_cases hlt : i < ds.length
    · obtain ⟨t, er2, ht⟩ := ci.go.rr
      subst er2
      refine .inr ⟨wk.go i Hc G2 t cs2 hlt ci.go.g ci.sep w2, fun H' => ∃ G3 r3 cs3 acc' vs', CI X.K L D0 G1 r1 H1 G3 r3 cs3 acc' vs' H' ∧ okWs ws cs3 = true ∧ KO X.K L (Rep X.K L) (wE W0 σ) G1 r1 H1 ((compW ws (condL P cond e) tg (wipeE env vs0) (ds.drop (i + 1)) cs3 acc').bind fun ys cs2 => .ok (.lst ys) cs2) Q,
        fun H' ⟨G3, r3, cs3, acc', vs', c3, w3, k3⟩ => ⟨ds.length - (i + 1), by omega, rfl, hlt, G3, r3, cs3, acc', vs', c3, w3, k3⟩, fun x H' y => ?_⟩
      obtain ⟨d, hd⟩ : ∃ d, ds[i]? = some d := ⟨ds[i], List.getElem?_eq_getElem hlt⟩
      have hdrop : ds.drop i = d :: ds.drop (i + 1) := by
        rw [List.drop_eq_getElem_cons hlt]
        rw [List.getElem?_eq_getElem hlt] at hd
        cases hd
        rfl
      rw [hdrop] at kc
      obtain ⟨G3, g3, s3, rx⟩ := wk.yld i d G2 t cs2 Hc x H' hd ci.go.g ci.sep w2 y
      have c3 := ci.step g3 s3
      unfold compW at kc
      cases ha : asgT tg d (wipeE env vs0) with
      | none => rw [ha] at kc; exact kc.elim
      | some env' =>
        rw [ha] at kc
        refine asgT_ok s3 (((er1.go c3.go).wipe vs0)) rx ha fun σ2 er3 hw _ => ⟨?_, ?_⟩
        · have h1 := hw vs0 hin
          rw [h1]
          clear h1 hw
          have : ∀ (τ : L2.St) (ws us : List Nat), (∀ u ∈ us, u ∈ ws) → wipe (wipe τ ws) us = wipe τ ws := by
            intro τ ws us
            induction us with
            | nil => intro _; rfl
            | cons u us ih =>
              intro hu
              show (wipe (wipe τ ws) us).set u none = wipe τ ws
              rw [ih fun u' hu' => hu u' (List.mem_cons_of_mem _ hu')]
              have key : ∀ (τ : L2.St) (ws : List Nat), u ∈ ws → (wipe τ ws).set u none = wipe τ ws := by
                intro τ ws
                induction ws with
                | nil => intro hm; cases hm
                | cons w ws ih2 =>
                  intro hm
                  unfold wipe
                  by_cases e : w = u
                  · subst e; rw [List.set_set]
                  · rcases List.mem_cons.mp hm with z | z
                    · exact absurd z.symm e
                    · rw [List.set_comm _ _ e, ih2 z]
              exact key τ ws (hu u List.mem_cons_self)
          exact this σ vs0 vs0 fun _ h => h
        · -- the element, once the tests are passed
          have elt : ∀ cs3 G4 H4, CI X.K L D0 G1 r1 H1 G4 (r1 ++ t) cs3 acc vs H4 → True := fun _ _ _ _ => trivial
          have body : ∀ {cs3 : List C} {G4 : Hp} {r4 : List Addr} {H4 : Hp}, CI X.K L D0 G1 r1 H1 G4 r4 cs3 acc vs H4 → EnvR X.K L G4 r4 H4 env' σ2 →
              KO X.K L (Rep X.K L) (wE W0 σ) G1 r1 H1 (((evE P e env' cs3).bind fun y cs'' => Out.ok (some y) cs'').bind fun r cs' => (if okWs ws cs' = true then (match r with
                | some y => if acc.length < LIM then compW ws (condL P cond e) tg (wipeE env vs0) (ds.drop (i + 1)) cs' (acc ++ [y]) else .bad
                | none => compW ws (condL P cond e) tg (wipeE env vs0) (ds.drop (i + 1)) cs' acc) else .bad).bind fun ys cs2 => .ok (.lst ys) cs2) Q →
              tE X.K L P W0 e σ2 H4 fun y H5 => ∃ acc', H5 D0 = some (.lst acc') ∧ acc'.length < sizeLine ∧ ∃ G3 r3 cs3 acc1 vs1, CI X.K L D0 G1 r1 H1 G3 r3 cs3 acc1 vs1 (upd H5 D0 (.lst (acc' ++ [y]))) ∧ okWs ws cs3 = true ∧ KO X.K L (Rep X.K L) (wE W0 σ) G1 r1 H1 ((compW ws (condL P cond e) tg (wipeE env vs0) (ds.drop (i + 1)) cs3 acc1).bind fun ys cs2 => .ok (.lst ys) cs2) Q := by
            intro cs3 G4 r4 H4 c4 er4 k4
            rw [Out.bind_assoc] at k4
            refine ⟨G4, r4, cs3, env', c4.sep, er4, KO.bind (KO.go k4 c4.go) fun y cs5 he v G5 r5 H5 g5 s5 ry _ => ?_⟩
            rw [he] at k4
            have c5 := c4.step g5 s5
            by_cases hw : okWs ws cs5 = true
            · by_cases hl : acc.length < LIM
              · simp only [Out.bind_ok, if_pos hl, if_pos hw] at k4
                exact ⟨vs, c5.out, by rw [← c5.reps.length]; exact Nat.lt_of_lt_of_le hl (by decide), G5, r5, cs5, acc ++ [y], vs ++ [v], c5.app hD ry, hw, k4⟩
              · simp only [Out.bind_ok, if_neg hl, if_pos hw] at k4
                exact k4.elim
            · simp only [Out.bind_ok, if_neg hw] at k4
              exact k4.elim
          cases cond with
          | no =>
            rw [Out.bind_assoc] at kc
            exact body c3 er3 kc
          | one c =>
            show tT X.K L P W0 c σ2 H' _
            refine ⟨G3, _, cs2, env', s3, er3, ?_⟩
            rw [Out.bind_assoc] at kc
            unfold condL at kc
            simp only at kc
            cases ec : evE P c env' cs2 with
            | bad => rw [ec] at kc; exact kc.elim
            | exc c0 ds0 cs0 => rw [ec] at kc; exact KO.go (o := .exc c0 ds0 cs0) (R := Rep X.K L) (Q := Q) kc c3.go
            | ok x0 cs4 =>
              rw [ec] at kc
              simp only [Out.bind_ok] at kc ⊢
              cases et : truD cs4 x0 with
              | none => rw [et] at kc; exact kc.elim
              | some kk =>
                rw [et] at kc
                simp only [ofO_some, Out.bind_ok] at kc ⊢
                intro b G4 r4 H4 g4 s4 eb
                cases eb
                have c4 := c3.step g4 s4
                cases kk with
                | false =>
                  by_cases hw : okWs ws cs4 = true
                  · simp only [Bool.false_eq_true, if_false, Out.bind_ok, if_pos hw] at kc
                    exact ⟨G4, r4, cs4, acc, vs, c4, hw, kc⟩
                  · simp only [Bool.false_eq_true, if_false, Out.bind_ok, if_neg hw] at kc
                    exact kc.elim
                | true => exact body c4 (er3.go g4) kc
    · have e : i = ds.length := by omega
      subst e
      obtain ⟨t, er2, ht⟩ := ci.go.rr
      subst er2
      refine .inl ⟨wk.stop Hc G2 t cs2 ci.go.g ci.sep w2, ?_⟩
      have kc : KO X.K L (Rep X.K L) (wE W0 σ) G1 r1 H1 (.ok (.lst acc) cs2) Q := by simpa [compW] using kc
      obtain ⟨f1, f2, f3⟩ := ci.fin hD
      exact kc _ _ _ _ f1 f2 f3
end
end XV
set_option Elab.async false
set_option linter.all false
set_option autoImplicit false
set_option maxRecDepth 100000
namespace XV
open PySem PySem.Spec PyProof.Rows L2

theorem PS.imp {X : Cx} {s : Stmt} {t t' : TS} (h : PS X s t) (k : ∀ D σ H, t' D σ H → t D σ H) : PS X s t' := ⟨fun pins s σ H D I q => h.run pins s σ H D I (k _ _ _ q)⟩
theorem PSs.imp {X : Cx} {s : List Stmt} {t t' : TS} (h : PSs X s t) (k : ∀ D σ H, t' D σ H → t D σ H) : PSs X s t' := ⟨fun pins s σ H D I q => h.run pins s σ H D I (k _ _ _ q)⟩

structure SI (K : PySem.W.Frag) (L : Lay) (M : Addr) (G0 : Hp) (r0 : List Addr) (H0 : Hp) (G : Hp) (r : List Addr) (cs : List C) (env : List SV) (σ : L2.St) (H : Hp) : Prop where
  go : Go G0 r0 H0 G r H
  sep : Sep K L G r cs H
  er : EnvR K L G r H env σ
  own : ∀ (i : Nat) (sv : SV) (a : Addr), env[i]? = some sv → isOwn sv = true → σ[i]? = some (some (.ref a)) → Fr H0 a
  me : ∀ (c : Nat) (ks : List Str) (ds : List D), env[(0 : Nat)]? = some (.ownI c ks ds) → σ[(0 : Nat)]? = some (some (.ref M))
def FO (K : PySem.W.Frag) (L : Lay) (M : Addr) (W : WX) (G0 : Hp) (r0 : List Addr) (H0 : Hp) (G : Hp) (r : List Addr) (fl : Fl) (D : Ends) : Prop :=
  match fl with
  | .nx env' cs' => ∀ G' r' σ' H', SI K L M G0 r0 H0 G' r' cs' env' σ' H' → Same G G' → (∃ t, r' = r ++ t) → D.nx σ' H'
  | .brk env' cs' => ∀ G' r' σ' H', SI K L M G0 r0 H0 G' r' cs' env' σ' H' → Same G G' → (∃ t, r' = r ++ t) → D.bk σ' H'
  | .cnt env' cs' => ∀ G' r' σ' H', SI K L M G0 r0 H0 G' r' cs' env' σ' H' → Same G G' → (∃ t, r' = r ++ t) → D.ct σ' H'
  | .ret d cs' => ∀ v G' r' H', Go G0 r0 H0 G' r' H' → Sep K L G' r' cs' H' → Rep K L G' r' d v → D.rt v H'
  | .exc c ds cs' => ∀ cls dd σ' G' r' H', Go G0 r0 H0 G' r' H' → Sep K L G' r' cs' H' → ExR K L c ds cls dd G' r' H' → W cls dd σ' H'
  | .bad => False
section
variable {K : PySem.W.Frag} {L : Lay} {M : Addr} {W : WX} {G0 : Hp} {r0 : List Addr} {H0 : Hp} {G G' : Hp} {r r' : List Addr} {H H' : Hp} {cs cs' : List C} {env env' : List SV} {σ σ' : L2.St} {D : Ends} {fl : Fl}
theorem FO.mono (h : FO K L M W G0 r0 H0 G r fl D) (g : Same G G') (e : ∃ t, r' = r ++ t) : FO K L M W G0 r0 H0 G' r' fl D := by
  obtain ⟨t, rfl⟩ := e
  cases fl with
  | nx env' cs' => exact fun G2 r2 σ' H' s g2 ⟨t2, e2⟩ => h G2 r2 σ' H' s (g.trans g2) ⟨t ++ t2, by rw [e2, List.append_assoc]⟩
  | brk env' cs' => exact fun G2 r2 σ' H' s g2 ⟨t2, e2⟩ => h G2 r2 σ' H' s (g.trans g2) ⟨t ++ t2, by rw [e2, List.append_assoc]⟩
  | cnt env' cs' => exact fun G2 r2 σ' H' s g2 ⟨t2, e2⟩ => h G2 r2 σ' H' s (g.trans g2) ⟨t ++ t2, by rw [e2, List.append_assoc]⟩
  | ret d cs' => exact h
  | exc c ds cs' => exact h
  | bad => exact h
theorem FO.ends {D' : Ends} (h : FO K L M W G0 r0 H0 G r fl D) (h1 : ∀ σ H, D.nx σ H → D'.nx σ H) (h2 : ∀ σ H, D.bk σ H → D'.bk σ H) (h3 : ∀ σ H, D.ct σ H → D'.ct σ H) (h4 : D'.rt = D.rt) : FO K L M W G0 r0 H0 G r fl D' := by
  cases fl with
  | nx env' cs' => exact fun G2 r2 σ' H' s g2 e2 => h1 _ _ (h G2 r2 σ' H' s g2 e2)
  | brk env' cs' => exact fun G2 r2 σ' H' s g2 e2 => h2 _ _ (h G2 r2 σ' H' s g2 e2)
  | cnt env' cs' => exact fun G2 r2 σ' H' s g2 e2 => h3 _ _ (h G2 r2 σ' H' s g2 e2)
  | ret d cs' => intro v G' r' H' a b c; rw [h4]; exact h v G' r' H' a b c
  | exc c ds cs' => exact h
  | bad => exact h
theorem Go.pre (g : Go G r H G' r' H') : ∃ t, r' = r ++ t := let ⟨t, e, _⟩ := g.rr; ⟨t, e⟩
theorem SI.step (s : SI K L M G0 r0 H0 G r cs env σ H) (g : Go G r H G' r' H') (s' : Sep K L G' r' cs' H') : SI K L M G0 r0 H0 G' r' cs' env σ H' := ⟨s.go.trans g, s', s.er.go g, s.own, s.me⟩
theorem FO.bindK {α β : Type} {R : Hp → List Addr → α → β → Prop} {o : Out α} {f : α → List C → Fl} {Q : β → Hp → Prop} (s : SI K L M G0 r0 H0 G r cs env σ H) (h : FO K L M W G0 r0 H0 G r (o.toF f) D)
    (k : ∀ a cs' v G' r' H', o = .ok a cs' → Go G r H G' r' H' → Sep K L G' r' cs' H' → R G' r' a v → SI K L M G0 r0 H0 G' r' cs' env σ H' → FO K L M W G0 r0 H0 G' r' (f a cs') D → Q v H') : KO K L R (wE W σ) G r H o Q := by
  cases o with
  | ok a cs' => exact fun v G' r' H' g s' q => k a cs' v G' r' H' rfl g s' q (s.step g s') (FO.mono h g.g g.pre)
  | exc c ds cs' => exact fun cls dd G' r' H' g s' q => h cls dd σ G' r' H' (s.go.trans g) s' q
  | bad => exact h
def tS (K : PySem.W.Frag) (L : Lay) (P : Cfg) (W : WX) (fu : Nat) (st : S) : TS := fun D σ H => ∃ M G0 r0 H0 G r cs env, SI K L M G0 r0 H0 G r cs env σ H ∧ FO K L M W G0 r0 H0 G r (evS P fu st env cs) D
def tSs (K : PySem.W.Frag) (L : Lay) (P : Cfg) (W : WX) (fu : Nat) (st : Ss) : TS := fun D σ H => ∃ M G0 r0 H0 G r cs env, SI K L M G0 r0 H0 G r cs env σ H ∧ FO K L M W G0 r0 H0 G r (evSs P fu st env cs) D
end

section
variable {X : Cx} {L : Lay} {P : Cfg} {W : WX} {fu : Nat} {pos : Pos}
theorem sSs_nil : PSs X [] (tSs X.K L P W fu .nil) := PSs.imp pss_nil fun D σ H ⟨M, G0, r0, H0, G, r, cs, env, s, h⟩ => h G r σ H s (Same.refl G) ⟨[], by simp⟩
theorem sSs_cons {st : Stmt} {rest : List Stmt} {t : S} {ts : Ss} (h1 : PS X st (tS X.K L P W fu t)) (h2 : PSs X rest (tSs X.K L P W fu ts)) : PSs X (st :: rest) (tSs X.K L P W fu (.cons t ts)) := by
  refine PSs.imp (pss_cons h1 h2) fun D σ H ⟨M, G0, r0, H0, G, r, cs, env, s, h⟩ => ?_
  unfold evSs at h
  refine ⟨M, G0, r0, H0, G, r, cs, env, s, ?_⟩
  cases e : evS P fu t env cs with
  | nx env' cs' =>
    rw [e] at h
    exact fun G' r' σ' H' s' g' e' => ⟨M, G0, r0, H0, G', r', cs', env', s', FO.mono h g' e'⟩
  | brk env' cs' => rw [e] at h; exact h
  | cnt env' cs' => rw [e] at h; exact h
  | ret d cs' => rw [e] at h; exact h
  | exc c ds cs' => rw [e] at h; exact h
  | bad => rw [e] at h; exact h
theorem sS_asg {tg e : Expr} {g : Tg} {t : T} (he : PE X e (tE X.K L P W t)) (hg : PG X tg (gOf X.K g)) (hs : swapsWithSole [tg] e pos.line X.env = pure false) (hw : swappedStores [tg] e X.env = pure none) (h1 : (assignEach [tg] X.env).map (·.2) = [assign tg X.env]) :
    PS X (.Assign [tg] e pos) (tS X.K L P W fu (.asg g t)) := by
  refine PS.imp (ps_asg he hg hs hw h1) fun D σ H ⟨M, G0, r0, H0, G, r, cs, env, s, h⟩ => ?_
  unfold evS at h
  refine ⟨G, r, cs, env, s.sep, s.er, FO.bindK (R := Rep X.K L) s h fun d cs1 v G1 r1 H1 _ g1 s1 rd si hf => ?_⟩
  cases ha : asgT g d env with
  | none => rw [ha] at hf; exact hf.elim
  | some env' =>
    rw [ha] at hf
    exact asgT_ok s1 si.er rd ha fun σ' er' _ ho => hf G1 r1 σ' H1 ⟨si.go, s1, er', fun i sv a e o q => by
      obtain ⟨e1, e2⟩ := ho i sv e o
      rw [e2] at q
      exact si.own i sv a e1 o q, fun c ks ds e => by
      obtain ⟨e1, e2⟩ := ho 0 _ e rfl
      rw [e2]
      exact si.me c ks ds e1⟩ (Same.refl _) ⟨[], by simp⟩
theorem sS_name {e : Expr} {i : Nat} {x : Str} {t : T} {pos' : Pos} (hN : X.N.Nodup) (hi : X.N[i]? = some x) (hx : Loc X.env.scope x) (he : PE X e (tE X.K L P W t)) (hs : swapsWith e (some (.Name x pos')) pos.line X.env = pure false) (hf : X.fn x = true ∨ X.env.scope.names.lookup x = some .local) :
    PS X (.Assign [.Name x pos'] e pos) (tS X.K L P W fu (.asg (.nm i) t)) := by
  refine PS.imp (ps_set hN hi hx he hs hf) fun D σ H ⟨M, G0, r0, H0, G, r, cs, env, s, h⟩ => ?_
  unfold evS at h
  refine ⟨G, r, cs, env, s.sep, s.er, FO.bindK (R := Rep X.K L) s h fun d cs1 v G1 r1 H1 _ g1 s1 rd si hf => ?_⟩
  cases ha : asgT (.nm i) d env with
  | none => rw [ha] at hf; exact hf.elim
  | some env' =>
    rw [ha] at hf
    exact asgT_ok (g := .nm i) s1 si.er rd ha fun σ' er' _ ho => hf G1 r1 σ' H1 ⟨si.go, s1, er', fun i sv a e o q => by
      obtain ⟨e1, e2⟩ := ho i sv e o
      rw [e2] at q
      exact si.own i sv a e1 o q, fun c ks ds e => by
      obtain ⟨e1, e2⟩ := ho 0 _ e rfl
      rw [e2]
      exact si.me c ks ds e1⟩ (Same.refl _) ⟨[], by simp⟩
theorem sS_expr {e : Expr} {t : T} (he : PE X e (tE X.K L P W t)) (hs : swapsWith e none pos.line X.env = pure false) : PS X (.Expr e pos) (tS X.K L P W fu (.expr t)) := by
  refine PS.imp (ps_expr he hs) fun D σ H ⟨M, G0, r0, H0, G, r, cs, env, s, h⟩ => ?_
  unfold evS at h
  exact ⟨G, r, cs, env, s.sep, s.er, FO.bindK (R := Rep X.K L) s h fun d cs1 v G1 r1 H1 _ g1 s1 rd si hf => hf G1 r1 σ H1 si (Same.refl _) ⟨[], by simp⟩⟩
theorem sS_ret {e : Expr} {t : T} (he : PE X e (tE X.K L P W t)) : PS X (.Return (some e) pos) (tS X.K L P W fu (.ret t)) := by
  refine PS.imp (ps_ret he) fun D σ H ⟨M, G0, r0, H0, G, r, cs, env, s, h⟩ => ?_
  unfold evS at h
  exact ⟨G, r, cs, env, s.sep, s.er, FO.bindK (R := Rep X.K L) s h fun d cs1 v G1 r1 H1 _ g1 s1 rd si hf => hf v G1 r1 H1 si.go s1 rd⟩
theorem sS_retN : PS X (.Return none pos) (tS X.K L P W fu .retN) :=
  PS.imp ps_retN fun D σ H ⟨M, G0, r0, H0, G, r, cs, env, s, h⟩ => h .non G r H s.go s.sep .non
theorem sS_brk : PS X (.Break pos) (tS X.K L P W fu .brk) :=
  PS.imp ps_break fun D σ H ⟨M, G0, r0, H0, G, r, cs, env, s, h⟩ => h G r σ H s (Same.refl G) ⟨[], by simp⟩
theorem sS_cnt : PS X (.Continue pos) (tS X.K L P W fu .cnt) :=
  PS.imp ps_continue fun D σ H ⟨M, G0, r0, H0, G, r, cs, env, s, h⟩ => h G r σ H s (Same.refl G) ⟨[], by simp⟩
theorem sS_pass : PS X (.Pass pos) (tS X.K L P W fu .pass) :=
  PS.imp ps_pass fun D σ H ⟨M, G0, r0, H0, G, r, cs, env, s, h⟩ => h G r σ H s (Same.refl G) ⟨[], by simp⟩
theorem sS_if {c : Expr} {a b : List Stmt} {tc : T} {ta tb : Ss} (hc : PT X c (tT X.K L P W tc)) (ha : PSs X a (tSs X.K L P W fu ta)) (hb : PSs X b (tSs X.K L P W fu tb)) : PS X (.If c a b pos) (tS X.K L P W fu (.iff tc ta tb)) := by
  refine PS.imp (ps_if hc ha hb) fun D σ H ⟨M, G0, r0, H0, G, r, cs, env, s, h⟩ => ?_
  unfold evS at h
  have h : FO X.K L M W G0 r0 H0 G r (((evE P tc env cs).bind fun x cs1 => ofO (truD cs1 x) cs1).toF fun k cs1 => if k then evSs P fu ta env cs1 else evSs P fu tb env cs1) D := by
    cases e : evE P tc env cs with
    | bad => rw [e] at h; exact h
    | exc c0 ds cs' => rw [e] at h; exact h
    | ok x cs1 => rw [e] at h; exact h
  refine ⟨G, r, cs, env, s.sep, s.er, FO.bindK (R := RB) s h fun k cs1 v G1 r1 H1 _ g1 s1 rd si hf => ?_⟩
  cases rd
  cases k with
  | true => exact ⟨M, G0, r0, H0, G1, r1, cs1, env, si, hf⟩
  | false => exact ⟨M, G0, r0, H0, G1, r1, cs1, env, si, hf⟩
theorem FO.turn {K : PySem.W.Frag} {M : Addr} {G0 : Hp} {r0 : List Addr} {H0 : Hp} {G : Hp} {r : List Addr} {fl : Fl} {f : List SV → List C → Fl} {D : Ends} {N : L2.St → Hp → Prop} (h : FO K L M W G0 r0 H0 G r (fl.turn f) D)
    (hN : ∀ env' cs' G' r' σ' H', SI K L M G0 r0 H0 G' r' cs' env' σ' H' → Same G G' → (∃ t, r' = r ++ t) → FO K L M W G0 r0 H0 G' r' (f env' cs') D → N σ' H') : FO K L M W G0 r0 H0 G r fl { D with nx := N, ct := N, bk := D.nx } := by
  cases fl with
  | nx env' cs' => exact fun G' r' σ' H' s g e => hN env' cs' G' r' σ' H' s g e (FO.mono h g e)
  | cnt env' cs' => exact fun G' r' σ' H' s g e => hN env' cs' G' r' σ' H' s g e (FO.mono h g e)
  | brk env' cs' => exact h
  | ret d cs' => exact h
  | exc c ds cs' => exact h
  | bad => exact h
theorem sS_whl {c : Expr} {b : List Stmt} {tc : T} {tb : Ss} (hp : PassesOwn (model X.prog X.w) X.A X.env X.xe) (hc : PT X c (tT X.K L P W tc)) (hb : PSs X b (tSs X.K L P W fu tb)) : PS X (.While c b [] pos) (tS X.K L P W fu (.whl tc tb)) := by
  refine PS.imp (ps_while hp hc hb) fun D σ H ⟨M, G0, r0, H0, G, r, cs, env, s, h⟩ => ?_
  unfold evS at h
  refine ⟨fun m σ H => ∃ G r cs env, SI X.K L M G0 r0 H0 G r cs env σ H ∧ FO X.K L M W G0 r0 H0 G r (whlL (fun env cs => (evE P tc env cs).bind fun x cs1 => ofO (truD cs1 x) cs1) (fun env cs => evSs P fu tb env cs) m env cs) D, ⟨fu, G, r, cs, env, s, h⟩, ?_⟩
  rintro m σ H ⟨G, r, cs, env, s, h⟩
  cases m with
  | zero => exact h.elim
  | succ m =>
    unfold whlL at h
    refine ⟨G, r, cs, env, s.sep, s.er, FO.bindK (R := RB) s h fun k cs1 v G1 r1 H1 _ g1 s1 rd si hf => ?_⟩
    cases rd
    cases k with
    | false => exact hf G1 r1 σ H1 si (Same.refl _) ⟨[], by simp⟩
    | true =>
      refine ⟨fun σ' H' => ∃ G r cs env, SI X.K L M G0 r0 H0 G r cs env σ' H' ∧ FO X.K L M W G0 r0 H0 G r (whlL (fun env cs => (evE P tc env cs).bind fun x cs1 => ofO (truD cs1 x) cs1) (fun env cs => evSs P fu tb env cs) m env cs) D,
        fun σ' H' q => ⟨m, Nat.lt_succ_self _, q⟩, M, G0, r0, H0, G1, r1, cs1, env, si, FO.turn hf fun env' cs' G' r' σ' H' s' _ _ q => ⟨G', r', cs', env', s', q⟩⟩
theorem sS_for {tg iter : Expr} {b : List Stmt} {g : Tg} {it : I} {tb : Ss} (hp : PassesOwn (model X.prog X.w) X.A X.env X.xe) (hc : X.calm = true) (hi : PI X tg iter (tI X.K L P W it)) (hg : PG X tg (gOf X.K g)) (hb : PSs X b (tSs X.K L P W fu tb)) (hs : ∀ x, foldedSetIterable iter X.env x = pure x) :
    PS X (.For tg iter b [] pos) (tS X.K L P W fu (.forr it g tb)) := by
  refine PS.imp (ps_for hp hc hi hg hb hs) fun D σ H ⟨M, G0, r0, H0, G, r, cs, env, s, h⟩ => ?_
  unfold evS at h
  refine ⟨G, r, cs, env, s.sep, s.er, FO.bindK (R := fun G r (q : List XV.D × Ws) J => Wk X.K L J G r q.1 q.2) s h fun q cs1 J G1 r1 H1 hev g1 s1 wk si hf => ?_⟩
  have w1 : okWs q.2 cs1 = true := evI_ok hev
  obtain ⟨ds, ws⟩ := q
  simp only at wk w1 hf
  refine ⟨fun i m σ H => m = ds.length - i ∧ i ≤ ds.length ∧ ∃ G r cs env, SI X.K L M G0 r0 H0 G r cs env σ H ∧ Same G1 G ∧ (∃ t, r = r1 ++ t) ∧ okWs ws cs = true ∧ FO X.K L M W G0 r0 H0 G r (forW ws (fun env cs => evSs P fu tb env cs) g (ds.drop i) env cs) D,
    ⟨ds.length, by simp, Nat.zero_le _, G1, r1, cs1, env, si, Same.refl _, ⟨[], by simp⟩, w1, by simpa using hf⟩, ?_⟩
  rintro i m σ H ⟨rfl, hi, G2, r2, cs2, env2, s2, g2, ⟨t, er⟩, w2, h2⟩
  subst er
  by_cases hlt : i < ds.length
  · refine .inr ⟨wk.go i H G2 t cs2 hlt g2 s2.sep w2, fun σ' H' => ∃ G r cs env, SI X.K L M G0 r0 H0 G r cs env σ' H' ∧ Same G1 G ∧ (∃ t, r = r1 ++ t) ∧ okWs ws cs = true ∧ FO X.K L M W G0 r0 H0 G r (forW ws (fun env cs => evSs P fu tb env cs) g (ds.drop (i + 1)) env cs) D,
      fun σ' H' ⟨G, r, cs, env, q⟩ => ⟨ds.length - (i + 1), by omega, rfl, hlt, G, r, cs, env, q⟩, fun x H' y => ?_⟩
    obtain ⟨d, hd⟩ : ∃ d, ds[i]? = some d := ⟨ds[i], List.getElem?_eq_getElem hlt⟩
    have hdrop : ds.drop i = d :: ds.drop (i + 1) := by
      rw [List.drop_eq_getElem_cons hlt]
      rw [List.getElem?_eq_getElem hlt] at hd
      cases hd
      rfl
    rw [hdrop] at h2
    obtain ⟨G3, g3, s3, rx⟩ := wk.yld i d G2 t cs2 H x H' hd g2 s2.sep w2 y
    have si3 := s2.step g3 s3
    unfold forW at h2
    cases ha : asgT g d env2 with
    | none => rw [ha] at h2; exact h2.elim
    | some env' =>
      rw [ha] at h2
      refine asgT_ok s3 si3.er rx ha fun σ2 er2 _ ho => ?_
      refine ⟨M, G0, r0, H0, G3, _, cs2, env', ⟨si3.go, s3, er2, fun i sv a e o q => ?_, fun c ks ds e => ?_⟩, FO.turn (FO.mono h2 g3.g g3.pre) fun env3 cs3 G4 r4 σ4 H4 s4 g4 ⟨t4, e4⟩ q => ?_⟩
      rotate_left 2
      · by_cases hw : okWs ws cs3 = true
        · rw [if_pos hw] at q
          exact ⟨G4, r4, cs3, env3, s4, (g2.trans g3.g).trans g4, ⟨t ++ t4, by rw [e4, List.append_assoc]⟩, hw, q⟩
        · rw [if_neg hw] at q
          exact q.elim
      · obtain ⟨e1, e2⟩ := ho i sv e o
        rw [e2] at q
        exact si3.own i sv a e1 o q
      · obtain ⟨e1, e2⟩ := ho 0 _ e rfl
        rw [e2]
        exact si3.me c ks ds e1
  · have e : i = ds.length := by omega
    subst e
    refine .inl ⟨wk.stop H G2 t cs2 g2 s2.sep w2, ?_⟩
    have h2 : FO X.K L M W G0 r0 H0 G2 (r1 ++ t) (.nx env2 cs2) D := by simpa [forW] using h2
    exact h2 G2 _ σ H s2 (Same.refl _) ⟨[], by simp⟩
end
end XV
set_option Elab.async false
set_option linter.all false
set_option autoImplicit false
set_option maxRecDepth 100000
namespace XV
open PySem PySem.Spec PyProof.Rows L2

section
variable {K : PySem.W.Frag} {L : Lay} {M : Addr} {G0 : Hp} {r0 : List Addr} {H0 : Hp} {G : Hp} {r : List Addr} {H : Hp} {cs : List C} {env : List SV} {σ : L2.St}
theorem Mt3.nf {H : Hp} {a : Addr} (h : H a ≠ none) (m : Mt3 (H a)) : ¬ Fr H a := fun f => by
  obtain ⟨o, ho⟩ := Option.ne_none_iff_exists'.mp h
  obtain ⟨ps, e⟩ := f o ho
  subst e
  rw [ho] at m
  exact m
theorem SvR.at {o : Option (Option V)} {sv : SV} (h : SvR K L G r H o sv) (q : isOwn sv = true) : ∃ a, o = some (some (.ref a)) ∧ (H a ≠ none ∧ Mt3 (H a)) ∧ G a = none ∧ a ∉ r := by
  cases sv with
  | un => cases q
  | cb => cases q
  | d x => cases q
  | own ds => obtain ⟨a, vs, e, h1, h2, h3, _⟩ := h; exact ⟨a, e, by rw [h1]; exact ⟨by simp, trivial⟩, h2, h3⟩
  | ownD ks ds => obtain ⟨a, vs, e, h1, _, _, h2, h3, _⟩ := h; exact ⟨a, e, by rw [h1]; exact ⟨by simp, trivial⟩, h2, h3⟩
  | ownI c ks ds => obtain ⟨a, dx, vs, e, h1, _, h2, h3, _⟩ := h; exact ⟨a, e, by rw [h1]; exact ⟨by simp, trivial⟩, h2, h3⟩
theorem SvR.upd_other {o : Option (Option V)} {sv : SV} {a : Addr} {x : HO} (h : SvR K L G r H o sv) (ne : isOwn sv = true → o ≠ some (some (.ref a))) : SvR K L G r (upd H a x) o sv := by
  cases sv with
  | un => trivial
  | cb => exact h
  | d x => exact h
  | own ds =>
    obtain ⟨b, vs, e, h1, h2⟩ := h
    have : b ≠ a := fun z => ne rfl (z ▸ e)
    exact ⟨b, vs, e, by rw [upd_ne this]; exact h1, h2⟩
  | ownD ks ds =>
    obtain ⟨b, vs, e, h1, h2⟩ := h
    have : b ≠ a := fun z => ne rfl (z ▸ e)
    exact ⟨b, vs, e, by rw [upd_ne this]; exact h1, h2⟩
  | ownI c ks ds =>
    obtain ⟨b, dx, vs, e, h1, h2⟩ := h
    have : b ≠ a := fun z => ne rfl (z ▸ e)
    exact ⟨b, dx, vs, e, by rw [upd_ne this]; exact h1, h2⟩
theorem Sep.upd (s : Sep K L G r cs H) {a : Addr} {x : HO} (h1 : G a = none) (h2 : a ∉ r) (m : Mt3 (H a)) : Sep K L G r cs (L2.upd H a x) := by
  refine ⟨fun b o h => by rw [upd_ne (ne_of_none h h1)]; exact s.same b o h, s.nod, s.len, fun i k e => ?_, Mt3.tabs s.tabs m, s.gt, s.lat⟩
  obtain ⟨b, q1, q2, q3⟩ := s.cell i k e
  have ne : b ≠ a := fun z => h2 (z ▸ List.mem_of_getElem? q1)
  have := CellR.mono (t := []) (Same.refl G) (H' := L2.upd H a x) (by rw [upd_ne ne]) q3
  exact ⟨b, q1, q2, by simpa using this⟩
theorem Go.upd (g : Go G0 r0 H0 G r H) {a : Addr} {x : HO} (h : Fr H0 a) : Go G0 r0 H0 G r (L2.upd H a x) := by
  refine ⟨g.g, g.gf, g.rr, fun b o hb hr ht => by rw [upd_ne (Fr.ne (nFr hb ht) h)]; exact g.keep b o hb hr ht, fun b hb => ?_⟩
  rw [Fr.upd (Fr.ne hb h)]; exact g.dom b hb
theorem SI.mut (s : SI K L M G0 r0 H0 G r cs env σ H) {i : Nat} {sv sv' : SV} {a : Addr} {x : HO} (e : env[i]? = some sv) (o : isOwn sv = true) (q : σ[i]? = some (some (.ref a))) (n : SvR K L G r (upd H a x) (some (some (.ref a))) sv') (o' : isOwn sv' = true) (hI : ∀ c ks ds, sv' = .ownI c ks ds → ∃ c ks ds, sv = .ownI c ks ds := by intro _ _ _ z; cases z) :
    SI K L M G0 r0 H0 G r cs (env.set i sv') σ (upd H a x) := by
  have hi : i < env.length := (List.getElem?_eq_some_iff.mp e).1
  obtain ⟨b, e1, h1, h2, h3⟩ := (s.er.get i sv e).at o
  rw [q] at e1
  cases e1
  have h0 := s.own i sv a e o q
  refine ⟨s.go.upd h0, s.sep.upd h2 h3 h1.2, ⟨by simpa using s.er.len, fun j sv2 e2 => ?_, fun j k sv1 sv2 b hjk e1 o1 e2 o2 s1 s2 => ?_⟩, fun j sv2 b e2 o2 q2 => ?_, fun c ks ds e2 => ?_⟩
  · by_cases ej : i = j
    · subst ej
      rw [List.getElem?_set_self hi] at e2
      cases e2
      rw [q]
      exact n
    · rw [List.getElem?_set_ne ej] at e2
      exact (s.er.get j sv2 e2).upd_other fun o2 z => s.er.sep i j sv sv2 a ej e o e2 o2 q z
  · have key : ∀ {m : Nat} {sv3 : SV}, (env.set i sv')[m]? = some sv3 → isOwn sv3 = true → ∃ sv4, env[m]? = some sv4 ∧ isOwn sv4 = true := fun {m sv3} em om => by
      by_cases ej : i = m
      · subst ej; exact ⟨sv, e, o⟩
      · rw [List.getElem?_set_ne ej] at em; exact ⟨sv3, em, om⟩
    obtain ⟨sv3, e3, o3⟩ := key e1 o1
    obtain ⟨sv4, e4, o4⟩ := key e2 o2
    exact s.er.sep j k sv3 sv4 b hjk e3 o3 e4 o4 s1 s2
  · by_cases ej : i = j
    · subst ej
      rw [q] at q2
      cases q2
      exact h0
    · rw [List.getElem?_set_ne ej] at e2
      exact s.own j sv2 b e2 o2 q2
  · by_cases ej : i = 0
    · subst ej
      rw [List.getElem?_set_self hi] at e2
      obtain ⟨c', ks', ds', rfl⟩ := hI c ks ds (Option.some.inj e2)
      exact s.me c' ks' ds' e
    · rw [List.getElem?_set_ne ej] at e2
      exact s.me c ks ds e2
theorem SI.give (s : SI K L M G0 r0 H0 G r cs env σ H) {i : Nat} {sv : SV} {v : V} (hi : i < env.length) (n : SvR K L G r H (some (some v)) sv) (f : ∀ a, v = .ref a → isOwn sv = true → Fr H0 a ∧ ∀ (j : Nat) (sv2 : SV), env[j]? = some sv2 → isOwn sv2 = true → σ[j]? ≠ some (some (V.ref a))) (hI : ∀ c ks ds, sv ≠ .ownI c ks ds) :
    SI K L M G0 r0 H0 G r cs (env.set i sv) (σ.set i (some v)) H := by
  have hiσ : i < σ.length := by rw [← s.er.len]; exact hi
  refine ⟨s.go, s.sep, ⟨by simpa using s.er.len, fun j sv2 e2 => ?_, fun j k sv1 sv2 b hjk e1 o1 e2 o2 s1 s2 => ?_⟩, fun j sv2 b e2 o2 q2 => ?_, fun c ks ds e2 => ?_⟩
  · by_cases ej : i = j
    · subst ej
      rw [List.getElem?_set_self hi] at e2
      cases e2
      rw [List.getElem?_set_self hiσ]
      exact n
    · rw [List.getElem?_set_ne ej] at e2 ⊢
      exact s.er.get j sv2 e2
  · by_cases ej : i = j
    · subst ej
      have ek : i ≠ k := hjk
      rw [List.getElem?_set_self hi] at e1
      cases e1
      rw [List.getElem?_set_self hiσ] at s1
      rw [List.getElem?_set_ne ek] at e2 s2
      cases s1
      exact (f b rfl o1).2 k sv2 e2 o2 s2
    · by_cases ek : i = k
      · subst ek
        rw [List.getElem?_set_self hi] at e2
        cases e2
        rw [List.getElem?_set_self hiσ] at s2
        rw [List.getElem?_set_ne ej] at e1 s1
        cases s2
        exact (f b rfl o2).2 j sv1 e1 o1 s1
      · rw [List.getElem?_set_ne ej] at e1 s1
        rw [List.getElem?_set_ne ek] at e2 s2
        exact s.er.sep j k sv1 sv2 b hjk e1 o1 e2 o2 s1 s2
  · by_cases ej : i = j
    · subst ej
      rw [List.getElem?_set_self hi] at e2
      cases e2
      rw [List.getElem?_set_self hiσ] at q2
      cases q2
      exact (f b rfl o2).1
    · rw [List.getElem?_set_ne ej] at e2 q2
      exact s.own j sv2 b e2 o2 q2
  · by_cases ej : i = 0
    · subst ej
      rw [List.getElem?_set_self hi] at e2
      exact absurd (Option.some.inj e2) (hI c ks ds)
    · rw [List.getElem?_set_ne ej] at e2 ⊢
      exact s.me c ks ds e2
theorem SI.frz (s : SI K L M G0 r0 H0 G r cs env σ H) {i : Nat} {sv : SV} {d : D} (e : env[i]? = some sv) (hd : (∃ ds, sv = .own ds ∧ d = .lst ds) ∨ (∃ ks ds, sv = .ownD ks ds ∧ d = .dct ks ds) ∨ ∃ c ks ds, sv = .ownI c ks ds ∧ d = .obj c ks ds) :
    ∃ G', SI K L M G0 r0 H0 G' r cs (env.set i (.d d)) σ H ∧ Same G G' := by
  have o : isOwn sv = true := by
    rcases hd with ⟨_, rfl, _⟩ | ⟨_, _, rfl, _⟩ | ⟨_, _, _, rfl, _⟩ <;> rfl
  have hi : i < env.length := (List.getElem?_eq_some_iff.mp e).1
  obtain ⟨a, q, h1, h2, h3⟩ := (s.er.get i sv e).at o
  have h0 := s.own i sv a e o q
  obtain ⟨x, hx⟩ : ∃ x, H a = some x := Option.ne_none_iff_exists'.mp h1.1
  have sm : Same G (upd G a x) := fun b y h => by rw [upd_ne (ne_of_none h h2)]; exact h
  have mono : ∀ {d : D} {v : V}, Rep K L G r d v → Rep K L (upd G a x) r d v := fun {d v} h => by simpa using h.mono (t := []) sm
  have monos : ∀ {d : List D} {v : List V}, Reps K L G r d v → Reps K L (upd G a x) r d v := fun {d v} h => by simpa using h.mono (t := []) sm
  refine ⟨upd G a x, ⟨⟨s.go.g.trans sm, fun b hb => ?_, s.go.rr, s.go.keep, s.go.dom⟩, ⟨fun b y h => ?_, s.sep.nod, s.sep.len, fun j k ek => ?_, s.sep.tabs, fun b ps z => ?_, s.sep.lat.more sm ⟨[], by simp⟩⟩, ⟨by simpa using s.er.len, fun j sv2 e2 => ?_, fun j k sv1 sv2 b hjk e1 o1 e2 o2 s1 s2 => ?_⟩, fun j sv2 b e2 o2 q2 => ?_, fun c ks ds e2 => ?_⟩, sm⟩
  · have : b ≠ a := fun z => hb (z ▸ h0)
    rw [upd_ne this]; exact s.go.gf b hb
  · by_cases eb : b = a
    · subst eb; rw [upd_same] at h; cases h; exact hx
    · rw [upd_ne eb] at h; exact s.sep.same b y h
  · obtain ⟨b, q1, q2, q3⟩ := s.sep.cell j k ek
    have ne : b ≠ a := fun z => h3 (z ▸ List.mem_of_getElem? q1)
    have := CellR.mono (t := []) sm (H' := H) rfl q3
    exact ⟨b, q1, by rw [upd_ne ne]; exact q2, by simpa using this⟩
  · by_cases eb : b = a
    · subst eb; rw [upd_same] at z; cases z; exact Mt3.nf h1.1 h1.2 fun o ho => ⟨ps, by rw [hx] at ho; cases ho; rfl⟩
    · rw [upd_ne eb] at z; exact s.sep.gt b ps z
  · by_cases ej : i = j
    · subst ej
      rw [List.getElem?_set_self hi] at e2
      cases e2
      have g := s.er.get i sv e
      rcases hd with ⟨ds, rfl, rfl⟩ | ⟨ks, ds, rfl, rfl⟩ | ⟨c, ks, ds, rfl, rfl⟩
      · obtain ⟨b, vs, e3, k1, k2, k3, k4⟩ := g
        rw [q] at e3; cases e3
        rw [hx] at k1; cases k1
        exact ⟨.ref a, q, .lst upd_same (monos k4)⟩
      · obtain ⟨b, vs, e3, k1, l, n, k2, k3, k4⟩ := g
        rw [q] at e3; cases e3
        rw [hx] at k1; cases k1
        exact ⟨.ref a, q, .dct upd_same l n (monos k4)⟩
      · obtain ⟨b, dx, vs, e3, k1, l, k2, k3, k4⟩ := g
        rw [q] at e3; cases e3
        rw [hx] at k1; cases k1
        exact ⟨.ref a, q, .obj upd_same l (monos k4)⟩
    · rw [List.getElem?_set_ne ej] at e2
      have g := s.er.get j sv2 e2
      have ne : isOwn sv2 = true → σ[j]? ≠ some (some (.ref a)) := fun o2 z => s.er.sep i j sv sv2 a ej e o e2 o2 q z
      cases sv2 with
      | un => trivial
      | cb => exact g
      | d y => obtain ⟨v, h4, h5⟩ := g; exact ⟨v, h4, mono h5⟩
      | own ds =>
        obtain ⟨b, vs, e3, k1, k2, k3, k4⟩ := g
        have nb : b ≠ a := fun z => ne rfl (z ▸ e3)
        exact ⟨b, vs, e3, k1, by rw [upd_ne nb]; exact k2, k3, monos k4⟩
      | ownD ks ds =>
        obtain ⟨b, vs, e3, k1, l, n, k2, k3, k4⟩ := g
        have nb : b ≠ a := fun z => ne rfl (z ▸ e3)
        exact ⟨b, vs, e3, k1, l, n, by rw [upd_ne nb]; exact k2, k3, monos k4⟩
      | ownI c ks ds =>
        obtain ⟨b, dx, vs, e3, k1, l, k2, k3, k4⟩ := g
        have nb : b ≠ a := fun z => ne rfl (z ▸ e3)
        exact ⟨b, dx, vs, e3, k1, l, by rw [upd_ne nb]; exact k2, k3, monos k4⟩
  · have key : ∀ {m : Nat} {sv3 : SV}, (env.set i (.d d))[m]? = some sv3 → isOwn sv3 = true → env[m]? = some sv3 := fun {m sv3} em om => by
      by_cases ej : i = m
      · subst ej; rw [List.getElem?_set_self hi] at em; cases em; cases om
      · rw [List.getElem?_set_ne ej] at em; exact em
    exact s.er.sep j k sv1 sv2 b hjk (key e1 o1) o1 (key e2 o2) o2 s1 s2
  · by_cases ej : i = j
    · subst ej; rw [List.getElem?_set_self hi] at e2; cases e2; cases o2
    · rw [List.getElem?_set_ne ej] at e2
      exact s.own j sv2 b e2 o2 q2
  · by_cases ej : i = 0
    · subst ej; rw [List.getElem?_set_self hi] at e2; cases e2
    · rw [List.getElem?_set_ne ej] at e2
      exact s.me c ks ds e2
end

section
variable {X : Cx} {L : Lay} {P : Cfg} {W : WX} {fu : Nat} {pos : Pos}
theorem sSs_frz {i : Nat} {st : List Stmt} {ts : Ss} (h : PSs X st (tSs X.K L P W fu ts)) : PSs X st (tSs X.K L P W fu (.cons (.frz i) ts)) := by
  refine PSs.imp h fun D σ H ⟨M, G0, r0, H0, G, r, cs, env, s, h⟩ => ?_
  unfold evSs evS at h
  cases e : env[i]? with
  | none => rw [e] at h; exact h.elim
  | some sv =>
    rw [e] at h
    cases sv with
    | un => exact h.elim
    | cb => exact h.elim
    | d x => exact h.elim
    | own ds =>
      obtain ⟨G', s', g⟩ := s.frz e (.inl ⟨ds, rfl, rfl⟩)
      exact ⟨M, G0, r0, H0, G', r, cs, _, s', FO.mono h g ⟨[], by simp⟩⟩
    | ownD ks ds =>
      obtain ⟨G', s', g⟩ := s.frz e (.inr (.inl ⟨ks, ds, rfl, rfl⟩))
      exact ⟨M, G0, r0, H0, G', r, cs, _, s', FO.mono h g ⟨[], by simp⟩⟩
    | ownI c ks ds => exact h.elim
theorem sS_app {i : Nat} {x : Str} {e : Expr} {t : T} {p1 apos cpos : Pos} (hN : X.N[i]? = some x) (hv : Vis X.env.scope x) (hd : (x == ("__debug__" : Str)) = false) (hcd : (x == ("__classdict__" : Str)) = false)
    (he : PE X e (tE X.K L P W t)) (hst : isStar e = false) (hline : (apos.endLine == cpos.line) = true) : PS X (.Expr (.Call (.Attribute (.Name x p1) "append" apos) [e] [] cpos) pos) (tS X.K L P W fu (.app i t)) := by
  refine PS.imp (ps_expr (pe_bm PySem.F.plainAttrs_list PySem.F.slot_list_append PySem.F.type_list_append mt_append (pe_var hN hv hd hcd) (pa_cons he pa_nil (star_ok hst)) (attr_ok rfl) (by rw [star_ok hst]; rfl) hline (star_ok hst)) (swaps_ok rfl)) fun D σ H ⟨M, G0, r0, H0, G, r, cs, env, s, h⟩ => ?_
  unfold evS at h
  cases e1 : env[i]? with
  | none => rw [e1] at h; exact h.elim
  | some sv =>
    cases sv <;> first | (rw [e1] at h; exact h.elim) | skip
    rename_i ds
    rw [e1] at h
    obtain ⟨a, vs, q, h1, h2, h3, h4⟩ := s.er.get i _ e1
    refine ⟨.ref a, q, .inl ⟨rfl, vs, SqL.of h1⟩, G, r, cs, env, s.sep, s.er, FO.bindK (R := Rep X.K L) s h fun d cs1 v G1 r1 H1 _ g1 s1 rd si hf => ?_⟩
    obtain ⟨a', vs', q', k1, k2, k3, k4⟩ := si.er.get i _ e1
    rw [q] at q'
    cases q'
    by_cases hl : ds.length < LIM
    · have hf : FO X.K L M W G0 r0 H0 G1 r1 (.nx (env.set i (.own (ds ++ [d]))) cs1) D := by simpa [hl] using hf
      refine ⟨a, vs', v, rfl, rfl, k1, by rw [← k4.length]; exact Nat.lt_of_lt_of_le hl (by decide), ?_⟩
      refine hf G1 r1 σ _ (si.mut e1 rfl q ?_ rfl) (Same.refl _) ⟨[], by simp⟩
      exact ⟨a, _, rfl, upd_same, k2, k3, k4.append (.one rd)⟩
    · have hf : FO X.K L M W G0 r0 H0 G1 r1 .bad D := by simpa [hl] using hf
      exact (show False from hf).elim
def KM (K : PySem.W.Frag) (L : Lay) (E : XK) (G : Hp) (r : List Addr) (H : Hp) (o : Out SV) (Q : VK) : Prop :=
  match o with
  | .ok sv cs' => ∀ v G' r' H', Go G r H G' r' H' → Sep K L G' r' cs' H' → SvR K L G' r' H' (some (some v)) sv → (∀ a, v = .ref a → isOwn sv = true → Fr H a) → Q v H'
  | .exc c ds cs' => ∀ cls dd G' r' H', Go G r H G' r' H' → Sep K L G' r' cs' H' → ExR K L c ds cls dd G' r' H' → E cls dd H'
  | .bad => False
def tM (K : PySem.W.Frag) (L : Lay) (P : Cfg) (W : WX) (p : Pm) : TE := fun σ H Q => ∃ G r cs env, Sep K L G r cs H ∧ EnvR K L G r H env σ ∧ KM K L (wE W σ) G r H (evPm P p env cs) Q
theorem sM_val {e : Expr} {t : T} (h : PE X e (tE X.K L P W t)) : PE X e (tM X.K L P W (.val t)) := by
  refine PE.imp h fun σ H Q ⟨G, r, cs, env, s, er, k⟩ => ⟨G, r, cs, env, s, er, ?_⟩
  have k : KM X.K L (wE W σ) G r H ((evE P t env cs).bind fun d cs1 => .ok (.d d) cs1) Q := k
  cases e1 : evE P t env cs with
  | bad => rw [e1] at k; exact k
  | exc c ds cs1 => rw [e1] at k; exact k
  | ok d cs1 =>
    rw [e1] at k
    exact fun v G' r' H' g s' q => k v G' r' H' g s' ⟨v, rfl, q⟩ fun _ _ z => by cases z
theorem sM_own {es : List Expr} {ts : Ts} (h : PA X es (tTs X.K L P W ts)) : PE X (.List es pos) (tM X.K L P W (.own ts)) := by
  refine PE.imp (pe_lst h) fun σ H Q ⟨G, r, cs, env, s, er, k⟩ => ⟨G, r, cs, env, s, er, ?_⟩
  have k : KM X.K L (wE W σ) G r H ((evTs P ts env cs).bind fun ds cs1 => if ds.length ≤ LIM then .ok (.own ds) cs1 else .bad) Q := k
  cases e1 : evTs P ts env cs with
  | bad => rw [e1] at k; exact k
  | exc c ds cs1 => rw [e1] at k; exact k
  | ok ds cs1 =>
    rw [e1] at k
    intro vs G' r' H' g s' q
    by_cases hl : ds.length ≤ LIM
    · simp only [Out.bind_ok, if_pos hl] at k
      refine ⟨by rw [← q.length]; exact LIM_le hl, fun p hp => ?_⟩
      have gp : G' p = none := Same.free s'.same hp
      have np : p ∉ r' := fun hm => (s'.mem hm).2 (.of hp)
      have hpH : Fr H p := Classical.byContradiction fun q => g.dom p q (.of hp)
      exact k (.ref p) G' r' _ (g.upd hpH) (s'.upd gp np (by rw [hp]; trivial)) ⟨p, vs, rfl, upd_same, gp, np, q⟩ fun a ea _ => by cases ea; exact hpH
    · simp only [Out.bind_ok, if_neg hl] at k
      exact k.elim
theorem sM_ownD : PE X (.Dict [] [] pos) (tM X.K L P W .ownD) := by
  refine PE.imp pe_dnewK fun σ H Q ⟨G, r, cs, env, s, er, k⟩ => ?_
  intro p hp
  have gp : G p = none := Same.free s.same hp
  have np : p ∉ r := fun hm => (s.mem hm).2 (.of hp)
  exact k (.ref p) G r _ ((Go.refl G r H).upd (.of hp)) (s.upd gp np (by rw [hp]; trivial)) ⟨p, [], rfl, upd_same, rfl, List.nodup_nil, gp, np, .nil⟩ fun a ea _ => by cases ea; exact .of hp
theorem evPm_noI {P : Cfg} {p : Pm} {env : List SV} {cs cs1 : List C} {sv : SV} (h : evPm P p env cs = .ok sv cs1) (c : Nat) (ks : List Str) (ds : List D) : sv ≠ .ownI c ks ds := by
  intro z
  subst z
  cases p with
  | val t =>
    simp only [evPm] at h
    cases e : evE P t env cs <;> rw [e] at h <;> cases h
  | own ts =>
    simp only [evPm] at h
    cases e : evTs P ts env cs with
    | ok ds0 cs0 => rw [e] at h; simp only [Out.bind_ok] at h; split at h <;> cases h
    | exc _ _ _ => rw [e] at h; cases h
    | bad => rw [e] at h; cases h
  | ownD => simp only [evPm] at h; cases h
  | ownE t =>
    simp only [evPm] at h
    cases e : evE P t env cs with
    | ok d cs0 => rw [e] at h; simp only [Out.bind_ok] at h; cases d <;> cases h
    | exc _ _ _ => rw [e] at h; cases h
    | bad => rw [e] at h; cases h
theorem sS_set1 {e : Expr} {i : Nat} {x : Str} {p : Pm} {pos' : Pos} (hN : X.N.Nodup) (hi : X.N[i]? = some x) (hx : Loc X.env.scope x) (he : PE X e (tM X.K L P W p)) (hs : swapsWith e (some (.Name x pos')) pos.line X.env = pure false) (hf : X.fn x = true ∨ X.env.scope.names.lookup x = some .local) :
    PS X (.Assign [.Name x pos'] e pos) (tS X.K L P W fu (.set1 i p)) := by
  refine PS.imp (ps_set hN hi hx he hs hf) fun D σ H ⟨M, G0, r0, H0, G, r, cs, env, s, h⟩ => ?_
  unfold evS at h
  refine ⟨G, r, cs, env, s.sep, s.er, ?_⟩
  cases e1 : evPm P p env cs with
  | bad => rw [e1] at h; exact h
  | exc c ds cs1 =>
    rw [e1] at h
    exact fun cls dd G' r' H' g s' q => h cls dd σ G' r' H' (s.go.trans g) s' q
  | ok sv cs1 =>
    rw [e1] at h
    intro v G' r' H' g s' q fr
    by_cases hl : i < env.length
    · have h : FO X.K L M W G0 r0 H0 G r (.nx (env.set i sv) cs1) D := by simpa [hl] using h
      have si := s.step g s'
      refine h G' r' _ H' (si.give hl q (fun a ea oa => ?_) (evPm_noI e1)) g.g g.pre
      have hn := fr a ea oa
      refine ⟨?_, fun j sv2 e2 o2 z => ?_⟩
      · exact Classical.byContradiction fun q => s.go.dom a q hn
      · obtain ⟨b, q1, q2, _⟩ := (s.er.get j sv2 e2).at o2
        rw [z] at q1
        cases q1
        exact Mt3.nf q2.1 q2.2 hn
    · have h : FO X.K L M W G0 r0 H0 G r .bad D := by simpa [hl] using h
      exact (show False from h).elim
end
end XV
set_option Elab.async false
set_option linter.all false
set_option autoImplicit false
set_option maxRecDepth 100000
namespace XV
open PySem PySem.Spec PyProof.Rows L2

def rGetL (K : PySem.W.Frag) : V → V → Hp → VK → Prop := fun o i H Q => ∃ p xs k v, o = .ref p ∧ i = .int k ∧ SqL K H p xs ∧ atI xs k = some v ∧ Q v H
theorem get_list {X : Cx} : PGet X (rGetL X.K) := by
  intro pins s σ H o i ov iv Q I ro ri h
  obtain ⟨p, xs, k, v, rfl, rfl, hq, he, q⟩ := h
  cases ro
  obtain ⟨t, rfl⟩ := ri
  obtain ⟨its, r, pl, hz⟩ := I.list hq
  obtain ⟨j, h1, h2, h3, h4, h5⟩ := atI_get he
  obtain ⟨w, ew, rw'⟩ := r.get h2
  have hl := r.length
  have hn := line63
  have fin : EP X pins σ Q w s := ⟨v, H, I, rw', q⟩
  by_cases h0 : 0 ≤ k
  · have hj : k.toNat = j := by
      rw [seqIndex_of h0 h5] at h1
      exact Option.some.inj h1
    exact wpAny_getItem_list pl.isList h0 (by omega) (by rw [hj]; simpa using ew) fin
  · have hj : (k + (its.toArray.size : Int)).toNat = j := by
      rw [seqIndex_neg (by omega) h4] at h1
      rw [List.size_toArray, ← hl]
      exact Option.some.inj h1
    exact wpAny_getItem_list_neg pl.isList (by omega) (by rw [List.size_toArray] <;> omega) (by omega) (by rw [hj]; simpa using ew) fin

theorem opPIp {X : Cx} {op : Operator} {r : R2} (h : OpR X (inplaceOp op) r) : PIp X op r := fun pins s σ H x y v u Q I rx ry q => h pins s σ H x y v u Q I rx ry q
theorem ixN_len {n : Nat} {k : Int} {j : Nat} (h : ixN n k = some j) : j < n := (ixN_seq h).2.1
section
variable {X : Cx} {L : Lay} {P : Cfg} {W : WX} {fu : Nat} {pos : Pos}
def rIop : Bop → R2
  | .add => fun x y H Q => rI0 (fun i j => .int (i + j)) x y H Q ∨ ∃ i j : Str, x = .str i ∧ y = .str j ∧ i.length + j.length ≤ sizeLine ∧ Q (.str (i ++ j)) H
  | .sub => rI0 fun i j => .int (i - j)
  | .bor => rI0 fun i j => .int (Builtin.bitOr i j)
  | _ => fun _ _ _ _ => False
theorem iop_rule (o : Bop) : OpR X (inplaceOp (oB o)) (rIop o) := by
  cases o <;> first
    | exact iop_add.or iop_add_str
    | exact iop_sub
    | exact iop_or
    | exact fun _ _ _ _ _ _ _ _ _ _ _ _ h => h.elim
theorem iop_gives {K : PySem.W.Frag} {G : Hp} {r : List Addr} {H : Hp} {o : Bop} {x y d : D} {v w : V} {Q : VK} (rx : Rep K L G r x v) (ry : Rep K L G r y w) (e : iopD o x y = some d) (q : ∀ z, Rep K L G r d z → Q z H) : rIop o v w H Q := by
  unfold iopD at e
  split at e
  · cases e
    exact .inl ⟨_, _, rx.int_of, ry.int_of, q _ (.int _)⟩
  · obtain ⟨hl, e⟩ := lim_some e
    subst e
    exact .inr ⟨_, _, rx.str_of, ry.str_of, by rw [mkS_len, mkS_len]; exact LIM_le hl, by rw [mkS_app]; exact q _ (.str _)⟩
  · cases e
    exact ⟨_, _, rx.int_of, ry.int_of, q _ (.int _)⟩
  · cases e
    exact ⟨_, _, rx.int_of, ry.int_of, q _ (.int _)⟩
  · cases e
theorem sS_aug {i : Nat} {x : Str} {o : Bop} {e : Expr} {t : T} {pos' : Pos} (hN : X.N.Nodup) (hi : X.N[i]? = some x) (hx : Loc X.env.scope x) (he : PE X e (tE X.K L P W t)) (hf : X.fn x = true ∨ X.env.scope.names.lookup x = some .local) :
    PS X (.AugAssign (.Name x pos') (oB o) e pos) (tS X.K L P W fu (.aug i o t)) := by
  refine PS.imp (ps_aug hN hi hx he (opPIp (iop_rule o)) hf) fun D σ H ⟨M, G0, r0, H0, G, r, cs, env, s, h⟩ => ?_
  unfold evS at h
  cases e1 : env[i]? with
  | none => rw [e1] at h; exact h.elim
  | some sv =>
    cases sv <;> first | (rw [e1] at h; exact h.elim) | skip
    rename_i d
    rw [e1] at h
    obtain ⟨v, q, rv⟩ := s.er.get i _ e1
    have hi' : i < env.length := (List.getElem?_eq_some_iff.mp e1).1
    refine ⟨v, q, G, r, cs, env, s.sep, s.er, FO.bindK (R := Rep X.K L) s h fun d' cs1 w G1 r1 H1 _ g1 s1 rd si hf => ?_⟩
    cases e2 : iopD o d d' with
    | none => rw [e2] at hf; exact hf.elim
    | some z =>
      rw [e2] at hf
      refine iop_gives (rv.go g1) rd e2 fun zv rz => ?_
      refine hf G1 r1 _ H1 (si.give hi' ⟨zv, rfl, rz⟩ (fun a _ o => by cases o) fun _ _ _ z => by cases z) (Same.refl _) ⟨[], by simp⟩
theorem sS_setOwn {i : Nat} {x : Str} {b e : Expr} {tb t : T} {p1 tpos : Pos} (hN : X.N[i]? = some x) (hv : Vis X.env.scope x) (hd : (x == ("__debug__" : Str)) = false) (hcd : (x == ("__classdict__" : Str)) = false)
    (hb : PE X b (tE X.K L P W tb)) (he : PE X e (tE X.K L P W t)) (hs : swapsWithSole [.Subscript (.Name x p1) b tpos] e pos.line X.env = pure false) (hw : swappedStores [.Subscript (.Name x p1) b tpos] e X.env = pure none)
    (ha : ∀ v, assign (.Subscript (.Name x p1) b tpos) X.env v = (do
      let ov ← holding [v] (eval (.Name x p1) X.env)
      let iv ← holding [v, ov] (eval b X.env)
      standAt tpos
      holding [v, ov, iv] (setItem ov iv v)
      release [v, ov, iv] [])) : PS X (.Assign [.Subscript (.Name x p1) b tpos] e pos) (tS X.K L P W fu (.setOwn i tb t)) := by
  refine PS.imp (ps_asg he (pg_sub (pe_var hN hv hd hcd) hb set_list ha) hs hw rfl) fun D σ H ⟨M, G0, r0, H0, G, r, cs, env, s, h⟩ => ?_
  unfold evS at h
  cases e1 : env[i]? with
  | none => rw [e1] at h; exact h.elim
  | some sv =>
    cases sv <;> first | (rw [e1] at h; exact h.elim) | skip
    rename_i ds
    rw [e1] at h
    refine ⟨G, r, cs, env, s.sep, s.er, FO.bindK (R := Rep X.K L) s h fun d cs1 v G1 r1 H1 _ g1 s1 rd si hf => ?_⟩
    obtain ⟨a, vs, q, h1, h2, h3, h4⟩ := si.er.get i _ e1
    refine ⟨.ref a, q, G1, r1, cs1, env, s1, si.er, FO.bindK (R := Rep X.K L) si hf fun y cs2 w G2 r2 H2 _ g2 s2 ry si2 hf2 => ?_⟩
    cases y <;> first | (exact hf2.elim) | skip
    rename_i n _
    obtain ⟨a', vs2, q', k1, k2, k3, k4⟩ := si2.er.get i _ e1
    rw [q] at q'
    cases q'
    cases e2 : ixN ds.length n with
    | none => simp only [e2] at hf2; exact hf2.elim
    | some j =>
      simp only [e2] at hf2
      refine ⟨a, vs2, n, j, rfl, ry.int_of, k1, by rw [← k4.length]; exact e2, ?_⟩
      refine hf2 G2 r2 σ _ (si2.mut e1 rfl q ?_ rfl) (Same.refl _) ⟨[], by simp⟩
      exact ⟨a, _, rfl, upd_same, k2, k3, Reps.set (rd.go g2) j k4⟩
theorem sS_augOwn {i : Nat} {x : Str} {o : Bop} {b e : Expr} {tb t : T} {p1 tpos : Pos} (hN : X.N[i]? = some x) (hv : Vis X.env.scope x) (hd : (x == ("__debug__" : Str)) = false) (hcd : (x == ("__classdict__" : Str)) = false)
    (hb : PE X b (tE X.K L P W tb)) (he : PE X e (tE X.K L P W t)) (ha : ∀ ov iv new, augStore b ov iv new = (do holding [new, ov, iv] (setItem ov iv new); release [new, ov, iv] []; pure .next)) :
    PS X (.AugAssign (.Subscript (.Name x p1) b tpos) (oB o) e pos) (tS X.K L P W fu (.augOwn i tb o t)) := by
  refine PS.imp (ps_augS (pe_var hN hv hd hcd) hb get_list he (opPIp (iop_rule o)) set_list ha) fun D σ H ⟨M, G0, r0, H0, G, r, cs, env, s, h⟩ => ?_
  unfold evS at h
  cases e1 : env[i]? with
  | none => rw [e1] at h; exact h.elim
  | some sv =>
    cases sv <;> first | (rw [e1] at h; exact h.elim) | skip
    rename_i ds
    rw [e1] at h
    obtain ⟨a, vs, q, h1, h2, h3, h4⟩ := s.er.get i _ e1
    refine ⟨.ref a, q, G, r, cs, env, s.sep, s.er, FO.bindK (R := Rep X.K L) s h fun y cs1 v G1 r1 H1 _ g1 s1 ry si hf => ?_⟩
    cases y <;> first | (exact hf.elim) | skip
    rename_i n _
    obtain ⟨a', vs1, q', k1, k2, k3, k4⟩ := si.er.get i _ e1
    rw [q] at q'
    cases q'
    cases e2 : ixN ds.length n with
    | none => simp only [e2] at hf; exact hf.elim
    | some j =>
      cases e3 : atI ds n with
      | none => simp only [e2, e3] at hf; exact hf.elim
      | some x0 =>
        simp only [e2, e3] at hf
        obtain ⟨xv, hx1, hx2⟩ := atI_rep k4 e3
        refine ⟨a, vs1, n, xv, rfl, ry.int_of, SqL.of k1, hx1, G1, r1, cs1, env, s1, si.er, FO.bindK (R := Rep X.K L) si hf fun z cs2 w G2 r2 H2 _ g2 s2 rz si2 hf2 => ?_⟩
        cases e4 : iopD o x0 z with
        | none => simp only [e4] at hf2; exact hf2.elim
        | some y0 =>
          simp only [e4] at hf2
          refine iop_gives (hx2.go g2) rz e4 fun zv rzv => ?_
          obtain ⟨a', vs2, q', m1, m2, m3, m4⟩ := si2.er.get i _ e1
          rw [q] at q'
          cases q'
          refine ⟨a, vs2, n, j, rfl, ry.int_of, m1, by rw [← m4.length]; exact e2, ?_⟩
          refine hf2 G2 r2 σ _ (si2.mut e1 rfl q ?_ rfl) (Same.refl _) ⟨[], by simp⟩
          exact ⟨a, _, rfl, upd_same, m2, m3, Reps.set rzv j m4⟩

theorem CellR.mt {K : PySem.W.Frag} {L : Lay} {G : Hp} {r : List Addr} {H : Hp} {a : Addr} {k : C} (q : CellR K L G r H a k) : Mt3 (H a) := by
  cases k with
  | lst ds => obtain ⟨vs, h1, h2⟩ := q; rw [h1]; trivial
  | dct ks ds => obtain ⟨vs, h1, l, n, h2⟩ := q; rw [h1]; trivial
  | ins c ks ds => obtain ⟨dx, vs, h1, l, h2⟩ := q; rw [h1]; trivial
theorem nodup_at {r : List Addr} (h : r.Nodup) {i j : Nat} {a : Addr} (e1 : r[i]? = some a) (e2 : r[j]? = some a) : i = j := by
  obtain ⟨h1, q1⟩ := List.getElem?_eq_some_iff.mp e1
  obtain ⟨h2, q2⟩ := List.getElem?_eq_some_iff.mp e2
  exact (List.getElem_inj h).mp (q1.trans q2.symm)
theorem SI.cell {K : PySem.W.Frag} {M : Addr} {G0 : Hp} {r0 : List Addr} {H0 : Hp} {G : Hp} {r : List Addr} {H : Hp} {cs : List C} {env : List SV} {σ : L2.St} (s : SI K L M G0 r0 H0 G r cs env σ H) {c : Nat} {k k' : C} {a : Addr} {x : HO}
    (e : cs[c]? = some k) (ea : r[c]? = some a) (n : CellR K L G r (upd H a x) a k') (h0 : Fr H0 a ∨ a ∈ r0) : SI K L M G0 r0 H0 G r (cs.set c k') env σ (upd H a x) := by
  have hm : Mt3 (H a) := by
    obtain ⟨b, q1, _, q3⟩ := s.sep.cell c k e
    rw [ea] at q1
    cases q1
    exact q3.mt
  have ga : G a = none := (s.sep.mem (List.mem_of_getElem? ea)).1
  have hc : c < cs.length := (List.getElem?_eq_some_iff.mp e).1
  refine ⟨⟨s.go.g, s.go.gf, s.go.rr, fun b o hb hr ht => ?_, fun b hb => ?_⟩, ⟨fun b o h => by rw [upd_ne (ne_of_none h ga)]; exact s.sep.same b o h, s.sep.nod, by simpa using s.sep.len, fun i k2 ek => ?_, Mt3.tabs s.sep.tabs hm, s.sep.gt, s.sep.lat⟩, ⟨s.er.len, fun j sv e2 => ?_, s.er.sep⟩, s.own, s.me⟩
  · have ne : b ≠ a := fun z => by
      subst z
      rcases h0 with q | q
      · exact nFr hb ht q
      · exact hr q
    rw [upd_ne ne]; exact s.go.keep b o hb hr ht
  · by_cases z : b = a
    · subst z; exact n.some
    · rw [Fr.upd z]; exact s.go.dom b hb
  · by_cases ec : c = i
    · subst ec
      rw [List.getElem?_set_self hc] at ek
      cases ek
      exact ⟨a, ea, ga, n⟩
    · rw [List.getElem?_set_ne ec] at ek
      obtain ⟨b, q1, q2, q3⟩ := s.sep.cell i k2 ek
      have ne : b ≠ a := fun z => ec (nodup_at s.sep.nod ea (z ▸ q1))
      have := CellR.mono (t := []) (Same.refl G) (H' := upd H a x) (by rw [upd_ne ne]) q3
      exact ⟨b, q1, q2, by simpa using this⟩
  · refine (s.er.get j sv e2).upd_other fun o2 z => ?_
    obtain ⟨b, q1, _, _, q4⟩ := (s.er.get j sv e2).at o2
    rw [z] at q1
    cases q1
    exact q4 (List.mem_of_getElem? ea)
theorem SI.old {K : PySem.W.Frag} {M : Addr} {G0 : Hp} {r0 : List Addr} {H0 : Hp} {G : Hp} {r : List Addr} {H : Hp} {cs : List C} {env : List SV} {σ : L2.St} (s : SI K L M G0 r0 H0 G r cs env σ H) {c : Nat} {a : Addr} (ea : r[c]? = some a) : Fr H0 a ∨ a ∈ r0 := by
  obtain ⟨t, e, ht⟩ := s.go.rr
  have hm := List.mem_of_getElem? ea
  rw [e] at hm
  rcases List.mem_append.mp hm with q | q
  · exact .inr q
  · exact .inl (ht a q)
theorem ref_cell {K : PySem.W.Frag} {G : Hp} {r : List Addr} {H : Hp} {cs : List C} {c : Nat} {v : V} {ds : List D} (s : Sep K L G r cs H) (h : Rep K L G r (.ref c) v) (e : cs[c]? = some (.lst ds)) : ∃ a vs, v = .ref a ∧ r[c]? = some a ∧ H a = some (.lst vs) ∧ Reps K L G r ds vs := by
  cases h with
  | ref hr =>
    obtain ⟨a, h1, h2, vs, h3, h4⟩ := s.cell c _ e
    rw [hr] at h1
    cases h1
    exact ⟨_, vs, rfl, hr, h3, h4⟩
theorem setD_some {cs cs' : List C} {x y d : D} (e : setD cs x y d = some cs') : ∃ c n ds j, x = .ref c ∧ y = .int n ∧ cs[c]? = some (.lst ds) ∧ ixN ds.length n = some j ∧ cs' = cs.set c (.lst (ds.set j d)) := by
  unfold setD at e
  split at e
  · rename_i c n
    split at e
    · rename_i ds q
      cases e3 : ixN ds.length n with
      | none => rw [e3] at e; cases e
      | some j => rw [e3] at e; cases e; exact ⟨c, n, ds, j, rfl, rfl, q, e3, rfl⟩
    · cases e
  · cases e
theorem appD_some {cs cs' : List C} {x d : D} (e : appD cs x d = some cs') : ∃ c ds, x = .ref c ∧ cs[c]? = some (.lst ds) ∧ ds.length < LIM ∧ cs' = cs.set c (.lst (ds ++ [d])) := by
  unfold appD at e
  split at e
  · split at e
    · rename_i ds q
      obtain ⟨h, e⟩ := ite_some e
      exact ⟨_, ds, rfl, q, h, e⟩
    · cases e
  · cases e
theorem isLstC_of {cs : List C} {x : D} (e : isLstC cs x = true) : ∃ c ds, x = .ref c ∧ cs[c]? = some (.lst ds) := by
  unfold isLstC at e
  split at e
  · split at e
    · rename_i ds q; exact ⟨_, ds, rfl, q⟩
    · cases e
  · cases e
theorem sS_setIx {o b e : Expr} {to tb t : T} {tpos : Pos} (ho : PE X o (tE X.K L P W to)) (hb : PE X b (tE X.K L P W tb)) (he : PE X e (tE X.K L P W t)) (hs : swapsWithSole [.Subscript o b tpos] e pos.line X.env = pure false) (hw : swappedStores [.Subscript o b tpos] e X.env = pure none)
    (ha : ∀ v, assign (.Subscript o b tpos) X.env v = (do
      let ov ← holding [v] (eval o X.env)
      let iv ← holding [v, ov] (eval b X.env)
      standAt tpos
      holding [v, ov, iv] (setItem ov iv v)
      release [v, ov, iv] [])) : PS X (.Assign [.Subscript o b tpos] e pos) (tS X.K L P W fu (.setIx to tb t)) := by
  refine PS.imp (ps_asg he (pg_sub ho hb set_list ha) hs hw rfl) fun D σ H ⟨M, G0, r0, H0, G, r, cs, env, s, h⟩ => ?_
  unfold evS at h
  refine ⟨G, r, cs, env, s.sep, s.er, FO.bindK (R := Rep X.K L) s h fun d cs1 v G1 r1 H1 _ g1 s1 rd si hf => ?_⟩
  refine ⟨G1, r1, cs1, env, s1, si.er, FO.bindK (R := Rep X.K L) si hf fun x cs2 w G2 r2 H2 _ g2 s2 rx si2 hf2 => ?_⟩
  refine ⟨G2, r2, cs2, env, s2, si2.er, FO.bindK (R := Rep X.K L) si2 hf2 fun y cs3 u G3 r3 H3 _ g3 s3 ry si3 hf3 => ?_⟩
  cases e1 : setD cs3 x y d with
  | none => rw [e1] at hf3; exact hf3.elim
  | some cs4 =>
    rw [e1] at hf3
    obtain ⟨c, n, ds, j, rfl, rfl, e2, e3, rfl⟩ := setD_some e1
    obtain ⟨a, vs, rfl, ea, h1, h2⟩ := ref_cell s3 (rx.go g3) e2
    refine ⟨a, vs, n, j, rfl, ry.int_of, h1, by rw [← h2.length]; exact e3, ?_⟩
    exact hf3 G3 r3 σ _ (si3.cell e2 ea ⟨_, upd_same, Reps.set ((rd.go g2).go g3) j h2⟩ (si3.old ea)) (Same.refl _) ⟨[], by simp⟩
theorem sS_appC {o e : Expr} {to t : T} {apos cpos : Pos} (ho : PE X o (tE X.K L P W to)) (he : PE X e (tE X.K L P W t)) (hst : isStar e = false) (hcall : isCall0 o = false) (hline : (apos.endLine == cpos.line) = true) :
    PS X (.Expr (.Call (.Attribute o "append" apos) [e] [] cpos) pos) (tS X.K L P W fu (.appC to t)) := by
  refine PS.imp (ps_expr (pe_bm PySem.F.plainAttrs_list PySem.F.slot_list_append PySem.F.type_list_append mt_append ho (pa_cons he pa_nil (star_ok hst)) (attr_ok hcall) (by rw [star_ok hst]; rfl) hline (star_ok hst)) (swaps_ok rfl)) fun D σ H ⟨M, G0, r0, H0, G, r, cs, env, s, h⟩ => ?_
  unfold evS at h
  refine ⟨G, r, cs, env, s.sep, s.er, FO.bindK (R := Rep X.K L) s h fun x cs1 v G1 r1 H1 _ g1 s1 rx si hf => ?_⟩
  cases e0 : isLstC cs1 x with
  | false => rw [e0] at hf; exact hf.elim
  | true =>
    rw [e0] at hf
    obtain ⟨c, ds0, rfl, q0⟩ := isLstC_of e0
    obtain ⟨a, vs, rfl, ea, h1, h2⟩ := ref_cell s1 rx q0
    refine ⟨.inl ⟨rfl, vs, SqL.of h1⟩, G1, r1, cs1, env, s1, si.er, FO.bindK (R := Rep X.K L) si hf fun d cs2 w G2 r2 H2 _ g2 s2 rd si2 hf2 => ?_⟩
    cases e1 : appD cs2 (.ref c) d with
    | none => rw [e1] at hf2; exact hf2.elim
    | some cs3 =>
      rw [e1] at hf2
      obtain ⟨c', ds, ec, q, hl, rfl⟩ := appD_some e1
      cases ec
      obtain ⟨a', vs', ev, ea', k1, k2⟩ := ref_cell s2 (rx.go g2) q
      cases ev
      refine ⟨a, vs', w, rfl, rfl, k1, by rw [← k2.length]; exact Nat.lt_of_lt_of_le hl (by decide), ?_⟩
      exact hf2 G2 r2 σ _ (si2.cell q ea' ⟨_, upd_same, k2.append (.one rd)⟩ (si2.old ea')) (Same.refl _) ⟨[], by simp⟩
end
end XV
set_option Elab.async false
set_option linter.all false
set_option autoImplicit false
set_option maxRecDepth 100000
namespace XV
open PySem PySem.Spec PyProof.Rows L2

def spF (K : PySem.W.Frag) (L : Lay) (f : List D → List C → Out D) : Sp := fun vs H Q E => ∃ G r cs ds, Sep K L G r cs H ∧ Reps K L G r ds vs ∧ KO K L (Rep K L) E G r H (f ds cs) Q

section
variable {X : Cx} {L : Lay} {P : Cfg} {W : WX} {k : Nat} {f : Addr} {fd : FuncData} {ps : List Str} {pos : Pos}
theorem sE_call {n : Nat} {x : Str} {p : Pos} {e : Expr} {es : List Expr} {ts : Ts} (F : FnOk X.prog X.w X.K X.mg X.base (L2.CX X.prog X.w) k f fd ps (spF X.K L (P.call n))) (hr : Room k X.A) (hg : Gl X x) (hm : X.mg x = some (.ref f)) (hk : PySem.W.keepIn X.K (.ref f) = true) (hb : Binds X.K fd ps [])
    (tk : Takes X W) (ha : PA X (e :: es) (tTs X.K L P W ts)) (hdb : (x == ("__debug__" : Str)) = false) (he : starEach (e :: es) X.env = (false, eval e X.env) :: starEach es X.env) (hpl : (backTo pos (starEach es X.env)).any (·.1) = false) :
    PE X (.Call (.Name x p) (e :: es) [] pos) (tE X.K L P W (.call n ts)) := by
  refine PE.imp (pe_callSD F hr hg hm hk hb .nil (passAt tk) ha hdb he hpl) fun σ H Q ⟨G, r, cs, env, s, er, h⟩ => ?_
  unfold evE at h
  exact ⟨G, r, cs, env, s, er, KO.bind h fun ds cs1 _ vs G' r' H' go s' rs ko => ⟨G', r', cs1, ds, s', by simpa using rs, ko⟩⟩
end

theorem Reps.to_env {K : PySem.W.Frag} {L : Lay} {G : Hp} {r : List Addr} {H : Hp} {ds : List D} {vs : List V} (q : Reps K L G r ds vs) (n : Nat) : EnvR K L G r H (ds.map .d ++ List.replicate n .un) (vs.map some ++ List.replicate n none) := by
  have hl := q.length
  refine ⟨by simp [hl], fun i sv e => ?_, fun i j sv sv' a _ e o => ?_⟩
  · by_cases hi : i < ds.length
    · rw [List.getElem?_append_left (by simpa using hi)] at e
      rw [List.getElem?_append_left (by rw [List.length_map, ← hl]; exact hi)]
      · rw [List.getElem?_map] at e
        cases e1 : ds[i]? with
        | none => rw [e1] at e; cases e
        | some d =>
          rw [e1] at e
          cases e
          obtain ⟨v, h1, h2⟩ := q.get e1
          rw [List.getElem?_map, h1]
          exact ⟨v, rfl, h2⟩
    · rw [List.getElem?_append_right (by simpa using hi)] at e
      rw [List.getElem?_replicate] at e
      split at e
      · cases e; trivial
      · cases e
  · have : sv = .un ∨ ∃ d, sv = .d d := by
      have hm := List.mem_of_getElem? e
      rcases List.mem_append.mp hm with q | q
      · obtain ⟨d, _, rfl⟩ := List.mem_map.mp q; exact .inr ⟨d, rfl⟩
      · exact .inl (List.eq_of_mem_replicate q)
    rcases this with rfl | ⟨d, rfl⟩ <;> cases o

section
variable {P : Program} {w : World} {K : PySem.W.Frag} {mg : Str → Option Value} {base : Heap} {L : Lay}
theorem SI.start {M : Addr} {G : Hp} {r : List Addr} {H : Hp} {cs : List C} {ds : List D} {vs : List V} (s : Sep K L G r cs H) (q : Reps K L G r ds vs) (n : Nat) : SI K L M G r H G r cs (ds.map .d ++ List.replicate n .un) (vs.map some ++ List.replicate n none) H := by
  refine ⟨Go.refl G r H, s, q.to_env n, fun i sv a e o _ => ?_, fun c ks ds' e => ?_⟩
  · have hm := List.mem_of_getElem? e
    rcases List.mem_append.mp hm with q | q
    · obtain ⟨d, _, rfl⟩ := List.mem_map.mp q; cases o
    · cases List.eq_of_mem_replicate q; cases o
  · have hm := List.mem_of_getElem? e
    rcases List.mem_append.mp hm with q | q
    · obtain ⟨d, _, z⟩ := List.mem_map.mp q; cases z
    · cases List.eq_of_mem_replicate q
theorem FO.fin {M : Addr} {G : Hp} {r : List Addr} {H : Hp} {fl : Fl} {Q : VK} {E : XK} (h : KO K L (Rep K L) E G r H (XV.ends fl) Q) : FO K L M (fun cls d _ H => E cls d H) G r H G r fl { nx := fun _ H' => Q .non H', rt := Q } := by
  cases fl with
  | nx env cs => exact fun G' r' σ' H' s _ _ => h .non G' r' H' s.go s.sep .non
  | ret d cs => exact h
  | exc c ds cs => exact fun cls dd σ' G' r' H' g s q => h cls dd G' r' H' g s q
  | brk env cs => exact h.elim
  | cnt env cs => exact h.elim
  | bad => exact h.elim
theorem fnOk_of {x qual : Str} {st : Stmt} {f : Addr} {fd : FuncData} {N ps : List Str} {k i : Nat} {p : Prog} {fn : Fn} (F : Fun K x qual st f fd) (S : FnScope N ps (defScope st)) (hfn : p.fns[i]? = some fn) (hnp : fn.np = ps.length) (hns : fn.ns = N.length)
    (hbody : ∀ (cdv : Value) (A : Around) (outer : List Env) (s : Shared) (H : Hp) (E : XK), Room k (A.deeper (envOfC qual (defScope st) s.heap.objs.size f cdv)) →
      PSs (cxOf (L2.CX P w) P w K mg base N qual (defScope st) f cdv A outer s H E) (defBody st) (tSs K L (p.cfg (p.run k)) (fun cls d _ H => E cls d H) p.fu fn.body)) :
    FnOk P w K mg base (L2.CX P w) (k + 1) f fd ps (spF K L (p.run (k + 1) false i)) := by
  refine F.okX S (fun vs H Q E ⟨G, r, cs, ds, s, q, h⟩ => ?_) fun cdv A outer s H vs Q E hr ⟨G, r, cs, ds, sp, q, h⟩ => ⟨_, hbody cdv A outer s H E hr, ?_⟩
  · unfold Prog.run at h
    simp only [hfn] at h
    by_cases hl : ds.length = fn.np
    · rw [← q.length, hl, hnp]
    · rw [if_neg hl] at h; exact h.elim
  · unfold Prog.run at h
    simp only [hfn] at h
    by_cases hl : ds.length = fn.np
    · rw [if_pos hl] at h
      have e : fn.ns - fn.np = N.length - vs.length := by rw [hns, ← hl, q.length]
      refine ⟨0, G, r, H, G, r, cs, _, ?_, FO.fin h⟩
      unfold start L2.start
      rw [e]
      exact SI.start sp q _
    · rw [if_neg hl] at h; exact h.elim
theorem fnOk_zero {f : Addr} {fd : FuncData} {ps : List Str} {i : Nat} {p : Prog} {CX : CXT} : FnOk P w K mg base CX 0 f fd ps (spF K L (p.run 0 false i)) :=
  ⟨fun _ _ _ _ ⟨_, _, _, _, _, _, h⟩ => h.elim, fun _ _ _ _ _ _ _ _ _ _ _ _ _ ⟨_, _, _, _, _, _, h⟩ => h.elim⟩
end
end XV
set_option Elab.async false
set_option linter.all false
set_option autoImplicit false
set_option maxRecDepth 100000
namespace XV
open PySem PySem.Spec PyProof.Rows L2

def DTY : List String := ["NoneType", "bool", "int", "str", "tuple", "list", "dict"]
def BTY : List String := ["bool", "int", "str", "tuple", "list", "dict"]
def ty2 (n m : String) : Bool := n == m || (n == "bool" && m == "int")
theorem kit_all : ∀ n ∈ DTY, ∀ m ∈ BTY, kitB n m = some (ty2 n m) := by decide +kernel
theorem tyB_cons {n m : String} {ms : List String} : tyB n (m :: ms) = (ty2 n m || tyB n ms) := rfl
theorem kitAny_ok {K : PySem.W.Frag} {n : String} (hn : n ∈ DTY) : ∀ (ms : List String), (∀ m ∈ ms, m ∈ BTY) → PySem.W.kitAny K (.type n) (ms.map .type) = some (tyB n ms)
  | [], _ => kitAny_nil
  | m :: ms, h => by
    refine kitAny_cons (kit_ty (kit_all n hn m (h m (by simp)))) (fun e => ?_) fun e => ?_
    · rw [tyB_cons, e, Bool.false_or]; exact kitAny_ok hn ms fun m hm => h m (by simp [hm])
    · rw [tyB_cons, e]; rfl
section
variable {K : PySem.W.Frag} {L : Lay} {G : Hp} {r : List Addr} {H : Hp} {cs : List C} {x : D} {v : V}
theorem tyN_mem {n : String} (e : tyN cs x = some n) : n ∈ DTY := by
  unfold tyN at e
  split at e <;> first
    | (cases e; decide)
    | (split at e <;> first | (cases e; decide) | cases e)
    | cases e
theorem sqt_ty {a : Addr} {vs : List V} (h : SqT K H a vs) : TyX K H (.ref a) (.type "tuple") := by
  rcases h with (h | ⟨o, h⟩) | ⟨o, its, n, h1, h2, _⟩
  · exact .base (.tup h)
  · exact .fTuple h
  · exact .kTuple h1 h2
theorem tyN_ok {n : String} (s : Sep K L G r cs H) (h : Rep K L G r x v) (e : tyN cs x = some n) : TyX K H v (.type n) := by
  cases x with
  | non => cases e; cases h; exact .base .non
  | bl b => cases e; cases h; exact .base (.bl b)
  | int i => cases e; cases h; exact .base (.int i)
  | str y => cases e; cases h; exact .base (.str _)
  | tup y => cases e; obtain ⟨a, vs, rfl, h1, _⟩ := tup_of s h; exact sqt_ty h1
  | lst y => cases e; cases h with
    | lst h1 _ => exact .base (.lst (s.same _ _ h1))
  | dct ks y => cases e; cases h with
    | dct h1 _ _ _ => exact .base (.dK (s.same _ _ h1))
  | dctT ks y => cases e; cases h with
    | dctT h1 _ _ _ => exact .base (.dT (s.same _ _ h1))
  | obj c ks y => cases e
  | err c ks y => cases e
  | scr ns => cases e
  | ref c =>
    cases h with
    | ref hr =>
      cases ec : cs[c]? with
      | none => simp only [tyN, ec] at e; cases e
      | some k =>
        obtain ⟨a, h1, h2, h3⟩ := s.cell c _ ec
        rw [hr] at h1
        cases h1
        cases k with
        | lst ds => simp only [tyN, ec] at e; cases e; obtain ⟨vs, q, _⟩ := h3; exact .base (.lst q)
        | dct ks ds => simp only [tyN, ec] at e; cases e; obtain ⟨vs, q, _⟩ := h3; exact .base (.dK q)
        | ins c ks ds => simp only [tyN, ec] at e; cases e
end
def tK (vs : List V) : TA := fun _ H Q => Q vs H
theorem paired_ty : ∀ (ms : List String), Paired ClsV (ms.map V.ty) (ms.map Value.type)
  | [] => .nil
  | m :: ms => .cons (.ty m) (paired_ty ms)
section
variable {X : Cx} {L : Lay} {P : Cfg} {W : WX} {pos p : Pos} {a : Expr} {t : T}
theorem pe_tyN {y m : Str} {m' : String} (hg : Gl X y) (hm : X.mg y = none) (hv : bootBuiltins y = some (.type m')) (hn : y ≠ "__name__") (hd : (y == ("__debug__" : Str)) = false) : PE X (.Name y p) (tC (.ty m')) :=
  pe_bltn hg hm hv rfl hn hd
theorem pa_tys {e : Expr} {es : List Expr} {m : String} {ms : List String} (h : PE X e (tC (.ty m))) (hs : PA X es (tK (ms.map .ty))) (hst : isStar e = false) : PA X (e :: es) (tK ((m :: ms).map .ty)) :=
  PA.imp (pa_cons h hs (star_ok hst)) fun _ _ _ q => q
theorem sE_isi {c : Expr} {m : String} (hg : Gl X "isinstance") (hm : X.mg "isinstance" = none) (ha : PE X a (tE X.K L P W t)) (hc : PE X c (tC (.ty m))) (hs1 : isStar a = false) (hs2 : isStar c = false) (hb : BTY.contains m = true) : PE X (.Call (.Name "isinstance" p) [a, c] [] pos) (tE X.K L P W (.isi t [m])) := by
  refine PE.imp (pe_callB call_isi hg hm (by decide +kernel) (pa_cons ha (pa_cons hc pa_nil (star_ok hs2)) (star_ok hs1)) (by decide) (by decide) (star_ok hs1) (by rw [star_ok hs2]; rfl)) fun σ H Q ⟨G, r, cs, env, s, er, k⟩ => ?_
  unfold evE at k
  refine ⟨G, r, cs, env, s, er, k.bind fun d cs1 _ v G1 r1 H1 g1 s1 rx k1 => ?_⟩
  obtain ⟨b, e, k2⟩ := k1.some_of
  unfold isiD at e
  cases e1 : tyN cs1 d with
  | none => rw [e1] at e; cases e
  | some n =>
    rw [e1] at e
    cases e
    refine ⟨v, .ty m, .type n, .type m, tyB n [m], rfl, .ty m, tyN_ok s1 rx e1, ?_, k2.ok0 s1 (.bl _)⟩
    rw [kit_ty (kit_all n (tyN_mem e1) m (by simpa using hb))]
    simp [tyB, ty2]
theorem sE_isiT {es : List Expr} {ms : List String} {x1 : Nat} {p2 : Pos} (hg : Gl X "isinstance") (hm : X.mg "isinstance" = none) (ha : PE X a (tE X.K L P W t)) (hc : PA X es (tK (ms.map .ty))) (hs1 : isStar a = false) (hb : (ms.all BTY.contains) = true) (hl : ms.length ≤ 100) :
    PE X (.Call (.Name "isinstance" p) [a, .Tuple es x1 p2] [] pos) (tE X.K L P W (.isi t ms)) := by
  refine PE.imp (pe_callB call_isiT hg hm (by decide +kernel) (pa_cons ha (pa_cons (pe_tup hc) pa_nil (star_ok rfl)) (star_ok hs1)) (by decide) (by decide) (star_ok hs1) (by rw [star_ok (e := .Tuple es x1 p2) rfl]; rfl)) fun σ H Q ⟨G, r, cs, env, s, er, k⟩ => ?_
  unfold evE at k
  refine ⟨G, r, cs, env, s, er, k.bind fun d cs1 _ v G1 r1 H1 g1 s1 rx k1 => ?_⟩
  obtain ⟨b, e, k2⟩ := k1.some_of
  unfold isiD at e
  cases e1 : tyN cs1 d with
  | none => rw [e1] at e; cases e
  | some n =>
    rw [e1] at e
    cases e
    refine ⟨by rw [List.length_map]; exact Nat.le_trans hl (by decide), fun q hq => ?_⟩
    have g2 := Go.new s1 (.tup (ms.map V.ty)) hq
    refine ⟨v, q, _, .type n, ms.map .type, tyB n ms, rfl, upd_same, paired_ty ms, tyN_ok (s1.new _ hq) (rx.go g2) e1, kitAny_ok (tyN_mem e1) ms fun m hm => ?_, k2 _ _ _ _ g2 (s1.new _ hq) (.bl _)⟩
    have := List.all_eq_true.mp hb m hm
    simpa using this
end
end XV
set_option Elab.async false
set_option linter.all false
set_option autoImplicit false
set_option maxRecDepth 100000
namespace XV
open PySem PySem.Spec PyProof.Rows L2

section
variable {K : PySem.W.Frag} {L : Lay} {M : Addr} {W : WX} {G0 : Hp} {r0 : List Addr} {H0 : Hp} {G G' : Hp} {r r' : List Addr} {H H' : Hp} {cs cs' : List C} {env env' : List SV} {σ σ' : L2.St} {D : Ends}
theorem FO.bindM {o : Out SV} {f : SV → List C → Fl} {Q : VK} (s : SI K L M G0 r0 H0 G r cs env σ H) (h : FO K L M W G0 r0 H0 G r (o.toF f) D)
    (k : ∀ sv cs' v G' r' H', Go G r H G' r' H' → Sep K L G' r' cs' H' → SvR K L G' r' H' (some (some v)) sv → (∀ a, v = .ref a → isOwn sv = true → Fr H a) → o = .ok sv cs' → SI K L M G0 r0 H0 G' r' cs' env σ H' → FO K L M W G0 r0 H0 G' r' (f sv cs') D → Q v H') : KM K L (wE W σ) G r H o Q := by
  cases o with
  | ok a cs' => exact fun v G' r' H' g s' q fr => k a cs' v G' r' H' g s' q fr rfl (s.step g s') (FO.mono h g.g g.pre)
  | exc c ds cs' => exact fun cls dd G' r' H' g s' q => h cls dd σ G' r' H' (s.go.trans g) s' q
  | bad => exact h
theorem SI.fresh (s : SI K L M G0 r0 H0 G r cs env σ H) {a : Addr} (hn : Fr H a) : Fr H0 a ∧ ∀ (j : Nat) (sv2 : SV), env[j]? = some sv2 → isOwn sv2 = true → σ[j]? ≠ some (some (V.ref a)) := by
  refine ⟨?_, fun j sv2 e2 o2 z => ?_⟩
  · exact Classical.byContradiction fun q => s.go.dom a q hn
  · obtain ⟨b, q1, q2, _⟩ := (s.er.get j sv2 e2).at o2
    rw [z] at q1
    cases q1
    exact Mt3.nf q2.1 q2.2 hn
theorem SI.give2 {i j : Nat} {x y : SV} {v w : V} (s : SI K L M G0 r0 H0 G r cs env σ H) (hi : i < env.length) (hj : j < env.length) (n : SvR K L G r H (some (some v)) x) (m : SvR K L G r H (some (some w)) y) (nI : ∀ c ks ds, x ≠ .ownI c ks ds) (mI : ∀ c ks ds, y ≠ .ownI c ks ds)
    (fx : ∀ a, v = .ref a → isOwn x = true → Fr H0 a ∧ ∀ (j : Nat) (sv2 : SV), env[j]? = some sv2 → isOwn sv2 = true → σ[j]? ≠ some (some (V.ref a)))
    (fy : ∀ a, w = .ref a → isOwn y = true → (Fr H0 a ∧ ∀ (j : Nat) (sv2 : SV), env[j]? = some sv2 → isOwn sv2 = true → σ[j]? ≠ some (some (V.ref a))) ∧ (isOwn x = true → v ≠ .ref a)) :
    SI K L M G0 r0 H0 G r cs ((env.set i x).set j y) ((σ.set i (some v)).set j (some w)) H := by
  have s1 := s.give hi n fx nI
  refine s1.give (by simpa using hj) m (fun a ea oa => ?_) mI
  obtain ⟨⟨h1, h2⟩, h3⟩ := fy a ea oa
  refine ⟨h1, fun k sv2 e2 o2 => ?_⟩
  by_cases ek : i = k
  · subst ek
    rw [List.getElem?_set_self hi] at e2
    cases e2
    rw [List.getElem?_set_self (by rw [← s.er.len]; exact hi)]
    intro z
    exact h3 o2 (Option.some.inj (Option.some.inj z))
  · rw [List.getElem?_set_ne ek] at e2 ⊢
    exact h2 k sv2 e2 o2
theorem own_some {v : V} {x : SV} (n : SvR K L G r H (some (some v)) x) (o : isOwn x = true) {a : Addr} (e : v = .ref a) : ¬ Fr H a := by
  obtain ⟨b, q1, q2, _⟩ := n.at o
  subst e
  cases q1
  exact Mt3.nf q2.1 q2.2
end
section
variable {X : Cx} {L : Lay} {P : Cfg} {W : WX} {fu : Nat} {pos : Pos}
theorem sS_par {i j : Nat} {x y : Str} {a b : Expr} {p q : Pm} {px py pt : Pos} {kt k2 : Nat} {pt2 : Pos} (hc : X.calm = true) (hN : X.N.Nodup) (hi : X.N[i]? = some x) (hj : X.N[j]? = some y) (hij : i ≠ j)
    (hx : X.env.scope.names.lookup x = some .local) (hy : X.env.scope.names.lookup y = some .local) (ha : PE X a (tM X.K L P W p)) (hb : PE X b (tM X.K L P W q)) (h1 : isStar a = false) (h2 : isStar b = false)
    (hw : swappedStores [.Tuple [.Name x px, .Name y py] kt pt] (.Tuple [a, b] k2 pt2) X.env = pure (some [x, y]))
    (hs : swapsWithSole [.Tuple [.Name x px, .Name y py] kt pt] (.Tuple [a, b] k2 pt2) pos.line X.env = pure false) :
    PS X (.Assign [.Tuple [.Name x px, .Name y py] kt pt] (.Tuple [a, b] k2 pt2) pos) (tS X.K L P W fu (.par i j p q)) := by
  refine PS.imp (ps_par hc hN hi hj hij hx hy (pa_cons ha (pa_cons hb pa_nil (star_ok h2)) (star_ok h1)) hw hs) fun D σ H ⟨M, G0, r0, H0, G, r, cs, env, s, h⟩ => ?_
  unfold evS at h
  refine ⟨G, r, cs, env, s.sep, s.er, FO.bindM s h fun x1 cs1 v G1 r1 H1 g1 s1 n1 f1 i1 si hf => ?_⟩
  refine ⟨G1, r1, cs1, env, s1, si.er, FO.bindM si hf fun x2 cs2 w G2 r2 H2 g2 s2 n2 f2 i2 si2 hf2 => ?_⟩
  by_cases hl : i < env.length ∧ j < env.length
  · rw [if_pos hl] at hf2
    refine ⟨v, w, rfl, hf2 G2 r2 _ H2 (si2.give2 hl.1 hl.2 (n1.go g2) n2 (evPm_noI i1) (evPm_noI i2) (fun a ea oa => s.fresh (f1 a ea oa)) fun a ea oa => ⟨si.fresh (f2 a ea oa), fun o1 e1 => own_some n1 o1 e1 (f2 a ea oa)⟩) (Same.refl _) ⟨[], by simp⟩⟩
  · rw [if_neg hl] at hf2; exact hf2.elim
theorem sS_par3 {i j l : Nat} {x y z : Str} {a b c : Expr} {p q u : Pm} {px py pz pt : Pos} {kt k2 : Nat} {pt2 : Pos} (hc : X.calm = true) (hN : X.N.Nodup) (hi : X.N[i]? = some x) (hj : X.N[j]? = some y) (hl : X.N[l]? = some z) (hij : i ≠ j) (hil : i ≠ l) (hjl : j ≠ l)
    (hx : X.env.scope.names.lookup x = some .local) (hy : X.env.scope.names.lookup y = some .local) (hz : X.env.scope.names.lookup z = some .local) (ha : PE X a (tM X.K L P W p)) (hb : PE X b (tM X.K L P W q)) (hu : PE X c (tM X.K L P W u)) (h1 : isStar a = false) (h2 : isStar b = false) (h3 : isStar c = false)
    (hw : swappedStores [.Tuple [.Name x px, .Name y py, .Name z pz] kt pt] (.Tuple [a, b, c] k2 pt2) X.env = pure (some [x, y, z]))
    (hs : swapsWithSole [.Tuple [.Name x px, .Name y py, .Name z pz] kt pt] (.Tuple [a, b, c] k2 pt2) pos.line X.env = pure false) :
    PS X (.Assign [.Tuple [.Name x px, .Name y py, .Name z pz] kt pt] (.Tuple [a, b, c] k2 pt2) pos) (tS X.K L P W fu (.par3 i j l p q u)) := by
  refine PS.imp (ps_par3 hc hN hi hj hl hij hil hjl hx hy hz (pa_cons ha (pa_cons hb (pa_cons hu pa_nil (star_ok h3)) (star_ok h2)) (star_ok h1)) hw hs) fun D σ H ⟨M, G0, r0, H0, G, r, cs, env, s, h⟩ => ?_
  unfold evS at h
  refine ⟨G, r, cs, env, s.sep, s.er, FO.bindM s h fun x1 cs1 v G1 r1 H1 g1 s1 n1 f1 i1 si hf => ?_⟩
  refine ⟨G1, r1, cs1, env, s1, si.er, FO.bindM si hf fun x2 cs2 w G2 r2 H2 g2 s2 n2 f2 i2 si2 hf2 => ?_⟩
  refine ⟨G2, r2, cs2, env, s2, si2.er, FO.bindM si2 hf2 fun x3 cs3 w3 G3 r3 H3 g3 s3 n3 f3 i3 si3 hf3 => ?_⟩
  by_cases hb : i < env.length ∧ j < env.length ∧ l < env.length
  · rw [if_pos hb] at hf3
    have fa : ∀ a, v = .ref a → isOwn x1 = true → _ := fun a ea oa => s.fresh (f1 a ea oa)
    have fb : ∀ a, w = .ref a → isOwn x2 = true → _ := fun a ea oa => And.intro (si.fresh (f2 a ea oa)) fun o1 e1 => own_some n1 o1 e1 (f2 a ea oa)
    have s5 := si3.give2 hb.1 hb.2.1 ((n1.go g2).go g3) (n2.go g3) (evPm_noI i1) (evPm_noI i2) fa fb
    refine ⟨v, w, w3, rfl, hf3 G3 r3 _ H3 (s5.give (by simpa using hb.2.2) n3 (fun a ea oa => ?_) (evPm_noI i3)) (Same.refl _) ⟨[], by simp⟩⟩
    have hn := f3 a ea oa
    obtain ⟨k1, k2⟩ := si2.fresh hn
    refine ⟨k1, fun k sv2 e2 o2 => ?_⟩
    have hσ : ∀ m, m < env.length → m < σ.length := fun m hm => by rw [← s.er.len]; exact hm
    by_cases ek : j = k
    · subst ek
      rw [List.getElem?_set_self (by simpa using hb.2.1)] at e2
      cases e2
      rw [List.getElem?_set_self (by simpa using hσ _ hb.2.1)]
      intro z0
      exact own_some n2 o2 (Option.some.inj (Option.some.inj z0)) hn
    · rw [List.getElem?_set_ne ek] at e2 ⊢
      by_cases ei : i = k
      · subst ei
        rw [List.getElem?_set_self (by simpa using hb.1)] at e2
        cases e2
        rw [List.getElem?_set_self (by simpa using hσ _ hb.1)]
        intro z0
        exact own_some (n1.go g2) o2 (Option.some.inj (Option.some.inj z0)) hn
      · rw [List.getElem?_set_ne ei] at e2 ⊢
        exact k2 k sv2 e2 o2
  · rw [if_neg hb] at hf3; exact hf3.elim
end
end XV
set_option Elab.async false
set_option linter.all false
set_option autoImplicit false
set_option maxRecDepth 100000
namespace XV
open PySem PySem.Spec PyProof.Rows L2

section
variable {X : Cx} {L : Lay} {P : Cfg} {W : WX} {fu : Nat} {pos : Pos}
theorem pk_some {α β : Type} {i : Nat} {env : List SV} {cs : List C} {K : PySem.W.Frag} {R : Hp → List Addr → α → β → Prop} {E : XK} {G : Hp} {r : List Addr} {H : Hp} {f : D → List C → Out α} {Q : β → Hp → Prop} (k : KO K L R E G r H ((evE P (.pk i) env cs).bind f) Q) :
    (∃ d, env[i]? = some (.d d) ∧ KO K L R E G r H (f d cs) Q) ∨ ∃ ds, env[i]? = some (.own ds) ∧ KO K L R E G r H (f (.lst ds) cs) Q := by
  unfold evE at k
  cases e1 : env[i]? with
  | none => rw [e1] at k; exact k.elim
  | some sv =>
    rw [e1] at k
    cases sv <;> first | exact k.elim | exact .inl ⟨_, rfl, k⟩ | exact .inr ⟨_, rfl, k⟩
theorem sE_ixO (hu : X.A.units + 100 < cLine) {i : Nat} {x : Str} {b : Expr} {tb : T} {p1 : Pos} (hN : X.N[i]? = some x) (hv : Vis X.env.scope x) (hd : (x == ("__debug__" : Str)) = false) (hcd : (x == ("__classdict__" : Str)) = false)
    (hb : PE X b (tE X.K L P W tb)) (hs : isSlice b = false) : PE X (.Subscript (.Name x p1) b pos) (tE X.K L P W (.ix (.pk i) tb)) := by
  refine PE.imp (pe_ix (ix_seq.or (ix_dict (by omega))) (pe_var hN hv hd hcd) hb (plainIx_ok hs)) fun σ H Q ⟨G, r, cs, env, s, er, k⟩ => ?_
  have k : KO X.K L (Rep X.K L) (wE W σ) G r H ((evE P (.pk i) env cs).bind fun x cs1 => (evE P tb env cs1).bind fun y cs2 => ofO (ixD cs2 x y) cs2) Q := by
    have k2 := k; unfold evE at k2; exact k2
  rcases pk_some k with ⟨d, e, k1⟩ | ⟨ds, e, k1⟩
  · obtain ⟨v, q, rx⟩ := er.get i _ e
    refine ⟨v, q, G, r, cs, env, s, er, k1.bind fun y cs2 _ w G2 r2 H2 g2 s2 ry k2 => ?_⟩
    exact r_ix s2 (rx.go g2) ry k2
  · obtain ⟨a, vs, q, _⟩ := er.get i _ e
    refine ⟨.ref a, q, G, r, cs, env, s, er, k1.bind fun y cs2 _ w G2 r2 H2 g2 s2 ry k2 => ?_⟩
    obtain ⟨a', vs2, q', h1, h2, h3, h4⟩ := (er.go g2).get i _ e
    rw [q] at q'
    cases q'
    obtain ⟨d, e2, k3⟩ := k2.some_of
    cases y <;> first | (cases e2; done) | skip
    rename_i n _
    obtain ⟨u, h5, h6⟩ := atI_rep h4 (show atI ds n = some d from e2)
    exact .inl (.inl ⟨a, vs2, n, u, rfl, ry.int_of, SqL.of h1, h5, k3.ok0 s2 h6⟩)
theorem sE_lenO {i : Nat} {x y : Str} {p1 p2 : Pos} (hN : X.N[i]? = some x) (hv : Vis X.env.scope x) (hd : (x == ("__debug__" : Str)) = false) (hcd : (x == ("__classdict__" : Str)) = false)
    (hg : Gl X "len") (hm : X.mg "len" = none) : PE X (.Call (.Name "len" p2) [.Name x p1] [] pos) (tE X.K L P W (.bi .len (.cons (.pk i) .nil))) := by
  refine PE.imp (pe_callB (call_len.or call_lenD) hg hm (by decide +kernel) (pa_cons (pe_var hN hv hd hcd) pa_nil) (by decide) (by decide)) fun σ H Q ⟨G, r, cs, env, s, er, k⟩ => ?_
  have k : KO X.K L (Rep X.K L) (wE W σ) G r H ((evE P (.pk i) env cs).bind fun x cs1 => ofO (lenD cs1 x) cs1) Q := by
    have k2 := k; unfold evE evTs evTs at k2
    cases e : evE P (.pk i) env cs with
    | ok d cs1 => rw [e] at k2; exact k2
    | exc c ds cs1 => rw [e] at k2; exact k2
    | bad => rw [e] at k2; exact k2
  rcases pk_some k with ⟨d, e, k1⟩ | ⟨ds, e, k1⟩
  · obtain ⟨v, q, rx⟩ := er.get i _ e
    obtain ⟨d2, e2, k2⟩ := k1.some_of
    refine ⟨v, q, ?_⟩
    rcases ok_len (wE W σ) G r H cs [d] [v] Q d2 s (.one rx) e2 k2 with ⟨x, n, e3, h1, h2⟩ | ⟨a, kvs, e3, h1, h2⟩
    · exact .inl ⟨x, n, e3, h1, h2⟩
    · exact .inr ⟨a, kvs, e3, h1, h2⟩
  · obtain ⟨a, vs, q, h1, _, _, h4⟩ := er.get i _ e
    refine ⟨.ref a, q, .inl ⟨.ref a, ds.length, rfl, .inl ⟨vs, SqL.of h1, h4.length⟩, ?_⟩⟩
    obtain ⟨d2, e2, k2⟩ := k1.some_of
    cases e2
    exact k2.ok0 s (.int _)
end
end XV
set_option Elab.async false
set_option linter.all false
set_option autoImplicit false
set_option maxRecDepth 100000
namespace XV
open PySem PySem.Spec PyProof.Rows L2

def spIx (C : Addr) (f : Str) : Sp := fun vs H Q _ => ∃ a y, vs = [.ref a, y] ∧ H a = some (exo a C none) ∧ ∀ dx, H dx = none → dx ≠ a → Q .non (upd (upd H dx (exd dx [(f, y)])) a (exo a C (some dx)))
section
variable {P : Program} {w : World} {K : PySem.W.Frag} {mg : Str → Option Value} {base : Heap}
theorem init_ok {x qual n1 n2 f : Str} {st : Stmt} {fI C : Addr} {fd : FuncData} {p1 p2 p3 p4 : Pos} (F : Fun K x qual st fI fd) (S : FnScope [n1, n2] [n1, n2] (defScope st)) (hbd : defBody st = [.Assign [.Attribute (.Name n1 p1) f p2] (.Name n2 p3) p4])
    (l1 : (defScope st).names.lookup n1 = some .local) (l2 : (defScope st).names.lookup n2 = some .local)
    (v1 : ∀ cdv n, Vis (envOfC qual (defScope st) n fI cdv).scope n1) (v2 : ∀ cdv n, Vis (envOfC qual (defScope st) n fI cdv).scope n2) (d1 : (n1 == ("__debug__" : Str)) = false) (d2 : (n2 == ("__debug__" : Str)) = false) (c1 : (n1 == ("__classdict__" : Str)) = false) (c2 : (n2 == ("__classdict__" : Str)) = false)
    (hs : ∀ env, swapsWith (.Name n2 p3) (some (.Attribute (.Name n1 p1) f p2)) p4.line env = pure false)
    (T : OexC K C) (hno : PySem.W.findIn K (.ref C) f = some none) : FnOk P w K mg base (L2.CX P w) 1 fI fd [n1, n2] (spIx C f) := by
  refine F.okX S (fun vs H Q E ⟨a, y, e, _⟩ => by rw [e]; rfl) fun cdv A outer s H vs Q E hr ⟨a, y, e, ea, q⟩ => ?_
  rw [hbd]
  refine ⟨_, pss_cons (ps_ost (pe_var (i := 0) rfl (v1 _ _) d1 c1) (pe_var (i := 1) rfl (v2 _ _) d2 c2) (hs _)) pss_nil, ?_⟩
  subst e
  refine ⟨y, rfl, .ref a, rfl, a, C, rfl, T, hno, .inl ⟨ea, fun dx h1 h2 => ?_⟩⟩
  exact q dx h1 h2
end
theorem del_upd {H1 : Hp} {a d : Addr} {f : Str} {C : Addr} {y : V} {fs : List (Str × V)} (ha : H1 a = none) (hd : d ≠ a) : upd (del (upd (upd (upd H1 a (exo a C none)) d (exd d [(f, y)])) a (exo a C (some d))) a) d (.xd fs) = upd H1 d (.xd fs) := by
  funext b
  by_cases e : b = d
  · subst e; rw [upd_same, upd_same]
  · rw [upd_ne e, upd_ne e]
    by_cases e2 : b = a
    · subst e2; rw [del_same, ha]
    · rw [del_ne e2, upd_ne e2, upd_ne e, upd_ne e2]
section
variable {X : Cx} {L : Lay} {P : Cfg} {W : WX} {fu : Nat} {pos : Pos}
theorem sS_raise {c : Nat} {x f : Str} {fI : Addr} {fd : FuncData} {ps : List Str} {e : Expr} {t : T} {p p2 : Pos} (hc : X.calm = true) (tk : Takes X W) (T : OexC X.K (L.cls c)) (hf : L.fld c = [f])
    (iC : PySem.W.findIn X.K (.ref (L.cls c)) "__init__" = some (some (.ref fI))) (tI : PySem.W.typeIn X.K (.ref fI) = some (.type "function"))
    (F1 : FnOk X.prog X.w X.K X.mg X.base (L2.CX X.prog X.w) 1 fI fd ps (spIx (L.cls c) f)) (hr : Room 2 X.A) (hb : Binds X.K fd ps []) (hg : Gl X x) (hm : X.mg x = some (.ref (L.cls c)))
    (ha : PE X e (tE X.K L P W t)) (hst : isStar e = false) (hdb : (x == ("__debug__" : Str)) = false) : PS X (.Raise (some (.Call (.Name x p) [e] [] p2)) none pos) (tS X.K L P W fu (.raise c (.cons t .nil))) := by
  refine PS.imp (ps_raise hc tk (pmk_oex T iC tI F1 hr hb .nil (passes_call tk fun _ _ _ _ h => h.elim) hg hm (pa_cons ha pa_nil (star_ok hst)) hdb (star_ok hst))) fun D σ H ⟨M, G0, r0, H0, G, r, cs, env, s, h⟩ => ?_
  unfold evS evTs evTs at h
  have h : FO X.K L M W G0 r0 H0 G r ((evE P t env cs).toF fun d cs1 => .exc c [d] cs1) D := by
    cases e : evE P t env cs with
    | ok d cs1 => rw [e] at h; exact h
    | exc c ds cs1 => rw [e] at h; exact h
    | bad => rw [e] at h; exact h
  refine ⟨G, r, cs, env, s.sep, s.er, FO.bindK (R := Rep X.K L) s h fun d cs1 v G1 r1 H1 _ g1 s1 rd si hf2 => ?_⟩
  refine ⟨(by decide : 1 ≤ 1000), fun a hn => ⟨a, v, rfl, upd_same, fun dx h1 h2 => ⟨rfl, dx, _, upd_same, by rw [upd_ne h2, upd_same], by rw [upd_ne h2] at h1; exact h1, ?_⟩⟩⟩
  rw [upd_ne h2] at h1
  rw [del_upd hn h2]
  refine hf2 _ _ σ (upd G1 dx (.xd [(f, v)])) r1 _ (si.go.trans (Go.new s1 _ h1)) (s1.new _ h1) ⟨rfl, dx, [v], rfl, ?_, by rw [hf]; rfl, .one (rd.go (Go.new s1 _ h1))⟩
  rw [hf, upd_same]
  rfl
end
end XV
set_option Elab.async false
set_option linter.all false
set_option autoImplicit false
set_option maxRecDepth 100000
namespace XV
open PySem PySem.Spec PyProof.Rows L2 L2H

def Hot0 (A : Around) (p : Addr × Obj) : Prop := A.handled = some (.ref p.1) ∧ ∃ vs : Array Value, p.2.data = .fields vs
structure FnE (P : Program) (w : World) (K : PySem.W.Frag) (mg : Str → Option Value) (base : Heap) (CX : CXT) (k : Nat) (f : Addr) (fd : FuncData) (ps : List Str) (cls : Value) (d : Option Addr) (sp : Addr → Sp) : Prop where
  len : ∀ a vs H Q E, sp a vs H Q E → vs.length = ps.length
  run : ∀ (A : Around) (outer : List Env) (s : Shared) (H : Hp) (args : Args) (us : List Value) (vs : List V) (Q : VK) (E : XK) (p : Addr × Obj), RoomH k A → Hot0 A p → Zc cls d p.2 → PinOk outer H s p → Env0 P w K mg base A outer s H → BindsTo s fd args (ps.zip us) → Vals vs us → sp p.1 vs H Q E →
    codeAny (model P w) A (.call (.ref f) args) (CR CX outer P w H s Q E) s
theorem fnE_of {CX : CXT} {P : Program} {w : World} {K : PySem.W.Frag} {mg : Str → Option Value} {base : Heap} {k : Nat} {x qual : Str} {st : Stmt} {f : Addr} {fd : FuncData} {N ps : List Str} {cls : Value} {d : Option Addr} {sp : Addr → Sp} (F : Fun K x qual st f fd) (S : FnScope N ps (defScope st))
    (len : ∀ a vs H Q E, sp a vs H Q E → vs.length = ps.length)
    (hbody : ∀ (cdv : Value) (A : Around) (outer : List Env) (s : Shared) (H : Hp) (vs : List V) (Q : VK) (E : XK) (p : Addr × Obj), Hot0 A p → Zc cls d p.2 → RoomH k (A.deeper (envOfC qual (defScope st) s.heap.objs.size f cdv)) → sp p.1 vs H Q E →
      ∃ t, PSs (cxH CX P w K mg base N qual (defScope st) f cdv A outer s H E p) (defBody st) t ∧ t { nx := fun _ H' => Q .non H', rt := Q } (L2.start N vs) H) : FnE P w K mg base CX (k + 1) f fd ps cls d sp := by
  obtain ⟨oc, od, kV, doc, pm, an, cdv, ct, osl, rfl, lk, hcd⟩ := F.ex
  refine ⟨len, fun A outer s H args us vs Q E p hr hot hz hpin e0 hb r hsp => ?_⟩
  have hl := len _ _ _ _ _ hsp
  have KX : K.In s.heap := e0.mod.kin.keeps fun b o e => (e0.bs b o e).1
  have hkind : ∀ y ∈ ps.zip us, (defScope st).names.lookup y.1 = some .local ∨ ((defScope st).names.lookup y.1 = some .cell ∧ ((cellsFrom (s.heap.objs.size + 1) (defScope st).names []).lookup y.1).isSome = true) := fun y hy =>
    (S.par y.1 (List.of_mem_zip hy).1).imp id fun q => ⟨q, PySem.W.cellsFrom_some _ _ _ (.inl q)⟩
  refine codeAny_call_function hr.depth (KX _ _ lk) rfl S.co S.gen rfl (PySem.W.codeRec_of KX hcd) (hb _ _ _ _ (wpAny_newFunctionEnv_cells S.kind hkind fun env he s1 x => ?_))
  subst he
  obtain ⟨t, ht, hq⟩ := hbody cdv A outer s H vs Q E p hot hz (hr.deeper _) hsp
  refine ⟨(e0.mod.nolimit.keeps fun b o e => (e0.bs b o e).1).keeps x.toInCall.keep, codeAny_func (wpAny_mono (ht.run [] s1 (L2.start N vs) H _ (inv_startH S hpin e0 hl r x) hq) (fun fl s' hs => ?_) fun e s' hs => hs)⟩
  cases fl with
  | ret u => obtain ⟨v, σ', H', J, rv, q⟩ := hs; exact ⟨v, H', J.os, J.bare, J.base, J.hok, rv, q⟩
  | next => obtain ⟨σ', H', J, q⟩ := hs; exact ⟨.non, H', J.os, J.bare, J.base, J.hok, rfl, q⟩
  | brk => obtain ⟨_, _, _, q⟩ := hs; exact q.elim
  | cont => obtain ⟨_, _, _, q⟩ := hs; exact q.elim

section
variable {X : Cx} {CX : CXT} {k : Nat} {f : Addr} {fd : FuncData} {ps : List Str} {a D : Addr} {oe : Obj} {cls : Value} {d : Option Addr} {sp : Addr → Sp} {E : L2.St → XK} {x : Str} {q pos : Pos} {e : Expr} {te : TE} {t : TA}
theorem pe_callE (F : FnE X.prog X.w X.K X.mg X.base CX k f fd ps cls d sp) (hr : RoomH k X.A) (hot : Hot0 X.A (a, oe)) (hp : (a, oe) ∈ X.pn) (hz : Zc cls d oe) (hg : Gl X x) (hm : X.mg x = some (.ref f)) (hk : PySem.W.keepIn X.K (.ref f) = true) (hb : Binds X.K fd ps []) (hx : ∀ σ, PassesAt CX X σ (E σ))
    (ha : PA X [e] t) (hst : isStar e = false) (hdb : (x == ("__debug__" : Str)) = false) : PE X (.Call (.Name x q) [e] [] pos) (tCallS (sp a) E t) := by
  refine ⟨fun pins s σ H Q I h => ?_⟩
  refine wpAny_Call_Name_kw (ld_glob I hg hm ?_ hdb)
  refine PySem.W.callWith_K (h₀ := X.base) I.ok.mod.kin hk (thn (ha.run pos pins s σ H _ I h) fun us s1 ⟨vs, H1, I1, r, q⟩ => ⟨I1.kIn, ?_⟩) (star_ok hst) (by rfl)
  have hl : us.length = ps.length := by rw [← r.length]; exact F.len _ _ _ _ _ q
  have b := hb s1 us I1.kIn (by rw [List.append_nil]; exact hl)
  rw [List.append_nil] at b
  have P1 := I1.pin (a, oe) (List.mem_append_left _ hp)
  have hpin : PinOk X.stack H1 s1 (a, oe) := ⟨P1.1, P1.2.1, fun hm => (List.mem_cons.mp (I1.stkSub a hm)).elim P1.2.2.1 P1.2.2.2.1, P1.2.2.2.2⟩
  refine wpAny_call (codeAny_mono (F.run X.A X.stack s1 H1 ⟨us, []⟩ us vs Q (E σ) (a, oe) hr hot hz hpin I1.env0 b r q) fun r s' hq => ?_)
  cases r with
  | error e => exact hx σ pins H1 s1 e s' I1 hq
  | ok fl => cases fl with
    | ret u => exact I1.after hq
    | next => exact False.elim hq
    | brk => exact False.elim hq
    | cont => exact False.elim hq
theorem inst_at {pins : List (Addr × Obj)} {s : Shared} {σ : L2.St} {H : Hp} {dd : Addr} {fs : List (Str × V)} (I : Inv X pins σ H s) (hp : (a, oe) ∈ X.pn) (hz : Zc (.ref D) (some dd) oe) (hf : ∃ vs, oe.data = .fields vs) (ed : H dd = some (.xd fs)) :
    ∃ (od : Obj) (mA : Str → Option Value), PySem.W.InstAt s.heap a oe D (some od) ∧ (∀ n, PySem.W.lookIn n od = some (mA n)) ∧ ∀ n, RelO (fs.lookup n) (mA n) := by
  obtain ⟨ha, _⟩ := I.pin (a, oe) (List.mem_append_left _ hp)
  obtain ⟨vs, hd⟩ := hf
  obtain ⟨mA, hns, hr⟩ := (show ObjOk X.prog X.w H s.heap dd (.xd fs) from I.hok dd _ ed)
  obtain ⟨od, ho, hl⟩ := lookIn_ns hns
  exact ⟨od, mA, ⟨ha, hz.1, by unfold PySem.W.notCls; rw [hd] <;> rfl, by rw [hz.2]; exact ho⟩, hl, hr⟩
theorem call_isP {dd : Addr} (C : ExcC X.K D) (hp : (a, oe) ∈ X.pn) (hz : Zc (.ref D) (some dd) oe) (hf : ∃ vs, oe.data = .fields vs) :
    CallR X (.builtin "isinstance") (fun xs H Q => ∃ (C : Addr) (b : Bool) (fs : List (Str × V)), xs = [.ref a, .ref C] ∧ H dd = some (.xd fs) ∧ PySem.W.kitOne X.K (.ref D) (.ref C) = some b ∧ Q (.bl b) H) := by
  intro pins s σ H xs us Q I r h
  obtain ⟨c, b, fs, rfl, ed, e, q⟩ := h
  obtain ⟨u1, u2, rfl, r1, r2⟩ := vals2 r
  cases (show u1 = Value.ref a from r1)
  cases (show u2 = Value.ref c from r2)
  obtain ⟨od, mA, J, _, _⟩ := inst_at I hp hz hf ed
  obtain ⟨cd, hc, _⟩ := PySem.W.any_some C.hd
  exact PySem.W.kia_one (PySem.W.kitx_exc (by rw [hc]; rfl) C.hg C.hk C.hs C.ha C.hn C.ht C.hm) I.kIn J e (fun z => nomatch z) fun tk => ⟨.bl b, H, I.kept (t' := tk) fun _ _ z => z, rfl, q⟩
theorem pe_xfP {dd : Addr} {n : Str} (T : XfC X.K D) (hno : PySem.W.findIn X.K (.ref D) n = some none) (hp : (a, oe) ∈ X.pn) (hz : Zc (.ref D) (some dd) oe) (hf : ∃ vs, oe.data = .fields vs) (he : PE X e te) (hb : attributeBase e n X.env (eval e X.env) = eval e X.env) :
    PE X (.Attribute e n pos) (fun σ H Q => te σ H fun x H1 => x = .ref a ∧ ∃ (fs : List (Str × V)) (v : V), H1 dd = some (.xd fs) ∧ fs.lookup n = some v ∧ Q v H1) := by
  refine ⟨fun pins s σ H Q I h => ?_⟩
  refine attr_of hb (thn (he.run pins s σ H _ I h) fun u s1 hh => ?_)
  obtain ⟨x, H1, I1, rx, ex, fs, v, ea, l, q⟩ := hh
  subst ex
  obtain rfl : u = Value.ref a := rx
  obtain ⟨od, mA, J, hl, hr⟩ := inst_at I1 hp hz hf ea
  obtain ⟨u, hu, ru⟩ := RelO.some_of (v := v) (o := mA n) (by rw [← l]; exact hr n)
  exact HandSPX.exc_get I1.kIn J T.ga T.gg T.exC (PySem.W.findObj_own T.hdC hno rfl (by rw [hl, hu])) (handed_of ru) ⟨v, H1, I1.tok _, ru, q⟩
end
end XV
set_option Elab.async false
set_option linter.all false
set_option autoImplicit false
set_option maxRecDepth 100000
namespace XV
open PySem PySem.Spec PyProof.Rows L2 L2H

def spT (dd : Addr) (nm f : Str) : Addr → Sp := fun a vs H Q _ => vs = [.ref a] ∧ ∃ (fs : List (Str × V)) (v : V), H dd = some (.xd fs) ∧ fs.lookup f = some v ∧ ∀ p, H p = none → Q (.ref p) (upd H p (.tup [.str nm, v]))
def tTell (a dd : Addr) (nm f : Str) : TS := fun D σ H => σ[0]? = some (some (.ref a)) ∧ ∃ (fs : List (Str × V)) (v : V), H dd = some (.xd fs) ∧ fs.lookup f = some v ∧ ∀ p, H p = none → D.rt (.ref p) (upd H p (.tup [.str nm, v]))
structure Held (X : Cx) (x : Str) (a D dd : Addr) (oe : Obj) : Prop where
  T : ExcC X.K D
  hp : (a, oe) ∈ X.pn
  hz : Zc (.ref D) (some dd) oe
  hf : ∃ vs, oe.data = .fields vs
  hgi : Gl X "isinstance"
  hmi : X.mg "isinstance" = none
  hN : X.N[0]? = some x
  hv : Vis X.env.scope x
  hd : (x == ("__debug__" : Str)) = false
  hcd : (x == ("__classdict__" : Str)) = false
theorem pss_no {X : Cx} {st : List Stmt} : PSs X st (fun _ _ _ => False) := ⟨fun _ _ _ _ _ _ h => h.elim⟩
section
variable {X : Cx} {a D dd C : Addr} {oe : Obj} {nm nm' f f' x c : Str} {st : List Stmt} {p1 p2 p3 p4 p5 p6 p7 p8 p9 p10 : Pos} {j x1 : Nat}
theorem pt_isP {b : Bool} (h : Held X x a D dd oe) (hg : Gl X c) (hm : X.mg c = some (.ref C)) (hdc : (c == ("__debug__" : Str)) = false) (hk : PySem.W.kitOne X.K (.ref D) (.ref C) = some b) :
    PT X (.Call (.Name "isinstance" p1) [.Name x p2, .Name c p3] [] p4) (fun σ H Q => σ[0]? = some (some (.ref a)) ∧ (∃ fs, H dd = some (.xd fs)) ∧ Q b H) := by
  have h1 : PE X (.Call (.Name "isinstance" p1) [.Name x p2, .Name c p3] [] p4) _ := pe_callB (call_isP h.T h.hp h.hz h.hf) h.hgi h.hmi (by decide +kernel) (pa_cons (pe_var h.hN h.hv h.hd h.hcd) (pa_cons (pe_glob (v := .ref C) hg hm rfl hdc) pa_nil)) (by decide) (by decide)
  exact PT.imp (pt_truth h1 (plainT_ok rfl X.env)) fun σ H Q ⟨h1, ⟨fs, h2⟩, q⟩ => ⟨.ref a, h1, C, b, fs, rfl, h2, hk, b, rfl, q⟩
theorem tell_hit (h : Held X x a D dd oe) (Tx : XfC X.K D) (hno : PySem.W.findIn X.K (.ref D) f = some none) (hg : Gl X c) (hm : X.mg c = some (.ref C)) (hdc : (c == ("__debug__" : Str)) = false) (hk : PySem.W.kitOne X.K (.ref D) (.ref C) = some true)
    (hb : attributeBase (.Name x p6) f X.env (eval (.Name x p6) X.env) = eval (.Name x p6) X.env) :
    PSs X (.If (.Call (.Name "isinstance" p1) [.Name x p2, .Name c p3] [] p4) [.Return (some (.Tuple [.Constant (.str nm) j p5, .Attribute (.Name x p6) f p7] x1 p8)) p9] [] p10 :: st) (tTell a dd nm f) := by
  refine PSs.imp (pss_cons (ps_if (pt_isP h hg hm hdc hk) (pss_one (ps_ret (pe_tup (pa_cons pe_str (pa_cons (pe_xfP Tx hno h.hp h.hz h.hf (pe_var h.hN h.hv h.hd h.hcd) hb) pa_nil))))) pss_nil) pss_no) fun E σ H ⟨q1, fs, v, q2, q3, q4⟩ => ?_
  refine ⟨q1, ⟨fs, q2⟩, ?_⟩
  exact ⟨.ref a, q1, rfl, fs, v, q2, q3, (by decide : 2 ≤ sizeLine), fun p hp => q4 p hp⟩
theorem tell_miss {bd : List Stmt} (h : Held X x a D dd oe) (hg : Gl X c) (hm : X.mg c = some (.ref C)) (hdc : (c == ("__debug__" : Str)) = false) (hk : PySem.W.kitOne X.K (.ref D) (.ref C) = some false) (hst : PSs X st (tTell a dd nm f)) :
    PSs X (.If (.Call (.Name "isinstance" p1) [.Name x p2, .Name c p3] [] p4) bd [] p10 :: st) (tTell a dd nm f) := by
  refine PSs.imp (pss_cons (ps_if (pt_isP h hg hm hdc hk) pss_no pss_nil) hst) fun E σ H ⟨q1, fs, v, q2, q3, q4⟩ => ?_
  exact ⟨q1, ⟨fs, q2⟩, q1, fs, v, q2, q3, q4⟩
theorem tell_go {g : Str} {fa : Addr} {fd : FuncData} {k : Nat} {ps : List Str} (h : Held X x a D dd oe) (F : FnE X.prog X.w X.K X.mg X.base (L2.CX X.prog X.w) k fa fd ps (.ref D) (some dd) (spT dd nm f)) (hr : RoomH k X.A) (hot : Hot0 X.A (a, oe)) (hg : Gl X g) (hm : X.mg g = some (.ref fa)) (hk : PySem.W.keepIn X.K (.ref fa) = true) (hb : Binds X.K fd ps [])
    {W : WX} (tk : Takes X W) (hdb : (g == ("__debug__" : Str)) = false) : PSs X [.Return (some (.Call (.Name g p1) [.Name x p2] [] p3)) p4] (tTell a dd nm f) := by
  refine PSs.imp (pss_one (ps_ret (pe_callE F hr hot h.hp h.hz hg hm hk hb (passAt tk) (pa_cons (pe_var h.hN h.hv h.hd h.hcd) pa_nil) rfl hdb))) fun E σ H ⟨q1, fs, v, q2, q3, q4⟩ => ?_
  exact ⟨.ref a, q1, rfl, fs, v, q2, q3, q4⟩
end
end XV
set_option Elab.async false
set_option linter.all false
set_option autoImplicit false
set_option maxRecDepth 100000
namespace XV
open PySem PySem.Spec PyProof.Rows L2 L2H LamX

def TTried (tbl : Addr → Str → Str → Prop) (ok : Str) : (XK → Hp → VK → Prop) → Hp → VK → Prop := fun tl H Q =>
  tl (fun cls d H' => ∃ (D dd : Addr) (nm f : Str) (fs : List (Str × V)) (v : V), cls = .ref D ∧ d = some dd ∧ tbl D nm f ∧ H' dd = some (.xd fs) ∧ fs.lookup f = some v ∧ ∀ p, H' p = none → Q (.ref p) (upd H' p (.tup [.str nm, v]))) H (fun v H' => [V.str ok, v].length ≤ sizeLine ∧ ∀ p, H' p = none → Q (.ref p) (upd H' p (.tup [.str ok, v])))
section
variable {X : Cx} {tbl : Addr → Str → Str → Prop} {ok : Str}
theorem tried_gives {Ng : List Str} {x a e g c q : Str} {sg : Scope} {gA CP fe : Addr} {fde : FuncData} {pse : List Str} {cdg : Value} {j k x1 : Nat} {p1 p2 p3 p4 p5 p6 p7 p8 p9 pa pb pc : Pos} (hNd : Ng.Nodup) (hN1 : Ng[1]? = some e)
    (hln : sg.names.lookup e = some .local) (hv1 : Vis sg e) (hde : (e == ("__debug__" : Str)) = false) (hcd : (e == ("__classdict__" : Str)) = false)
    (hkind : ∀ n cd, (envOfC x sg n gA cd).kindOf e = some .local) (hglc : sg.names.lookup c = some .globalImplicit) (hmc : X.mg c = some (.ref CP)) (hdc : (c == ("__debug__" : Str)) = false)
    (hgg : sg.names.lookup g = some .globalImplicit) (hmg : X.mg g = some (.ref fe)) (hdg : (g == ("__debug__" : Str)) = false) (hkg : PySem.W.keepIn X.K (.ref fe) = true) (hb : Binds X.K fde pse [])
    (hex : ∀ D nm f, tbl D nm f → PySem.W.exmOne X.K (.ref D) (.ref CP) = some true)
    (hF : ∀ D nm f, tbl D nm f → ∀ dd, FnE X.prog X.w X.K X.mg X.base (L2.CX X.prog X.w) k fe fde pse (.ref D) (some dd) (spT dd nm f)) (hr : ∀ n, RoomH k (X.A.deeper (envOfC x sg n gA cdg)))
    (h0 : ∀ f : Addr, (L2.start Ng [V.ref f])[0]? = some (some (V.ref f))) (h1 : 1 < Ng.length) :
    GivesTo X Ng x sg gA cdg [.Try [.Return (some (.Tuple [.Constant (.str ok) j p1, .Call (.Name a p2) [] [] p3] x1 p4)) p5] [.ExceptHandler (some (.Name c p6)) (some e) [.Return (some (.Call (.Name g p7) [.Name e p8] [] p9)) pa] pb] [] [] pc] a q (TTried tbl ok) := by
  intro f c' s H Q tl act hc h
  have hgl : Gl (cxOf C8.CX0 X.prog X.w X.K X.mg X.base Ng x sg gA cdg X.A X.stack s H C8.E0).nox c := hglc
  refine ⟨_, pss_one (ps_try_as (X := (cxOf C8.CX0 X.prog X.w X.K X.mg X.base Ng x sg gA cdg X.A X.stack s H C8.E0).nox) (c := .ref CP) (i := 1) (n := e)
      (tb := fun W D σ H => ∃ Ech : XK, (∀ cls d σ' H', Ech cls d H' → W cls d σ' H') ∧ σ[0]? = some (some (.ref f)) ∧ H c' = some (CodeO c' q) ∧ tl Ech H (fun v H' => [V.str ok, v].length ≤ sizeLine ∧ ∀ p, H' p = none → D.rt (.ref p) (upd H' p (.tup [.str ok, v]))))
      (ts := fun a cls d D σ H => (1 < σ.length → σ[1]? = some (some (.ref a))) ∧ ∃ (Dc dd : Addr) (nm f : Str) (fs : List (Str × V)) (v : V), cls = .ref Dc ∧ d = some dd ∧ tbl Dc nm f ∧ H dd = some (.xd fs) ∧ fs.lookup f = some v ∧ ∀ p, H p = none → D.rt (.ref p) (upd H p (.tup [.str nm, v])))
      rfl rfl hNd hN1 (hkind _ _) ⟨hgl, hdc, .inl hmc⟩ LamX.takes0 (fun W pn xe tk _ => ?_) (fun a oe cls d pn hz hf => ?_)), ?_⟩
  · refine ⟨fun pins s' σ H' D I h' => ?_⟩
    obtain ⟨Ech, hW, h1, h2, h3⟩ := h'
    have hp := act W pn xe Ech p2 p3 tk hW
    exact (pss_one (ps_ret (pos := p5) (pe_tup (pa_cons pe_str (pa_cons hp pa_nil))))).run pins s' σ H' D I ⟨h1, h2, h3⟩
  · refine ⟨fun pins s' σ H' D I h' => ?_⟩
    obtain ⟨hs1, Dc, dd, nm, f, fs, v, rfl, rfl, ht, q1, q2, q3⟩ := h'
    have hpl : 1 < σ.length := by rw [I.len]; exact h1
    exact (pss_one (X := (cxOf C8.CX0 X.prog X.w X.K X.mg X.base Ng x sg gA cdg X.A X.stack s H C8.E0).nox.suite a ((a, oe) :: pn)) (ps_ret (pos := pa) (pe_callE (E := WE fun _ _ _ _ => False) (hF _ _ _ ht dd) (k := k) (RoomH.mk (hr s.heap.objs.size).dp (hr s.heap.objs.size).un) (a := a) (oe := oe) ⟨rfl, hf⟩ List.mem_cons_self hz (show Gl ((cxOf C8.CX0 X.prog X.w X.K X.mg X.base Ng x sg gA cdg X.A X.stack s H C8.E0).nox.suite a ((a, oe) :: pn)) g from hgg) hmg hkg hb (passAt LamX.takes0) (pa_cons (pe_var (i := 1) hN1 hv1 hde hcd) pa_nil) rfl hdg))).run pins s' σ H' D I ⟨.ref a, hs1 hpl, rfl, fs, v, q1, q2, q3⟩
  · refine ⟨_, fun cls d σ' H' hE => ?_, h0 f, hc, h⟩
    obtain ⟨D, dd, nm, f, fs, v, rfl, rfl, ht, q1, q2, q3⟩ := hE
    exact ⟨true, hex _ _ _ ht, fun _ a ha => ⟨fun hl => by rw [List.getElem?_set_self (by simpa using hl)], D, dd, nm, f, fs, v, rfl, rfl, ht, q1, q2, q3⟩, fun z => by cases z⟩
end
end XV
set_option Elab.async false
set_option linter.all false
set_option autoImplicit false
set_option maxRecDepth 100000
namespace XV
open PySem PySem.Spec PyProof.Rows L2 L2H LamX

section
variable {K : PySem.W.Frag} {L : Lay} {G : Hp} {r : List Addr} {H H1 : Hp} {cs : List C}
theorem Go.tabs (s : Sep K L G r cs H) (e : ExtN H H1) : Go G r H G r H1 :=
  ⟨Same.refl G, fun _ _ => rfl, ⟨[], by simp, by simp⟩, fun b o h _ ht => e b o h ht, fun b h f => h fun o ho => Classical.byContradiction fun nt => by
    have ht : ∀ ps, o ≠ .tbl ps := fun ps z => nt ⟨ps, z⟩
    exact nFr (e b o ho ht) ht f⟩
theorem Sep.ext (s : Sep K L G r cs H) (e : ExtN H H1) (t : Tabs L.tabs H1) : Sep K L G r cs H1 := by
  refine ⟨fun b o h => e b o (s.same b o h) fun ps z => s.gt b ps (z ▸ h), s.nod, s.len, fun c k ec => ?_, ⟨t, fun p hp => e _ _ (s.tabs.2 p hp) codeO_ne⟩, s.gt, s.lat⟩
  obtain ⟨a, h1, h2, h3⟩ := s.cell c k ec
  refine ⟨a, h1, h2, ?_⟩
  have : H a = H1 a := by
    cases k with
    | lst ds => obtain ⟨vs, q, _⟩ := h3; rw [q, e _ _ q fun ps z => by cases z]
    | dct ks ds => obtain ⟨vs, q, _⟩ := h3; rw [q, e _ _ q fun ps z => by cases z]
    | ins c ks ds => obtain ⟨dx, vs, q, _⟩ := h3; rw [q, e _ _ q fun ps z => by cases z]
  have := CellR.mono (t := []) (Same.refl G) this h3
  simpa using this
theorem KO.go2 {α β : Type} {R : Hp → List Addr → α → β → Prop} {E : XK} {G' : Hp} {r' : List Addr} {H' : Hp} {o : Out α} {Q : β → Hp → Prop} (h : KO K L R E G r H o Q) (g : Go G r H G' r' H') : KO K L R E G' r' H' o Q := by
  cases o with
  | ok a cs' => exact fun v G2 r2 H2 g2 s q => h v G2 r2 H2 (g.trans g2) s q
  | exc c ds cs' => exact fun cls dd G2 r2 H2 g2 s q => h cls dd G2 r2 H2 (g.trans g2) s q
  | bad => exact h
end
section
variable {X : Cx} {L : Lay} {P : Cfg} {W : WX}
theorem sE_tried {tbl : Addr → Str → Str → Prop} {ok x a : Str} {n k : Nat} {e : T} {g c TP : Addr} {pg : Arguments} {bg : List Stmt} {sg : Scope} {dV kV doc pm cdv ct oc : Value} {an od : Option Addr} {osl : Array (Option Value)} {Ng : List Str}
    {params : Arguments} {body : Expr} {scope : Scope} {p lpos pos : Pos} (hok : ok = mkS ("told".toList.map Char.toNat)) (herr : ∀ c ds d0, P.err c ds = some d0 → ∃ nm f d1, ds = [d1] ∧ L.fld c = [f] ∧ tbl (L.cls c) (mkS nm) f ∧ d0 = .tup [.str nm, d1])
    (hg : Gl X x) (hm : X.mg x = some (.ref g)) (hk : PySem.W.keepIn X.K (.ref g) = true)
    (lk : X.K.lookup g = some ⟨oc, od, .func (PySem.W.fnOf x x pg bg sg dV kV doc pm an cdv ct), osl⟩) (hcg : PySem.W.codeIn X.K cdv x = true) (hb : L2.Binds X.K (PySem.W.fnOf x x pg bg sg dV kV doc pm an cdv ct) [a] []) (Sg : FnScope Ng [a] sg) (hNg : Ng[0]? = some a) (hva : Vis sg a)
    (hG : GivesTo X Ng x sg g cdv bg a (X.env.qual ++ "<lambda>") (TTried tbl ok))
    (TB : TabB X.base X.mg c TP) (hcode : X.env.code = .ref c) (hmT : (TP, X.env.qual ++ "<lambda>") ∈ L.tabs) (hu : ∀ p ∈ L.tabs, p.1 = TP → p.2 = X.env.qual ++ "<lambda>") (hr : Room (k + 2) X.A) (LS : LamS X.env.scope scope) (hdef : defaultsOf params X.env = ([], []))
    (hbind : ∀ (q : Str) (cl : List (Str × Addr)) (pm cv ctv : Value), bindArgs (PySem.W.kla_fn "<lambda>" q params body scope cl pm cv ctv) ⟨[], []⟩ = pure [])
    (hbody : ∀ (A : Around) (outer : List Env) (s : Shared) (H : Hp) (E : XK) (f c' : Addr), Room k (A.deeper (lamEnv X scope s.heap.objs.size f c')) → PE (lamCx X A outer s H E scope f c') body (tE X.K L P (fun cls d _ H => E cls d H) e))
    (hdb : (x == ("__debug__" : Str)) = false) (hd : (a == ("__debug__" : Str)) = false) (hcd : (a == ("__classdict__" : Str)) = false) :
    PE X (.Call (.Name x p) [.Lambda params body scope lpos] [] pos) (tE X.K L P W (.tried n e)) := by
  refine PE.imp (pe_lamcall (TT := TTried tbl ok) (t := fun E => tE X.K L P (fun cls d _ H => E cls d H) e) hg hm hk lk hcg hb Sg hNg hva hG TB hcode hmT hu hr LS hdef hbind hbody hdb hd hcd) fun σ H Q ⟨G, r, cs, env, s, er, h⟩ => ⟨s.tabs.1, fun H1 ex t1 => ?_⟩
  have g1 := Go.tabs s ex
  refine ⟨G, r, cs, env, s.ext ex t1, er.go g1, ?_⟩
  have h := h.go2 g1
  unfold evE at h
  subst hok
  cases e1 : evE P e env cs with
  | bad => simp only [e1] at h; exact h
  | ok d cs1 =>
    simp only [e1] at h
    exact fun v G' r' H' g s' q => ⟨(by decide : 2 ≤ sizeLine), fun p hp => (h.go2 g).tup s' (.cons (.str _) (.one q)) hp⟩
  | exc c ds cs1 =>
    simp only [e1] at h
    obtain ⟨d0, e2, h⟩ := h.some_of
    obtain ⟨nm, f, d1, rfl, hf, ht, rfl⟩ := herr _ _ _ e2
    rintro cls dd G' r' H' g s' ⟨rfl, d, vs, rfl, q1, _, q2⟩
    cases q2 with
    | cons q3 q4 =>
      cases q4
      rename_i v
      rw [hf] at q1
      exact ⟨L.cls c, d, mkS nm, f, [(f, v)], v, rfl, rfl, ht, q1, by simp, fun p hp => (h.go2 g).tup s' (.cons (.str _) (.one q3)) hp⟩
end
end XV
set_option Elab.async false
set_option linter.all false
set_option autoImplicit false
set_option maxRecDepth 100000
namespace XV
open PySem PySem.Spec PyProof.Rows L2

theorem zip_lookup_none {ks : List Str} {vs : List V} {m : Str} (h : ks.contains m = false) : (ks.zip vs).lookup m = none := by
  induction ks generalizing vs with
  | nil => rfl
  | cons a ks ih =>
    cases vs with
    | nil => rfl
    | cons v vs =>
      rw [List.contains_cons, Bool.or_eq_false_iff] at h
      rw [List.zip_cons_cons, List.lookup_cons, h.1]
      exact ih h.2
theorem zip_lookup_rep {K : PySem.W.Frag} {L : Lay} {G : Hp} {r : List Addr} {f : Str} : ∀ {ks : List Str} {ds : List D} {vs : List V} {d : D}, Reps K L G r ds vs → (ks.zip ds).lookup f = some d → ∃ u, (ks.zip vs).lookup f = some u ∧ Rep K L G r d u
  | [], _, _, _, _, e => by cases e
  | k :: ks, _, _, _, .nil, e => by cases e
  | k :: ks, _, _, d, .cons (ds := ds) (vs := vs) h q, e => by
    rw [List.zip_cons_cons, List.lookup_cons] at e ⊢
    cases hk : f == k with
    | true => rw [hk] at e; cases e; exact ⟨_, rfl, h⟩
    | false => rw [hk] at e; exact zip_lookup_rep q e
theorem putF_new {f : Str} {v : V} : ∀ {ks : List Str} {vs : List V}, ks.length = vs.length → ks.contains f = false → putF f v (ks.zip vs) = (ks ++ [f]).zip (vs ++ [v])
  | [], [], _, _ => rfl
  | [], _ :: _, h, _ => by simp at h
  | _ :: _, [], h, _ => by simp at h
  | k :: ks, u :: vs, h, hc => by
    rw [List.contains_cons, Bool.or_eq_false_iff] at hc
    have ih := putF_new (v := v) (show ks.length = vs.length by simpa using h) hc.2
    have hk : ¬ k = f := fun z => by rw [z] at hc; simp at hc
    simp only [List.zip_cons_cons, List.cons_append, putF]
    rw [if_neg hk, ih]
section
variable {prog : Program} {w : World} {A : Around} {E : Value → Shared → Prop} {s : Shared} {env : Env}
theorem call_meth_any {o : Expr} {name : Str} {apos pos : Pos} {args : List Expr} {Q : Value → Shared → Prop} (hbase : attributeBase o name env (eval o env) = eval o env)
    (hfew : (backTo pos (starEach args env)).any (·.1) = false) (hn : args.length < 30) (hline : (apos.endLine == pos.line) = true)
    (h : wpAny (model prog w) A (eval o env) (fun ov s₁ => ∀ pl : Sem Bool, wpAny (model prog w) A (getMethod ov name pl) (fun fx s₂ => wpAny (model prog w) A (callWith pos fx.1 fx.2 (backTo pos (starEach args env)) (backToKw pos (keywordEach [] env))) Q E s₂) E s₁) E s) :
    wpAny (model prog w) A (eval (.Call (.Attribute o name apos) args [] pos) env) Q E s := by
  have hform : methodCallForm (args.length + ([] : List Keyword).length) (backTo pos (starEach args env)) (backToKw pos (keywordEach [] env)) = true := by
    have e1 : (backTo pos (starEach args env)).all (fun x => !x.1) = true := by
      generalize backTo pos (starEach args env) = l at hfew
      induction l with
      | nil => rfl
      | cons a l ih =>
        rw [List.any_cons, Bool.or_eq_false_iff] at hfew
        rw [List.all_cons, hfew.1, ih hfew.2]
        rfl
    have e2 : backToKw pos (keywordEach [] env) = [] := rfl
    unfold methodCallForm
    rw [e1, e2]
    simpa using hn
  have hpos : methodCallPos true o env apos pos = pure pos := by unfold methodCallPos; simp [hline]
  rw [arm_eval_Call, hbase]
  refine wpAny_bind (wpAny_mono h (fun ov s₁ h₁ => ?_) fun _ _ e => e)
  refine wpAny_bind (wpAny_standAt ?_)
  unfold methodCall
  rw [hform]
  refine wpAny_bind (wpAny_holding ?_)
  unfold calleeOf
  rw [if_pos rfl]
  exact wpAny_mono (h₁ _) (fun fx s₂ h₂ => wpAny_bind (wpAny_of_eq hpos h₂)) fun _ _ e => e
end
section
variable {X : Cx} {CX : CXT} {k : Nat} {f C : Addr} {fd : FuncData} {ps : List Str} {sp : Sp} {E : L2.St → XK} {x m : Str} {p pos apos : Pos} {e o : Expr} {es : List Expr} {ta : TE} {t : TA}
def tMth (X : Cx) (CX : CXT) (k : Nat) (m : Str) (E : L2.St → XK) (ta : TE) (t : TA) : TE := fun σ H Q => ta σ H fun x H1 => ∃ a C dx fs g fd ps, ∃ sp : Sp, x = .ref a ∧ H1 a = some (.ins C dx fs) ∧ Cls X.K C ∧ Meth X.K C m g ∧ FnOk X.prog X.w X.K X.mg X.base CX k g fd ps sp ∧ Binds X.K fd ps [] ∧ fs.lookup m = none ∧ t σ H1 fun vs H2 => sp (x :: vs) H2 Q (E σ)
theorem pe_mth (he : PE X o ta) (hr : Room k X.A) (hx : ∀ σ, PassesAt CX X σ (E σ)) (ha : PA X es t)
    (hbase : attributeBase o m X.env (eval o X.env) = eval o X.env) (hfew : (backTo pos (starEach es X.env)).any (·.1) = false) (hn : es.length < 30) (hline : (apos.endLine == pos.line) = true) (h0 : es = [] → ∀ σ H Q, t σ H Q → Q [] H) (hst : ∀ e es', es = e :: es' → starEach es X.env = (false, eval e X.env) :: starEach es' X.env ∧ (backTo pos (starEach es' X.env)).any (·.1) = false) :
    PE X (.Call (.Attribute o m apos) es [] pos) (tMth X CX k m E ta t) := by
  refine ⟨fun pins s σ H Q I h => ?_⟩
  refine call_meth_any hbase hfew hn hline (thn (he.run pins s σ H _ I h) fun u s1 ⟨x, H1, I1, rx, a, C, dx, fs, g, fd, ps, sp, ex, ea, c, hm, F, hb, l, q⟩ pl => ?_)
  subst ex
  obtain rfl : u = Value.ref a := rx
  refine getmeth_ok I1 ea c hm l ?_
  cases es with
  | nil =>
    have q0 := h0 rfl _ _ _ q
    exact PySem.W.callWith_K0 (first := [.ref a]) I1.kIn hm.kp (run_fnSD (us := [.ref a]) (vs := [.ref a]) (dvs := []) (ds := []) F hr hb .nil (hx σ) I1 (.cons rfl .nil) (by simpa using q0))
  | cons e0 es0 =>
    obtain ⟨h1, h2⟩ := hst e0 es0 rfl
    refine PySem.W.callWith_K (first := [.ref a]) (h₀ := X.base) I1.ok.mod.kin hm.kp (thn (ha.run pos pins s1 σ H1 _ I1 q) fun us s2 ⟨vs, H2, I2, r, q2⟩ => ⟨I2.kIn, ?_⟩) h1 h2
    exact run_fnSD (us := .ref a :: us) (vs := .ref a :: vs) (dvs := []) (ds := []) F hr hb .nil (hx σ) I2 (.cons rfl r) (by simpa using q2)

def tMk (K : PySem.W.Frag) (C : Addr) (sp : Sp) (E : L2.St → XK) (t : TA) : TE := fun σ H Q => t σ H fun vs H1 => ∀ x dx, H1 x = none → H1 dx = none → dx ≠ x → sp (.ref x :: vs) (upd (upd H1 dx (.own x)) x (.ins C dx [])) (fun v H2 => v = .non ∧ Q (.ref x) H2) (E σ)
theorem run_mk {pins : List (Addr × Obj)} {σ : L2.St} {H : Hp} {s : Shared} {Q : VK} {us : List Value} {vs : List V} (M : Mk X.K C f) (F : FnOk X.prog X.w X.K X.mg X.base CX k f fd ps sp) (hr : Room (k + 1) X.A) (hb : Binds X.K fd ps [])
    (hx : PassesAt CX X σ (E σ)) (I : Inv X pins σ H s) (r : Vals vs us)
    (h : ∀ x dx, H x = none → H dx = none → dx ≠ x → sp (.ref x :: vs) (upd (upd H dx (.own x)) x (.ins C dx [])) (fun v H2 => v = .non ∧ Q (.ref x) H2) (E σ)) :
    wpAny (model X.prog X.w) X.A (call (.ref C) us) (EP X pins σ Q) X.xe s := by
  have hq := h (s.heap.objs.size + 1) s.heap.objs.size (I.hok.fresh (Nat.le_succ _)) (I.hok.fresh (Nat.le_refl _)) (Nat.ne_of_lt (Nat.lt_succ_self _))
  have I2 := Inv.made (C := C) I
  have r2 : Vals (V.ref (s.heap.objs.size + 1) :: vs) (Value.ref (s.heap.objs.size + 1) :: us) := .cons rfl r
  have hl : (Value.ref (s.heap.objs.size + 1) :: us ++ []).length = ps.length := by
    have e := r2.length
    rw [F.len _ _ _ _ hq] at e
    simpa using e.symm
  refine wpAny_call (make_map (f := f) I.kIn M.makes M.init (beq_iff_eq.mp M.fn) (codeAny_mono (F.run _ X.stack _ _ ⟨Value.ref (s.heap.objs.size + 1) :: us, []⟩ (Value.ref (s.heap.objs.size + 1) :: us) _ _ (E σ) (hr.make C us [])
    (I2.env0.make C us []) (by simpa using hb _ (Value.ref (s.heap.objs.size + 1) :: us) I2.kIn hl) r2 hq) fun r s' hq' => ?_))
  cases r with
  | error e => exact hx pins _ _ e s' I2 hq'
  | ok fl =>
    cases fl with
    | ret u =>
      obtain ⟨v, H', I3, rv, ev, q3⟩ := I2.after hq'
      subst ev
      exact ⟨rv, ⟨V.ref (s.heap.objs.size + 1), H', I3, rfl, q3⟩⟩
    | next => exact False.elim hq'
    | brk => exact False.elim hq'
    | cont => exact False.elim hq'
theorem pe_mk (M : Mk X.K C f) (F : FnOk X.prog X.w X.K X.mg X.base CX k f fd ps sp) (hr : Room (k + 1) X.A) (hg : Gl X x) (hm : X.mg x = some (.ref C)) (hb : Binds X.K fd ps []) (hx : ∀ σ, PassesAt CX X σ (E σ))
    (ha : PA X es t) (hdb : (x == ("__debug__" : Str)) = false) (h0 : es = [] → ∀ σ H Q, t σ H Q → Q [] H) (hst : ∀ e es', es = e :: es' → starEach es X.env = (false, eval e X.env) :: starEach es' X.env ∧ (backTo pos (starEach es' X.env)).any (·.1) = false) :
    PE X (.Call (.Name x p) es [] pos) (tMk X.K C sp E t) := by
  refine ⟨fun pins s σ H Q I h => ?_⟩
  refine wpAny_Call_Name_kw (ld_glob I hg hm ?_ hdb)
  cases es with
  | nil => exact PySem.W.callWith_K0 I.kIn M.kp (run_mk (us := []) (vs := []) M F hr hb (hx σ) I .nil (h0 rfl _ _ _ h))
  | cons e0 es0 =>
    obtain ⟨h1, h2⟩ := hst e0 es0 rfl
    refine PySem.W.callWith_K (h₀ := X.base) I.ok.mod.kin M.kp (thn (ha.run pos pins s σ H _ I h) fun us s1 ⟨vs, H1, I1, r, q⟩ => ⟨I1.kIn, ?_⟩) h1 h2
    exact run_mk M F hr hb (hx σ) I1 r q
end
def spI (K : PySem.W.Frag) (L : Lay) (c : Nat) (g : List D → List C → Out D) : Sp := fun vs H Q E => ∃ G r H1 cs ds x dx vs', vs = .ref x :: vs' ∧ H1 x = none ∧ H1 dx = none ∧ dx ≠ x ∧ H = upd (upd H1 dx (.own x)) x (.ins (L.cls c) dx []) ∧ Sep K L G r cs H1 ∧ Reps K L G r ds vs' ∧
  KO K L (Rep K L) E G r H1 (g ds cs) fun v H' => v = .ref x → Q .non H'

section
variable {X : Cx} {L : Lay} {P : Cfg} {W : WX} {fu : Nat} {pos p apos : Pos} {e o : Expr} {es : List Expr} {to t : T} {ts : Ts} {k : Nat} {x f m : Str}
theorem ts_nil_of {σ : L2.St} {H : Hp} {Q : List V → Hp → Prop} (h : tTs X.K L P W .nil σ H Q) : Q [] H := by
  obtain ⟨G, r, cs, env, s, er, k⟩ := h
  exact KO.ok0 (v := []) k s .nil
theorem ts_shape {ts : Ts} {es : List Expr} (h : es = [] → ts = .nil) : es = [] → ∀ σ H Q, tTs X.K L P W ts σ H Q → Q [] H := fun e σ H Q q => by
  rw [h e] at q
  exact ts_nil_of q
theorem sE_fld (ho : PE X o (tE X.K L P W to)) (hc : isCall0 o = false) (hcl : ∀ c f, (P.flds c).contains f = true → Cls X.K (L.cls c) ∧ NoAttr X.K (L.cls c) f) : PE X (.Attribute o f pos) (tE X.K L P W (.fld to f)) := by
  refine PE.imp (pe_fld ho (attr_ok hc)) fun σ H Q ⟨G, r, cs, env, s, er, k⟩ => ?_
  unfold evE at k
  refine ⟨G, r, cs, env, s, er, k.bind fun x cs1 _ v G1 r1 H1 g1 s1 rx k1 => ?_⟩
  cases x <;> first | exact k1.elim | skip
  rename_i c ks ds _
  by_cases hf : (P.flds c).contains f = true
  · have k1 : KO X.K L (Rep X.K L) (wE W σ) G1 r1 H1 (ofO ((ks.zip ds).lookup f) cs1) Q := by
      have k1 : KO X.K L (Rep X.K L) (wE W σ) G1 r1 H1 (if (P.flds c).contains f = true then ofO ((ks.zip ds).lookup f) cs1 else .bad) Q := k1
      rw [if_pos hf] at k1
      exact k1
    obtain ⟨d, e, k2⟩ := k1.some_of
    cases rx with
    | obj h1 hl h2 =>
      obtain ⟨u, e3, h3⟩ := zip_lookup_rep h2 e
      exact ⟨_, _, _, _, u, rfl, s1.same _ _ h1, (hcl c f hf).1, (hcl c f hf).2, e3, k2.ok0 s1 h3⟩
  · have k1 : KO X.K L (Rep X.K L) (wE W σ) G1 r1 H1 (if (P.flds c).contains f = true then ofO ((ks.zip ds).lookup f) cs1 else .bad) Q := k1
    rw [if_neg hf] at k1; exact k1.elim
def MthOk (X : Cx) (L : Lay) (P : Cfg) (k : Nat) : Prop := ∀ c m i, P.meth c m = some i → ∃ f fd ps, Cls X.K (L.cls c) ∧ Meth X.K (L.cls c) m f ∧ FnOk X.prog X.w X.K X.mg X.base (L2.CX X.prog X.w) k f fd ps (spF X.K L (P.call i)) ∧ Binds X.K fd ps []
theorem sE_meth (hM : MthOk X L P k) (ho : PE X o (tE X.K L P W to)) (hc : isCall0 o = false) (hr : Room k X.A) (tk : Takes X W) (ha : PA X es (tTs X.K L P W ts)) (hst : ∀ e ∈ es, isStar e = false) (hn : es.length < 30) (hline : (apos.endLine == pos.line) = true) (h0 : es = [] → ts = .nil)
    (hbt : (backTo pos (starEach es X.env)).any (·.1) = false) (hbt' : ∀ e es', es = e :: es' → (backTo pos (starEach es' X.env)).any (·.1) = false) :
    PE X (.Call (.Attribute o m apos) es [] pos) (tE X.K L P W (.meth to m ts)) := by
  refine PE.imp (pe_mth (CX := L2.CX X.prog X.w) (k := k) (E := WE W) (m := m) ho hr (passAt tk) ha (attr_ok hc) hbt hn hline (ts_shape h0) fun e es' he => by
    subst he
    exact ⟨star_ok (hst e (by simp)), hbt' e es' rfl⟩) fun σ H Q ⟨G, r, cs, env, s, er, k0⟩ => ?_
  unfold evE at k0
  refine ⟨G, r, cs, env, s, er, k0.bind fun x cs1 _ v G1 r1 H1 g1 s1 rx k1 => ?_⟩
  cases x <;> first | exact k1.elim | skip
  rename_i c ks ds _
  have k1 : KO X.K L (Rep X.K L) (wE W σ) G1 r1 H1 (match P.meth c m with
      | some f => if ks.contains m then .bad else (evTs P ts env cs1).bind fun as cs2 => P.call f (.obj c ks ds :: as) cs2
      | none => .bad) Q := k1
  cases hm : P.meth c m with
  | none => rw [hm] at k1; exact k1.elim
  | some i =>
    rw [hm] at k1
    have k1 : KO X.K L (Rep X.K L) (wE W σ) G1 r1 H1 (if ks.contains m = true then .bad else (evTs P ts env cs1).bind fun as cs2 => P.call i (.obj c ks ds :: as) cs2) Q := k1
    by_cases hk : ks.contains m = true
    · rw [if_pos hk] at k1; exact k1.elim
    · rw [if_neg hk] at k1
      obtain ⟨f, fd, ps, h1, h2, h3, h4⟩ := hM c m i hm
      cases rx with
      | obj q1 q2 q3 =>
        rename_i a dx vs
        refine ⟨a, _, dx, _, f, fd, ps, _, rfl, s1.same _ _ q1, h1, h2, h3, h4, zip_lookup_none (Bool.eq_false_iff.mpr hk), G1, r1, cs1, env, s1, er.go g1, k1.bind fun as cs2 _ us G2 r2 H2 g2 s2 ra k2 => ?_⟩
        exact ⟨G2, r2, cs2, .obj c ks ds :: as, s2, .cons ((Rep.obj q1 q2 q3).go g2) ra, k2⟩
theorem sE_new {c : Nat} {f : Addr} {fd : FuncData} {ps : List Str} (M : Mk X.K (L.cls c) f) (F : FnOk X.prog X.w X.K X.mg X.base (L2.CX X.prog X.w) k f fd ps (spI X.K L c (P.init c))) (hb : Binds X.K fd ps []) (hr : Room (k + 1) X.A) (hg : Gl X x) (hm : X.mg x = some (.ref (L.cls c))) (hd : (x == ("__debug__" : Str)) = false)
    (tk : Takes X W) (ha : PA X es (tTs X.K L P W ts)) (hst : ∀ e ∈ es, isStar e = false) (h0 : es = [] → ts = .nil) (hbt' : ∀ e es', es = e :: es' → (backTo pos (starEach es' X.env)).any (·.1) = false) :
    PE X (.Call (.Name x p) es [] pos) (tE X.K L P W (.new c ts)) := by
  refine PE.imp (pe_mk M F hr hg hm hb (passAt tk) ha hd (ts_shape h0) fun e es' he => by
    subst he
    exact ⟨star_ok (hst e (by simp)), hbt' e es' rfl⟩) fun σ H Q ⟨G, r, cs, env, s, er, k0⟩ => ?_
  unfold evE at k0
  refine ⟨G, r, cs, env, s, er, k0.bind fun ds cs1 _ vs G1 r1 H1 g1 s1 rs k1 => ?_⟩
  intro x dx hx hdx ne
  exact ⟨G1, r1, H1, cs1, ds, x, dx, vs, rfl, hx, hdx, ne, rfl, s1, rs, k1.mono fun v H' q ev => ⟨rfl, ev ▸ q⟩⟩
theorem sS_setF {x0 : Str} {p1 p2 : Pos} (hN : X.N[0]? = some x0) (hv : Vis X.env.scope x0) (hd : (x0 == ("__debug__" : Str)) = false) (hcd : (x0 == ("__classdict__" : Str)) = false) (he : PE X e (tE X.K L P W t)) (hcl : ∀ c f, (P.flds c).contains f = true → Cls X.K (L.cls c) ∧ NoAttr X.K (L.cls c) f)
    (hs : swapsWith e (some (.Attribute (.Name x0 p1) f p2)) pos.line X.env = pure false) : PS X (.Assign [.Attribute (.Name x0 p1) f p2] e pos) (tS X.K L P W fu (.setF f t)) := by
  refine PS.imp (ps_fld (pe_var hN hv hd hcd) he hs) fun D σ H ⟨M, G0, r0, H0, G, r, cs, env, s, h⟩ => ?_
  unfold evS at h
  refine ⟨G, r, cs, env, s.sep, s.er, FO.bindK (R := Rep X.K L) s h fun d cs1 v G1 r1 H1 _ g1 s1 rd si hf => ?_⟩
  cases e1 : env[(0 : Nat)]? with
  | none => rw [e1] at hf; exact hf.elim
  | some sv =>
    cases sv <;> first | (rw [e1] at hf; exact hf.elim) | skip
    rename_i c ks ds
    rw [e1] at hf
    obtain ⟨a, dx, vs, q, h1, hl, h2, h3, h4⟩ := si.er.get 0 _ e1
    have hf : FO X.K L M W G0 r0 H0 G1 r1 (if (P.flds c).contains f ∧ ks.contains f = false ∧ ks.length < 1000 then .nx (env.set 0 (.ownI c (ks ++ [f]) (ds ++ [d]))) cs1 else .bad) D := hf
    by_cases hc : (P.flds c).contains f ∧ ks.contains f = false ∧ ks.length < 1000
    · rw [if_pos hc] at hf
      have hl2 : ks.length = vs.length := hl.trans h4.length
      refine ⟨.ref a, q, a, _, dx, _, rfl, h1, (hcl c f hc.1).1, (hcl c f hc.1).2, by rw [List.length_zip]; have := hc.2.2; omega, ?_⟩
      refine hf G1 r1 σ _ (si.mut e1 rfl q ?_ rfl fun _ _ _ _ => ⟨c, ks, ds, rfl⟩) (Same.refl _) ⟨[], by simp⟩
      exact ⟨a, dx, vs ++ [v], rfl, by rw [upd_same, putF_new hl2 hc.2.1], by simp [hl], h2, h3, h4.append (.one rd)⟩
    · rw [if_neg hc] at hf; exact hf.elim
theorem sS_nvr {st : Stmt} : PS X st (tS X.K L P W fu .nvr) := by
  refine PS.imp ps_never fun D σ H ⟨M, G0, r0, H0, G, r, cs, env, s, h⟩ => ?_
  unfold evS at h
  exact h.elim
end
end XV
set_option Elab.async false
set_option linter.all false
set_option autoImplicit false
set_option maxRecDepth 100000
namespace XV
open PySem PySem.Spec PyProof.Rows L2

section
variable {prog : Program} {w : World} {A : Around} {E : Value → Shared → Prop} {s : Shared} {K : PySem.W.Frag} {a C f : Addr} {ox : Obj} {od : Option Obj}
theorem len_own {Q : Value → Shared → Prop} (X : K.In s.heap) (J : PySem.W.InstAt s.heap a ox C od) (hs : PySem.W.findIn K (.ref C) "__len__" = some (some (.ref f))) (hf : PySem.W.isFn K (.ref f) = true)
    (h : wpAny (model prog w) A.in1 (call (.ref f) [.ref a]) (fun r s₁ => ∃ n u, r = Value.int n u ∧ 0 ≤ n ∧ n < 1000000 ∧ Q (.int n s₁.toks) { s₁ with toks := s₁.toks + 1 }) E s) : wpAny (model prog w) A (call (.builtin "len") [.ref a]) Q E s := by
  refine Calls.call_function_entry kind_len plain_len entry_len (args_len1 _) ?_
  unfold Builtin.«len»
  refine wpAny_bind (m := oneArg "len" _) (wpAny_pure ?_)
  refine wpAny_bind (m := callSpecial? (.ref a) (Str.ofString "__len__")) (PySem.W.special_fn X J hs (beq_iff_eq.mp hf) (wpAny_mono h (fun r s₁ hr => ?_) fun _ _ y => y))
  obtain ⟨n, u, rfl, h0, h1, hq⟩ := hr
  refine wpAny_bind (wpAny_holding (wpAny_pure ?_))
  refine wpAny_bind (wpAny_letGo ?_)
  show wpAny _ _ (if n < 0 then _ else _) _ _ _
  rw [if_neg (by omega)]
  show wpAny _ _ (if n ≥ 2 ^ 63 then _ else _) _ _ _
  rw [if_neg (by omega)]
  exact wpAny_bind (wpAny_mkInt (wpAny_pure ⟨_, rfl, hq⟩))
end
theorem cxno {P : Program} {w : World} {outer : List Env} {H : Hp} {s : Shared} {e : Value} {s' : Shared} (h : L2.CX P w outer H s (fun _ _ _ => False) e s') : False := by
  obtain ⟨_, _, _, _, _, _, _, _, _, _, _, _, hE⟩ := h
  exact hE
def rLenOwn (X : Cx) (k : Nat) : List V → Hp → VK → Prop := fun vs H Q => ∃ a C dx fs g fd ps, ∃ sp : Sp, vs = [.ref a] ∧ H a = some (.ins C dx fs) ∧ Meth X.K C "__len__" g ∧ FnOk X.prog X.w X.K X.mg X.base (L2.CX X.prog X.w) k g fd ps sp ∧ Binds X.K fd ps [] ∧
  sp [.ref a] H (fun v H' => ∃ n : Int, v = .int n ∧ 0 ≤ n ∧ n < 1000000 ∧ Q (.int n) H') (fun _ _ _ => False)
section
variable {X : Cx} {L : Lay} {P : Cfg} {W : WX} {fu : Nat} {pos p apos : Pos} {e o : Expr} {es : List Expr} {to t : T} {ts : Ts} {k : Nat} {x f m : Str}
theorem cr_lenOwn (hr : Room (k + 1) X.A) : CallR X (.builtin "len") (rLenOwn X k) := by
  intro pins s σ H vs us Q I r h
  obtain ⟨a, C, dx, fs, g, fd, ps, sp, rfl, ha, hM, F, hb, q⟩ := h
  obtain ⟨u, rfl, ru⟩ := r.one
  cases (show u = Value.ref a from ru)
  obtain ⟨mA, J, _⟩ := ins_get I.hok ha
  obtain ⟨od, J, _⟩ := J.look
  have r2 : Vals [V.ref a] [Value.ref a] := .cons rfl .nil
  have hl := F.len _ _ _ _ q
  refine len_own I.kIn J hM.at_ hM.fn (wpAny_call (codeAny_mono (F.run X.A.in1 X.stack s H ⟨[.ref a], []⟩ [.ref a] [.ref a] _ _ hr.in1 I.env0.in1 (by
    have := hb s [.ref a] I.kIn (by simpa using hl)
    simpa using this) r2 q) fun r s' hq => ?_))
  cases r with
  | error e => exact (cxno hq).elim
  | ok fl =>
    cases fl with
    | ret u =>
      obtain ⟨v, H', I3, rv, n, rfl, h0, h1, q3⟩ := I.after hq
      obtain ⟨t, rfl⟩ := (show ∃ t, u = Value.int n t from rv)
      exact ⟨n, t, rfl, h0, h1, .int n, H', I3.tok _, ⟨_, rfl⟩, q3⟩
    | next => exact False.elim hq
    | brk => exact False.elim hq
    | cont => exact False.elim hq
theorem sE_lenM (hM : MthOk X L P k) (hr : Room (k + 1) X.A) (hg : Gl X "len") (hm : X.mg "len" = none) (ho : PE X o (tE X.K L P W to)) (hst : isStar o = false) : PE X (.Call (.Name "len" p) [o] [] pos) (tE X.K L P W (.lenM to)) := by
  refine PE.imp (pe_callB (cr_lenOwn (k := k) hr) hg hm (by decide +kernel) (pa_cons ho pa_nil (star_ok hst)) (by decide) (by decide) (star_ok hst)) fun σ H Q ⟨G, r, cs, env, s, er, k0⟩ => ?_
  unfold evE at k0
  refine ⟨G, r, cs, env, s, er, k0.bind fun x cs1 _ v G1 r1 H1 g1 s1 rx k1 => ?_⟩
  cases x <;> first | exact k1.elim | skip
  rename_i c ks ds _
  have k1 : KO X.K L (Rep X.K L) (wE W σ) G1 r1 H1 (match P.meth c "__len__" with
      | some f => calm ((P.call f [.obj c ks ds] cs1).bind fun d cs2 => match d with
        | .int i => if 0 ≤ i ∧ i < 1000000 then .ok (.int i) cs2 else .bad
        | _ => .bad)
      | none => .bad) Q := k1
  cases hm2 : P.meth c "__len__" with
  | none => rw [hm2] at k1; exact k1.elim
  | some i =>
    rw [hm2] at k1
    obtain ⟨f, fd, ps, h1, h2, h3, h4⟩ := hM c "__len__" i hm2
    cases rx with
    | obj q1 q2 q3 =>
      rename_i a dx vs
      refine ⟨a, _, dx, _, f, fd, ps, _, rfl, s1.same _ _ q1, h2, h3, h4, G1, r1, cs1, [.obj c ks ds], s1, .one (.obj q1 q2 q3), ?_⟩
      have k1 : KO X.K L (Rep X.K L) (wE W σ) G1 r1 H1 (calm ((P.call i [.obj c ks ds] cs1).bind fun d cs2 => match d with
        | .int i => if 0 ≤ i ∧ i < 1000000 then .ok (.int i) cs2 else .bad
        | _ => .bad)) Q := k1
      cases e1 : P.call i [.obj c ks ds] cs1 with
      | bad => rw [e1] at k1; exact k1.elim
      | exc c0 ds0 cs0 => rw [e1] at k1; exact k1.elim
      | ok d cs2 =>
        rw [e1] at k1
        cases d <;> first | exact k1.elim | skip
        rename_i n
        have k1 : KO X.K L (Rep X.K L) (wE W σ) G1 r1 H1 (calm (if 0 ≤ n ∧ n < 1000000 then .ok (.int n) cs2 else .bad)) Q := k1
        by_cases hn : 0 ≤ n ∧ n < 1000000
        · rw [if_pos hn] at k1
          intro v G' r' H' g' s' rv
          cases rv.int_of
          exact ⟨n, rfl, hn.1, hn.2, k1 (.int n) G' r' H' g' s' (.int n)⟩
        · rw [if_neg hn] at k1; exact k1.elim

theorem cmp_pk {op : CmpOp} {ta : T} {i : Nat} {σ : L2.St} {H : Hp} {Q : VK} (neg : Bool) (hop : op = if neg then .NotIn else .In) (hR2 : CmpOk X.K L op (rIns X.K neg)) (h : tE X.K L P W (.cmp op ta (.pk i)) σ H Q) :
    tE X.K L P W ta σ H fun v H1 => ∃ w, σ[i]? = some (some w) ∧ rIns X.K neg v w H1 Q := by
  obtain ⟨G, r, cs, env, s, er, k⟩ := h
  have k : KO X.K L (Rep X.K L) (wE W σ) G r H ((evE P ta env cs).bind fun x cs1 => (evE P (.pk i) env cs1).bind fun y cs2 => (ofO (cmpD op cs2 x y) cs2).bind fun k cs2 => .ok (.bl k) cs2) Q := by
    have k2 := k; unfold evE at k2; exact k2
  refine ⟨G, r, cs, env, s, er, k.bind fun x cs1 _ v G1 r1 H1 g1 s1 rx k1 => ?_⟩
  rcases pk_some k1 with ⟨d, e, k2⟩ | ⟨ds, e, k2⟩
  · obtain ⟨w, q, ry⟩ := (er.go g1).get i _ e
    refine ⟨w, q, ?_⟩
    cases qc : cmpD op cs1 x d with
    | none => rw [qc] at k2; exact k2.elim
    | some kk =>
      rw [qc] at k2
      exact hR2 G1 r1 H1 cs1 x d v w kk Q s1 rx ry qc (KO.ok0 (v := V.bl kk) k2 s1 (.bl _))
  · obtain ⟨b, vs, q, h1, h2, h3, h4⟩ := (er.go g1).get i _ e
    refine ⟨.ref b, q, ?_⟩
    cases qc : cmpD op cs1 x (.lst ds) with
    | none => rw [qc] at k2; exact k2.elim
    | some kk =>
      rw [qc] at k2
      have k3 : Q (.bl kk) H1 := KO.ok0 (v := V.bl kk) k2 s1 (.bl _)
      subst hop
      cases neg with
      | false => exact inL_some s1 rx rfl (.inl (SqL.of h1)) h4 (show inL cs1 x ds = some kk from qc) (by rw [Bool.bne_false]; exact k3)
      | true =>
        have qc : (inL cs1 x ds).map (!·) = some kk := qc
        cases qi : inL cs1 x ds with
        | none => rw [qi] at qc; cases qc
        | some k0 =>
          rw [qi] at qc; cases qc
          exact inL_some s1 rx rfl (.inl (SqL.of h1)) h4 qi (by rw [Bool.bne_true]; exact k3)
theorem sE_inO (hu : X.A.units + 100 < cLine) {op : CmpOp} {i : Nat} {a : Expr} {ta : T} {y : Str} {p1 : Pos} (hop : op = .In ∨ op = .NotIn) (ha : PE X a (tE X.K L P W ta)) (hN : X.N[i]? = some y) (hv : Vis X.env.scope y) (hd : (y == ("__debug__" : Str)) = false) (hcd : (y == ("__classdict__" : Str)) = false) (hm : behindInMarks op (.Name y p1) = false) :
    PE X (.Compare a [op] [.Name y p1] pos) (tE X.K L P W (.cmp op ta (.pk i))) := by
  rcases hop with rfl | rfl
  · exact PE.imp (pe_cmpR (op_ins (by omega)) ha (pe_var hN hv hd hcd) hm) fun σ H Q h => cmp_pk false rfl ok_in h
  · exact PE.imp (pe_cmpR (op_nins (by omega)) ha (pe_var hN hv hd hcd) hm) fun σ H Q h => cmp_pk true rfl ok_notin h
theorem tT_cmp_pk {op : CmpOp} {ta : T} {i : Nat} {σ : L2.St} {H : Hp} {Q : Bool → Hp → Prop} (h : tT X.K L P W (.cmp op ta (.pk i)) σ H Q) : tE X.K L P W (.cmp op ta (.pk i)) σ H fun v H' => ∃ k, v = .bl k ∧ Q k H' := by
  obtain ⟨G, r, cs, env, s, er, k⟩ := h
  refine ⟨G, r, cs, env, s, er, ?_⟩
  unfold evE at k ⊢
  cases e1 : evE P ta env cs with
  | bad => rw [e1] at k; exact k
  | exc c ds cs1 => rw [e1] at k; exact k
  | ok x cs1 =>
    rw [e1] at k
    simp only [Out.bind_ok] at k ⊢
    cases e2 : evE P (.pk i) env cs1 with
    | bad => rw [e2] at k; exact k
    | exc c ds cs1 => rw [e2] at k; exact k
    | ok y cs2 =>
      rw [e2] at k
      simp only [Out.bind_ok] at k ⊢
      cases q : cmpD op cs2 x y with
      | none => rw [q] at k; exact k
      | some kk =>
        rw [q] at k
        exact fun v G' r' H' g' s' rv => ⟨kk, rv.bl_of, k kk G' r' H' g' s' rfl⟩
theorem sT_inO (hu : X.A.units + 100 < cLine) {op : CmpOp} {i : Nat} {a : Expr} {ta : T} {y : Str} {p1 : Pos} (hop : op = .In ∨ op = .NotIn) (ha : PE X a (tE X.K L P W ta)) (hN : X.N[i]? = some y) (hv : Vis X.env.scope y) (hd : (y == ("__debug__" : Str)) = false) (hcd : (y == ("__classdict__" : Str)) = false) (hm : behindInMarks op (.Name y p1) = false) :
    PT X (.Compare a [op] [.Name y p1] pos) (tT X.K L P W (.cmp op ta (.pk i))) := by
  rcases hop with rfl | rfl
  · exact PT.imp (pt_cmpR (op_ins (by omega)) ha (pe_var hN hv hd hcd) hm) fun σ H Q h => cmp_pk false rfl ok_in (tT_cmp_pk h)
  · exact PT.imp (pt_cmpR (op_nins (by omega)) ha (pe_var hN hv hd hcd) hm) fun σ H Q h => cmp_pk true rfl ok_notin (tT_cmp_pk h)

theorem sM_list {a : Expr} {ta : T} {p2 : Pos} (hc : X.calm = true) (hg : Gl X "list") (hm : X.mg "list" = none) (ha : PE X a (tE X.K L P W ta)) (hst : isStar a = false) : PE X (.Call (.Name "list" p2) [a] [] pos) (tM X.K L P W (.ownE (.bi .list (.cons ta .nil)))) := by
  refine PE.imp (pe_callTy (call_list_of.or (call_list_text hc)) hg hm (by decide +kernel) (pa_cons ha pa_nil (star_ok hst)) (by decide) (by decide) (star_ok hst)) fun σ H Q ⟨G, r, cs, env, s, er, k⟩ => ?_
  have k : KM X.K L (wE W σ) G r H ((evE P ta env cs).bind fun x cs1 => (ofO (listD cs1 x) cs1).bind fun d cs1 => match d with
    | .lst ds => .ok (.own ds) cs1
    | _ => .bad) Q := by
    have k2 : KM X.K L (wE W σ) G r H (evPm P (.ownE (.bi .list (.cons ta .nil))) env cs) Q := k
    unfold evPm at k2
    simp only [evE, evTs] at k2
    cases e1 : evE P ta env cs with
    | bad => rw [e1] at k2; exact k2
    | exc c ds cs1 => rw [e1] at k2; exact k2
    | ok x cs1 => rw [e1] at k2; exact k2
  have key : ∀ (x : D) (v : V) (cs1 : List C) (G1 : Hp) (r1 : List Addr) (H1 : Hp), Go G r H G1 r1 H1 → Sep X.K L G1 r1 cs1 H1 → Rep X.K L G1 r1 x v → KM X.K L (wE W σ) G r H ((ofO (listD cs1 x) cs1).bind fun d cs1 => match d with
    | .lst ds => .ok (.own ds) cs1
    | _ => .bad) Q →
      ((∃ p ys, [v] = [.ref p] ∧ (SqL X.K H1 p ys ∨ SqT X.K H1 p ys) ∧ ∀ l, H1 l = none → Q (.ref l) (upd H1 l (.lst ys))) ∨ ∃ z, [v] = [.str z] ∧ z.length ≤ sizeLine ∧ ∀ l, H1 l = none → Q (.ref l) (upd H1 l (.lst (chars z)))) := by
    intro x v cs1 G1 r1 H1 g1 s1 rv k1
    have fin : ∀ (ds : List D) (vs : List V), KM X.K L (wE W σ) G r H (.ok (.own ds) cs1) Q → Reps X.K L G1 r1 ds vs → ∀ l, H1 l = none → Q (.ref l) (upd H1 l (.lst vs)) := by
      intro ds vs k2 q l hp
      have gp : G1 l = none := Same.free s1.same hp
      have np : l ∉ r1 := fun hm => (s1.mem hm).2 (.of hp)
      have hpH : Fr H l := Classical.byContradiction fun q => g1.dom l q (.of hp)
      exact k2 (.ref l) G1 r1 _ (g1.upd hpH) (s1.upd gp np (by rw [hp]; trivial)) ⟨l, vs, rfl, upd_same, gp, np, q⟩ fun a ea _ => by cases ea; exact hpH
    unfold listD at k1
    split at k1
    · rename_i y t
      obtain ⟨p, ws, rfl, h1, h2⟩ := top_lst s1 rv t
      exact .inl ⟨p, ws, rfl, .inl (SqL.of h1), fin y ws k1 h2⟩
    · rename_i y t
      cases top_tup t
      obtain ⟨p, ws, rfl, h1, h2⟩ := tup_of s1 rv
      exact .inl ⟨p, ws, rfl, .inr h1, fin y ws k1 h2⟩
    · rename_i y t
      cases top_str t
      cases el : lim y.length (D.lst (y.map fun c => D.str [c])) with
      | none => rw [el] at k1; exact k1.elim
      | some d =>
        obtain ⟨hl, e⟩ := lim_some el
        subst e
        rw [el] at k1
        rw [rv.str_of]
        exact .inr ⟨_, rfl, by rw [mkS_len]; exact LIM_le hl, fin _ _ k1 (chars_reps y)⟩
    · exact k1.elim
  refine ⟨G, r, cs, env, s, er, ?_⟩
  cases e1 : evE P ta env cs with
  | bad => rw [e1] at k; exact k
  | exc c ds cs1 => rw [e1] at k; exact k
  | ok x cs1 =>
    rw [e1] at k
    exact fun v G1 r1 H1 g1 s1 rv => key x v cs1 G1 r1 H1 g1 s1 rv k
end
end XV
set_option Elab.async false
set_option linter.all false
set_option autoImplicit false
set_option maxRecDepth 100000
namespace XV
open PySem PySem.Spec PyProof.Rows L2
theorem cell_go {K : PySem.W.Frag} {L : Lay} {G : Hp} {r : List Addr} {H : Hp} {cs : List C} (s : Sep K L G r cs H) {c : Nat} {k k' : C} {a : Addr} {x : HO} (e : cs[c]? = some k) (ea : r[c]? = some a) (n : CellR K L G r (upd H a x) a k') :
    Go G r H G r (upd H a x) ∧ Sep K L G r (cs.set c k') (upd H a x) := by
  have hm : Mt3 (H a) := by
    obtain ⟨b, q1, _, q3⟩ := s.cell c k e
    rw [ea] at q1; cases q1; exact q3.mt
  have ga : G a = none := (s.mem (List.mem_of_getElem? ea)).1
  have hc : c < cs.length := (List.getElem?_eq_some_iff.mp e).1
  constructor
  · refine ⟨Same.refl G, fun _ _ => rfl, ⟨[], by simp, by simp⟩, fun b o hb hr ht => ?_, fun b hb => ?_⟩
    · have ne : b ≠ a := fun z => hr (z ▸ List.mem_of_getElem? ea)
      rw [upd_ne ne]; exact hb
    · by_cases z : b = a
      · subst z; exact n.some
      · rw [Fr.upd z]; exact hb
  · refine ⟨fun b o h => by rw [upd_ne (ne_of_none h ga)]; exact s.same b o h, s.nod, by simpa using s.len, fun i k2 ek => ?_, Mt3.tabs s.tabs hm, s.gt, s.lat⟩
    by_cases ec : c = i
    · subst ec
      rw [List.getElem?_set_self hc] at ek
      cases ek
      exact ⟨a, ea, ga, n⟩
    · rw [List.getElem?_set_ne ec] at ek
      obtain ⟨b, q1, q2, q3⟩ := s.cell i k2 ek
      have ne : b ≠ a := fun z => ec (nodup_at s.nod ea (z ▸ q1))
      have := CellR.mono (t := []) (Same.refl G) (H' := upd H a x) (by rw [upd_ne ne]) q3
      exact ⟨b, q1, q2, by simpa using this⟩
section
variable {X : Cx} {L : Lay} {P : Cfg} {W : WX} {pos : Pos}
theorem last_vs {K : PySem.W.Frag} {G : Hp} {r : List Addr} : ∀ {ds : List D} {vs : List V} {d : D}, Reps K L G r ds vs → ds.getLast? = some d → ∃ v, vs[vs.length - 1]? = some v ∧ Rep K L G r d v ∧ Reps K L G r ds.dropLast vs.dropLast := by
  intro ds vs d h e
  rw [List.getLast?_eq_getElem?] at e
  obtain ⟨v, h1, h2⟩ := h.get e
  refine ⟨v, by rw [← h.length]; exact h1, h2, ?_⟩
  have := h.take (ds.length - 1)
  rw [List.dropLast_eq_take, List.dropLast_eq_take, ← h.length]
  exact this
theorem sE_pop {o : Expr} {to : T} {apos cpos : Pos} (ho : PE X o (tE X.K L P W to)) (hcall : isCall0 o = false) (hline : (apos.endLine == cpos.line) = true) : PE X (.Call (.Attribute o "pop" apos) [] [] cpos) (tE X.K L P W (.pop to)) := by
  refine PE.imp (pe_bm0 PySem.F.plainAttrs_list PySem.F.slot_list_pop PySem.F.type_list_pop mt_pop ho (attr_ok hcall) hline) fun σ H Q ⟨G, r, cs, env, s, er, k⟩ => ?_
  unfold evE at k
  refine ⟨G, r, cs, env, s, er, k.bind fun x cs1 hx v G1 r1 H1 g1 s1 rx k1 => ?_⟩
  cases x <;> first | exact k1.elim | skip
  rename_i c
  simp only at k1
  cases e1 : cs1[c]? with
  | none => rw [e1] at k1; exact k1.elim
  | some kk =>
    rw [e1] at k1
    cases kk <;> first | exact k1.elim | skip
    rename_i ds
    simp only at k1
    cases e2 : ds.getLast? with
    | none => rw [e2] at k1; exact k1.elim
    | some d =>
      rw [e2] at k1
      simp only at k1
      obtain ⟨a, vs, rfl, ea, h1, h2⟩ := ref_cell s1 rx e1
      obtain ⟨w, h3, h4, h5⟩ := last_vs h2 e2
      obtain ⟨g, s2⟩ := cell_go (x := .lst vs.dropLast) (k' := .lst ds.dropLast) s1 e1 ea ⟨_, upd_same, h5⟩
      exact ⟨.inl ⟨rfl, vs, SqL.of h1⟩, a, vs, w, rfl, rfl, h1, h3, k1 _ _ _ _ g s2 h4⟩
theorem sE_lstE {a : Expr} {ta : T} {p2 : Pos} (hc : X.calm = true) (hg : Gl X "list") (hm : X.mg "list" = none) (ha : PE X a (tE X.K L P W ta)) (hst : isStar a = false) : PE X (.Call (.Name "list" p2) [a] [] pos) (tE X.K L P W (.lstE ta)) := by
  refine PE.imp (pe_callTy (call_list_of.or (call_list_text hc)) hg hm (by decide +kernel) (pa_cons ha pa_nil (star_ok hst)) (by decide) (by decide) (star_ok hst)) fun σ H Q ⟨G, r, cs, env, s, er, k⟩ => ?_
  unfold evE at k
  refine ⟨G, r, cs, env, s, er, k.bind fun x cs1 hx v G1 r1 H1 g1 s1 rv k1 => ?_⟩
  have fin : ∀ (ds : List D) (vs : List V), KO X.K L (Rep X.K L) (wE W σ) G1 r1 H1 (.ok (.ref cs1.length) (cs1 ++ [.lst ds])) Q → Reps X.K L G1 r1 ds vs → ∀ l, H1 l = none → Q (.ref l) (upd H1 l (.lst vs)) := by
    intro ds vs k2 q l hp
    have g := Go.cellNew s1 (.lst vs) hp
    refine k2 _ _ _ _ g (s1.cellNew hp ⟨vs, upd_same, q.go g⟩) (.ref ?_)
    rw [← s1.len, List.getElem?_append_right (Nat.le_refl _)]
    simp
  show (∃ p ys, [v] = [.ref p] ∧ (SqL X.K H1 p ys ∨ SqT X.K H1 p ys) ∧ ∀ l, H1 l = none → Q (.ref l) (upd H1 l (.lst ys))) ∨ ∃ z, [v] = [.str z] ∧ z.length ≤ sizeLine ∧ ∀ l, H1 l = none → Q (.ref l) (upd H1 l (.lst (chars z)))
  unfold listD at k1
  split at k1
  · rename_i ds0 e0
    split at e0
    · rename_i y t
      cases e0
      obtain ⟨p, ws, rfl, h1, h2⟩ := top_lst s1 rv t
      exact .inl ⟨p, ws, rfl, .inl (SqL.of h1), fin _ ws k1 h2⟩
    · rename_i y t
      cases e0
      cases top_tup t
      obtain ⟨p, ws, rfl, h1, h2⟩ := tup_of s1 rv
      exact .inl ⟨p, ws, rfl, .inr h1, fin _ ws k1 h2⟩
    · rename_i y t
      cases top_str t
      obtain ⟨hl, e⟩ := lim_some e0
      cases e
      rw [rv.str_of]
      exact .inr ⟨_, rfl, by rw [mkS_len]; exact LIM_le hl, fin _ _ k1 (chars_reps y)⟩
    · cases e0
  · exact k1.elim
end
end XV
set_option Elab.async false
set_option linter.all false
set_option autoImplicit false
set_option maxRecDepth 100000
namespace XV
open PySem PySem.Spec PyProof.Rows L2
section
variable {P : Program} {w : World} {κ : Type} [DecidableEq κ]
structure Prj (knd : KeyKind P w κ) (pr : Int × Value → κ) : Prop where
  at_ : ∀ {e : Int × Value} {k : κ}, knd.is k e.2 = true → pr e = k
  sc : ∀ {k : κ} {v : Value}, knd.is k v = true → v.scannable = true
def MOk (knd : KeyKind P w κ) (e : Int × Value) : Prop := ∃ k, knd.is k e.2 = true ∧ e.1 = knd.hash k
def KSet (knd : KeyKind P w κ) (pr : Int × Value → κ) (h : Heap) (a : Addr) (M : κ → Bool) (n : Nat) : Prop :=
  ∃ ob es ep tb, h.get? a = some ob ∧ ob.ExactSet ∧ ob.data = .set es ep tb ∧ (∀ e ∈ es.toList, MOk knd e) ∧ (es.toList.map pr).Nodup ∧ (∀ k, M k = true ↔ k ∈ es.toList.map pr) ∧
    es.size < scanBound ∧ tb.fits es.size = true ∧ es.size = n ∧ Ris tb.place.toList ∧ (w.params.followText "set-order" = true ∨ tb.led = true)
variable {knd : KeyKind P w κ} {pr : Int × Value → κ} {h h' : Heap} {a : Addr} {M : κ → Bool} {n : Nat}
theorem KSet.keep (R : KSet knd pr h a M n) (q : ∀ ob, h.get? a = some ob → h'.get? a = some ob) : KSet knd pr h' a M n := by
  obtain ⟨ob, es, ep, tb, ho, rest⟩ := R
  exact ⟨ob, es, ep, tb, q ob ho, rest⟩
theorem KSet.same {M' : κ → Bool} (R : KSet knd pr h a M n) (e : ∀ k, M' k = M k) : KSet knd pr h a M' n := by
  rw [show M' = M from funext e]; exact R
theorem mOk_elems (J : Prj knd pr) {l : List (Int × Value)} (g : ∀ e ∈ l, MOk knd e) : ElemsOf knd l := fun e he => by
  obtain ⟨k, q1, q2⟩ := g e he
  exact ⟨⟨k, q1, q2⟩, J.sc q1⟩
theorem mOk_is (J : Prj knd pr) {e : Int × Value} (g : MOk knd e) (k : κ) : knd.is k e.2 = true ↔ pr e = k := by
  obtain ⟨k0, q1, _⟩ := g
  constructor
  · intro q; exact J.at_ q
  · intro q
    have : pr e = k0 := J.at_ q1
    rw [← q, this]; exact q1
theorem mOk_mem (J : Prj knd pr) {l : List (Int × Value)} (g : ∀ e ∈ l, MOk knd e) (k : κ) : k ∈ l.map pr ↔ ∃ e ∈ l, knd.is k e.2 = true := by
  constructor
  · intro hk
    obtain ⟨e, he, q⟩ := List.mem_map.mp hk
    exact ⟨e, he, (mOk_is J (g e he) k).mpr q⟩
  · rintro ⟨e, he, q⟩
    exact List.mem_map.mpr ⟨e, he, (mOk_is J (g e he) k).mp q⟩
end
section
variable {P : Program} {w : World} {κ : Type} [DecidableEq κ] {knd : KeyKind P w κ} {pr : Int × Value → κ} {A : Around} {E : Value → Shared → Prop} {s : Shared} {a : Addr} {M : κ → Bool} {n : Nat}
theorem kset_tail {gv : Bool → Sem Unit} (hgv : ∀ (b : Bool) (s1 : Shared) (Z : Unit → Shared → Prop), Z () s1 → wpAny (model P w) A (gv b) Z E s1)
    {ob : Obj} {es : Array (Int × Value)} {ep : Nat} {tb : SetTable} (ho : s.heap.get? a = some ob) (hx : ob.ExactSet) (hd : ob.data = .set es ep tb)
    {fs : Array (Int × Value)} {tc : SetTable} {N : κ → Bool} (g1 : ∀ e ∈ fs.toList, MOk knd e) (nd1 : (fs.toList.map pr).Nodup) (m1 : ∀ k, N k = true ↔ k ∈ fs.toList.map pr)
    (hb1 : fs.size < scanBound) (hf2 : tc.fits fs.size = true) (hr : Ris tc.place.toList) (hl : w.params.followText "set-order" = true ∨ tc.led = true) {dm : Bool} {R : Option Bool → Shared → Prop}
    (hR : ∀ h', Heap.SameBut a s.heap h' → KSet knd pr h' a N fs.size → R (some true) { s with heap := h' }) :
    wpAny (model P w) A (do
        storeSet a fs tc
        if (!dm && tc.tooFull) = true then do
            gv (relayAll tc fs (SetTable.grown fs.size)).2.2
            storeSet a (relayAll tc fs (SetTable.grown fs.size)).1 (relayAll tc fs (SetTable.grown fs.size)).2.1
            pure (some true)
          else pure (some true)) R E s := by
  refine wpAny_bind (wpAny_storeSet_of ho hd ?_ (fits_of_scanBound hb1))
  have o1 := store_at (es' := fs) (t' := tc) ho hd
  have b1 := Heap.SameBut.update s.heap a (Obj.putSet fs tc)
  split
  · have p2 := relayAll_perm tc fs (SetTable.grown fs.size)
    have f2 := relayAll_fits tc fs (SetTable.grown fs.size)
    have r2 := relayAll_ris tc fs (SetTable.grown fs.size)
    have l2 := relayAll_led tc fs (SetTable.grown fs.size)
    generalize relayAll tc fs (SetTable.grown fs.size) = Y at p2 f2 r2 l2 ⊢
    obtain ⟨gs, td, gave⟩ := Y
    dsimp only at p2 f2 r2 l2 ⊢
    have hz : gs.size = fs.size := by rw [← Array.length_toList, p2.length_eq, Array.length_toList]
    have hb2 : gs.size < scanBound := by rw [hz]; exact hb1
    refine wpAny_bind (hgv _ _ _ ?_)
    refine wpAny_bind (wpAny_storeSet_of o1 rfl ?_ (fits_of_scanBound hb2))
    have o2 := store_at (es' := gs) (t' := td) o1 rfl
    refine wpAny_pure (hR _ (b1.trans (Heap.SameBut.update _ a _)) ?_)
    exact ⟨_, gs, _, td, o2, hx, rfl, fun e he => g1 e (p2.mem_iff.mp he), (p2.map pr).nodup_iff.mpr nd1, fun k => (m1 k).trans (p2.map pr).mem_iff.symm, hb2, f2, hz, r2, hl.imp id fun z => by rw [l2]; exact z⟩
  · exact wpAny_pure (hR _ b1 ⟨_, fs, _, tc, o1, hx, rfl, g1, nd1, m1, hb1, hf2, rfl, hr, hl⟩)
theorem kset_add (J : Prj knd pr) {k : κ} {v : Value} (hv : knd.is k v = true) {Q : Bool → Shared → Prop} (R : KSet knd pr s.heap a M n) (room : n + 1 < scanBound)
    (hQ : ∀ h', Heap.SameBut a s.heap h' → KSet knd pr h' a (fun j => M j || decide (j = k)) (if M k = true then n else n + 1) → Q (!M k) { s with heap := h' }) :
    wpAny (model P w) A (setAddHashed a v (knd.hash k)) Q E s := by
  obtain ⟨ob, es, ep, tb, ho, hx, hd, g, nd, hm, hb, hf, hn, hr, hl⟩ := R
  have hsv : v.scannable = true := J.sc hv
  have hel : ElemsOf knd es.toList := mOk_elems J g
  unfold setAddHashed setAddHashedIn
  refine wpAny_holding (wpAny_bind (wpAny_setState_of ho hd hf ?_))
  dsimp only
  rw [byScan_of hsv hb hel]
  simp only [↓reduceIte]
  unfold setAddByScan
  refine wpAny_bind ?_
  refine wpAny_bind (wpAny_rule ?_)
  refine wpAny_bind (wpAny_setScan_of hv ho hd hf hel ?_)
  cases hfi : List.findIdx? (fun e => knd.is k e.2) es.toList with
  | some j =>
    dsimp only
    obtain ⟨hj, pj, _⟩ := List.findIdx?_eq_some_iff_getElem.mp hfi
    have hin : M k = true := (hm k).2 ((mOk_mem J g k).2 ⟨es.toList[j], List.getElem_mem hj, pj⟩)
    refine wpAny_pure (wpAny_pure ?_)
    have q := hQ s.heap (Heap.SameBut.refl a s.heap) ⟨ob, es, ep, tb, ho, hx, hd, g, nd, fun i => by
      rw [Bool.or_eq_true, decide_eq_true_eq, ← hm i]
      exact ⟨fun z => z.elim id (fun e => e ▸ hin), .inl⟩, hb, hf, by rw [if_pos hin]; exact hn, hr, hl⟩
    rw [hin] at q
    exact q
  | none =>
    dsimp only
    have hout : k ∉ es.toList.map pr := fun z => by
      obtain ⟨e, he, q⟩ := (mOk_mem J g k).1 z
      have c := List.findIdx?_eq_none_iff.mp hfi e he
      rw [q] at c
      cases c
    have hno : M k = false := by
      cases q : M k with
      | false => rfl
      | true => exact absurd ((hm k).1 q) hout
    have gvw : ∀ (b : Bool) {s1 : Shared} {Z : Unit → Shared → Prop}, Z () s1 → wpAny (model P w) A (match b with | true => rule "set.scan.the-table-gave-way" | false => pure ()) Z E s1 :=
      fun b s1 Z q => by cases b <;> first | exact wpAny_pure q | exact wpAny_rule q
    have pm := layNew_perm tb es (knd.hash k) v
    have f1 := layNew_fits tb es (knd.hash k) v
    have r1 := layNew_ris tb es (knd.hash k) v hr
    have l1 := layNew_led tb es (knd.hash k) v
    generalize layNew tb es (knd.hash k) v = Y at pm f1 r1 l1 ⊢
    obtain ⟨fs, tc, wd, gave⟩ := Y
    dsimp only at pm f1 r1 l1 ⊢
    rw [Array.toList_push] at pm
    have pc : fs.toList.Perm ((knd.hash k, v) :: es.toList) := pm.trans (List.perm_append_singleton _ _)
    have pk : (fs.toList.map pr).Perm (k :: es.toList.map pr) := by
      have z := pc.map pr
      rw [List.map_cons, J.at_ (e := (knd.hash k, v)) hv] at z
      exact z
    have g1 : ∀ e ∈ fs.toList, MOk knd e := fun e he => by
      rcases List.mem_cons.mp (pc.mem_iff.mp he) with z | z
      · rw [z]; exact ⟨k, hv, rfl⟩
      · exact g e z
    have nd1 : (fs.toList.map pr).Nodup := pk.nodup_iff.mpr (List.nodup_cons.mpr ⟨hout, nd⟩)
    have m1 : ∀ i, (M i || decide (i = k)) = true ↔ i ∈ fs.toList.map pr := fun i => by
      rw [Bool.or_eq_true, decide_eq_true_eq, hm i, pk.mem_iff, List.mem_cons]
      exact Or.comm
    have hz : fs.size = n + 1 := by rw [← Array.length_toList, pc.length_eq, List.length_cons, Array.length_toList, hn]
    have hb1 : fs.size < scanBound := by rw [hz]; exact room
    have hled : w.params.followText "set-order" = true ∨ tc.led = true := hl.imp id fun z => by rw [l1]; exact z
    have fin : ∀ h', Heap.SameBut a s.heap h' → KSet knd pr h' a (fun j => M j || decide (j = k)) fs.size → Q true { s with heap := h' } := fun h' sb r => by
      have q := hQ h' sb
      rw [hno] at q
      rw [hz] at r
      exact q r
    refine wpAny_bind (gvw _ ?_)
    split
    · refine wpAny_bind ?_
      rw [hashByValue_scannable 8 hsv]
      refine wpAny_pure ?_
      refine kset_tail ?_ ho hx hd g1 nd1 m1 hb1 ?_ ?_ ?_ ?_
      · intro b s1 Z q; cases b <;> first | exact wpAny_pure q | exact wpAny_rule q
      · first | (split <;> first | exact f1 | exact SetTable.fits_plain_off f1) | exact f1
      · first | (split <;> exact r1) | exact r1
      · first | (split <;> exact hled) | exact hled
      · intro h' sb r; dsimp only; exact wpAny_pure (fin h' sb r)
    · refine wpAny_bind (wpAny_pure ?_)
      simp only [↓reduceIte]
      refine kset_tail ?_ ho hx hd g1 nd1 m1 hb1 f1 r1 hled ?_
      · intro b s1 Z q; cases b <;> first | exact wpAny_pure q | exact wpAny_rule q
      · intro h' sb r; dsimp only; exact wpAny_pure (fin h' sb r)
theorem kset_fresh {h : Heap} {ks : List κ} (ho : h.get? a = some { cls := .type "set", dict := none, data := .set #[] 0 (.fresh 0 0 (!w.params.followText "set-order")) }) : KSet knd pr h a (fun j => decide (j ∈ ks.take 0)) 0 :=
  ⟨_, #[], 0, _, ho, ⟨rfl, rfl, rfl⟩, rfl, (fun e he => by simp at he), (by simp), (fun k => by simp), (by decide), (by rfl), rfl, List.Pairwise.nil, by
    show _ ∨ (!w.params.followText "set-order") = true
    cases w.params.followText "set-order"
    · exact .inr rfl
    · exact .inl rfl⟩
theorem kset_update (J : Prj knd pr) {I : Addr} {fp wr : List Addr} {Gn : Array GenState → Array GenState → Prop} {n : Nat} {Pv : Nat → Value → Prop} {St : Nat → Shared → Prop} {R : Result → Shared → Prop}
    (W : WalksS P w A.in1 I fp wr Gn n Pv St) (S : Addr) (hSf : S ∉ fp) (ks : List κ) (hn : n = ks.length) (hb : ks.length + 1 < scanBound) (hval : ∀ i v, Pv i v → ∃ k, ks[i]? = some k ∧ knd.is k v = true) :
    ∀ (m i : Nat) (s : Shared), n - i = m → i ≤ n → St i s → (∃ c, c ≤ i ∧ KSet knd pr s.heap S (fun j => decide (j ∈ ks.take i)) c) →
      (∀ s' c, Moved (S :: wr) Gn s s' → c ≤ n → KSet knd pr s'.heap S (fun j => decide (j ∈ ks)) c → R (.ok (.ret .none)) s') →
      codeAny (model P w) A (.builtin "set.update.loop" ⟨[.ref S, .ref I], []⟩) R s := by
  have hSw : S ∉ wr := fun q => hSf (W.sub _ q)
  have up : ∀ b ∈ wr, b ∈ S :: wr := fun b hb => List.mem_cons_of_mem _ hb
  intro m
  induction m with
  | zero =>
    intro i s hm hi hst ⟨c, hc, hS⟩ hR
    obtain rfl : i = n := by omega
    refine codeAny_builtin F.entry_set_update_loop ?_
    rw [Around.under_plainId F.plain_set_update_loop _]
    show wpAny _ A.in1 (pyNext (.ref I) >>= _) _ _ s
    refine wpAny_bind (W.done s _ _ hst fun s' mv => ?_)
    show wpAny _ A.in1 (ret Value.none) _ _ s'
    rw [List.take_of_length_le (show ks.length ≤ i by omega)] at hS
    exact wpAny_pure (hR s' c (mv.mono up) hc (hS.keep fun o e => mv.heap S o hSw e))
  | succ m ih =>
    intro i s hm hi hst ⟨c, hc, hS⟩ hR
    have hlt : i < n := by omega
    refine codeAny_builtin F.entry_set_update_loop ?_
    rw [Around.under_plainId F.plain_set_update_loop _]
    show wpAny _ A.in1 (pyNext (.ref I) >>= _) _ _ s
    refine wpAny_bind (W.item i s _ _ hlt hst fun v s' pv hst' mv => ?_)
    obtain ⟨z, hz, hv⟩ := hval i v pv
    have hS' : KSet knd pr s'.heap S (fun j => decide (j ∈ ks.take i)) c := hS.keep fun o e => mv.heap S o hSw e
    show wpAny _ A.in1 (holding [v] (setAdd S v) >>= _) _ _ s'
    refine wpAny_bind (wpAny_holding ?_)
    unfold setAdd
    refine wpAny_holding ?_
    refine wpAny_bind (knd.pyHash hv ?_)
    refine kset_add (s := { s' with toks := s'.toks + 1 }) J hv hS' (by omega) fun h' sb hS2 => ?_
    have hS3 : KSet knd pr h' S (fun j => decide (j ∈ ks.take (i + 1))) (if decide (z ∈ ks.take i) = true then c else c + 1) := hS2.same fun j => by
      rw [List.take_add_one, hz]
      simp [List.mem_append]
    have hc3 : (if decide (z ∈ ks.take i) = true then c else c + 1) ≤ i + 1 := by split <;> omega
    refine wpAny_pure ⟨plainId_quiet F.plain_set_update_loop _, ih (i + 1) _ (by omega) hlt (W.frame _ s' _ _ hst' (Nat.le_succ _) fun b hb o e => ?_) ⟨_, hc3, hS3⟩ fun s2 c2 m2 hc2 hS4 => ?_⟩
    · rw [sb.2 b (fun q : b = S => hSf (by rw [← q]; exact hb))]; exact e
    · refine hR s2 c2 (Moved.trans W.gtrans ((mv.mono up).then_heap (Nat.le_succ _) fun b o hb e => ?_) m2) hc2 hS4
      rw [sb.2 b (fun q : b = S => hb (by rw [q]; exact List.mem_cons_self))]; exact e
end
end XV
set_option Elab.async false
set_option linter.all false
set_option autoImplicit false
set_option maxRecDepth 100000
namespace XV
open PySem PySem.Spec PyProof.Rows L2
def sgns (z : Str) : List Str := z.cps.toList.map fun c => ⟨#[c]⟩
def txtOf (e : Int × Value) : Str := match e.2 with
  | .str x _ => x
  | _ => ⟨#[]⟩
theorem prj_str {P : Program} {w : World} : Prj (strKind P w) txtOf := by
  refine ⟨fun {e k} q => ?_, fun {k v} q => ?_⟩
  · obtain ⟨t, ht⟩ := Value.isStrOf_shape (show Value.isStrOf k e.2 = true from q)
    unfold txtOf
    rw [ht]
  · obtain ⟨t, rfl⟩ := Value.isStrOf_shape (show Value.isStrOf k v = true from q)
    rfl
section
variable {P : Program} {w : World} {A : Around} {E : Value → Shared → Prop} {s : Shared}
abbrev setO0 (w : World) : Obj := { cls := .type "set", dict := none, data := .set #[] 0 (.fresh 0 0 (!w.params.followText "set-order")) }
theorem str_notset : isSubtype (.type "str") (.type "set") = pure false := by rw [isSubtype_type]; kernel_rfl
theorem str_notfset : isSubtype (.type "str") (.type "frozenset") = pure false := by rw [isSubtype_type]; kernel_rfl
set_option maxHeartbeats 3200000 in
theorem call_set_text {z : Str} {t : Tok} {Q : Value → Shared → Prop} (hh : A.handled = none) (hb : (sgns z).length + 1 < scanBound)
    (h : ∀ (h' : Heap) (tk c : Nat), KSet (strKind P w) txtOf h' s.heap.objs.size (fun j => decide (j ∈ sgns z)) c → c ≤ (sgns z).length → (∀ b o, s.heap.get? b = some o → h'.get? b = some o) → Q (.ref s.heap.objs.size) { s with heap := h', toks := tk }) :
    wpAny (model P w) A (call (.type "set") [.str z t]) Q E s := by
  have hlen : z.cps.size = (sgns z).length := by unfold sgns; simp
  obtain ⟨c0, tl, hmro⟩ := F.called_set.mro
  have hmade := F.called_set.made
  have hsub := F.called_set.sub
  refine wpAny_call (codeAny_of_tree ?_)
  show wpAny _ _ (callAny (.type "set") _) _ _ _
  refine wpAny_pure ⟨Code.quiet_builtin _ (by decide +kernel), codeAny_builtin F.entry_type_call ?_⟩
  rw [Around.under_plain (weight_type_call_type "set" [.str z t] []) rfl]
  have h1 := F.called_set.notType
  have h2 := F.called_set.canCreate
  have hct := F.typeCall_set_1 (.str z t)
  repeat (any_goals (first | assumption | wp_step))
  refine codeAny_mono (code_set_led1 (.str z t) (E := E) (Q₁ := fun obj s1 => obj = .ref s.heap.objs.size ∧ s1 = { s with heap := s.heap.push (setO0 w) }) ⟨rfl, rfl⟩) fun r s1 hr => ?_
  cases r with
  | error e => exact hr
  | ok fl =>
    cases fl with
    | ret obj =>
      obtain ⟨rfl, rfl⟩ := hr
      have hS : (s.heap.push (setO0 w)).get? s.heap.objs.size = some (setO0 w) := Heap.get?_push_size _ rfl
      have hT : Shared.TypeIs { s with heap := s.heap.push (setO0 w) } (.ref s.heap.objs.size) "set" := ⟨_, hS, rfl⟩
      have hli := F.called_set.init.lookup
      have hbi := F.called_set.init.bind (.ref s.heap.objs.size)
      repeat (any_goals (first | assumption | wp_step))
      refine codeAny_mono (codeAny_call_builtin (R := wants (fun r s2 => r = .none ∧ ∃ h' tk c, s2 = { s with heap := h', toks := tk } ∧ KSet (strKind P w) txtOf h' s.heap.objs.size (fun j => decide (j ∈ sgns z)) c ∧ c ≤ (sgns z).length ∧
          (∀ b o, s.heap.get? b = some o → h'.get? b = some o)) E) F.called_set.init.plain F.entry_set_init (check_set_init_1 hT ?_)) fun r2 s2 hr2 => ?_
      · have n1 := str_notset
        have n2 := str_notfset
        have hne : (Value.type "str" == Value.type "dict") = false := by decide
        unfold Builtin.«set.__init__» noKeywords Builtin.Frozenset.updateFrom
        generalize hPI : pyIter = PI
        wp_walk
        subst hPI
        refine wpAny_pyIter_str fun ob St hW h0 => ?_
        refine wpAny_bind (wpAny_runValue ?_)
        have hh3 : A.in1.in1.in1.handled = none := by simp [hh]
        have hz1 : (s.heap.push (setO0 w)).objs.size = s.heap.objs.size + 1 := Heap.size_push ..
        have hSf : s.heap.objs.size ∉ [(s.heap.push (setO0 w)).objs.size] := by
          rw [hz1]; simp
        have hval : ∀ (i : Nat) (v : Value), SignAt z i v → ∃ k, (sgns z)[i]? = some k ∧ (strKind P w).is k v = true := fun i v hv => by
          obtain ⟨c, u, hc, rfl⟩ := hv
          refine ⟨⟨#[c]⟩, ?_, strKind_is P w _ _⟩
          unfold sgns
          rw [List.getElem?_map, Array.getElem?_toList, hc]; rfl
        refine kset_update prj_str ((hW _ hh3).toS) s.heap.objs.size hSf (sgns z) hlen hb hval (z.cps.size - 0) 0 _ (by omega) (Nat.zero_le _) h0 ?hS0 ?hR
        case hS0 =>
          exact ⟨0, Nat.le_refl 0, kset_fresh (Heap.get?_push_of_some _ hS)⟩
        case hR =>
          intro s' c' mv hc' hS'
          obtain ⟨h', g2, d', tk', os'⟩ := s'
          have eg : g2 = s.gens := mv.gens
          have ed : d' = s.drawn := mv.drawn
          have eo : os' = s.os := mv.os
          subst eg; subst ed; subst eo
          show wpAny _ _ _ _ _ _
          refine wpAny_pure ?_
          show wpAny _ _ (ret Value.none) _ _ _
          rw [hlen] at hc'
          refine wpAny_pure ⟨rfl, h', tk', c', rfl, hS', hc', fun b o e => ?_⟩
          have hb0 : b < s.heap.objs.size := Heap.lt_size e
          refine mv.heap b o (fun q => ?_) (Heap.get?_push_of_some _ (Heap.get?_push_of_some _ e))
          rcases List.mem_cons.mp q with q | q
          · exact absurd q (Nat.ne_of_lt hb0)
          · have q := List.mem_singleton.mp q
            rw [hz1] at q
            exact absurd q (Nat.ne_of_lt (Nat.lt_succ_of_lt hb0))
      · cases r2 with
        | error e => exact hr2
        | ok fl2 =>
          cases fl2 with
          | ret r =>
            obtain ⟨rfl, h', tk, c', rfl, hS', hc', hk'⟩ := hr2
            repeat (any_goals (first | assumption | wp_step))
            exact h _ _ _ hS' hc' hk'
          | _ => exact hr2.elim
    | _ => exact hr.elim
end
end XV
set_option Elab.async false
set_option linter.all false
set_option autoImplicit false
set_option maxRecDepth 100000
namespace XV
open PySem PySem.Spec PyProof.Rows L2
theorem lt_tri : ∀ a b : List Nat, a < b ∨ a = b ∨ b < a
  | [], [] => .inr (.inl rfl)
  | [], b :: bs => .inl (List.nil_lt_cons _ _)
  | a :: as, [] => .inr (.inr (List.nil_lt_cons _ _))
  | a :: as, b :: bs => by
    rcases Nat.lt_trichotomy a b with h | h | h
    · exact .inl (List.cons_lt_cons_iff.mpr (.inl h))
    · subst h
      rcases lt_tri as bs with q | q | q
      · exact .inl (List.cons_lt_cons_iff.mpr (.inr ⟨rfl, q⟩))
      · exact .inr (.inl (by rw [q]))
      · exact .inr (.inr (List.cons_lt_cons_iff.mpr (.inr ⟨rfl, q⟩)))
    · exact .inr (.inr (List.cons_lt_cons_iff.mpr (.inl h)))
theorem ll_trans {a b c : List Nat} (h : a < b) (h2 : b < c) : a < c := List.lt_trans h h2
theorem ll_irrefl (a : List Nat) : ¬ a < a := List.lt_irrefl a
theorem insL_mem {x z : List Nat} : ∀ {l : List (List Nat)}, z ∈ insL x l ↔ z = x ∨ z ∈ l
  | [] => by simp [insL]
  | y :: r => by
    unfold insL
    split
    · simp
    · split
      · rename_i h; subst h; simp
      · simp [insL_mem (l := r)]
        constructor
        · rintro (h | h | h)
          · exact .inr (.inl h)
          · exact .inl h
          · exact .inr (.inr h)
        · rintro (h | h | h)
          · exact .inr (.inl h)
          · exact .inl h
          · exact .inr (.inr h)
theorem insL_pw {x : List Nat} : ∀ {l : List (List Nat)}, l.Pairwise (· < ·) → (insL x l).Pairwise (· < ·)
  | [], _ => by simp [insL]
  | y :: r, h => by
    obtain ⟨h1, h2⟩ := List.pairwise_cons.mp h
    unfold insL
    split
    · rename_i q
      refine List.pairwise_cons.mpr ⟨fun z hz => ?_, h⟩
      rcases List.mem_cons.mp hz with rfl | hz
      · exact q
      · exact ll_trans q (h1 z hz)
    · split
      · exact h
      · rename_i q q2
        refine List.pairwise_cons.mpr ⟨fun z hz => ?_, insL_pw h2⟩
        rcases insL_mem.mp hz with rfl | hz
        · rcases lt_tri z y with e | e | e
          · exact absurd e q
          · exact absurd e q2
          · exact e
        · exact h1 z hz
theorem srtL_mem {z : List Nat} : ∀ {l : List (List Nat)}, z ∈ srtL l ↔ z ∈ l
  | [] => by simp [srtL]
  | x :: r => by
    unfold srtL
    rw [insL_mem, srtL_mem (l := r)]
    simp
theorem srtL_pw : ∀ (l : List (List Nat)), (srtL l).Pairwise (· < ·)
  | [] => List.Pairwise.nil
  | x :: r => insL_pw (srtL_pw r)
theorem inc_ext : ∀ {a b : List (List Nat)}, a.Pairwise (· < ·) → b.Pairwise (· < ·) → (∀ c, c ∈ a ↔ c ∈ b) → a = b
  | [], [], _, _, _ => rfl
  | [], y :: b, _, _, h => absurd ((h y).mpr (by simp)) (by simp)
  | x :: a, [], _, _, h => absurd ((h x).mp (by simp)) (by simp)
  | x :: a, y :: b, ha, hb, h => by
    obtain ⟨a1, a2⟩ := List.pairwise_cons.mp ha
    obtain ⟨b1, b2⟩ := List.pairwise_cons.mp hb
    have hxy : x = y := by
      rcases List.mem_cons.mp ((h x).mp (by simp)) with e | hx
      · exact e
      · rcases List.mem_cons.mp ((h y).mpr (by simp)) with e | hy
        · exact e.symm
        · exact absurd (ll_trans (b1 x hx) (a1 y hy)) (ll_irrefl _)
    subst hxy
    rw [inc_ext a2 b2 fun c => ⟨fun hc => ?_, fun hc => ?_⟩]
    · rcases List.mem_cons.mp ((h c).mp (by simp [hc])) with e | q
      · exact absurd (a1 c hc) (by rw [e]; exact ll_irrefl _)
      · exact q
    · rcases List.mem_cons.mp ((h c).mpr (by simp [hc])) with e | q
      · exact absurd (b1 c hc) (by rw [e]; exact ll_irrefl _)
      · exact q
theorem insI_mem {x z : Int} : ∀ {l : List Int}, z ∈ insI x l ↔ z = x ∨ z ∈ l
  | [] => by simp [insI]
  | y :: r => by
    unfold insI
    split
    · simp
    · split
      · rename_i e; subst e; simp
      · rw [List.mem_cons, insI_mem, List.mem_cons]
        constructor
        · rintro (h | h | h)
          · exact .inr (.inl h)
          · exact .inl h
          · exact .inr (.inr h)
        · rintro (h | h | h)
          · exact .inr (.inl h)
          · exact .inl h
          · exact .inr (.inr h)
theorem insI_pw {x : Int} : ∀ {l : List Int}, l.Pairwise (· < ·) → (insI x l).Pairwise (· < ·)
  | [], _ => by simp [insI]
  | y :: r, h => by
    obtain ⟨h1, h2⟩ := List.pairwise_cons.mp h
    unfold insI
    split
    · rename_i hl
      refine List.pairwise_cons.mpr ⟨fun z hz => ?_, h⟩
      rcases List.mem_cons.mp hz with rfl | hz
      · exact hl
      · exact Int.lt_trans hl (h1 z hz)
    · split
      · exact h
      · refine List.pairwise_cons.mpr ⟨fun z hz => ?_, insI_pw h2⟩
        rcases insI_mem.mp hz with rfl | hz
        · omega
        · exact h1 z hz
theorem srtI_mem {z : Int} : ∀ {l : List Int}, z ∈ srtI l ↔ z ∈ l
  | [] => by simp [srtI]
  | x :: r => by unfold srtI; rw [insI_mem, srtI_mem, List.mem_cons]
theorem srtI_pw : ∀ (l : List Int), (srtI l).Pairwise (· < ·)
  | [] => by simp [srtI]
  | x :: r => by unfold srtI; exact insI_pw (srtI_pw r)
theorem incI_ext : ∀ {a b : List Int}, a.Pairwise (· < ·) → b.Pairwise (· < ·) → (∀ c, c ∈ a ↔ c ∈ b) → a = b
  | [], [], _, _, _ => rfl
  | [], y :: b, _, _, h => by have := (h y).mpr (by simp); simp at this
  | x :: a, [], _, _, h => by have := (h x).mp (by simp); simp at this
  | x :: a, y :: b, ha, hb, h => by
    obtain ⟨a1, a2⟩ := List.pairwise_cons.mp ha
    obtain ⟨b1, b2⟩ := List.pairwise_cons.mp hb
    have e : x = y := by
      rcases List.mem_cons.mp ((h x).mp (by simp)) with e | q
      · exact e
      · rcases List.mem_cons.mp ((h y).mpr (by simp)) with e | q2
        · exact e.symm
        · have := b1 x q; have := a1 y q2; omega
    subst e
    congr 1
    refine incI_ext a2 b2 fun c => ⟨fun hc => ?_, fun hc => ?_⟩
    · rcases List.mem_cons.mp ((h c).mp (by simp [hc])) with e | q
      · have := a1 c hc; omega
      · exact q
    · rcases List.mem_cons.mp ((h c).mpr (by simp [hc])) with e | q
      · have := b1 c hc; omega
      · exact q
theorem rise_pw : ∀ (r : List Str) (p : Str), risingS p r = true → (p :: r).Nodup → ((p :: r).map fun y => y.cps.toList).Pairwise (· < ·)
  | [], p, _, _ => by simp
  | y :: r, p, h, hn => by
    have h : (!ltCps y.cps.toList p.cps.toList && risingS y r) = true := h
    obtain ⟨h1, h2⟩ := Bool.and_eq_true_iff.mp h
    obtain ⟨n1, n2⟩ := List.nodup_cons.mp hn
    have ih := rise_pw r y h2 n2
    have hlt : p.cps.toList < y.cps.toList := by
      rw [ltCps_eq] at h1
      have h1 : ¬ y.cps.toList < p.cps.toList := by simpa using h1
      rcases lt_tri p.cps.toList y.cps.toList with e | e | e
      · exact e
      · exfalso
        apply n1
        have : p = y := by
          cases p; cases y
          simp only [Str.mk.injEq]
          exact Array.toList_inj.mp e
        rw [this]; simp
      · exact absurd e h1
    rw [List.map_cons]
    refine List.pairwise_cons.mpr ⟨fun z hz => ?_, ih⟩
    rw [List.map_cons] at hz ih
    rcases List.mem_cons.mp hz with rfl | hz
    · exact hlt
    · exact ll_trans hlt ((List.pairwise_cons.mp ih).1 z hz)
theorem sorted_pw {l : List Str} (h : sortedS l = true) (hn : l.Nodup) : (l.map fun y => y.cps.toList).Pairwise (· < ·) := by
  cases l with
  | nil => simp
  | cons p r => exact rise_pw r p h hn
theorem mkS_toList (y : Str) : mkS y.cps.toList = y := by
  cases y; simp [mkS]
section
variable {P : Program} {w : World} {A : Around} {E : Value → Shared → Prop} {s : Shared}
theorem strsAre_of : ∀ (l : List Value), (∀ v ∈ l, ∃ x t, v = Value.str x t) → ∀ g : Value → Str, (∀ x t, g (.str x t) = x) → StrsAre l (l.map g)
  | [], _, _, _ => .nil
  | v :: l, h, g, hg => by
    obtain ⟨x, t, rfl⟩ := h v (by simp)
    rw [List.map_cons, hg]
    exact .cons x t (strsAre_of l (fun u hu => h u (by simp [hu])) g hg)
theorem sorted_kset {a : Addr} {M : Str → Bool} {n : Nat} {Q : Value → Shared → Prop} (R : KSet (strKind P w) txtOf s.heap a M n) (hh : A.handled = none) (h64 : n < 64)
    (hQ : ∀ s' p (out : Array Value) (c : Nat) (ys : List Str), (∀ b o, s.heap.get? b = some o → s'.heap.get? b = some o) → s'.gens = s.gens → s'.os = s.os → s.heap.objs.size ≤ p →
      s'.heap.get? p = some (seqObj "list" out c) → StrsAre out.toList ys → sortedS ys = true → ys.Nodup → (∀ k, k ∈ ys ↔ M k = true) → ys.length = n → Q (.ref p) s') :
    wpAny (model P w) A (call (.builtin "sorted") [.ref a]) Q E s := by
  obtain ⟨ob, es, ep, tb, ho, hx, hd, g, nd, hm, hb, hf, hn, hr, hl⟩ := R
  refine Calls.call_function_entry kind_sorted plain_sorted entry_sorted (args_sorted1 _) ?_
  unfold Builtin.«sorted»
  refine wpAny_bind (m := checkCount "sorted" 1 1 _) (wpAny_pure ?_)
  refine wpAny_bind (collect_set (A := A.in1) hh ⟨ob, ho, hx.1, hd⟩ hf hb hr hl fun s1 vs k1 hz g1 o1 pm => ?_)
  have hvl : vs.length = n := by rw [pm.length_eq, List.length_map, Array.length_toList]; exact hn
  have hall : ∀ v ∈ vs, ∃ x t, v = Value.str x t := fun v hv => by
    obtain ⟨e, he, q⟩ := List.mem_map.mp (pm.mem_iff.mp hv)
    obtain ⟨k, q1, _⟩ := g e he
    obtain ⟨t, ht⟩ := Value.isStrOf_shape (show Value.isStrOf k e.2 = true from q1)
    exact ⟨k, t, by rw [← q]; exact ht⟩
  have hS : StrsAre vs (vs.map strOf) := strsAre_of vs hall strOf fun _ _ => rfl
  have pk : (vs.map strOf).Perm (es.toList.map txtOf) := by
    have q := pm.map strOf
    rw [List.map_map] at q
    refine q.trans (List.Perm.of_eq (List.map_congr_left fun e he => ?_))
    obtain ⟨k, q1, _⟩ := g e he
    obtain ⟨t, ht⟩ := Value.isStrOf_shape (show Value.isStrOf k e.2 = true from q1)
    show strOf e.2 = txtOf e
    unfold txtOf
    rw [ht]; rfl
  refine wpAny_bind (wpAny_newList ?_ (by rw [hvl, sizeLine_eq]; omega))
  have hoL : (s1.heap.push (seqObj "list" vs.toArray 0)).get? s1.heap.objs.size = some (seqObj "list" vs.toArray 0) := Heap.get?_push_size _ rfl
  refine wpAny_bind (wpAny_holding (wpAny_call_entry slot_list_sort ⟨_, hoL, rfl⟩ entry_list_sort (list_sort_treeK strKind_oneLt hoL hS.keysOf (fun v1 v2 rest e => keyKind_strs (by rw [← e]; exact hS)) (by rw [hvl]; exact h64) fun st' hp hs => ⟨_, rfl, ?_⟩) (args_list_sort _)))
  obtain ⟨ys, a1, a2, a3⟩ := sorted_out_str hS hp hs
  obtain ⟨c, hc⟩ := sortedHeap_at (vs := vs) (out := (arrOf st').map (·.2)) hoL
  have pn : ys.Perm (es.toList.map txtOf) := a2.trans pk
  refine wpAny_pure ⟨_, rfl, hQ _ s1.heap.objs.size ((arrOf st').map (·.2)) c ys (fun b u e => ?_) g1 o1 hz hc a1 a3 (pn.nodup_iff.mpr nd) (fun k => by rw [pn.mem_iff, ← hm k]) ?_⟩
  · have q := k1 b u e
    have hlt := Heap.lt_size q
    show (sortedHeap (s1.heap.push (seqObj "list" vs.toArray 0)) s1.heap.objs.size vs ((arrOf st').map (·.2))).get? b = some u
    rw [sortedHeap_old (Nat.ne_of_lt hlt) (by rw [size_push']; exact Nat.lt_succ_of_lt hlt)]
    exact Heap.get?_push_of_some _ q
  · rw [pn.length_eq, List.length_map, Array.length_toList]; exact hn
end
def TxtO (P : Program) (w : World) (a : Addr) (M : Str → Bool) (n : Nat) : HO := .ext fun h => KSet (strKind P w) txtOf h a M n
section
variable {X : Cx}
theorem txtO_ok {P : Program} {w : World} {H : Hp} {h : Heap} {a : Addr} {M : Str → Bool} {n : Nat} (R : KSet (strKind P w) txtOf h a M n) : ObjOk P w H h a (TxtO P w a M n) := by
  refine ⟨R, ?_, fun h1 h2 p k => p.keep k⟩
  obtain ⟨ob, _, _, _, ho, _⟩ := R
  exact ⟨ob, ho⟩
def rSetTxt (P : Program) (w : World) : List V → Hp → VK → Prop := fun xs H Q => ∃ z : Str, xs = [.str z] ∧ (sgns z).length < 64 ∧ ∀ p c, H p = none → c ≤ (sgns z).length → Q (.ref p) (upd H p (TxtO P w p (fun j => decide (j ∈ sgns z)) c))
theorem cr_setTxt (hc : X.calm = true) : CallR X (.type "set") (rSetTxt X.prog X.w) := by
  intro pins s σ H xs us Q I r h
  obtain ⟨z, rfl, hl, q⟩ := h
  obtain ⟨u, rfl, ru⟩ := Vals.one r
  obtain ⟨t, rfl⟩ := (show ∃ t, u = Value.str z t from ru)
  refine call_set_text (I.ok.hd hc) (by unfold scanBound; omega) fun h' tk c R hcl k => ?_
  have hn := I.hok.fresh (Nat.le_refl s.heap.objs.size)
  exact ⟨.ref _, upd H s.heap.objs.size (TxtO X.prog X.w s.heap.objs.size (fun j => decide (j ∈ sgns z)) c), I.laid (t' := tk) k (Nat.le_refl _) (txtO_ok R), rfl, q _ c hn hcl⟩
def rSortTxt (P : Program) (w : World) : List V → Hp → VK → Prop := fun xs H Q => ∃ (a : Addr) (M : Str → Bool) (n : Nat), xs = [.ref a] ∧ H a = some (TxtO P w a M n) ∧ n < 64 ∧
  ∀ (l : List (List Nat)) (p : Addr), l.Pairwise (· < ·) → (∀ x, x ∈ l ↔ M (mkS x) = true) → l.length < 64 → H p = none → Q (.ref p) (upd H p (.lst (l.map fun x => V.str (mkS x))))
theorem cr_sortTxt (hc : X.calm = true) : CallR X (.builtin "sorted") (rSortTxt X.prog X.w) := by
  intro pins s σ H xs us Q I r h
  obtain ⟨a, M, n, rfl, ha, h64, q⟩ := h
  have R : KSet (strKind X.prog X.w) txtOf s.heap a M n := (I.hok a _ ha).1
  rw [Vals.ref1 r]
  refine sorted_kset R (I.ok.hd hc) h64 fun s' p out c ys k g o hp hg hi hs hn hm hl => ?_
  have hback : (ys.map fun y => y.cps.toList).map (fun x => V.str (mkS x)) = ys.map V.str := by
    rw [List.map_map]
    exact List.map_congr_left fun y _ => by show V.str (mkS y.cps.toList) = _; rw [mkS_toList]
  have hlen : (ys.map V.str).length ≤ sizeLine := by rw [List.length_map, hl, sizeLine_eq]; omega
  have hf : H p = none := I.hok.fresh hp
  have J : Inv X pins σ (upd H p (.lst (ys.map V.str))) { s with heap := s'.heap, gens := s'.gens, drawn := s'.drawn, toks := s'.toks } :=
    I.call (ch := []) (Un.laid k hp hf) (I.hok.laid k hp ⟨hlen, out.toList, c, vals_of_strs hi, hg⟩) (by rw [g]; exact I.bare) (fun _ z => nomatch z)
  have e : s' = { s with heap := s'.heap, gens := s'.gens, drawn := s'.drawn, toks := s'.toks } := by
    cases s'; cases s; cases o; rfl
  rw [e]
  refine ⟨.ref p, _, J, rfl, ?_⟩
  have := q (ys.map fun y => y.cps.toList) p (sorted_pw hs hn) (fun x => ?_) (by rw [List.length_map, hl]; exact h64) hf
  · rw [hback] at this
    exact this
  · rw [← hm]
    constructor
    · intro hx
      obtain ⟨y, hy, rfl⟩ := List.mem_map.mp hx
      rw [mkS_toList]; exact hy
    · intro hx
      refine List.mem_map.mpr ⟨mkS x, hx, ?_⟩
      simp [mkS]
end
end XV
set_option Elab.async false
set_option linter.all false
set_option autoImplicit false
set_option maxRecDepth 100000
namespace XV
open PySem PySem.Spec PyProof.Rows L2
section
variable {P : Program} {w : World} {A : Around} {E : Value → Shared → Prop} {s : Shared}
variable {κ : Type} [DecidableEq κ] {knd : KeyKind P w κ} {pr : Int × Value → κ}
set_option maxHeartbeats 3200000 in
theorem call_set_list (J : Prj knd pr) {l : Addr} {items : Array Value} {ks : List κ} {Q : Value → Shared → Prop} (hh : A.handled = none) (hl : s.heap.IsList l items) (hlen : items.size = ks.length)
    (hval : ∀ (i : Nat) (v : Value), items[i]? = some v → ∃ k, ks[i]? = some k ∧ knd.is k v = true) (hb : ks.length + 1 < scanBound)
    (h : ∀ (h' : Heap) (tk c : Nat), KSet knd pr h' s.heap.objs.size (fun j => decide (j ∈ ks)) c → c ≤ ks.length → (∀ b o, s.heap.get? b = some o → h'.get? b = some o) → Q (.ref s.heap.objs.size) { s with heap := h', toks := tk }) :
    wpAny (model P w) A (call (.type "set") [.ref l]) Q E s := by
  obtain ⟨c0, tl, hmro⟩ := F.called_set.mro
  have hmade := F.called_set.made
  have hsub := F.called_set.sub
  refine wpAny_call (codeAny_of_tree ?_)
  show wpAny _ _ (callAny (.type "set") _) _ _ _
  refine wpAny_pure ⟨Code.quiet_builtin _ (by decide +kernel), codeAny_builtin F.entry_type_call ?_⟩
  rw [Around.under_plain (weight_type_call_type "set" [.ref l] []) rfl]
  have h1 := F.called_set.notType
  have h2 := F.called_set.canCreate
  have hct := F.typeCall_set_1 (.ref l)
  repeat (any_goals (first | assumption | wp_step))
  refine codeAny_mono (code_set_led1 (.ref l) (E := E) (Q₁ := fun obj s1 => obj = .ref s.heap.objs.size ∧ s1 = { s with heap := s.heap.push (setO0 w) }) ⟨rfl, rfl⟩) fun r s1 hr => ?_
  cases r with
  | error e => exact hr
  | ok fl =>
    cases fl with
    | ret obj =>
      obtain ⟨rfl, rfl⟩ := hr
      have hS : (s.heap.push (setO0 w)).get? s.heap.objs.size = some (setO0 w) := Heap.get?_push_size _ rfl
      have hT : Shared.TypeIs { s with heap := s.heap.push (setO0 w) } (.ref s.heap.objs.size) "set" := ⟨_, hS, rfl⟩
      have hli := F.called_set.init.lookup
      have hbi := F.called_set.init.bind (.ref s.heap.objs.size)
      repeat (any_goals (first | assumption | wp_step))
      refine codeAny_mono (codeAny_call_builtin (R := wants (fun r s2 => r = .none ∧ ∃ h' tk c, s2 = { s with heap := h', toks := tk } ∧ KSet knd pr h' s.heap.objs.size (fun j => decide (j ∈ ks)) c ∧ c ≤ ks.length ∧
          (∀ b o, s.heap.get? b = some o → h'.get? b = some o)) E) F.called_set.init.plain F.entry_set_init (check_set_init_1 hT ?_)) fun r2 s2 hr2 => ?_
      · obtain ⟨ol, hol, hcl, nl, hdl⟩ := hl
        obtain ⟨oc, od, odt, osl⟩ := ol
        simp only at hcl hdl
        subst hcl; subst hdl
        have hol2 : (s.heap.push (setO0 w)).get? l = some { cls := .type "list", dict := od, data := .seq items nl, slots := osl } := Heap.get?_push_of_some _ hol
        have n1 := F.sub_list_set
        have n2 := F.sub_list_frozenset
        have hne : (Value.type "list" == Value.type "dict") = false := by decide
        have hl1 : (s.heap.push (setO0 w)).IsList l items := ⟨_, hol2, rfl, nl, rfl⟩
        unfold Builtin.«set.__init__» noKeywords Builtin.Frozenset.updateFrom
        generalize hPI : pyIter = PI
        wp_walk
        subst hPI
        refine wpAny_pyIter_list hl1 ?_
        refine wpAny_bind (wpAny_runValue ?_)
        have hlS : l < s.heap.objs.size := Heap.lt_size hol
        have hh3 : A.in1.in1.in1.handled = none := by simp [hh]
        have hz1 : (s.heap.push (setO0 w)).objs.size = s.heap.objs.size + 1 := Heap.size_push ..
        have hneI : l ≠ (s.heap.push (setO0 w)).objs.size := by
          rw [hz1]; exact Nat.ne_of_lt (Nat.lt_succ_of_lt hlS)
        have hSf : s.heap.objs.size ∉ [(s.heap.push (setO0 w)).objs.size, l] := by
          rw [hz1]
          intro q
          rcases List.mem_cons.mp q with q | q
          · exact absurd q (Nat.ne_of_lt (Nat.lt_succ_self _))
          · exact absurd (List.mem_singleton.mp q) (Nat.ne_of_gt hlS)
        refine kset_update J ((Walks.list hh3 _ l hneI items).toS) s.heap.objs.size hSf ks hlen hb hval (items.size - 0) 0 _ (by omega) (Nat.zero_le _)
          ⟨⟨_, Heap.get?_push_size _ rfl, rfl, rfl⟩, (hl1.push _)⟩ ?hS0 ?hR
        case hS0 =>
          exact ⟨0, Nat.le_refl 0, kset_fresh (Heap.get?_push_of_some _ hS)⟩
        case hR =>
          intro s' c' mv hc' hS'
          obtain ⟨h', g2, d', tk', os'⟩ := s'
          have eg : g2 = s.gens := mv.gens
          have ed : d' = s.drawn := mv.drawn
          have eo : os' = s.os := mv.os
          subst eg; subst ed; subst eo
          show wpAny _ _ _ _ _ _
          refine wpAny_pure ?_
          show wpAny _ _ (ret Value.none) _ _ _
          rw [hlen] at hc'
          refine wpAny_pure ⟨rfl, h', tk', c', rfl, hS', hc', fun b o e => ?_⟩
          have hb0 : b < s.heap.objs.size := Heap.lt_size e
          refine mv.heap b o (fun q => ?_) (Heap.get?_push_of_some _ (Heap.get?_push_of_some _ e))
          rcases List.mem_cons.mp q with q | q
          · exact absurd q (Nat.ne_of_lt hb0)
          · have q := List.mem_singleton.mp q
            rw [hz1] at q
            exact absurd q (Nat.ne_of_lt (Nat.lt_succ_of_lt hb0))
      · cases r2 with
        | error e => exact hr2
        | ok fl2 =>
          cases fl2 with
          | ret r =>
            obtain ⟨rfl, h', tk, c', rfl, hS', hc', hk'⟩ := hr2
            repeat (any_goals (first | assumption | wp_step))
            exact h _ _ _ hS' hc' hk'
          | _ => exact hr2.elim
    | _ => exact hr.elim
theorem call_set_texts {l : Addr} {items : Array Value} {ks : List Str} {Q : Value → Shared → Prop} (hh : A.handled = none) (hl : s.heap.IsList l items) (hit : StrsAre items.toList ks) (hb : ks.length + 1 < scanBound)
    (h : ∀ (h' : Heap) (tk c : Nat), KSet (strKind P w) txtOf h' s.heap.objs.size (fun j => decide (j ∈ ks)) c → c ≤ ks.length → (∀ b o, s.heap.get? b = some o → h'.get? b = some o) → Q (.ref s.heap.objs.size) { s with heap := h', toks := tk }) :
    wpAny (model P w) A (call (.type "set") [.ref l]) Q E s := by
  have hat : ∀ {us : List Value} {xs : List Str} {i : Nat} {v : Value}, StrsAre us xs → us[i]? = some v → ∃ x t, xs[i]? = some x ∧ v = .str x t := by
    intro us xs i v hs
    induction hs generalizing i with
    | nil => intro e; simp at e
    | cons x t hr ih =>
      intro e
      cases i with
      | zero => simp at e; exact ⟨_, _, rfl, e.symm⟩
      | succ i => exact ih (i := i) (by simpa using e)
  have hlen : items.size = ks.length := by
    have : ∀ {us : List Value} {xs : List Str}, StrsAre us xs → us.length = xs.length := by
      intro us xs hs
      induction hs with
      | nil => rfl
      | cons x t hr ih => simp [ih]
    rw [← Array.length_toList]; exact this hit
  exact call_set_list prj_str hh hl hlen (fun i v hv => by
    obtain ⟨x, t, hx, rfl⟩ := hat hit (i := i) (v := v) (by rw [Array.getElem?_toList]; exact hv)
    exact ⟨x, hx, strKind_is P w _ _⟩) hb h
theorem prj_int : Prj (intKind P w) keyOf := by
  refine ⟨fun {e k} q => ?_, fun {k v} q => ?_⟩
  · obtain ⟨t, ht⟩ := Value.isInt_shape (show Value.isInt k e.2 = true from q)
    unfold keyOf
    rw [ht]
  · obtain ⟨t, rfl⟩ := Value.isInt_shape (show Value.isInt k v = true from q)
    rfl
theorem setR_of {h : Heap} {a : Addr} {M : Int → Bool} {n : Nat} (R : KSet (intKind P w) keyOf h a M n) : SetR w h a M n := by
  obtain ⟨ob, es, ep, tb, ho, hx, hd, g, rest⟩ := R
  refine ⟨ob, es, ep, tb, ho, hx, hd, fun e he => ?_, rest⟩
  obtain ⟨k, q1, q2⟩ := g e he
  obtain ⟨t, ht⟩ := Value.isInt_shape (show Value.isInt k e.2 = true from q1)
  exact ⟨k, t, ht, q2⟩
end
section
variable {X : Cx}
def rSetTxts (K : PySem.W.Frag) (P : Program) (w : World) : List V → Hp → VK → Prop := fun xs H Q => ∃ (a : Addr) (ks : List Str), xs = [.ref a] ∧ SqL K H a (ks.map V.str) ∧ ks.length < 64 ∧ ∀ p c, H p = none → c ≤ ks.length → Q (.ref p) (upd H p (TxtO P w p (fun j => decide (j ∈ ks)) c))
theorem cr_setTxts (hc : X.calm = true) : CallR X (.type "set") (rSetTxts X.K X.prog X.w) := by
  intro pins s σ H xs us Q I r h
  obtain ⟨a, ks, rfl, hs, hl, q⟩ := h
  obtain ⟨its, rv, hp, _⟩ := I.list hs
  rw [Vals.ref1 r]
  refine call_set_texts (I.ok.hd hc) hp.isList (by simpa using rv.strs) (by unfold scanBound; omega) fun h' tk c R hcl k => ?_
  have hn := I.hok.fresh (Nat.le_refl s.heap.objs.size)
  exact ⟨.ref _, upd H s.heap.objs.size (TxtO X.prog X.w s.heap.objs.size (fun j => decide (j ∈ ks)) c), I.laid (t' := tk) k (Nat.le_refl _) (txtO_ok R), rfl, q _ c hn hcl⟩
def rSetInts (K : PySem.W.Frag) (w : World) : List V → Hp → VK → Prop := fun xs H Q => ∃ (a : Addr) (ks : List Int), xs = [.ref a] ∧ SqL K H a (ks.map V.int) ∧ ks.length < 64 ∧ ∀ p c, H p = none → c ≤ ks.length → Q (.ref p) (upd H p (SetO w p (fun j => decide (j ∈ ks)) c))
theorem setO_ok {P : Program} {w : World} {H : Hp} {h : Heap} {a : Addr} {M : Int → Bool} {n : Nat} (R : SetR w h a M n) : ObjOk P w H h a (SetO w a M n) := by
  refine ⟨R, ?_, fun h1 h2 p k => p.at k⟩
  obtain ⟨ob, _, _, _, ho, _⟩ := R
  exact ⟨ob, ho⟩
theorem ints_at : ∀ {ks : List Int} {us : List Value} {i : Nat} {v : Value}, Vals (ks.map V.int) us → us[i]? = some v → ∃ k t, ks[i]? = some k ∧ v = .int k t
  | [], us, i, v, r, e => by cases r; simp at e
  | k :: ks, us, i, v, r, e => by
    cases r with
    | cons h t =>
      obtain ⟨tk, rfl⟩ := h
      cases i with
      | zero => simp at e; exact ⟨k, tk, rfl, e.symm⟩
      | succ i => exact ints_at (i := i) t (by simpa using e)
theorem cr_setInts (hc : X.calm = true) : CallR X (.type "set") (rSetInts X.K X.w) := by
  intro pins s σ H xs us Q I r h
  obtain ⟨a, ks, rfl, hs, hl, q⟩ := h
  obtain ⟨its, rv, hp, _⟩ := I.list hs
  rw [Vals.ref1 r]
  have hlen : its.toArray.size = ks.length := by
    have := rv.length
    rw [List.length_map] at this
    simp [this]
  refine call_set_list (P := X.prog) (w := X.w) prj_int (I.ok.hd hc) hp.isList hlen (fun i v hv => ?_) (by unfold scanBound; omega) fun h' tk c R hcl k => ?_
  · obtain ⟨k, t, h1, rfl⟩ := ints_at (i := i) (v := v) rv (by simpa using hv)
    exact ⟨k, h1, intKind_is _ _ _ _⟩
  · have hn := I.hok.fresh (Nat.le_refl s.heap.objs.size)
    exact ⟨.ref _, upd H s.heap.objs.size (SetO X.w s.heap.objs.size (fun j => decide (j ∈ ks)) c), I.laid (t' := tk) k (Nat.le_refl _) (setO_ok (setR_of R)), rfl, q _ c hn hcl⟩
end
end XV
set_option Elab.async false
set_option linter.all false
set_option autoImplicit false
set_option maxRecDepth 100000
namespace XV
open PySem PySem.Spec PyProof.Rows L2
section
variable {X : Cx} {L : Lay} {P : Cfg} {W : WX} {pos : Pos}
theorem reps_txts {K : PySem.W.Frag} {L : Lay} {G : Hp} {r : List Addr} : ∀ (l : List (List Nat)), Reps K L G r (l.map .str) (l.map fun x => V.str (mkS x))
  | [] => .nil
  | x :: l => .cons (.str x) (reps_txts l)
theorem strs_reps {K : PySem.W.Frag} {L : Lay} {G : Hp} {r : List Addr} : ∀ {ds : List D} {vs : List V} {l : List (List Nat)}, Reps K L G r ds vs → D.strs ds = some l → vs = (l.map mkS).map V.str
  | [], _, _, h, e => by cases h; cases e; rfl
  | d :: ds, _, l, h, e => by
    cases h with
    | cons h1 h2 =>
      cases d <;> first | (cases e; done) | skip
      rename_i x
      have e : (D.strs ds).map (x :: ·) = some l := e
      cases q : D.strs ds with
      | none => rw [q] at e; cases e
      | some l2 =>
        rw [q] at e
        cases e
        rw [strs_reps h2 q, h1.str_of]
        rfl
theorem mkS_eq {x y : List Nat} (h : mkS x = mkS y) : x = y := by
  have h : (⟨x.toArray⟩ : Str) = ⟨y.toArray⟩ := h
  have h2 : x.toArray = y.toArray := by injection h
  simpa using h2
theorem sgns_mk (z : List Nat) : sgns (mkS z) = (z.map fun c => [c]).map mkS := by
  unfold sgns mkS
  simp [Function.comp_def, mkS]
theorem ints_vals {K : PySem.W.Frag} {L : Lay} {G : Hp} {r : List Addr} : ∀ {ds : List D} {vs : List V} {l : List Int}, Reps K L G r ds vs → D.ints ds = some l → vs = l.map V.int
  | [], _, _, h, e => by cases h; cases e; rfl
  | d :: ds, _, l, h, e => by
    cases h with
    | cons h1 h2 =>
      cases d <;> first | (cases e; done) | skip
      rename_i x
      have e : (D.ints ds).map (x :: ·) = some l := e
      cases q : D.ints ds with
      | none => rw [q] at e; cases e
      | some l2 =>
        rw [q] at e
        cases e
        rw [ints_vals h2 q, h1.int_of]
        rfl
theorem sE_srt {a : Expr} {ta : T} {p p2 p3 : Pos} (hc : X.calm = true) (hg : Gl X "sorted") (hm : X.mg "sorted" = none) (hg2 : Gl X "set") (hm2 : X.mg "set" = none) (ha : PE X a (tE X.K L P W ta)) (hst : isStar a = false) :
    PE X (.Call (.Name "sorted" p) [.Call (.Name "set" p2) [a] [] p3] [] pos) (tE X.K L P W (.srt ta)) := by
  refine PE.imp (pe_callB ((cr_sortTxt hc).or (cr_sortedSet hc)) hg hm (by decide +kernel) (pa_cons (pe_callTy ((cr_setTxt hc).or ((cr_setTxts hc).or (cr_setInts hc))) hg2 hm2 (by decide +kernel) (pa_cons ha pa_nil (star_ok hst)) (by decide) (by decide) (star_ok hst)) pa_nil (star_ok rfl)) (by decide) (by decide) (star_ok rfl)) fun σ H Q ⟨G, r, cs, env, s, er, k⟩ => ?_
  unfold evE at k
  refine ⟨G, r, cs, env, s, er, k.bind fun x cs1 hx v G1 r1 H1 g1 s1 rv k1 => ?_⟩
  obtain ⟨d, e1, k2⟩ := k1.some_of
  have fin : ∀ (l : List (List Nat)) (ks : List Str) (p : Addr) (c : Nat), ks = l.map mkS → l.length < 64 → d = .lst ((srtL l).map .str) → H1 p = none → c ≤ ks.length → rSortTxt X.prog X.w [.ref p] (upd H1 p (TxtO X.prog X.w p (fun j => decide (j ∈ ks)) c)) Q := by
    intro l ks p c hk hl hd hp hcl
    refine ⟨p, _, c, rfl, upd_same, by rw [hk, List.length_map] at hcl; omega, fun l2 q pw mem _ hq => ?_⟩
    have s2 := s1.new (TxtO X.prog X.w p (fun j => decide (j ∈ ks)) c) hp
    have gg := (Go.new s1 (TxtO X.prog X.w p (fun j => decide (j ∈ ks)) c) hp).trans (Go.new s2 (.lst (l2.map fun x => V.str (mkS x))) hq)
    have hl2 : l2 = srtL l := inc_ext pw (srtL_pw l) fun x => by
      rw [mem, srtL_mem, hk]
      simp only [decide_eq_true_eq, List.mem_map]
      constructor
      · rintro ⟨y, hy, e⟩
        rw [← mkS_eq e]; exact hy
      · intro h
        exact ⟨x, h, rfl⟩
    rw [hd] at k2
    refine k2 _ _ _ _ gg (s2.new _ hq) (.lst upd_same ?_)
    rw [hl2]
    exact reps_txts _
  unfold srtD at e1
  split at e1
  · rename_i z t
    cases top_str t
    split at e1
    · rename_i hl
      cases e1
      rw [rv.str_of]
      have hlz : (sgns (mkS z)).length = z.length := by rw [sgns_mk]; simp
      exact .inl ⟨mkS z, rfl, by rw [hlz]; exact hl, fun p c hp hcl => .inl (fin (z.map fun c => [c]) _ p c (sgns_mk z) (by rw [List.length_map]; exact hl) rfl hp hcl)⟩
    · cases e1
  · rename_i ds t
    split at e1
    · rename_i l hs
      split at e1
      · rename_i hl
        cases e1
        obtain ⟨q, ws, rfl, h1, h2⟩ := top_lst s1 rv t
        have hw := strs_reps h2 hs
        subst hw
        exact .inr (.inl ⟨q, l.map mkS, rfl, SqL.of h1, by rw [List.length_map]; exact hl, fun p c hp hcl => .inl (fin l _ p c rfl hl rfl hp hcl)⟩)
      · cases e1
    · split at e1
      · rename_i l hs
        split at e1
        · rename_i hl
          cases e1
          obtain ⟨q, ws, rfl, h1, h2⟩ := top_lst s1 rv t
          have hw := ints_vals h2 hs
          subst hw
          refine .inr (.inr ⟨q, l, rfl, SqL.of h1, hl, fun p c hp hcl => .inr ⟨p, _, c, rfl, upd_same, by omega, fun ns p2 pw mem _ hq => ?_⟩⟩)
          have s2 := s1.new (SetO X.w p (fun j => decide (j ∈ l)) c) hp
          have gg := (Go.new s1 (SetO X.w p (fun j => decide (j ∈ l)) c) hp).trans (Go.new s2 (.lst (ns.map V.int)) hq)
          have hl2 : ns = srtI l := incI_ext pw (srtI_pw l) fun x => by rw [mem, srtI_mem]; simp
          refine k2 _ _ _ _ gg (s2.new _ hq) (.lst upd_same ?_)
          rw [hl2]
          exact ints_reps _
        · cases e1
      · cases e1
  · cases e1
end
end XV
set_option Elab.async false
set_option linter.all false
set_option autoImplicit false
set_option maxRecDepth 100000
namespace XV
open PySem PySem.Spec PyProof.Rows L2
section
variable {X : Cx} {L : Lay} {P : Cfg} {W : WX} {pos apos cpos : Pos} {a o : Expr} {ta to : T}
theorem mt_swapcase : MtR X "str.swapcase" (fun x xs H Q => ∃ a, x = .str a ∧ xs = [] ∧ a.length ≤ 5592405 ∧ Q (.str (Txt.swapcase a)) H) :=
  mt0 (C := fun a => a.length ≤ 5592405) (g := fun a => .str (Txt.swapcase a)) fun a _ s _ hc h =>
    PySem.SC.swapcase (fit_swapcase hc) (h _ (s.toks + 1) ⟨_, rfl⟩)
theorem sE_swapcase (ho : PE X o (tE X.K L P W to)) (hcall : isCall0 o = false) (hline : (apos.endLine == cpos.line) = true) : PE X (.Call (.Attribute o "swapcase" apos) [] [] cpos) (tE X.K L P W (.mt .swapcase to .nil)) :=
  sE_case F.slot_str_swapcase F.type_str_swapcase mt_swapcase (fun _ _ _ => rfl) (fun _ => rfl) ho hcall hline
theorem sE_srs {p2 : Pos} (hg : Gl X "sorted") (hm : X.mg "sorted" = none) (ha : PE X a (tE X.K L P W ta)) (hst : isStar a = false) :
    PE X (.Call (.Name "sorted" p2) [a] [] pos) (tE X.K L P W (.srs ta)) := by
  refine PE.imp (pe_callB cr_sortedS hg hm (by decide +kernel) (pa_cons ha pa_nil (star_ok hst)) (by decide) (by decide) (star_ok hst)) fun σ H Q ⟨G, r, cs, env, s, er, k⟩ => ?_
  unfold evE at k
  refine ⟨G, r, cs, env, s, er, k.bind fun x cs1 hx v G1 r1 H1 g1 s1 rv k1 => ?_⟩
  obtain ⟨d, e1, k2⟩ := k1.some_of
  unfold srsD at e1
  split at e1
  · rename_i ds t
    split at e1
    · rename_i l hs
      split at e1
      · rename_i hl
        cases e1
        obtain ⟨q, ws, rfl, h1, h2⟩ := top_lst s1 rv t
        have hw := strs_reps h2 hs
        subst hw
        refine ⟨q, l.map mkS, rfl, SqL.of h1, by rw [List.length_map]; exact hl.1, fun ys p pm so hp => ?_⟩
        have inj : (l.map mkS).Nodup := by
          rw [List.nodup_iff_pairwise_ne, List.pairwise_map]
          exact (List.nodup_iff_pairwise_ne.mp hl.2).imp fun h e => h (mkS_eq e)
        have e : (ys.map fun y => y.cps.toList) = srtL l := inc_ext (sorted_pw so (pm.nodup_iff.mpr inj)) (srtL_pw l) fun x => by
          rw [srtL_mem]
          constructor
          · intro hx
            obtain ⟨y, hy, rfl⟩ := List.mem_map.mp hx
            obtain ⟨z, hz, e⟩ := List.mem_map.mp (pm.mem_iff.mp hy)
            rw [← e]
            simpa [mkS] using hz
          · intro hx
            refine List.mem_map.mpr ⟨mkS x, pm.mem_iff.mpr (List.mem_map.mpr ⟨x, hx, rfl⟩), ?_⟩
            simp [mkS]
        have hback : ys.map V.str = (srtL l).map fun x => V.str (mkS x) := by
          rw [← e, List.map_map]
          exact List.map_congr_left fun y _ => by show _ = V.str (mkS y.cps.toList); rw [mkS_toList]
        refine k2 _ _ _ _ (Go.new s1 _ hp) (s1.new _ hp) (.lst upd_same ?_)
        rw [hback]
        exact reps_txts _
      · cases e1
    · cases e1
  · cases e1
def tSrk (K : PySem.W.Frag) (te : TE) : TE := fun σ H Q => te σ H fun x H1 => ∃ (q : Addr) (l : List (List Nat)), x = .ref q ∧ SqL K H1 q ((l.map mkS).map V.str) ∧ l.length ≤ LIM ∧ (∀ z ∈ l, z.length ≤ LIM) ∧
  ∀ p, H1 p = none → Q (.ref p) (upd H1 p (.lst ((l.mergeSort fun a b => decide (a.length ≤ b.length)).map fun x => V.str (mkS x))))
theorem each_txts : ∀ {vs : List Value} {l : List (List Nat)}, Vals ((l.map mkS).map V.str) vs → PySem.W.EachIs (fun (v : Value) (x : List Nat) => ∃ t, v = Value.str (mkS x) t) vs l
  | vs, [], h => by cases h; exact .nil
  | vs, x :: l, h => by
    cases h with
    | cons h1 h2 => exact .cons h1 (each_txts h2)
theorem txts_each : ∀ {vs : List Value} {l : List (List Nat)}, PySem.W.EachIs (fun (v : Value) (x : List Nat) => ∃ t, v = Value.str (mkS x) t) vs l → Vals (l.map fun x => V.str (mkS x)) vs
  | vs, [], h => by cases h; exact .nil
  | vs, x :: l, h => by
    cases h with
    | cons h1 h2 => exact .cons h1 (txts_each h2)
theorem pe_srk {te : TE} {kk : Nat} {p2 p3 kpos : Pos} (hr : Room kk X.A) (hg : Gl X "sorted") (hm : X.mg "sorted" = none) (hg2 : Gl X "len") (hm2 : X.mg "len" = none) (ha : PE X a te) (hst : isStar a = false) :
    PE X (.Call (.Name "sorted" p2) [a] [⟨some "key", .Name "len" p3, kpos⟩] pos) (tSrk X.K te) := by
  have hs0 : starEach [a] X.env = (false, eval a X.env) :: starEach [] X.env := star_ok hst
  refine ⟨fun pins s σ H Q I h => ?_⟩
  refine wpAny_Call_Name_kw (ld_blt I hg hm (u := .builtin "sorted") (by decide +kernel) ?_ (by decide) (by decide))
  refine PyProof.Rows.callWith_kw (thn ((pa_cons ha pa_nil hs0).run pos pins s σ H (fun vs H1 => match vs with
    | [x] => ∃ (q : Addr) (l : List (List Nat)), x = .ref q ∧ SqL X.K H1 q ((l.map mkS).map V.str) ∧ l.length ≤ LIM ∧ (∀ z ∈ l, z.length ≤ LIM) ∧ ∀ p, H1 p = none → Q (.ref p) (upd H1 p (.lst ((l.mergeSort fun a b => decide (a.length ≤ b.length)).map fun x => V.str (mkS x))))
    | _ => False) I h) fun us s1 ⟨vs, H1, I1, r1, q1⟩ => ?_) (by rw [hs0]; rfl) (by rw [hs0]; rfl) rfl rfl
  show wpAny _ _ (evalAll ((do let v ← eval (.Name "len" p3) X.env; standAt pos; pure v) :: [])) _ _ s1
  refine wpAny_evalAll_cons (wpAny_bind (ld_blt I1 hg2 hm2 (u := .builtin "len") (by decide +kernel) (wpAny_bind (wpAny_standAt (wpAny_pure ?_))) (by decide) (by decide)))
  refine wpAny_evalAll_nil ?_
  show wpAny _ _ (call (.builtin "sorted") us [(Str.ofString "key", .builtin "len")]) _ _ s1
  match vs, q1 with
  | [_], q1 =>
  obtain ⟨q, l, rfl, hs, hl, hz, k⟩ := q1
  obtain ⟨its, rv, hli, hsz⟩ := I1.list hs
  rw [Vals.ref1 r1]
  have hlen : its.length = l.length := by rw [← rv.length, List.length_map, List.length_map]
  refine PySem.W.sorted_key_data (b := false) (fun x : List Nat => .int x.length) hli.isList (each_txts rv) (PySem.W.AllAlike.of fun _ _ => by simp [PySem.W.alike]) (PySem.W.Sortable.others fun _ => ⟨by simp, by simp⟩) (LIM_le hl)
    (fun x _ => ?_) (ksk_s1 _ _) (fun _ => ksk_l1 _ _) (fun _ => rfl) (fun v x ⟨t, e⟩ hx h' tk kp => ?_) fun out c h' tk kp hp hD _ eo => ?_
  · have hu := hr.un
    have : (PyData.int (x.length : Int)).depth = 0 := by simp [PyData.depth]
    omega
  · subst e
    have hx := hz x hx
    have hm : (mkS x).length = x.length := mkS_len x
    refine len_str (by unfold LIM at hx; rw [hm]; omega) ⟨h', tk + 1 + 1, rfl, fun _ _ e => e, ?_⟩
    rw [hm]
    exact .int _ _
  · have e2 := PySem.W.dataLe_int (β := List Nat) fun x => (x.length : Int)
    rw [e2] at eo
    have e3 : (fun a b : List Nat => decide ((a.length : Int) ≤ (b.length : Int))) = fun a b => decide (a.length ≤ b.length) := by
      funext a b
      simp
    rw [e3] at eo
    have rl := txts_each eo
    have hn := I1.hok.fresh (Nat.le_succ s1.heap.objs.size)
    refine ⟨.ref _, upd H1 (s1.heap.objs.size + 1) (.lst _), I1.laid (t' := tk) kp (Nat.le_succ _) ⟨?_, out, c, rl, hD⟩, rfl, k _ hn⟩
    rw [List.length_map, List.length_mergeSort]
    exact LIM_le hl
theorem sE_srk {kk : Nat} {p2 p3 kpos : Pos} (hr : Room kk X.A) (hg : Gl X "sorted") (hm : X.mg "sorted" = none) (hg2 : Gl X "len") (hm2 : X.mg "len" = none) (ha : PE X a (tE X.K L P W ta)) (hst : isStar a = false) :
    PE X (.Call (.Name "sorted" p2) [a] [⟨some "key", .Name "len" p3, kpos⟩] pos) (tE X.K L P W (.srk ta)) := by
  refine PE.imp (pe_srk hr hg hm hg2 hm2 ha hst) fun σ H Q ⟨G, r, cs, env, s, er, k⟩ => ?_
  unfold evE at k
  refine ⟨G, r, cs, env, s, er, k.bind fun x cs1 hx v G1 r1 H1 g1 s1 rv k1 => ?_⟩
  unfold srkD at k1
  split at k1
  · rename_i ds0 e0
    split at e0
    · rename_i ds t
      split at e0
      · rename_i l hs
        split at e0
        · rename_i hl
          cases e0
          obtain ⟨q, ws, rfl, h1, h2⟩ := top_lst s1 rv t
          have hw := strs_reps h2 hs
          subst hw
          refine ⟨q, l, rfl, SqL.of h1, hl.1, hl.2, fun p hp => ?_⟩
          have g := Go.cellNew s1 (.lst ((l.mergeSort fun a b => decide (a.length ≤ b.length)).map fun x => V.str (mkS x))) hp
          refine k1 _ _ _ _ g (s1.cellNew hp ⟨_, upd_same, reps_txts _⟩) (.ref ?_)
          rw [← s1.len, List.getElem?_append_right (Nat.le_refl _)]
          simp
        · cases e0
      · cases e0
    · cases e0
  · exact k1.elim
theorem rev_step (z : Str) : ((Builtin.Str.strSliceIndices none none (-1) z.length).filterMap (z.cps[·]?)).toArray.toList = z.cps.toList.reverse := by
  have h := step_rev_list z 0
  unfold Txt.sliceBy slicePicked at h
  have h1 : ¬ (((((some ((-1 : Int), (0 : Tok))).map (·.1)).getD 1 == 1) && ((Builtin.Str.strSliceIndices ((none : Option (Int × Tok)).map (·.1)) ((none : Option (Int × Tok)).map (·.1)) (((some ((-1 : Int), (0 : Tok))).map (·.1)).getD 1) z.length).length == z.length)) = true) := by
    have : ((((some ((-1 : Int), (0 : Tok))).map (·.1)).getD 1 == 1)) = false := rfl
    rw [this]; simp
  rw [if_neg h1] at h
  refine h.trans ?_
  apply List.ext_getElem
  · simp [Str.length]
  · intro i h1 h2
    have hi : i < z.cps.size := by simpa using h2
    have h3 : z.cps.size - 1 - i < z.cps.size := by omega
    simp [Array.getD, Str.length, List.getElem_reverse, h3]
theorem pe_rev {te : TE} {k : Nat} {p1 p2 p3 pos : Pos} {e : Expr} (he : PE X e te) : PE X (.Subscript e (.Slice none none (some (.UnaryOp .USub (.Constant (.int 1) k p1) p2)) p3) pos)
    (fun σ H Q => te σ H fun x H1 => (∃ z, x = .str z ∧ z.length ≤ sizeLine ∧ Q (.str ⟨z.cps.toList.reverse.toArray⟩) H1) ∨ ∃ a xs, x = .ref a ∧ SqL X.K H1 a xs ∧ ∀ p, H1 p = none → Q (.ref p) (upd H1 p (.lst xs.reverse))) := by
  refine ⟨fun pins s σ H Q I h => ?_⟩
  refine Subscript_ (thn (he.run pins s σ H _ I h) fun v s1 ⟨x, H1, I1, r1, q1⟩ => ?_)
  have hst : PO X (some (.UnaryOp .USub (.Constant (.int 1) k p1) p2)) (tPart (tUn (rU fun i => .int (-i)) (tC (.int 1)))) := po_some (pe_un un_neg pe_int)
  refine wpAny_Slice (thn (po_none.run pins s1 σ H1 (fun o H2 => o = none ∧ H2 = H1) I1 ⟨rfl, rfl⟩) fun vl s2 ⟨l, H2, I2, pl, el, e2⟩ => ?_)
  subst el e2
  refine thn (po_none.run pins s2 σ H2 (fun o H3 => o = none ∧ H3 = H2) I2 ⟨rfl, rfl⟩) fun vu s3 ⟨u, H3, I3, pu, eu, e3⟩ => ?_
  subst eu e3
  refine thn (hst.run pins s3 σ H3 (fun o H4 => o = some (-1) ∧ H4 = H3) I3 ⟨1, rfl, -1, rfl, rfl, rfl⟩) fun vs s4 ⟨o, H4, I4, ps, eo, e4⟩ => ?_
  subst eo e4
  have I5 : Inv X pins σ H4 { s4 with heap := s4.heap.push { cls := .type "slice", data := .fields #[vl, vu, vs] } } := I4.kept (t' := s4.toks) fun b ob q => Heap.get?_push_of_some _ q
  rcases q1 with ⟨z, ex, hx, q⟩ | ⟨a, xs, ex, hx, q⟩
  · subst ex
    obtain ⟨t, rfl⟩ := r1
    obtain ⟨l, rfl, hl⟩ := IsPart.raw pl
    obtain ⟨u, rfl, hu⟩ := IsPart.raw pu
    obtain ⟨st, rfl, hst2⟩ := IsPart.raw ps
    have hl : l = none := by cases l <;> simp_all
    have hu : u = none := by cases u <;> simp_all
    subst hl hu
    obtain ⟨w, rfl⟩ : ∃ w, st = some (-1, w) := by
      cases st with
      | none => simp at hst2
      | some p => obtain ⟨i, w⟩ := p; simp at hst2; exact ⟨w, by rw [hst2]⟩
    show wpAny (model X.prog X.w) X.A (subscriptTail e (.Slice none none (some (.UnaryOp .USub (.Constant (.int 1) k p1) p2)) p3) (.str z t) (.ref s4.heap.objs.size)) (EP X pins σ Q) X.xe _
    refine tail_any (ops := [.ref s4.heap.objs.size, .str z t]) (typeIs_str _ _ _) (F.slot_str_getitem.lookup) ?_ (by with_unfolding_all rfl)
    refine wpAny_getItem_str_slice (l := none) (u := none) (st := some (-1, w)) ⟨_, Heap.get?_push_size _ rfl, rfl, rfl⟩ rfl ?_
    have e1 := rev_step z
    have e2 : ((Builtin.Str.strSliceIndices none none (-1) z.length).filterMap (z.cps[·]?)).toArray = z.cps.toList.reverse.toArray := by rw [← e1]
    show Made.post (if ((-1 : Int) == 1 && (Builtin.Str.strSliceIndices none none (-1) z.length).length == z.length) = true then Made.val (.str z t)
      else Made.str ⟨((Builtin.Str.strSliceIndices none none (-1) z.length).filterMap (z.cps[·]?)).toArray⟩) (EP X pins σ Q) _
    rw [if_neg (by simp), e2]
    refine ⟨?_, .str _, H4, I5.tok _, ⟨_, rfl⟩, q⟩
    show (z.cps.toList.reverse.toArray).size ≤ _
    simpa [Str.length] using hx
  · subst ex
    cases r1
    obtain ⟨its, r, ht, hz⟩ := I5.list hx
    have hlen := r.length
    show wpAny (model X.prog X.w) X.A (subscriptTail e (.Slice none none (some (.UnaryOp .USub (.Constant (.int 1) k p1) p2)) p3) (.ref a) (.ref s4.heap.objs.size)) (EP X pins σ Q) X.xe { s4 with heap := s4.heap.push { cls := .type "slice", data := .fields #[vl, vu, vs] } }
    refine tail_any (ops := [.ref a, .ref s4.heap.objs.size]) ht.isList.typeIs (PySem.slot_list_getitem.lookup) ?_ (by with_unfolding_all rfl)
    refine wpAny_getItem_list_slice ht.isList (Heap.IsSliceOf.new _ vl vu vs) pl pu ps (by decide) ?_ (by rw [List.size_toArray]; omega)
    rw [PySem.W.krv_pick]
    refine ⟨.ref _, _, I5.laid (t' := s4.toks) (o := .lst xs.reverse) (fun b ob q => Heap.get?_push_of_some _ q) (Nat.le_refl _) ?_, rfl, q _ (I5.hok.fresh (Nat.le_refl _))⟩
    exact ⟨by rw [List.length_reverse]; exact hz, _, 0, r.reverse, Heap.get?_push_size _ rfl⟩
theorem Reps.rev {K : PySem.W.Frag} {L : Lay} {G : Hp} {r : List Addr} : ∀ {ds : List D} {vs : List V}, Reps K L G r ds vs → Reps K L G r ds.reverse vs.reverse
  | [], _, h => by cases h; exact .nil
  | d :: ds, _, h => by
    cases h with
    | cons h1 h2 =>
      rw [List.reverse_cons, List.reverse_cons]
      exact (Reps.rev h2).append (.one h1)
theorem sE_rev {k : Nat} {p1 p2 p3 pos : Pos} (ha : PE X a (tE X.K L P W ta)) : PE X (.Subscript a (.Slice none none (some (.UnaryOp .USub (.Constant (.int 1) k p1) p2)) p3) pos) (tE X.K L P W (.rev ta)) := by
  refine PE.imp (pe_rev ha) fun σ H Q ⟨G, r, cs, env, s, er, k⟩ => ?_
  unfold evE at k
  refine ⟨G, r, cs, env, s, er, k.bind fun x cs1 hx v G1 r1 H1 g1 s1 rv k1 => ?_⟩
  obtain ⟨d, e1, k2⟩ := k1.some_of
  unfold revD at e1
  split at e1
  · rename_i z t
    cases top_str t
    split at e1
    · rename_i hl
      cases e1
      rw [rv.str_of]
      exact .inl ⟨_, rfl, by rw [mkS_len]; exact LIM_le hl, k2.ok0 s1 (.str _)⟩
    · cases e1
  · rename_i ds t
    cases e1
    obtain ⟨q, ws, rfl, h1, h2⟩ := top_lst s1 rv t
    exact .inr ⟨q, ws, rfl, SqL.of h1, fun p hp => k2 _ _ _ _ (Go.new s1 _ hp) (s1.new _ hp) (.lst upd_same (h2.rev.go (Go.new s1 _ hp)))⟩
  · cases e1
theorem call_tupR : CallR X (.type "tuple") (fun xs H Q => ∃ p ys, xs = [.ref p] ∧ ((SqL X.K H p ys ∧ ∀ l, H l = none → Q (.ref l) (upd H l (.tup ys))) ∨ (SqT X.K H p ys ∧ Q (.ref p) H))) := call_tuple_of
theorem sE_tupE {p2 : Pos} (hg : Gl X "tuple") (hm : X.mg "tuple" = none) (ha : PE X a (tE X.K L P W ta)) (hst : isStar a = false) : PE X (.Call (.Name "tuple" p2) [a] [] pos) (tE X.K L P W (.tupE ta)) := by
  refine PE.imp (pe_callTy call_tuple_of hg hm (by decide +kernel) (pa_cons ha pa_nil (star_ok hst)) (by decide) (by decide) (star_ok hst)) fun σ H Q ⟨G, r, cs, env, s, er, k⟩ => ?_
  unfold evE at k
  refine ⟨G, r, cs, env, s, er, k.bind fun x cs1 hx v G1 r1 H1 g1 s1 rv k1 => ?_⟩
  obtain ⟨d, e1, k2⟩ := k1.some_of
  unfold tupD at e1
  split at e1
  · rename_i ds t
    cases e1
    obtain ⟨p, ws, rfl, h1, h2⟩ := top_lst s1 rv t
    refine ⟨p, ws, rfl, .inl ⟨SqL.of h1, fun l hp => ?_⟩⟩
    have g := Go.new s1 (.tup ws) hp
    exact k2 _ _ _ _ g (s1.new _ hp) (.tup (SqT.of upd_same) (h2.go g))
  · rename_i ds t
    cases e1
    cases top_tup t
    obtain ⟨p, ws, rfl, h1, h2⟩ := tup_of s1 rv
    exact ⟨p, ws, rfl, .inr ⟨h1, k2.ok0 s1 rv⟩⟩
  · cases e1
end
end XV
set_option Elab.async false
set_option linter.all false
set_option autoImplicit false
set_option maxRecDepth 100000
namespace XV
open PySem PySem.Spec PyProof.Rows L2
namespace NeW
open PySem.W PySem.Calls
section
variable {prog : Program} {w : World} {A : Around} {E : Value → Shared → Prop} {s : Shared} {K : Frag} {x y C f : Addr} {ox : Obj} {od : Option Obj}
theorem ne_bind (self : Value) : bindSpecial (.builtin "object.__ne__") self = pure (.builtin "object.__ne__", [self]) := PySem.F.cmp_object.ne.bind self
theorem ne_body {Q : Fin → Shared → Prop} (hu : A.units < cLine) (X : K.In s.heap) (J : InstAt s.heap x ox C od) (hs : findIn K (.ref C) "__eq__" = some (some (.ref f))) (hf : isFn K (.ref f) = true)
    (h : wpAny (model prog w) A (call (.ref f) [.ref x, .ref y]) (fun v s' => ∃ r, v = .bool r ∧ Q (.done (.ret (.bool (!r)))) s') E s) : wpAny (model prog w) A (Builtin.«object.__ne__» ⟨[.ref x, .ref y], []⟩) Q E s := by
  unfold Builtin.«object.__ne__»
  repeat (first
    | with_reducible refine wpAny_cRoomFor hu ?_
    | (refine wpAny_bind (m := callSpecialIfBound? (.ref x) (Str.ofString "__eq__") [.ref y])
        (ifBound_K X J hs hf (wpAny_mono h (fun r s' hr => by
          obtain ⟨b, rfl, hq⟩ := hr
          repeat (first | exact hq | exact wpAny_pure hq | exact wpAny_truthy_bool hq | (refine wpAny_bind (m := truthy (.bool _)) (wpAny_truthy_bool ?_)) | wp_step)) fun _ _ e => e)))
    | wp_step)
theorem ne_try {Q : Option Value → Shared → Prop} (hu : A.units + 1 < cLine) (X : K.In s.heap) (J : InstAt s.heap x ox C od) (hp : plainOver K C = true) (hne : findIn K (.ref C) "__ne__" = some (some (.builtin "object.__ne__")))
    (hs : findIn K (.ref C) "__eq__" = some (some (.ref f))) (hf : isFn K (.ref f) = true)
    (h : wpAny (model prog w) A.in1 (call (.ref f) [.ref x, .ref y]) (fun v s' => ∃ r, v = .bool r ∧ Q (some (.bool (!r))) s') E s) : wpAny (model prog w) A (tryCompare (.ref x) "__ne__" (.ref y)) Q E s := by
  obtain ⟨cd, hc, ho⟩ := any_some hp
  have ne : cd.mro.isEmpty = false := by cases q : cd.mro with | nil => rw [q] at ho; cases ho | cons _ _ => rfl
  have sub : Looks (model prog w) s.heap (isInstance (.ref x) (.type "object")) true := J.type.andThen (looks_mroIn X (by unfold mroIn; rw [hc, Option.bind_some, if_neg (by rw [ne]; decide), only_has ho]))
  have hcall : wpAny (model prog w) A (call (.builtin "object.__ne__") [.ref x, .ref y]) (fun v s' => ∃ r, v = .bool r ∧ Q (some (.bool r)) s') E s := by
    refine wpAny_call (codeAny_call_builtin PySem.F.cmp_object.ne.plain F.cmpEntry_ne (@check_slot (model prog w) _ _ s "object.__ne__" "object" "__ne__" (.ref x) [.ref y] [] _ F.cmpKind_ne F.cmpSplit_ne sub (F.cmpArgs_ne _ _) ?_))
    refine ne_body (A := A.in1) hu X J hs hf (wpAny_mono h (fun v s' hv => ?_) fun _ _ e => e)
    obtain ⟨b, rfl, hq⟩ := hv
    exact ⟨b, rfl, !b, rfl, hq⟩
  unfold tryCompare
  have fin : wpAny (model prog w) A (call (.builtin "object.__ne__") ([.ref x] ++ [.ref y]) >>= fun v => pure (some v)) (fun r s' => ∃ b, r = some (.bool b) ∧ Q (some (.bool b)) s') E s :=
    wpAny_bind (wpAny_mono hcall (fun v s' ⟨r, e, q⟩ => wpAny_pure ⟨r, by rw [e], q⟩) fun _ _ h' => h')
  have one : wpAny (model prog w) A (callSpecialIfBound? (.ref x) "__ne__" [.ref y]) (fun r s' => ∃ b, r = some (.bool b) ∧ Q (some (.bool b)) s') E s := by
    simp only [callSpecialIfBound?, bindSpecialIfBound?]
    refine wpAny_holding (wpAny_bind (wpAny_bind (wpAny_bind (J.type.here ((looks_findIn X hne).here ?_)))))
    refine wpAny_bind (wpAny_askSetting (wpAny_ite ?_))
    split
    · exact wpAny_bind (wpAny_of_eq (ne_bind _) (wpAny_pure (by exact fin)))
    · exact wpAny_tryCatch (wpAny_bind (wpAny_of_eq (ne_bind _) (wpAny_pure (by exact fin))))
  refine wpAny_bind (wpAny_mono one (fun r s' ⟨b, e, q⟩ => ?_) fun _ _ e => e)
  subst e
  exact wpAny_pure q
theorem ne_own {Q : Value → Shared → Prop} (hu : A.units + 1 < cLine) (X : K.In s.heap) (J : InstAt s.heap x ox C od) (hb : Looks (model prog w) s.heap (typeOf (.ref y)) (.ref C)) (hp : plainOver K C = true)
    (hne : findIn K (.ref C) "__ne__" = some (some (.builtin "object.__ne__"))) (hs : findIn K (.ref C) "__eq__" = some (some (.ref f))) (hf : isFn K (.ref f) = true)
    (h : wpAny (model prog w) A.in1 (call (.ref f) [.ref x, .ref y]) (fun v s' => ∃ r, v = .bool r ∧ Q (.bool (!r)) s') E s) : wpAny (model prog w) A (richCompare .NotEq (.ref x) (.ref y)) Q E s := by
  unfold richCompare
  simp only [oneThing_ref]
  refine wpAny_holding (wpAny_bind (wpAny_cRoomFor (Nat.lt_of_succ_lt hu) ?_))
  rw [cmpInfo_NotEq]
  dsimp only
  refine wpAny_bind (J.type.here (wpAny_bind (hb.here ?_)))
  rw [show (Value.ref C != Value.ref C) = false from by simp]
  simp only [Bool.false_eq_true, if_false]
  refine wpAny_bind (wpAny_pure ?_)
  simp only [Bool.false_eq_true, if_false]
  refine wpAny_bind (ne_try hu X J hp hne hs hf (wpAny_mono h (fun v s' hv => ?_) fun _ _ e => e))
  obtain ⟨b, rfl, hq⟩ := hv
  first | exact ⟨b, rfl, wpAny_pure hq⟩ | exact ⟨b, rfl, wpAny_pure (wpAny_pure hq)⟩
end
end NeW
section
variable {X : Cx} {L : Lay} {P : Cfg} {W : WX} {pos apos cpos p p2 : Pos} {a b o e : Expr} {ta tb to tk : T}
theorem sE_rngL {p3 pr : Pos} (hc : X.calm = true) (hg : Gl X "list") (hm : X.mg "list" = none) (hg2 : Gl X "range") (hm2 : X.mg "range" = none) (ha : PE X a (tE X.K L P W ta)) (hst : isStar a = false) :
    PE X (.Call (.Name "list" p2) [.Call (.Name "range" p3) [a] [] pr] [] pos) (tE X.K L P W (.rngL ta)) := by
  refine PE.imp (pe_listRg hc hg hm (prg_1 hg2 hm2 ha (star_ok hst)) (star_ok rfl)) fun σ H Q ⟨G, r, cs, env, s, er, k⟩ => ?_
  unfold evE at k
  refine ⟨G, r, cs, env, s, er, k.bind fun x cs1 hx v G1 r1 H1 g1 s1 rv k1 => ?_⟩
  obtain ⟨d, e1, k2⟩ := k1.some_of
  unfold rngD at e1
  split at e1
  · rename_i n
    split at e1
    · rename_i hn
      cases e1
      cases rv.int_of
      refine ⟨n, rfl, ⟨by omega, by omega, by omega, by omega, by omega⟩, fun q hq => ?_⟩
      refine k2 _ _ _ _ (Go.new s1 _ hq) (s1.new _ hq) (.lst upd_same ?_)
      unfold rgV
      rw [show n - 0 = n by omega]
      have : ∀ (l : List Nat) (G : Hp), Reps X.K L G r1 (l.map fun (k : Nat) => D.int (k : Int)) (l.map fun (i : Nat) => V.int (0 + (i : Int))) := fun l G => by
        induction l with
        | nil => exact .nil
        | cons k l ih => rw [List.map_cons, List.map_cons, Int.zero_add]; exact .cons (.int _) ih
      exact this _ _
    · cases e1
  · cases e1
theorem Reps.erase {K : PySem.W.Frag} {L : Lay} {G : Hp} {r : List Addr} : ∀ {ds : List D} {vs : List V} (i : Nat), Reps K L G r ds vs → Reps K L G r (ds.eraseIdx i) (vs.eraseIdx i)
  | [], _, i, h => by cases h; exact .nil
  | d :: ds, _, i, h => by
    cases h with
    | cons h1 h2 =>
      cases i with
      | zero => exact h2
      | succ i => exact .cons h1 (Reps.erase i h2)
theorem Reps.atI {K : PySem.W.Frag} {L : Lay} {G : Hp} {r : List Addr} : ∀ {ds : List D} {vs : List V} {i : Nat} {d : D}, Reps K L G r ds vs → ds[i]? = some d → ∃ v, vs[i]? = some v ∧ Rep K L G r d v
  | [], _, i, d, h, e => by cases e
  | d :: ds, _, i, d', h, e => by
    cases h with
    | cons h1 h2 =>
      cases i with
      | zero => cases e; exact ⟨_, rfl, h1⟩
      | succ i =>
        have := Reps.atI (i := i) h2 (show ds[i]? = some d' from e)
        exact this
theorem sE_popAt (ho : PE X o (tE X.K L P W to)) (hk : PE X e (tE X.K L P W tk)) (hst : isStar e = false) (hcall : isCall0 o = false) (hline : (apos.endLine == cpos.line) = true) :
    PE X (.Call (.Attribute o "pop" apos) [e] [] cpos) (tE X.K L P W (.popAt to tk)) := by
  refine PE.imp (pe_bm PySem.F.plainAttrs_list PySem.F.slot_list_pop PySem.F.type_list_pop mt_popAt ho (pa_cons hk pa_nil (star_ok hst)) (attr_ok hcall) (by rw [star_ok hst]; rfl) hline (star_ok hst)) fun σ H Q ⟨G, r, cs, env, s, er, k⟩ => ?_
  unfold evE at k
  refine ⟨G, r, cs, env, s, er, k.bind fun x cs1 hx v G1 r1 H1 g1 s1 rx k1 => ?_⟩
  cases x <;> first | exact k1.elim | skip
  rename_i c
  simp only at k1
  cases e0 : cs1[c]? with
  | none => rw [e0] at k1; exact k1.elim
  | some kk =>
    rw [e0] at k1
    cases kk <;> first | exact k1.elim | skip
    rename_i ds0
    simp only at k1
    obtain ⟨a, vs, rfl, ea, h1, h2⟩ := ref_cell s1 rx e0
    refine ⟨.inl ⟨rfl, vs, SqL.of h1⟩, G1, r1, cs1, env, s1, er.go g1, k1.bind fun y cs2 hy w G2 r2 H2 g2 s2 ry k2 => ?_⟩
    cases e1 : popD cs2 (.ref c) y with
    | none => rw [e1] at k2; exact k2.elim
    | some q =>
      rw [e1] at k2
      obtain ⟨i, rfl⟩ : ∃ i, y = .int i := by cases y <;> first | exact ⟨_, rfl⟩ | cases e1
      unfold popD at e1
      simp only at e1
      · split at e1
        · rename_i ds ek
          split at e1
          · rename_i hi
            cases ed : ds[i.toNat]? with
            | none => rw [ed] at e1; cases e1
            | some d =>
              rw [ed] at e1
              cases e1
              obtain ⟨a', vs', ev, ea', q1, q2⟩ := ref_cell s2 (rx.go g2) ek
              cases ev
              obtain ⟨u, hu, ru⟩ := Reps.atI q2 ed
              cases ry.int_of
              obtain ⟨g, s3⟩ := cell_go (x := .lst (vs'.eraseIdx i.toNat)) (k' := .lst (ds.eraseIdx i.toNat)) s2 ek ea' ⟨_, upd_same, Reps.erase i.toNat q2⟩
              have hlt : i.toNat < vs'.length := (List.getElem?_eq_some_iff.mp hu).1
              obtain ⟨hi0, hi1⟩ := hi
              refine ⟨a, vs', i, i.toNat, u, rfl, rfl, q1, by omega, by omega, ?_, hu, k2 _ _ _ _ g s3 ru⟩
              have z1 : ¬ i < 0 := by omega
              have z2 : (decide (0 ≤ i) && decide (i < (vs'.length : Int))) = true := by
                rw [decide_eq_true hi0, decide_eq_true (by omega)]; rfl
              unfold seqIndex?
              simp only [if_neg z1, if_pos z2]
          · cases e1
        · cases e1
structure IsC (K : PySem.W.Frag) (C : Addr) : Prop where
  cl : Cls K C
  ha : PySem.W.findIn K (.ref C) "__class__" = some (some (.builtin "object.__class__"))
  hn : PySem.W.specialIn K (.builtin "object.__class__") "__get__" = some (some (.builtin "getset_descriptor.__get__"))
  htk : PySem.W.takesIn K (.builtin "object.__class__") = some true
  hm : PySem.W.mroIn K C (.type "object") = some true
  sm : (PySem.W.clsIn K C).isSome = true
  ty : PySem.W.typeIn K (.ref C) = some (.type "type")
theorem mro_dty : ∀ n ∈ DTY, ∃ l : List String, PySem.fastBuiltinMro n = some (l.map Value.type) := by
  intro n hn
  have : ∀ n ∈ DTY, (PySem.fastBuiltinMro n).isSome = true ∧ ((PySem.fastBuiltinMro n).getD []).all (fun v => match v with | .type _ => true | _ => false) = true := by decide +kernel
  obtain ⟨h1, h2⟩ := this n hn
  cases e : PySem.fastBuiltinMro n with
  | none => rw [e] at h1; cases h1
  | some l =>
    rw [e] at h2
    simp only [Option.getD_some] at h2
    clear e h1
    induction l with
    | nil => exact ⟨[], rfl⟩
    | cons v l ih =>
      rw [List.all_cons] at h2
      obtain ⟨a, b⟩ := Bool.and_eq_true_iff.mp h2
      obtain ⟨m, e⟩ := ih b
      cases v <;> first | (cases a; done) | skip
      rename_i T
      exact ⟨T :: m, by rw [List.map_cons]; cases e; rfl⟩
theorem sub_no {K : PySem.W.Frag} {C : Addr} {n : String} (hn : n ∈ DTY) : PySem.W.subIn K (.type n) (.ref C) = some false := by
  obtain ⟨l, e⟩ := mro_dty n hn
  show (PySem.fastBuiltinMro n).map (·.contains (Value.ref C)) = some false
  rw [e, Option.map_some]
  congr 1
  induction l with
  | nil => rfl
  | cons t l ih => rw [List.map_cons, List.contains_cons]; simpa using ih
theorem kit_no {K : PySem.W.Frag} {C : Addr} {n : String} (I : IsC K C) (hn : n ∈ DTY) : PySem.W.kitOne K (.type n) (.ref C) = some false := by
  unfold PySem.W.kitOne
  rw [if_neg (by simp)]
  show (if ((PySem.W.clsIn K C).isSome && PySem.W.typeIn K (.ref C) == some (.type "type")) = true then PySem.W.subIn K (.type n) (.ref C) else none) = _
  rw [I.sm, I.ty, if_pos (by simp), sub_no hn]
theorem isCD_or {cs : List C} {x d : D} {c : Nat} (e : isCD cs x c = some d) : (∃ ks ds, x = .obj c ks ds ∧ d = .bl true) ∨ ∃ n, tyN cs x = some n ∧ d = .bl false := by
  by_cases ho : ∃ k ks ds, x = .obj k ks ds
  · obtain ⟨k, ks, ds, rfl⟩ := ho
    have e : (if k = c then some (D.bl true) else none) = some d := e
    by_cases h : k = c
    · subst h; rw [if_pos rfl] at e; cases e; exact .inl ⟨_, _, rfl, rfl⟩
    · rw [if_neg h] at e; cases e
  · have e : (tyN cs x).map (fun _ => D.bl false) = some d := by cases x <;> first | exact e | exact absurd ⟨_, _, _, rfl⟩ ho
    cases h : tyN cs x with
    | none => rw [h] at e; cases e
    | some n => rw [h] at e; cases e; exact .inr ⟨n, rfl, rfl⟩
theorem sE_isC {c : Nat} {y : Str} {p3 : Pos} (IC : IsC X.K (L.cls c)) (hg : Gl X "isinstance") (hm : X.mg "isinstance" = none) (ha : PE X a (tE X.K L P W ta)) (hg2 : Gl X y) (hm2 : X.mg y = some (.ref (L.cls c))) (hd : (y == ("__debug__" : Str)) = false) (hs1 : isStar a = false) :
    PE X (.Call (.Name "isinstance" p) [a, .Name y p3] [] pos) (tE X.K L P W (.isC ta c)) := by
  refine PE.imp (pe_callB call_isi hg hm (by decide +kernel) (pa_cons ha (pa_cons (pe_glob (v := .ref (L.cls c)) hg2 hm2 rfl hd) pa_nil (star_ok rfl)) (star_ok hs1)) (by decide) (by decide) (star_ok hs1) (by rw [star_ok (e := .Name y p3) rfl]; rfl)) fun σ H Q ⟨G, r, cs, env, s, er, k⟩ => ?_
  unfold evE at k
  refine ⟨G, r, cs, env, s, er, k.bind fun d cs1 _ v G1 r1 H1 g1 s1 rx k1 => ?_⟩
  obtain ⟨b, e, k2⟩ := k1.some_of
  rcases isCD_or e with ⟨ks, ds, rfl, rfl⟩ | ⟨n, e1, rfl⟩
  · cases rx with
    | obj q1 q2 q3 =>
      refine ⟨_, .ref (L.cls c), .ref (L.cls c), .ref (L.cls c), true, rfl, .own _, .base (.ins (s1.same _ _ q1) IC.cl IC.ha IC.hn IC.htk IC.hm), ?_, k2.ok0 s1 (.bl _)⟩
      unfold PySem.W.kitOne
      rw [if_pos (by simp)]
  · exact ⟨v, .ref (L.cls c), .type n, .ref (L.cls c), false, rfl, .own _, tyN_ok s1 rx e1, kit_no IC (tyN_mem e1), k2.ok0 s1 (.bl _)⟩
def NeC (K : PySem.W.Frag) (C : Addr) : Prop := PySem.W.findIn K (.ref C) "__ne__" = some (some (.builtin "object.__ne__"))
def rEqO (X : Cx) (k : Nat) (ne : Bool) : R2 := fun x y H Q => ∃ a C dx fs g fd ps, ∃ sp : Sp, x = .ref a ∧ H a = some (.ins C dx fs) ∧ Cls X.K C ∧ Meth X.K C "__eq__" g ∧ FnOk X.prog X.w X.K X.mg X.base (L2.CX X.prog X.w) k g fd ps sp ∧ Binds X.K fd ps [] ∧
  ((ne = false ∧ ∃ n, n ∈ DTY ∧ TyX X.K H y (.type n)) ∨ ((ne = true → NeC X.K C) ∧ ∃ b dy gs, y = .ref b ∧ H b = some (.ins C dy gs))) ∧
  sp [.ref a, y] H (fun v H' => ∃ r, v = .bl r ∧ Q (.bl (r != ne)) H') (fun _ _ _ => False)
theorem run_eq {k : Nat} {A : Around} {pins : List (Addr × Obj)} {s : Shared} {σ : L2.St} {H : Hp} {a : Addr} {y : V} {u : Value} {g : Addr} {fd : FuncData} {ps : List Str} {sp : Sp} {Q0 : Value → Shared → Prop} {Q : Bool → Hp → Prop} {E0 : Value → Shared → Prop} (I : Inv X pins σ H s)
    (F : FnOk X.prog X.w X.K X.mg X.base (L2.CX X.prog X.w) k g fd ps sp) (hb : Binds X.K fd ps []) (hA : Room k A) (e0 : Env0 X.prog X.w X.K X.mg X.base A X.stack s H) (ry : RelV y u)
    (q : sp [.ref a, y] H (fun v H' => ∃ r, v = .bl r ∧ Q r H') (fun _ _ _ => False)) (hQ : ∀ (r : Bool) (H' : Hp) (s' : Shared), Inv X pins σ H' s' → Q r H' → Q0 (.bool r) s') :
    wpAny (model X.prog X.w) A (call (.ref g) [.ref a, u]) Q0 E0 s := by
  have r2 : Vals [V.ref a, y] [Value.ref a, u] := .cons rfl (.cons ry .nil)
  have hl := F.len _ _ _ _ q
  refine wpAny_call (codeAny_mono (F.run A X.stack s H ⟨[.ref a, u], []⟩ [.ref a, u] [.ref a, y] _ _ hA e0 (by
    have := hb s [.ref a, u] I.kIn (by simpa using hl)
    simpa using this) r2 q) fun r s' hq => ?_)
  cases r with
  | error e => exact (cxno hq).elim
  | ok fl =>
    cases fl with
    | ret u =>
      obtain ⟨v, H', I3, rv, n, rfl, q3⟩ := I.after hq
      cases (show u = Value.bool n from rv)
      exact hQ n H' s' I3 q3
    | next => exact False.elim hq
    | brk => exact False.elim hq
    | cont => exact False.elim hq
theorem op_eqO {k : Nat} (hr : Room (k + 1) X.A) : OpR X (compareOp .Eq) (rEqO X k false) := by
  intro pins s σ H x y v u Q I rx ry ⟨a, C, dx, fs, g, fd, ps, sp, ex, ha, hC, hM, F, hb, hy, q⟩
  subst ex
  cases rx
  show wpAny (model X.prog X.w) X.A (richCompare .Eq (.ref a) u) (EP X pins σ Q) X.xe s
  obtain ⟨mA, J, _⟩ := ins_get I.hok ha
  obtain ⟨od, J, _⟩ := J.look
  obtain ⟨m, hF⟩ := I.fr
  have hu : X.A.units < cLine := by have := hr.un; omega
  have main : ∀ (tb : Value), PySem.W.Looks (model X.prog X.w) s.heap (typeOf u) tb → PySem.W.notFirst X.K C tb = true → wpAny (model X.prog X.w) X.A (richCompare .Eq (.ref a) u) (EP X pins σ Q) X.xe s := fun tb hb' hn =>
    PySem.W.cmp_K (op := .Eq) (tb := tb) hu hF I.ok.mod.kin J hb' hn hM.at_ hM.fn (run_eq (Q := fun r H' => Q (.bl (r != false)) H') I F hb (hr.mono (Nat.le_succ k)) I.env0 ry q fun r H' s' I' q' => by
        rw [Bool.bne_false] at q'
        exact ⟨.bl r, H', I', rfl, q'⟩)
  rcases hy with ⟨_, n, hn, ty⟩ | ⟨_, b, dy, gs, ey, hb'⟩
  · obtain ⟨P, Z, p, _⟩ := kit_of I ry ty
    refine main (.type n) (Z.ty _ _ I.kIn p) ?_
    unfold PySem.W.notFirst
    rw [sub_no hn]; simp
  · subst ey
    cases ry
    obtain ⟨mB, J', _⟩ := ins_get I.hok hb'
    obtain ⟨od', J', _⟩ := J'.look
    exact main (.ref C) J'.type (by simp [PySem.W.notFirst])
theorem op_neO {k : Nat} (hr : Room (k + 1) X.A) : OpR X (compareOp .NotEq) (rEqO X k true) := by
  intro pins s σ H x y v u Q I rx ry ⟨a, C, dx, fs, g, fd, ps, sp, ex, ha, hC, hM, F, hb, hy, q⟩
  subst ex
  cases rx
  show wpAny (model X.prog X.w) X.A (richCompare .NotEq (.ref a) u) (EP X pins σ Q) X.xe s
  obtain ⟨mA, J, _⟩ := ins_get I.hok ha
  obtain ⟨od, J, _⟩ := J.look
  have hu : X.A.units + 1 < cLine := by have := hr.un; omega
  rcases hy with ⟨z, _⟩ | ⟨hne, b, dy, gs, ey, hb'⟩
  · cases z
  · subst ey
    cases ry
    obtain ⟨mB, J', _⟩ := ins_get I.hok hb'
    obtain ⟨od', J', _⟩ := J'.look
    refine NeW.ne_own hu I.kIn J J'.type hC.po (hne rfl) hM.at_ hM.fn (run_eq (Q := fun r H' => Q (.bl (r != true)) H') I F hb hr.in1 I.env0.in1 (y := .ref b) (show RelV (.ref b) (.ref b) from rfl) q fun r H' s' I' q' => ?_)
    refine ⟨r, rfl, .bl (!r), H', I', rfl, ?_⟩
    have : (r != true) = !r := by cases r <;> rfl
    rw [this] at q'
    exact q'
theorem eqOk_or {ne : Bool} {c : Nat} {cs : List C} {y : D} (e : eqOk ne c cs y = true) : (∃ ks ds, y = .obj c ks ds) ∨ (ne = false ∧ ∃ n, tyN cs y = some n) := by
  by_cases ho : ∃ k ks ds, y = .obj k ks ds
  · obtain ⟨k, ks, ds, rfl⟩ := ho
    have h : k = c := of_decide_eq_true e
    subst h
    exact .inl ⟨_, _, rfl⟩
  · have e : (!ne && (tyN cs y).isSome) = true := by cases y <;> first | exact e | exact absurd ⟨_, _, _, rfl⟩ ho
    obtain ⟨e1, e2⟩ := Bool.and_eq_true_iff.mp e
    cases h : tyN cs y with
    | none => rw [h] at e2; cases e2
    | some n => exact .inr ⟨by simpa using e1, n, rfl⟩
theorem eqO_imp {k : Nat} {ne : Bool} (hM : MthOk X L P k) (hC : ∀ c f, P.meth c "__eq__" = some f → Cls X.K (L.cls c)) (hN : ∀ c f, P.meth c "__eq__" = some f → ne = true → NeC X.K (L.cls c)) {σ : L2.St} {H : Hp} {Q : VK} (h : tE X.K L P W (.eqO ne ta tb) σ H Q) :
    tOp (rEqO X k ne) (tE X.K L P W ta) (tE X.K L P W tb) σ H Q := by
  obtain ⟨G, r, cs, env, s, er, k0⟩ := h
  unfold evE at k0
  refine ⟨G, r, cs, env, s, er, k0.bind fun x cs1 _ v G1 r1 H1 g1 s1 rx k1 => ⟨G1, r1, cs1, env, s1, er.go g1, k1.bind fun y cs2 _ w G2 r2 H2 g2 s2 ry k2 => ?_⟩⟩
  obtain ⟨c, ks, ds, rfl⟩ : ∃ c ks ds, x = .obj c ks ds := by cases x <;> first | exact ⟨_, _, _, rfl⟩ | exact k2.elim
  have k2 : KO X.K L (Rep X.K L) (wE W σ) G2 r2 H2 (match P.meth c "__eq__" with
      | some f => if eqOk ne c cs2 y = true then calm ((P.call f [.obj c ks ds, y] cs2).bind fun d cs3 => match d with
        | .bl r => .ok (.bl (r != ne)) cs3
        | _ => .bad) else .bad
      | none => .bad) Q := k2
  cases hm : P.meth c "__eq__" with
  | none => rw [hm] at k2; exact k2.elim
  | some i =>
    rw [hm] at k2
    obtain ⟨f, fd, ps, h1, h2, h3, h4⟩ := hM c "__eq__" i hm
    have rx2 := rx.go g2
    by_cases he : eqOk ne c cs2 y = true
    · have k2 : KO X.K L (Rep X.K L) (wE W σ) G2 r2 H2 (if eqOk ne c cs2 y = true then calm ((P.call i [.obj c ks ds, y] cs2).bind fun d cs3 => match d with
        | .bl r => .ok (.bl (r != ne)) cs3
        | _ => .bad) else .bad) Q := k2
      rw [if_pos he] at k2
      cases rx2 with
      | obj q1 q2 q3 =>
        rename_i a dx vs
        refine ⟨a, _, dx, _, f, fd, ps, _, rfl, s2.same _ _ q1, hC c i hm, h2, h3, h4, ?_, G2, r2, cs2, [.obj c ks ds, y], s2, .cons (.obj q1 q2 q3) (.one ry), ?_⟩
        · rcases eqOk_or he with ⟨ks', ds', rfl⟩ | ⟨e1, n, e3⟩
          · cases ry with
            | obj p1 p2 p3 => exact .inr ⟨hN c i hm, _, _, _, rfl, s2.same _ _ p1⟩
          · exact .inl ⟨e1, n, tyN_mem e3, tyN_ok s2 ry e3⟩
        · cases e1 : P.call i [.obj c ks ds, y] cs2 with
          | bad => rw [e1] at k2; exact k2.elim
          | exc c0 ds0 cs0 => rw [e1] at k2; exact k2.elim
          | ok d cs3 =>
            rw [e1] at k2
            cases d <;> first | exact k2.elim | skip
            rename_i n
            intro v G' r' H' g' s' rv
            cases rv with
            | bl _ => exact ⟨n, rfl, k2 (.bl (n != ne)) G' r' H' g' s' (.bl _)⟩
    · have k2 : KO X.K L (Rep X.K L) (wE W σ) G2 r2 H2 (if eqOk ne c cs2 y = true then calm ((P.call i [.obj c ks ds, y] cs2).bind fun d cs3 => match d with
        | .bl r => .ok (.bl (r != ne)) cs3
        | _ => .bad) else .bad) Q := k2
      rw [if_neg he] at k2; exact k2.elim
theorem sE_eqO {k : Nat} (hM : MthOk X L P k) (hC : ∀ c f, P.meth c "__eq__" = some f → Cls X.K (L.cls c)) (hr : Room (k + 1) X.A) (ha : PE X a (tE X.K L P W ta)) (hb : PE X b (tE X.K L P W tb)) : PE X (.Compare a [.Eq] [b] pos) (tE X.K L P W (.eqO false ta tb)) :=
  PE.imp (pe_cmpR (op_eqO hr) ha hb (by first | exact nobehind _ (by decide) (by decide) | rfl)) fun _ _ _ h => eqO_imp hM hC (fun _ _ _ e => by cases e) h
theorem sE_neO {k : Nat} (hM : MthOk X L P k) (hC : ∀ c f, P.meth c "__eq__" = some f → Cls X.K (L.cls c)) (hN : ∀ c f, P.meth c "__eq__" = some f → NeC X.K (L.cls c)) (hr : Room (k + 1) X.A) (ha : PE X a (tE X.K L P W ta)) (hb : PE X b (tE X.K L P W tb)) : PE X (.Compare a [.NotEq] [b] pos) (tE X.K L P W (.eqO true ta tb)) :=
  PE.imp (pe_cmpR (op_neO hr) ha hb (by first | exact nobehind _ (by decide) (by decide) | rfl)) fun _ _ _ h => eqO_imp hM hC (fun c f e _ => hN c f e) h
theorem eqO_bl {ne : Bool} {env : List SV} {cs c : List C} {x : D} (h : evE P (.eqO ne ta tb) env cs = .ok x c) : ∃ r, x = .bl r := by
  unfold evE at h
  have bnd : ∀ {α β : Type} {o : Out α} {f : α → List C → Out β} {b : β} {c : List C}, o.bind f = .ok b c → ∃ a c0, o = .ok a c0 ∧ f a c0 = .ok b c := fun {α β o f b c} e => by
    cases o with
    | ok a c0 => exact ⟨a, c0, rfl, e⟩
    | exc _ _ _ => cases e
    | bad => cases e
  obtain ⟨d, c1, _, h⟩ := bnd h
  obtain ⟨d2, c2, _, h⟩ := bnd h
  obtain ⟨k, ks, ds, rfl⟩ : ∃ k ks ds, d = .obj k ks ds := by cases d <;> first | exact ⟨_, _, _, rfl⟩ | cases h
  simp only at h
  split at h
  · split at h
    · rename_i f hf he
      cases e : P.call f [.obj k ks ds, d2] c2 with
      | bad => rw [e] at h; cases h
      | exc c0 ds0 cs0 => rw [e] at h; cases h
      | ok d3 c3 =>
        rw [e] at h
        cases d3 <;> first | (cases h; done) | skip
        rename_i b
        have h : XV.calm (Out.ok (D.bl (b != ne)) c3) = .ok x c := h
        cases h
        exact ⟨_, rfl⟩
    · cases h
  · cases h
theorem eqT_imp {k : Nat} {ne : Bool} (hM : MthOk X L P k) (hC : ∀ c f, P.meth c "__eq__" = some f → Cls X.K (L.cls c)) (hN : ∀ c f, P.meth c "__eq__" = some f → ne = true → NeC X.K (L.cls c)) {σ : L2.St} {H : Hp} {Q : Bool → Hp → Prop} (h : tT X.K L P W (.eqO ne ta tb) σ H Q) :
    tTest (tOp (rEqO X k ne) (tE X.K L P W ta) (tE X.K L P W tb)) σ H Q := by
  obtain ⟨G, r, cs, env, s, er, k0⟩ := h
  refine eqO_imp (W := W) (Q := fun v H' => ∃ b, v = .bl b ∧ Q b H') hM hC hN ⟨G, r, cs, env, s, er, ?_⟩
  cases e : evE P (.eqO ne ta tb) env cs with
  | bad => rw [e] at k0; exact k0
  | exc c ds cs1 => rw [e] at k0; exact k0
  | ok x cs1 =>
    rw [e] at k0
    obtain ⟨b, rfl⟩ := eqO_bl e
    intro v G' r' H' g s' rv
    cases rv with
    | bl _ => exact ⟨b, rfl, k0 b G' r' H' g s' rfl⟩
theorem sT_eqO {k : Nat} (hM : MthOk X L P k) (hC : ∀ c f, P.meth c "__eq__" = some f → Cls X.K (L.cls c)) (hr : Room (k + 1) X.A) (ha : PE X a (tE X.K L P W ta)) (hb : PE X b (tE X.K L P W tb)) : PT X (.Compare a [.Eq] [b] pos) (tT X.K L P W (.eqO false ta tb)) :=
  PT.imp (pt_cmpR (op_eqO hr) ha hb (by first | exact nobehind _ (by decide) (by decide) | rfl)) fun _ _ _ h => eqT_imp hM hC (fun _ _ _ e => by cases e) h
theorem sT_neO {k : Nat} (hM : MthOk X L P k) (hC : ∀ c f, P.meth c "__eq__" = some f → Cls X.K (L.cls c)) (hN : ∀ c f, P.meth c "__eq__" = some f → NeC X.K (L.cls c)) (hr : Room (k + 1) X.A) (ha : PE X a (tE X.K L P W ta)) (hb : PE X b (tE X.K L P W tb)) : PT X (.Compare a [.NotEq] [b] pos) (tT X.K L P W (.eqO true ta tb)) :=
  PT.imp (pt_cmpR (op_neO hr) ha hb (by first | exact nobehind _ (by decide) (by decide) | rfl)) fun _ _ _ h => eqT_imp hM hC (fun c f e _ => hN c f e) h
end
end XV
set_option Elab.async false
set_option linter.all false
set_option autoImplicit false
set_option maxRecDepth 100000
namespace XV
open PySem PySem.Spec PyProof.Rows L2
def spIter (K : PySem.W.Frag) (f : Str) (n : Nat) : Sp := fun vs H Q _ => ∃ a C dx fs l ys, vs = [.ref a] ∧ H a = some (.ins C dx fs) ∧ Cls K C ∧ NoAttr K C f ∧ fs.lookup f = some (.ref l) ∧ SqL K H l ys ∧ ∀ it, H it = none → n ≤ it → Q (.ref it) (upd H it (ItO l it 0))
structure FnN (P : Program) (w : World) (K : PySem.W.Frag) (mg : Str → Option Value) (base : Heap) (CX : CXT) (k : Nat) (f : Addr) (fd : FuncData) (ps : List Str) (sp : Nat → Sp) : Prop where
  len : ∀ n vs H Q E, sp n vs H Q E → vs.length = ps.length
  run : ∀ (A : Around) (outer : List Env) (s : Shared) (H : Hp) (args : Args) (us : List Value) (vs : List V) (Q : VK) (E : XK), Room k A → Env0 P w K mg base A outer s H → BindsTo s fd args (ps.zip us) → Vals vs us → sp s.heap.objs.size vs H Q E →
    codeAny (model P w) A (.call (.ref f) args) (CR CX outer P w H s Q E) s
theorem fn_ofN {CX : CXT} {P : Program} {w : World} {K : PySem.W.Frag} {mg : Str → Option Value} {base : Heap} {k : Nat} {f : Addr} {name qual : Str} {params : Arguments} {body : List Stmt} {scope : Scope} {dV kV doc pm cdv ct oc : Value} {an od : Option Addr}
    {osl : Array (Option Value)} {N ps : List Str} {sp : Nat → Sp} (lk : K.lookup f = some ⟨oc, od, .func (PySem.W.fnOf name qual params body scope dV kV doc pm an cdv ct), osl⟩) (hcd : PySem.W.codeIn K cdv qual = true) (S : FnScope N ps scope)
    (len : ∀ n vs H Q E, sp n vs H Q E → vs.length = ps.length)
    (hbody : ∀ (A : Around) (outer : List Env) (s : Shared) (H : Hp) (vs : List V) (Q : VK) (E : XK), Room k (A.deeper (envOfC qual scope s.heap.objs.size f cdv)) → sp s.heap.objs.size vs H Q E →
      ∃ t, PSs (cxOf CX P w K mg base N qual scope f cdv A outer s H E) body t ∧ t { nx := fun _ H' => Q .non H', rt := Q } (L2.start N vs) H) :
    FnN P w K mg base CX (k + 1) f (PySem.W.fnOf name qual params body scope dV kV doc pm an cdv ct) ps sp := by
  refine ⟨len, fun A outer s H args us vs Q E hr e0 hb r hsp => ?_⟩
  have hl := len _ _ _ _ _ hsp
  have KX : K.In s.heap := e0.mod.kin.keeps fun b o e => (e0.bs b o e).1
  have lim : s.heap.NoLimit := e0.mod.nolimit.keeps fun b o e => (e0.bs b o e).1
  have hkind : ∀ y ∈ ps.zip us, scope.names.lookup y.1 = some .local ∨ (scope.names.lookup y.1 = some .cell ∧ ((cellsFrom (s.heap.objs.size + 1) scope.names []).lookup y.1).isSome = true) := fun ⟨n, v⟩ hy => by
    rcases S.par n (List.of_mem_zip hy).1 with q | q
    · exact .inl q
    · exact .inr ⟨q, PySem.W.cellsFrom_some _ _ _ (.inl q)⟩
  refine codeAny_call_function hr.depth (KX _ _ lk) rfl S.co S.gen rfl (PySem.W.codeRec_of KX hcd) (hb _ _ _ _ ?_)
  refine wpAny_newFunctionEnv_cells S.kind hkind fun env he s1 x => ?_
  subst he
  refine ⟨lim.keeps x.toInCall.keep, codeAny_func ?_⟩
  obtain ⟨t, ht, hq⟩ := hbody A outer s H vs Q E (hr.deeper _) hsp
  have I : Inv (cxOf CX P w K mg base N qual scope f cdv A outer s H E) [] (L2.start N vs) H s1 := inv_start S hr.hd e0 hl r x
  refine wpAny_mono (ht.run [] s1 (L2.start N vs) H _ I hq) (fun fl s' hs => ?_) fun e s' hs => hs
  have fin : ∀ {σ' : L2.St} {H' : Hp} {v : V} {u : Value}, Inv (cxOf CX P w K mg base N qual scope f cdv A outer s H E) [] σ' H' s' → RelV v u → Q v H' → CE outer P w H s Q u s' :=
    fun {σ' H' v u} J rv q => ⟨v, H', J.os, J.bare, J.base, J.hok, rv, q⟩
  cases fl with
  | ret u =>
    obtain ⟨v, σ', H', J, rv, q⟩ := hs
    exact fin J rv q
  | next =>
    obtain ⟨σ', H', J, q⟩ := hs
    exact fin (v := V.non) (u := Value.none) J rfl q
  | brk =>
    obtain ⟨_, _, _, q⟩ := hs
    exact False.elim q
  | cont =>
    obtain ⟨_, _, _, q⟩ := hs
    exact False.elim q
section
variable {P : Program} {w : World} {K : PySem.W.Frag} {mg : Str → Option Value} {base : Heap}
theorem iter_ok {x qual n1 f : Str} {st : Stmt} {fI : Addr} {fd : FuncData} {p1 p2 p3 p4 p5 : Pos} (F : Fun K x qual st fI fd) (S : FnScope [n1] [n1] (defScope st)) (hbd : defBody st = [.Return (some (.Call (.Name "iter" p1) [.Attribute (.Name n1 p2) f p3] [] p4)) p5])
    (hgi : (defScope st).names.lookup ("iter" : Str) = some NameKind.globalImplicit) (hm : mg "iter" = none) (v1 : ∀ cdv n, Vis (envOfC qual (defScope st) n fI cdv).scope n1) (d1 : (n1 == ("__debug__" : Str)) = false) (c1 : (n1 == ("__classdict__" : Str)) = false) :
    FnN P w K mg base (L2.CX P w) 1 fI fd [n1] (spIter K f) := by
  obtain ⟨oc, od, kV, doc, pm, an, cdv, ct, osl, rfl, lk, hcd⟩ := F.ex
  refine fn_ofN lk hcd S (fun n vs H Q E ⟨a, C, dx, fs, l, ys, e, _⟩ => by rw [e]; rfl) fun A outer s H vs Q E hr ⟨a, C, dx, fs, l, ys, e, ha, hC, hN, hl, hs, q⟩ => ?_
  rw [hbd]
  refine ⟨_, pss_one (ps_ret (pe_callB ItX.call_iterN hgi hm (by decide +kernel) (pa_cons (pe_fld (pe_var (i := 0) rfl (v1 _ _) d1 c1) (attr_ok rfl)) pa_nil (star_ok rfl)) (by decide) (by decide) (star_ok rfl))), ?_⟩
  subst e
  exact ⟨.ref a, rfl, a, C, dx, fs, _, rfl, ha, hC, hN, hl, l, ys, rfl, hs, fun it hi hn => q it hi hn⟩
end
def iOwn (X : Cx) (f : Str) (te : TE) : TI := fun σ H R => te σ H fun x H1 => ∃ a C dx fs fa fd ps l ys, x = .ref a ∧ H1 a = some (.ins C dx fs) ∧ Cls X.K C ∧ NoAttr X.K C f ∧ Meth X.K C "__iter__" fa ∧
  FnN X.prog X.w X.K X.mg X.base (L2.CX X.prog X.w) 1 fa fd ps (spIter X.K f) ∧ Binds X.K fd ps [] ∧ fs.lookup f = some (.ref l) ∧ SqL X.K H1 l ys ∧ R (Itl X.K l) H1
section
variable {X : Cx} {L : Lay} {P : Cfg} {W : WX} {e tg : Expr} {t : T} {te : TE} {f : Str}
theorem pi_own (hr : Room 1 X.A) (he : PE X e te) : PI X tg e (iOwn X f te) := by
  refine ⟨fun pins s σ H R I h => ?_⟩
  refine thn (he.run pins s σ H _ I h) fun v s1 ⟨x, H1, I1, r1, q1⟩ => ?_
  obtain ⟨a, C, dx, fs, fa, fd, ps, l, ys, ex, ha, hC, hN, hM, F, hb, hl, hs, q⟩ := q1
  subst ex
  cases r1
  obtain ⟨mA, J, _⟩ := ins_get I1.hok ha
  obtain ⟨od, J, _⟩ := J.look
  obtain ⟨m, hF⟩ := I1.fr
  refine PySem.W.owit_iter hF I1.ok.mod.kin J hM.at_ hM.fn ?_
  have hsp : spIter X.K f s1.heap.objs.size [.ref a] H1 (fun v H' => ∃ it, v = .ref it ∧ H1 it = none ∧ s1.heap.objs.size ≤ it ∧ H' = upd H1 it (ItO l it 0)) (fun _ _ _ => False) := ⟨a, C, dx, fs, l, ys, rfl, ha, hC, hN, hl, hs, fun it hi hn => ⟨it, rfl, hi, hn, rfl⟩⟩
  have r2 : Vals [V.ref a] [Value.ref a] := .cons rfl .nil
  have hlen := F.len _ _ _ _ _ hsp
  refine wpAny_call (codeAny_mono (F.run X.A X.stack s1 H1 ⟨[.ref a], []⟩ [.ref a] [.ref a] _ _ hr I1.env0 (by
    have := hb s1 [.ref a] I1.kIn (by simpa using hlen)
    simpa using this) r2 hsp) fun r s' hq => ?_)
  cases r with
  | error e => exact (cxno hq).elim
  | ok fl =>
    cases fl with
    | ret u =>
      obtain ⟨v, H', os, bare, un, hok, rv, it, rfl, hi, hge, rfl⟩ := hq
      obtain ⟨hh, g, d, tk, os'⟩ := s'
      obtain rfl : os' = s1.os := os
      have I3 := I1.call (h' := hh) (g' := g) (d' := d) (t' := tk) (ch := []) un hok bare (fun b z => absurd z (by simp))
      cases (show u = Value.ref it from rv)
      have hit : (upd H1 it (ItO l it 0)) it = some (ItO l it 0) := upd_same
      have hget := itO_get I3 hit
      have I4 : Inv X pins σ H1 { heap := hh, gens := g, drawn := d, toks := tk, os := s1.os } := by
        have := ItX.inv_drop I3 hit
        rw [ItX.dropH_upd hi] at this
        exact this
      have hfp := ItX.inv_fp I3 hit (Nat.le_trans I1.sz hge)
      rw [ItX.dropH_upd hi] at hfp
      have hT : ({ heap := hh, gens := g, drawn := d, toks := tk, os := s1.os } : Shared).TypeIs (.ref it) "list_iterator" := ⟨_, hget, rfl⟩
      refine wpAny_specialOf (name := Str.ofString "__next__") hT slot_listiter_next.lookup ?_
      refine ⟨it, [it], _, Itl X.K l, H1, rfl, I4, turn_list l it, ⟨_, hget, rfl, rfl⟩, fun b hb' => ?_, q⟩
      have e : b = it := by simpa using hb'
      subst e
      exact hfp
    | next => exact False.elim hq
    | brk => exact False.elim hq
    | cont => exact False.elim hq
def ItC (X : Cx) (L : Lay) (c : Nat) (f : Str) : Prop := Cls X.K (L.cls c) ∧ NoAttr X.K (L.cls c) f ∧ ∃ fa fd ps, Meth X.K (L.cls c) "__iter__" fa ∧ FnN X.prog X.w X.K X.mg X.base (L2.CX X.prog X.w) 1 fa fd ps (spIter X.K f) ∧ Binds X.K fd ps []
theorem sI_own {c : Nat} (hC : ItC X L c f) (hr : Room 1 X.A) (he : PE X e (tE X.K L P W t)) : PI X tg e (tI X.K L P W (.own t c f)) := by
  refine PI.imp (pi_own (f := f) hr he) fun σ H R ⟨G, r, cs, env, s, er, k⟩ => ?_
  unfold evI at k
  refine ⟨G, r, cs, env, s, er, k.bind fun x cs1 _ v G1 r1 H1 g1 s1 rx k1 => ?_⟩
  obtain ⟨c', ks, ds, rfl⟩ : ∃ c ks ds, x = .obj c ks ds := by cases x <;> first | exact ⟨_, _, _, rfl⟩ | exact k1.elim
  replace k1 : KO X.K L (fun G r (q : List D × Ws) J => Wk X.K L J G r q.1 q.2) (wE W σ) G1 r1 H1 (if c' = c then (match (ks.zip ds).lookup f with
      | some (D.lst xs) => Out.ok (xs, []) cs1
      | _ => Out.bad) else Out.bad) R := k1
  by_cases hc : c' = c
  · rw [if_pos hc] at k1
    subst hc
    cases hl : (ks.zip ds).lookup f with
    | none => rw [hl] at k1; exact k1.elim
    | some d =>
      rw [hl] at k1
      cases d <;> first | exact k1.elim | skip
      rename_i xs _
      cases rx with
      | obj q1 q2 q3 =>
        rename_i a dx vs
        obtain ⟨hC1, hC2, fa, fd, ps, hM, F, hb⟩ := hC
        obtain ⟨u, e3, h3⟩ := zip_lookup_rep q3 hl
        cases h3 with
        | lst p1 p2 =>
          rename_i b ws
          have hsq : SqL X.K H1 b ws := SqL.of (s1.same _ _ p1)
          exact ⟨a, _, dx, _, fa, fd, ps, b, ws, rfl, s1.same _ _ q1, hC1, hC2, hM, F, hb, e3, hsq, k1 _ _ _ _ (Go.refl _ _ _) s1 (wk_src (S := .li b) (stays_lst p1 p2))⟩
  · rw [if_neg hc] at k1; exact k1.elim
end
end XV
set_option Elab.async false
set_option linter.all false
set_option autoImplicit false
set_option maxRecDepth 100000
namespace XV
open PySem PySem.Spec PyProof.Rows L2
theorem d_dictSetT {X : Cx} {pins : List (Addr × Obj)} {σ : L2.St} {H : Hp} {s : Shared} {E : Value → Shared → Prop} {D b : Addr} {kvs : List (List Key × V)} {k : List Key} {v : V} {r : Value} {Q : Unit → Shared → Prop} (hu : X.A.units + 1 < cLine) (I : Inv X pins σ H s) (hD : H D = some (.dT kvs)) (hz : kvs.length < sizeLine)
    (eb : H b = some (.tup (k.map kV))) (rv : RelV v r) (h : ∀ s', Inv X pins σ (upd H D (.dT (putK kvs k v))) s' → Q () s') : wpAny (model X.prog X.w) X.A (dictSet D (.ref b) r) Q E s := by
  obtain ⟨z, hd, xs, rel, dd⟩ := dt_of I.hok hD
  have hzx : xs.length ≤ sizeLine := by rw [← Paired.length rel]; exact z
  have hl : (putK kvs k v).length ≤ sizeLine := by have := length_putK kvs k v; omega
  refine wpAny_dictSet_heap (hsz := hzx) (by first | exact Nat.lt_of_succ_lt hu | exact hu | (show _ < _; omega)) (key_of I.hok eb) dd fun h' dd' hs => h _ ?_
  obtain ⟨q, es, ep, hq, h2, h3, h4, _, h5⟩ := dd'
  refine d_write I (by rw [hD]; exact True.intro) hs ⟨q, hq⟩ ⟨hl, hd, _, (rel.put k eb rv).keeps fun c ys ec => ?_, q, es, ep, hq, h2, h3, h4, h5⟩
  rw [upd_ne (ne_of ec hD (fun z => nomatch z))]
  exact ec
end XV
set_option Elab.async false
set_option linter.all false
set_option autoImplicit false
set_option maxRecDepth 100000
namespace XV
open PySem PySem.Spec PyProof.Rows L2

structure DKd (κ : Type) [DecidableEq κ] where
  ob : List (κ × V) → HO
  ka : Hp → V → κ → Prop
  emp : ∀ {P : Program} {w : World} (H : Hp) (h : Heap), sysModules < h.objs.size → ObjOk P w H (h.push { cls := .type "dict", data := .dict #[] }) h.objs.size (ob [])
  nt : ∀ (kvs : List (κ × V)) (ps), ob kvs ≠ .tbl ps
  mt : ∀ kvs, Mt3 (some (ob kvs))
  set : ∀ {X : Cx} {pins : List (Addr × Obj)} {σ : L2.St} {H : Hp} {s : Shared} {E : Value → Shared → Prop} {D : Addr} {kvs : List (κ × V)} {k : κ} {v y : V} {u r : Value} {Q : Unit → Shared → Prop}, X.A.units + 1 < cLine → Inv X pins σ H s → H D = some (ob kvs) → kvs.length < sizeLine →
    ka H y k → RelV y u → RelV v r → (∀ s', Inv X pins σ (upd H D (ob (putK kvs k v))) s' → Q () s') → wpAny (model X.prog X.w) X.A (dictSet D u r) Q E s
def dkK : DKd Key where
  ob := .dK
  ka := fun _ y k => y = kV k
  emp := fun _ h hb => dk_empty h hb
  nt := fun _ _ z => by cases z
  mt := fun _ => trivial
  set := fun _ I hD hz hk ry rv h => by
    subst hk
    exact d_dictSet I hD hz ry rv h
def dkT : DKd (List Key) where
  ob := .dT
  ka := fun H y k => ∃ b, y = .ref b ∧ H b = some (.tup (k.map kV))
  emp := fun _ h hb => dt_empty h hb
  nt := fun _ _ z => by cases z
  mt := fun _ => trivial
  set := fun hu I hD hz hk ry rv h => by
    obtain ⟨b, rfl, eb⟩ := hk
    cases ry
    exact d_dictSetT hu I hD hz eb rv h
section
variable {X : Cx} {κ : Type} [DecidableEq κ]
def turnD (dk : DKd κ) (g : TG) (tt : TT) (tk tv : TE) (vs : List Nat) (σ : L2.St) (D : Addr) (Nx : Hp → Prop) (x : V) (H' : Hp) : Prop :=
  g x (wipe σ vs) H' fun σ2 H2 => wipe σ2 vs = wipe σ vs ∧ tt σ2 H2 fun b H3 =>
    if b = true then tk σ2 H3 fun y H4 => tv σ2 H4 fun z H5 => ∃ kvs k, dk.ka H5 y k ∧ H5 D = some (dk.ob kvs) ∧ kvs.length < sizeLine ∧ Nx (upd H5 D (dk.ob (putK kvs k z))) else Nx H3
def tDcG (dk : DKd κ) (wi : TI) (g : TG) (tt : TT) (tk tv : TE) (vs : List Nat) : TE := fun σ H Q => wi σ H fun J H1 => ∀ D, H1 D = none → ∃ W : Nat → Nat → Hp → Prop, (∃ m, W 0 m (upd H1 D (dk.ob []))) ∧ ∀ i m H, W i m H →
  (J.stop i H ∧ Q (.ref D) H) ∨ (J.go i H ∧ ∃ Nx : Hp → Prop, (∀ H', Nx H' → ∃ m', m' < m ∧ W (i + 1) m' H') ∧ ∀ x H', J.yld i H x H' → turnD dk g tt tk tv vs σ D Nx x H')
theorem dcg_core (dk : DKd κ) {pins : List (Addr × Obj)} {s : Shared} {σ : L2.St} {H : Hp} {Q : VK} {kx vx tg iter : Expr} {ifs : List Expr} {scope : Scope} {own : List (Str × Nat)} {pos pos' : Pos} {wi : TI} {g : TG} {tt : TT} {tk tv : TE} {use : Option (Value → Sem Unit)} {Qf : Value → Shared → Prop}
    (hu : X.A.units + 1 < cLine) (hc : X.calm = true) (hN : X.N.Nodup) (I : Inv X pins σ H s) (hi : PI X tg iter wi) (ok : BlkOk X.N X.env.scope scope own)
    (hb : ∀ (s : Shared) (H : Hp) (C : Addr) (cl : List (Str × Addr)) (fp : List Addr), PG (X.blk s H scope (compEnvC scope cl C X.env) fp) tg g ∧ PTs (X.blk s H scope (compEnvC scope cl C X.env) fp) ifs tt ∧ PE (X.blk s H scope (compEnvC scope cl C X.env) fp) kx tk ∧ PE (X.blk s H scope (compEnvC scope cl C X.env) fp) vx tv)
    (hs : ∀ x, foldedSetIterable iter X.env x = pure x) (h : tDcG dk wi g tt tk tv (own.map (·.2)) σ H Q)
    (fin : ∀ D C s' m H', Inv X pins σ H' s' → Q (.ref D) H' → s'.heap.Ns C m → FpOk X pins H' C → compPost (model X.prog X.w) X.A X.xe use Qf (.ref D) C (.ok .next) s') :
    wpAny (model X.prog X.w) X.A (comprehension (.DictComp kx vx [⟨tg, iter, ifs, 0⟩] scope pos) scope X.env pos' newDict false (eval iter X.env) use) Qf X.xe s := by
  have hfree : ∀ y ∈ scope.names, y.2 = .free → ∃ c, X.env.cells.lookup y.1 = some c := fun y hy e => (ok.free y hy e).elim (fun k => I.ok.has _ (.inl k)) fun k => I.ok.has _ (.inr k)
  refine wpAny_comprehension_free (use := use) rfl hs (closure_ok hfree) ok.kind (fun y hy e => by rw [ok.uniq y hy, e])
    (thn (hi.run pins s σ H _ I h) fun _ _ hx => thn hx fun itv s2 ⟨it, fp, tn, J, H2, e, I2, T, st2, f2, q⟩ => ?_)
  subst e
  refine wpAny_newObj_type (newEnv_comp ?_)
  generalize hD : s2.heap.objs.size = D
  obtain ⟨W, ⟨m0, w0⟩, turn⟩ := q D (I2.hok.fresh (Nat.le_of_eq hD))
  generalize hs3 : ({ s2 with heap := s2.heap.push { cls := .type "dict", data := .dict #[] } } : Shared) = s3
  have h3 : s3.heap = s2.heap.push { cls := .type "dict", data := .dict #[] } := by rw [← hs3]
  have I3 : Inv X pins σ (upd H2 D (dk.ob [])) s3 := by
    rw [← hs3]
    refine I2.laid (t' := s2.toks) (fun _ _ e => Heap.get?_push_of_some _ e) (Nat.le_of_eq hD) ?_
    rw [← hD]
    exact dk.emp _ s2.heap I2.big
  have f3 : ∀ b ∈ fp, FpOk X pins (upd H2 D (dk.ob [])) b ∧ b < s3.heap.objs.size := fun b hb => by
    obtain ⟨o, e, _⟩ := T.obj _ _ st2 b hb
    have hlt : b < s2.heap.objs.size := Heap.lt_size e
    refine ⟨⟨?_, (f2 b hb).2⟩, by rw [h3, Heap.size_push]; exact Nat.lt_succ_of_lt hlt⟩
    rw [upd_ne (by rw [← hD]; exact Nat.ne_of_lt hlt)]
    exact (f2 b hb).1
  have st3 : tn 0 s3.heap := T.keep _ _ _ st2 fun b _ o e => by rw [h3]; exact Heap.get?_push_of_some _ e
  have I4 := block_start I3 ok hN f3
  obtain ⟨pg, pt, pk, pe⟩ := hb s3 (upd H2 D (dk.ob [])) s3.heap.objs.size (cellsFrom (s3.heap.objs.size + 1) scope.names (cloFrom X.env.cells scope.names [])) fp
  show codeAny _ _ (.compStart (.DictComp kx vx [⟨tg, iter, ifs, 0⟩] scope pos) 0 (.ref it) (.ref D) (compEnvC scope (cellsFrom (s3.heap.objs.size + 1) scope.names (cloFrom X.env.cells scope.names [])) s3.heap.objs.size X.env)) (compPost (model X.prog X.w) X.A X.xe use Qf (.ref D) s3.heap.objs.size) { s3 with heap := pushCells (s3.heap.push { cls := .type "dict", data := .dict #[] }) scope.names }
  have nfp : ∀ b ∈ fp, (upd H2 D (dk.ob [])) b = none := fun b hb => (f3 b hb).1.1
  generalize hce : compEnvC scope (cellsFrom (s3.heap.objs.size + 1) scope.names (cloFrom X.env.cells scope.names [])) s3.heap.objs.size X.env = ce at I4 pg pt pk pe ⊢
  have cL : ce.locals = s3.heap.objs.size := by subst hce; rfl
  generalize hH3 : upd H2 D (dk.ob []) = H3 at I3 I4 pg pt pk pe w0 nfp f3
  generalize hs4 : ({ s3 with heap := pushCells (s3.heap.push { cls := .type "dict", data := .dict #[] }) scope.names } : Shared) = s4 at I4 ⊢
  have st4 : tn 0 s4.heap := T.keep _ _ _ st3 fun b _ o e => by rw [← hs4]; exact pushCells_keeps _ _ _ _ (Heap.get?_push_of_some _ e)
  have stat : ∀ {σ' : L2.St} {H' : Hp} {s' : Shared}, Inv (X.blk s3 H3 scope ce fp) [] σ' H' s' → (∀ b ∈ fp, H' b = none) → ∀ b ∈ fp, FpOk (X.blk s3 H3 scope ce fp) [] H' b := fun I' hn b hb =>
    ⟨hn b hb, (I'.ok.exf b hb).1, I'.ok.exfs b hb, .inl hb, fun x c e => (I'.ok.exf b hb).2 x c e, fun p hp => absurd (show p ∈ ([] : List (Addr × Obj)) ++ [] from hp) (by simp)⟩
  refine codeAny_compStart_dict ?_ (T.self X.A 0 _ _ _ st4 ?_) <;>
  · refine compLoop_anyD (fun n s' => ∃ i H', Inv (X.blk s3 H3 scope ce fp) [] (wipe σ (own.map (·.2))) H' s' ∧ tn i s'.heap ∧ (∀ b ∈ fp, H' b = none) ∧ W i n H') ?_ m0 ⟨0, H3, I4, st4, nfp, w0⟩
    rintro n s5 ⟨i, H5, I5, st5, n5, w5⟩
    rcases turn i n H5 w5 with ⟨stop, qq⟩ | ⟨go, Nx, hNx, step⟩
    · refine thnF (T.done (X.blk s3 H3 scope ce fp) rfl rfl rfl hc i [] s5 _ H5 (fun _ _ => False) I5 (stat I5 n5) st5 stop) fun r s6 ⟨hr, I6⟩ => ?_
      subst hr
      have I7 : Inv X pins σ H5 s6 := I3.call' (ch := fp) I6.os I6.base I6.hok I6.bare fun b hb => ⟨(f3 b hb).1.2.2.2.1, (f3 b hb).1.2.1, (f3 b hb).1.2.2.2.2.1, (f3 b hb).1.2.2.2.2.2⟩
      have nC : H5 s3.heap.objs.size = none := by
        have z : H5 ce.locals = none := I6.free
        rw [cL] at z
        exact z
      obtain ⟨m, hn, _⟩ := I6.loc
      have hn : s6.heap.Ns ce.locals m := hn
      rw [cL] at hn
      exact fin D s3.heap.objs.size s6 m H5 I7 qq hn (I3.fpOk (Nat.le_refl _) nC)
    · refine thnF (T.item (X.blk s3 H3 scope ce fp) rfl rfl rfl hc i [] s5 _ H5 (fun _ _ => False) I5 (stat I5 n5) st5 go) fun r s6 ⟨u, hr, h6⟩ => ?_
      subst hr
      refine thnF h6 fun _ s7 ⟨x, H7, I7, r7, y7, st7, n7⟩ => ?_
      refine thnF (pg.run _ s7 _ H7 x u _ (I7.pinned (stat I7 n7) (T.obj _ _ st7)) r7 (step x H7 y7)) fun _ s8 ⟨σ8, H8, I8, hw8, q8⟩ => ?_
      refine thnF (pt.run _ s8 σ8 H8 _ I8 q8) fun b s9 ⟨H9, I9, q9⟩ => ?_
      have back : ∀ {s' : Shared} {H' : Hp}, Inv (X.blk s3 H3 scope ce fp) ([] ++ pinsAt fp s7.heap) σ8 H' s' → Nx H' → ∃ m, m < n ∧ ∃ i H', Inv (X.blk s3 H3 scope ce fp) [] (wipe σ (own.map (·.2))) H' s' ∧ tn i s'.heap ∧ (∀ b ∈ fp, H' b = none) ∧ W i m H' := fun {s' H'} I' nx => by
        obtain ⟨m', hm, w'⟩ := hNx H' nx
        have pin' : ∀ b ∈ fp, ∀ o, s7.heap.get? b = some o → s'.heap.get? b = some o ∧ H' b = none := fun b hb o e =>
          let z := I'.pin (b, o) (List.mem_append_right _ (List.mem_append_right _ (mem_pinsAt hb e)))
          ⟨z.1, z.2.1⟩
        have hl : (wipe σ (own.map (·.2))).length = σ8.length := by rw [← hw8, wipe_length]
        refine ⟨m', hm, i + 1, H', (I'.unpinned (pins := [])).weak hl (fun j v e => ?_), T.keep _ _ _ st7 fun b hb o e => (pin' b hb o e).1, fun b hb => ?_, w'⟩
        · rw [← hw8] at e
          exact (wipe_some e).1
        · obtain ⟨o, e, _⟩ := T.obj _ _ st7 b hb
          exact (pin' b hb o e).2
      cases b with
      | false =>
        simp only [Bool.false_eq_true, if_false] at q9 ⊢
        exact back I9 q9
      | true =>
        simp only [if_true] at q9 ⊢
        refine thnF (pk.run _ s9 σ8 H9 _ I9 q9) fun z s10 ⟨yk, H10, I10, r10, q10⟩ => ?_
        refine thnF (pe.run _ s10 σ8 H10 _ I10 q10) fun z2 s11 ⟨yv, H11, I11, r11, kvs, k, ek, hD11, hz11, nx⟩ => ?_
        exact dk.set (X := X.blk s3 H3 scope ce fp) hu I11 hD11 hz11 ek r10 r11 fun s12 I12 => back I12 nx
section
variable {kx vx tg iter : Expr} {ifs : List Expr} {scope : Scope} {own : List (Str × Nat)} {pos : Pos} {wi : TI} {g : TG} {tt : TT} {tk tv : TE}
theorem pe_dcg (dk : DKd κ) (hu : X.A.units + 1 < cLine) (hc : X.calm = true) (hN : X.N.Nodup) (hi : PI X tg iter wi) (ok : BlkOk X.N X.env.scope scope own)
    (hb : ∀ (s : Shared) (H : Hp) (C : Addr) (cl : List (Str × Addr)) (fp : List Addr), PG (X.blk s H scope (compEnvC scope cl C X.env) fp) tg g ∧ PTs (X.blk s H scope (compEnvC scope cl C X.env) fp) ifs tt ∧ PE (X.blk s H scope (compEnvC scope cl C X.env) fp) kx tk ∧ PE (X.blk s H scope (compEnvC scope cl C X.env) fp) vx tv)
    (hs : ∀ x, foldedSetIterable iter X.env x = pure x) : PE X (.DictComp kx vx [⟨tg, iter, ifs, 0⟩] scope pos) (tDcG dk wi g tt tk tv (own.map (·.2))) := by
  refine ⟨fun pins s σ H Q I h => ?_⟩
  rw [arm_eval_DictComp]
  refine dcg_core dk hu hc hN I hi ok hb hs h fun D C s' m H' I' q hn f => ⟨m, hn, fun h'' sb => ?_⟩
  exact ⟨.ref D, H', I'.turned (t' := s'.toks) (fun b o hb e => (sb.2 b hb).trans e) f.1 f.2.1 f.2.2.2.1 f.2.2.2.2.1 f.2.2.2.2.2, rfl, q⟩
theorem ps_setDcg (dk : DKd κ) {i : Nat} {y : Str} {py spos : Pos} (hu : X.A.units + 1 < cLine) (hc : X.calm = true) (hN : X.N.Nodup) (hy : X.N[i]? = some y) (hyl : X.env.scope.names.lookup y = some .local)
    (hsw : swapsWith (.DictComp kx vx [⟨tg, iter, ifs, 0⟩] scope pos) (some (.Name y py)) spos.line X.env = pure true) (hi : PI X tg iter wi) (ok : BlkOk X.N X.env.scope scope own)
    (hb : ∀ (s : Shared) (H : Hp) (C : Addr) (cl : List (Str × Addr)) (fp : List Addr), PG (X.blk s H scope (compEnvC scope cl C X.env) fp) tg g ∧ PTs (X.blk s H scope (compEnvC scope cl C X.env) fp) ifs tt ∧ PE (X.blk s H scope (compEnvC scope cl C X.env) fp) kx tk ∧ PE (X.blk s H scope (compEnvC scope cl C X.env) fp) vx tv)
    (hs : ∀ x, foldedSetIterable iter X.env x = pure x) : PS X (.Assign [.Name y py] (.DictComp kx vx [⟨tg, iter, ifs, 0⟩] scope pos) spos) (tAsg (tDcG dk wi g tt tk tv (own.map (·.2))) (gName i)) := by
  refine ⟨fun pins s σ H D I h => ?_⟩
  rw [exec_Assign_Name_used _ _ _ _ hsw]
  refine wpAny_bind (wpAny_standAt (wpAny_bind ?_))
  show wpAny _ X.A (do let _ ← comprehension (.DictComp kx vx [⟨tg, iter, ifs, 0⟩] scope pos) scope X.env (firstIterPos [⟨tg, iter, ifs, 0⟩] pos) newDict false (eval iter X.env) (some (assign (.Name y py) X.env))) _ _ s
  replace h : tDcG dk wi g tt tk tv (own.map (·.2)) σ H (fun x H1 => gName i x σ H1 D.nx) := h
  refine wpAny_bind (thn (dcg_core (Qf := fun _ s' => SP X pins D .next s') dk hu hc hN I hi ok hb hs h fun L C s' m H' I' q hn f => ?_) fun _ s' hq => wpAny_pure (wpAny_pure hq))
  show wpAny _ _ (assign (.Name y py) X.env (.ref L)) _ _ _
  refine wpAny_assign_Name (store_ok2 (v := V.ref L) I' hN hy (.inl hyl) rfl (fun s2 I2 ⟨a, sb, ha⟩ => ?_) (.inr hyl))
  have haC : C ≠ a := by
    rcases ha with z | z
    · rw [z]; exact f.2.1
    · exact fun e => f.2.2.2.2.1 y a z e.symm
  exact ⟨m, hn.sameBut sb haC, fun h3 sb3 => ⟨_, H', I2.turned (t' := s2.toks) (fun b o hb e => (sb3.2 b hb).trans e) f.1 f.2.1 f.2.2.2.1 f.2.2.2.2.1 f.2.2.2.2.2, q⟩⟩
end
end
end XV
set_option Elab.async false
set_option linter.all false
set_option autoImplicit false
set_option maxRecDepth 100000
namespace XV
open PySem PySem.Spec PyProof.Rows L2

section
variable {κ : Type} [DecidableEq κ]
theorem hasK_iff : ∀ {ks : List κ} {k : κ}, hasK ks k = true ↔ k ∈ ks
  | [], k => by simp [hasK]
  | k' :: ks, k => by
    unfold hasK
    rw [Bool.or_eq_true, hasK_iff, List.mem_cons, decide_eq_true_eq]
    exact ⟨fun h => h.imp Eq.symm id, fun h => h.imp Eq.symm id⟩
theorem putK_ne {p : κ × V} {r : List (κ × V)} {k : κ} {v : V} (h : ¬ p.1 = k) : putK (p :: r) k v = p :: putK r k v := by
  unfold putK
  rw [List.any_cons, decide_eq_false h, Bool.false_or]
  split
  · rw [List.map_cons, if_neg h]
  · rfl
theorem putK_eq {p : κ × V} {r : List (κ × V)} {v : V} (h : p.1 ∉ r.map (·.1)) : putK (p :: r) p.1 v = (p.1, v) :: r := by
  unfold putK
  rw [List.any_cons, decide_eq_true rfl, Bool.true_or, if_pos rfl, List.map_cons, if_pos rfl]
  congr 1
  refine (List.map_congr_left fun q hq => ?_).trans (List.map_id r)
  rw [if_neg fun e => h (List.mem_map.mpr ⟨q, hq, e⟩)]
  rfl
theorem setKd_cons {α : Type} {k' k : κ} {ks : List κ} {w v : α} {vs : List α} : setKd (k' :: ks) (w :: vs) k v = if k' = k then v :: vs else w :: setKd ks vs k v := rfl
theorem setKd_len {α : Type} : ∀ {ks : List κ} {vs : List α} {k : κ} {v : α}, ks.length = vs.length → (setKd ks vs k v).length = vs.length
  | [], [], _, _, _ => rfl
  | [], _ :: _, _, _, h => by cases h
  | _ :: _, [], _, _, h => by cases h
  | k' :: ks, w :: vs, k, v, h => by
    rw [setKd_cons]
    split
    · rfl
    · rw [List.length_cons, setKd_len (by simpa using h), List.length_cons]
theorem putK_has : ∀ {ks : List κ} {vs : List V} {k : κ} {v : V}, ks.length = vs.length → ks.Nodup → hasK ks k = true → putK (ks.zip vs) k v = ks.zip (setKd ks vs k v)
  | [], _, _, _, _, _, h => by cases h
  | _ :: _, [], _, _, h, _, _ => by cases h
  | k' :: ks, w :: vs, k, v, l, n, h => by
    obtain ⟨n1, n2⟩ := List.nodup_cons.mp n
    show putK ((k', w) :: ks.zip vs) k v = _
    by_cases e : k' = k
    · subst e
      rw [putK_eq (p := (k', w)) (fun m => n1 (by
        obtain ⟨q, hq, e⟩ := List.mem_map.mp m
        have e : q.1 = k' := e
        exact e ▸ (List.of_mem_zip hq).1))]
      rw [setKd_cons, if_pos rfl]
      rfl
    · rw [putK_ne (p := (k', w)) e, putK_has (by simpa using l) n2 (by
        unfold hasK at h
        rwa [decide_eq_false e, Bool.false_or] at h)]
      rw [setKd_cons, if_neg e]
      rfl
theorem putK_hasnt {ks : List κ} {vs : List V} {k : κ} {v : V} (l : ks.length = vs.length) (h : hasK ks k = false) : putK (ks.zip vs) k v = (ks ++ [k]).zip (vs ++ [v]) := by
  unfold putK
  rw [if_neg, List.zip_append l]
  · rfl
  · rw [List.any_eq_true]
    rintro ⟨q, hq, e⟩
    have e := of_decide_eq_true e
    have := hasK_iff.mpr (e ▸ (List.of_mem_zip hq).1)
    rw [h] at this
    cases this
theorem setKd_reps {K : PySem.W.Frag} {L : Lay} {G : Hp} {r : List Addr} {k : κ} {d : D} {v : V} (hv : Rep K L G r d v) : ∀ {ks : List κ} {ds : List D} {vs : List V}, ks.length = ds.length → Reps K L G r ds vs → Reps K L G r (setKd ks ds k d) (setKd ks vs k v)
  | [], [], _, _, .nil => .nil
  | [], _ :: _, _, h, _ => by cases h
  | _ :: _, [], _, h, _ => by cases h
  | k' :: ks, x :: ds, _, l, .cons h q => by
    rw [setKd_cons, setKd_cons]
    split
    · exact .cons hv q
    · exact .cons h (setKd_reps hv (by simpa using l) q)
def putV (ks : List κ) (vs : List V) (k : κ) (v : V) : List V := if hasK ks k then setKd ks vs k v else vs ++ [v]
theorem putD_ok {K : PySem.W.Frag} {L : Lay} {G : Hp} {r : List Addr} {ks : List κ} {ds : List D} {vs : List V} {k : κ} {d : D} {v : V} (l : ks.length = ds.length) (n : ks.Nodup) (h : Reps K L G r ds vs) (hv : Rep K L G r d v) :
    putK (ks.zip vs) k v = (putD ks ds k d).1.zip (putV ks vs k v) ∧ Reps K L G r (putD ks ds k d).2 (putV ks vs k v) ∧ (putD ks ds k d).1.length = (putD ks ds k d).2.length ∧ (putD ks ds k d).1.Nodup := by
  unfold putD putV
  by_cases c : hasK ks k = true
  · rw [if_pos c, if_pos c]
    exact ⟨putK_has (l.trans h.length) n c, setKd_reps hv l h, by rw [setKd_len l]; exact l, n⟩
  · rw [if_neg c, if_neg c]
    have c := Bool.eq_false_iff.mpr c
    refine ⟨putK_hasnt (l.trans h.length) c, h.append (.one hv), by simp [l], List.nodup_append.mpr ⟨n, by simp, fun a ha b hb e => ?_⟩⟩
    have hb : b = k := by simpa using hb
    subst hb e
    rw [hasK_iff.mpr ha] at c
    cases c
end

structure CDi {κ : Type} [DecidableEq κ] (dk : DKd κ) (K : PySem.W.Frag) (L : Lay) (D0 : Addr) (G1 : Hp) (r1 : List Addr) (H1 : Hp) (G : Hp) (r : List Addr) (cs : List C) (ks : List κ) (acc : List D) (vs : List V) (H : Hp) : Prop where
  go : Go G1 r1 H1 G r H
  sep : Sep K L G r cs H
  out : H D0 = some (dk.ob (ks.zip vs))
  frz : G D0 = none
  notin : D0 ∉ r
  len : ks.length = acc.length
  nod : ks.Nodup
  reps : Reps K L G r acc vs
section
variable {κ : Type} [DecidableEq κ] {dk : DKd κ} {K : PySem.W.Frag} {L : Lay} {D0 : Addr} {G1 : Hp} {r1 : List Addr} {H1 : Hp} {G G' : Hp} {r r' : List Addr} {cs cs' : List C} {ks : List κ} {acc : List D} {vs : List V} {H H' : Hp}
theorem CDi.step (c : CDi dk K L D0 G1 r1 H1 G r cs ks acc vs H) (g : Go G r H G' r' H') (s : Sep K L G' r' cs' H') : CDi dk K L D0 G1 r1 H1 G' r' cs' ks acc vs H' := by
  have hn : ¬ Fr H D0 := nFr c.out (dk.nt _)
  refine ⟨c.go.trans g, s, g.keep _ _ c.out c.notin (dk.nt _), (g.gf _ hn).trans c.frz, ?_, c.len, c.nod, c.reps.go g⟩
  obtain ⟨t, e, ht⟩ := g.rr
  subst e
  exact fun hm => (List.mem_append.mp hm).elim c.notin fun z => hn (ht _ z)
theorem CDi.put (c : CDi dk K L D0 G1 r1 H1 G r cs ks acc vs H) (hD : H1 D0 = none) {k : κ} {y : D} {v : V} (q : Rep K L G r y v) :
    CDi dk K L D0 G1 r1 H1 G r cs (putD ks acc k y).1 (putD ks acc k y).2 (putV ks vs k v) (upd H D0 (dk.ob (putK (ks.zip vs) k v))) := by
  obtain ⟨p1, p2, p3, p4⟩ := putD_ok (k := k) c.len c.nod c.reps q
  refine ⟨⟨c.go.g, c.go.gf, c.go.rr, fun b o h hr ht => ?_, fun b h => ?_⟩, ⟨fun b o h => ?_, c.sep.nod, c.sep.len, fun i _ e => ?_, Mt3.tabs c.sep.tabs (by rw [c.out]; exact dk.mt _), c.sep.gt, c.sep.lat⟩, by rw [← p1]; exact upd_same, c.frz, c.notin, p3, p4, p2⟩
  · rw [upd_ne (ne_of_none h hD)]; exact c.go.keep b o h hr ht
  · by_cases e : b = D0
    · subst e; exact absurd (.of hD) h
    · rw [Fr.upd e]; exact c.go.dom b h
  · rw [upd_ne (ne_of_none h c.frz)]; exact c.sep.same b o h
  · obtain ⟨a, h1, h2, h3⟩ := c.sep.cell i _ e
    have ne : a ≠ D0 := fun z => c.notin (z ▸ List.mem_of_getElem? h1)
    have := CellR.mono (t := []) (Same.refl G) (H' := upd H D0 (dk.ob (putK (ks.zip vs) k v))) (by rw [upd_ne ne]) h3
    exact ⟨a, h1, h2, by simpa using this⟩
theorem CDi.fin (c : CDi dk K L D0 G1 r1 H1 G r cs ks acc vs H) (hD : H1 D0 = none) : Go G1 r1 H1 (upd G D0 (dk.ob (ks.zip vs))) r H ∧ Sep K L (upd G D0 (dk.ob (ks.zip vs))) r cs H ∧ Reps K L (upd G D0 (dk.ob (ks.zip vs))) r acc vs := by
  have sm : Same G (upd G D0 (dk.ob (ks.zip vs))) := fun b o h => by rw [upd_ne (ne_of_none h c.frz)]; exact h
  refine ⟨⟨c.go.g.trans sm, fun b h => ?_, c.go.rr, c.go.keep, c.go.dom⟩, ⟨fun b o h => ?_, c.sep.nod, c.sep.len, fun i k e => ?_, c.sep.tabs, fun b ps z => ?_, c.sep.lat.more sm ⟨[], by simp⟩⟩, ?_⟩
  · have : b ≠ D0 := fun z => h (z ▸ .of hD)
    rw [upd_ne this]; exact c.go.gf b h
  · by_cases e : b = D0
    · subst e; rw [upd_same] at h; cases h; exact c.out
    · rw [upd_ne e] at h; exact c.sep.same b o h
  · obtain ⟨a, h1, h2, h3⟩ := c.sep.cell i k e
    have ne : a ≠ D0 := fun z => c.notin (z ▸ List.mem_of_getElem? h1)
    have := CellR.mono (t := []) sm (H' := H) rfl h3
    exact ⟨a, h1, by rw [upd_ne ne]; exact h2, by simpa using this⟩
  · by_cases e : b = D0
    · subst e; rw [upd_same] at z; exact dk.nt _ _ (Option.some.inj z)
    · rw [upd_ne e] at z; exact c.sep.gt b ps z
  · have := Reps.mono (t := []) sm c.reps
    simpa using this
end

def dcF {κ : Type} (P : Cfg) (cond : Cd) (ke : List SV → List C → Out κ) (e : T) : List SV → List C → Out (Option (κ × D)) := fun env' cs' => match cond with
  | .no => (ke env' cs').bind fun k cs2 => (evE P e env' cs2).bind fun z cs3 => .ok (some (k, z)) cs3
  | .one c => (evE P c env' cs').bind fun x cs2 => (ofO (truD cs2 x) cs2).bind fun kk cs2 => if kk then (ke env' cs2).bind fun k cs2 => (evE P e env' cs2).bind fun z cs3 => .ok (some (k, z)) cs3
    else .ok none cs2
def keyE (P : Cfg) (kx : T) : List SV → List C → Out Key := fun env cs => (evE P kx env cs).bind fun y cs2 => ofO (keyD y) cs2
def keyT (P : Cfg) (kx : Ts) : List SV → List C → Out (List Key) := fun env cs => (evTs P kx env cs).bind fun y cs2 => ofO (keysL y) cs2
def KeyOk {κ : Type} [DecidableEq κ] (dk : DKd κ) (K : PySem.W.Frag) (L : Lay) (ke : List SV → List C → Out κ) (tk : TE) : Prop :=
  ∀ (σ : L2.St) (H : Hp) (Q : VK) (G : Hp) (r : List Addr) (cs : List C) (env : List SV) (f : κ → List C → Out D) (Q0 : VK), Sep K L G r cs H → EnvR K L G r H env σ → KO K L (Rep K L) (wE W0 σ) G r H ((ke env cs).bind f) Q0 →
    (∀ k cs3 G3 r3 H3 y, ke env cs = .ok k cs3 → Go G r H G3 r3 H3 → Sep K L G3 r3 cs3 H3 → (∀ G4 r4 H4, Go G3 r3 H3 G4 r4 H4 → dk.ka H4 y k) → KO K L (Rep K L) (wE W0 σ) G3 r3 H3 (f k cs3) Q0 → Q y H3) → tk σ H Q
section
variable {L : Lay} {P : Cfg} {W : WX} {K : PySem.W.Frag}
theorem keyE_ok {kx : T} : KeyOk dkK K L (keyE P kx) (tE K L P W0 kx) := fun σ H Q G r cs env f Q0 s er h q => by
  refine ⟨G, r, cs, env, s, er, ?_⟩
  unfold keyE at h q
  cases e : evE P kx env cs with
  | bad => rw [e] at h; exact h
  | exc c ds cs' => rw [e] at h; exact h
  | ok x cs1 =>
    rw [e] at h q
    simp only [Out.bind_ok] at h q
    cases ek : keyD x with
    | none => rw [ek] at h; exact h.elim
    | some k =>
      rw [ek] at q h
      intro v G' r' H' g' s' rv
      exact q k cs1 G' r' H' v rfl g' s' (fun _ _ _ _ => keyD_ok rv ek) (KO.go h g')
theorem keyT_ok {kx : Ts} : KeyOk dkT K L (keyT P kx) (tTup (tTs K L P W0 kx)) := fun σ H Q G r cs env f Q0 s er h q => by
  refine ⟨G, r, cs, env, s, er, ?_⟩
  unfold keyT at h q
  cases e : evTs P kx env cs with
  | bad => rw [e] at h; exact h
  | exc c ds cs' => rw [e] at h; exact h
  | ok xs cs1 =>
    rw [e] at h q
    simp only [Out.bind_ok] at h q
    cases ek : keysL xs with
    | none => rw [ek] at h; exact h.elim
    | some k =>
      rw [ek] at q h
      unfold keysL at ek
      split at ek
      · rename_i hl
        intro vs G' r' H' g' s' rv
        have hv := keysD_ok rv ek
        refine ⟨by rw [← rv.length]; exact LIM_le hl, fun p hp => ?_⟩
        have pr : p ∉ r' := fun hm => (s'.mem hm).2 (.of hp)
        have gg := g'.trans (Go.new s' (.tup vs) hp)
        refine q k cs1 _ r' _ (.ref p) rfl gg (s'.new (.tup vs) hp) (fun G4 r4 H4 g4 => ⟨p, rfl, ?_⟩) (KO.go h gg)
        rw [← hv]
        exact g4.keep p _ upd_same pr (fun _ z => by cases z)
      · cases ek
end
section
variable {X : Cx} {L : Lay} {P : Cfg} {W : WX} {pos : Pos} {κ : Type} [DecidableEq κ]
theorem wipe_in : ∀ (τ : L2.St) (ws us : List Nat), (∀ u ∈ us, u ∈ ws) → wipe (wipe τ ws) us = wipe τ ws := by
  have key : ∀ (τ : L2.St) (ws : List Nat) (u : Nat), u ∈ ws → (wipe τ ws).set u none = wipe τ ws := by
    intro τ ws u
    induction ws with
    | nil => intro hm; cases hm
    | cons w ws ih2 =>
      intro hm
      unfold wipe
      by_cases e : w = u
      · subst e; rw [List.set_set]
      · rcases List.mem_cons.mp hm with z | z
        · exact absurd z.symm e
        · rw [List.set_comm _ _ e, ih2 z]
  intro τ ws us
  induction us with
  | nil => intro _; rfl
  | cons u us ih =>
    intro hu
    show (wipe (wipe τ ws) us).set u none = wipe τ ws
    rw [ih fun u' hu' => hu u' (List.mem_cons_of_mem _ hu')]
    exact key τ ws u (hu u List.mem_cons_self)
theorem dc_imp (dk : DKd κ) {ke : List SV → List C → Out κ} {tk : TE} (hk : KeyOk dk X.K L ke tk) {mk : List κ → List D → D} (hm : ∀ {G : Hp} {r : List Addr} {a : Addr} {ks : List κ} {vs : List V} {ds : List D}, G a = some (dk.ob (ks.zip vs)) → ks.length = ds.length → ks.Nodup → Reps X.K L G r ds vs → Rep X.K L G r (mk ks ds) (.ref a))
    {vs0 : List Nat} {tg : Tg} {it : I} {cond : Cd} {e : T} (hin : tg.ins vs0 = true) (σ : L2.St) (H : Hp) (Q : VK) {G : Hp} {r : List Addr} {cs : List C} {env : List SV} (s : Sep X.K L G r cs H) (er : EnvR X.K L G r H env σ)
    (k : KO X.K L (Rep X.K L) (wE W σ) G r H (calm ((evI P it env cs).bind fun q cs1 => (dcW q.2 (dcF P cond ke e) tg (wipeE env vs0) q.1 cs1 [] []).bind fun p cs2 => .ok (mk p.1 p.2) cs2)) Q) :
    tDcG dk (tI X.K L P W it) (gOf X.K tg) (tCd X.K L P cond) tk (tE X.K L P W0 e) vs0 σ H Q := by
  rw [calm_bind] at k
  have k := KO.bind (R1 := fun G r (q : List D × Ws) J => Wk X.K L J G r q.1 q.2) (o := calm (evI P it env cs)) (Q1 := fun (J : It) H1 => ∀ D, H1 D = none → ∃ W' : Nat → Nat → Hp → Prop, (∃ m, W' 0 m (upd H1 D (dk.ob []))) ∧ ∀ i m H, W' i m H →
      (J.stop i H ∧ Q (.ref D) H) ∨ (J.go i H ∧ ∃ Nx : Hp → Prop, (∀ H', Nx H' → ∃ m', m' < m ∧ W' (i + 1) m' H') ∧ ∀ x H', J.yld i H x H' → turnD dk (gOf X.K tg) (tCd X.K L P cond) tk (tE X.K L P W0 e) vs0 σ D Nx x H')) k (fun q cs1 hds J G1 r1 H1 g1 s1 wk k1 D0 hD => ?_)
  · exact ⟨G, r, cs, env, s, er, k.calm⟩
  have w1 : okWs q.2 cs1 = true := evI_ok (P := P) (it := it) (env := env) (cs := cs) (by
    cases he : evI P it env cs <;> rw [he] at hds <;> first | (cases hds; done) | exact hds)
  obtain ⟨ds, ws⟩ := q
  simp only at wk w1 k1
  replace k1 : KO X.K L (Rep X.K L) (wE W0 σ) G1 r1 H1 ((dcW ws (dcF P cond ke e) tg (wipeE env vs0) ds cs1 [] []).bind fun p cs2 => .ok (mk p.1 p.2) cs2) Q := KO.calm k1
  have er1 := er.go g1
  refine ⟨fun i m H => m = ds.length - i ∧ i ≤ ds.length ∧ ∃ G2 r2 cs2 ks acc vs, CDi dk X.K L D0 G1 r1 H1 G2 r2 cs2 ks acc vs H ∧ okWs ws cs2 = true ∧ KO X.K L (Rep X.K L) (wE W0 σ) G1 r1 H1 ((dcW ws (dcF P cond ke e) tg (wipeE env vs0) (ds.drop i) cs2 ks acc).bind fun p cs2 => .ok (mk p.1 p.2) cs2) Q,
    ⟨ds.length, by simp, Nat.zero_le _, G1, r1, cs1, [], [], [], ?_, w1, by simpa using k1⟩, ?_⟩
  · refine ⟨⟨Same.refl G1, fun _ _ => rfl, ⟨[], by simp, by simp⟩, fun b o h _ _ => by rw [upd_ne (ne_of_none h hD)]; exact h, fun b h => ?_⟩, ⟨fun b o h => ?_, s1.nod, s1.len, fun i k e => ?_, Mt3.tabs s1.tabs (by rw [hD]; trivial), s1.gt, s1.lat⟩, upd_same, Same.free s1.same hD, fun hm => (s1.mem hm).2 (.of hD), rfl, List.nodup_nil, .nil⟩
    · have : b ≠ D0 := fun z => h (z ▸ .of hD)
      rw [Fr.upd this]; exact h
    · rw [upd_ne (ne_of_none h (Same.free s1.same hD))]; exact s1.same b o h
    · obtain ⟨a, h1, h2, h3⟩ := s1.cell i k e
      have ne : a ≠ D0 := fun z => h3.some (z ▸ .of hD)
      have := CellR.mono (t := []) (Same.refl G1) (H' := upd H1 D0 (dk.ob [])) (by rw [upd_ne ne]) h3
      exact ⟨a, h1, h2, by simpa using this⟩
  · rintro i m Hc ⟨rfl, hi, G2, r2, cs2, ks, acc, vs, ci, w2, kc⟩
    by_cases hlt : i < ds.length
    · obtain ⟨t, er2, ht⟩ := ci.go.rr
      subst er2
      refine .inr ⟨wk.go i Hc G2 t cs2 hlt ci.go.g ci.sep w2, fun H' => ∃ G3 r3 cs3 ks' acc' vs', CDi dk X.K L D0 G1 r1 H1 G3 r3 cs3 ks' acc' vs' H' ∧ okWs ws cs3 = true ∧ KO X.K L (Rep X.K L) (wE W0 σ) G1 r1 H1 ((dcW ws (dcF P cond ke e) tg (wipeE env vs0) (ds.drop (i + 1)) cs3 ks' acc').bind fun p cs2 => .ok (mk p.1 p.2) cs2) Q,
        fun H' ⟨G3, r3, cs3, ks', acc', vs', c3, w3, k3⟩ => ⟨ds.length - (i + 1), by omega, rfl, hlt, G3, r3, cs3, ks', acc', vs', c3, w3, k3⟩, fun x H' y => ?_⟩
      obtain ⟨d, hd⟩ : ∃ d, ds[i]? = some d := ⟨ds[i], List.getElem?_eq_getElem hlt⟩
      have hdrop : ds.drop i = d :: ds.drop (i + 1) := by
        rw [List.drop_eq_getElem_cons hlt]
        rw [List.getElem?_eq_getElem hlt] at hd
        cases hd
        rfl
      rw [hdrop] at kc
      obtain ⟨G3, g3, s3, rx⟩ := wk.yld i d G2 t cs2 Hc x H' hd ci.go.g ci.sep w2 y
      have c3 := ci.step g3 s3
      unfold dcW at kc
      cases ha : asgT tg d (wipeE env vs0) with
      | none => rw [ha] at kc; exact kc.elim
      | some env' =>
        rw [ha] at kc
        refine asgT_ok s3 (((er1.go c3.go).wipe vs0)) rx ha fun σ2 er3 hw _ => ⟨?_, ?_⟩
        · rw [hw vs0 hin]
          exact wipe_in σ vs0 vs0 fun _ h => h
        · have body : ∀ {cs3 : List C} {G4 : Hp} {r4 : List Addr} {H4 : Hp}, CDi dk X.K L D0 G1 r1 H1 G4 r4 cs3 ks acc vs H4 → EnvR X.K L G4 r4 H4 env' σ2 →
              KO X.K L (Rep X.K L) (wE W0 σ) G1 r1 H1 (((ke env' cs3).bind fun k cs2 => (evE P e env' cs2).bind fun z cs3 => Out.ok (some (k, z)) cs3).bind fun r cs' => (if okWs ws cs' = true then (match r with
                | some p => if ks.length < LIM then dcW ws (dcF P cond ke e) tg (wipeE env vs0) (ds.drop (i + 1)) cs' (putD ks acc p.1 p.2).1 (putD ks acc p.1 p.2).2 else .bad
                | none => dcW ws (dcF P cond ke e) tg (wipeE env vs0) (ds.drop (i + 1)) cs' ks acc) else .bad).bind fun p cs2 => .ok (mk p.1 p.2) cs2) Q →
              tk σ2 H4 fun y H5 => tE X.K L P W0 e σ2 H5 fun z H6 => ∃ kvs k, dk.ka H6 y k ∧ H6 D0 = some (dk.ob kvs) ∧ kvs.length < sizeLine ∧ ∃ G3 r3 cs3 ks1 acc1 vs1, CDi dk X.K L D0 G1 r1 H1 G3 r3 cs3 ks1 acc1 vs1 (upd H6 D0 (dk.ob (putK kvs k z))) ∧ okWs ws cs3 = true ∧
                KO X.K L (Rep X.K L) (wE W0 σ) G1 r1 H1 ((dcW ws (dcF P cond ke e) tg (wipeE env vs0) (ds.drop (i + 1)) cs3 ks1 acc1).bind fun p cs2 => .ok (mk p.1 p.2) cs2) Q := by
            intro cs3 G4 r4 H4 c4 er4 k4
            rw [Out.bind_assoc] at k4
            refine hk σ2 H4 _ G4 r4 cs3 env' _ Q c4.sep er4 (KO.go k4 c4.go) fun kk cs5 G5 r5 H5 y5 ek g5 s5 hka k5 => ?_
            rw [Out.bind_assoc] at k5
            refine ⟨G5, r5, cs5, env', s5, er4.go g5, KO.bind k5 fun z cs6 he v G6 r6 H6 g6 s6 rz _ => ?_⟩
            rw [ek] at k4
            simp only [Out.bind_ok] at k4
            rw [he] at k4
            have c6 := (c4.step g5 s5).step g6 s6
            by_cases hw : okWs ws cs6 = true
            · by_cases hl : ks.length < LIM
              · simp only [Out.bind_ok, if_pos hl, if_pos hw] at k4
                refine ⟨ks.zip vs, kk, hka _ _ _ g6, c6.out, ?_, G6, r6, cs6, _, _, _, c6.put hD rz, hw, k4⟩
                rw [List.length_zip]
                exact Nat.lt_of_le_of_lt (Nat.min_le_left _ _) (Nat.lt_of_lt_of_le hl (by decide))
              · simp only [Out.bind_ok, if_neg hl, if_pos hw] at k4
                exact k4.elim
            · simp only [Out.bind_ok, if_neg hw] at k4
              exact k4.elim
          cases cond with
          | no =>
            rw [Out.bind_assoc] at kc
            exact body c3 er3 kc
          | one c =>
            show tT X.K L P W0 c σ2 H' _
            refine ⟨G3, _, cs2, env', s3, er3, ?_⟩
            rw [Out.bind_assoc] at kc
            unfold dcF at kc
            simp only at kc
            cases ec : evE P c env' cs2 with
            | bad => rw [ec] at kc; exact kc.elim
            | exc c0 ds0 cs0 => rw [ec] at kc; exact KO.go (o := .exc c0 ds0 cs0) (R := Rep X.K L) (Q := Q) kc c3.go
            | ok x0 cs4 =>
              rw [ec] at kc
              simp only [Out.bind_ok] at kc ⊢
              cases et : truD cs4 x0 with
              | none => rw [et] at kc; exact kc.elim
              | some kk =>
                rw [et] at kc
                simp only [ofO_some, Out.bind_ok] at kc ⊢
                intro b G4 r4 H4 g4 s4 eb
                cases eb
                have c4 := c3.step g4 s4
                cases kk with
                | false =>
                  by_cases hw : okWs ws cs4 = true
                  · simp only [Bool.false_eq_true, if_false, Out.bind_ok, if_pos hw] at kc
                    exact ⟨G4, r4, cs4, ks, acc, vs, c4, hw, kc⟩
                  · simp only [Bool.false_eq_true, if_false, Out.bind_ok, if_neg hw] at kc
                    exact kc.elim
                | true => exact body c4 (er3.go g4) kc
    · have e : i = ds.length := by omega
      subst e
      obtain ⟨t, er2, ht⟩ := ci.go.rr
      subst er2
      refine .inl ⟨wk.stop Hc G2 t cs2 ci.go.g ci.sep w2, ?_⟩
      have kc : KO X.K L (Rep X.K L) (wE W0 σ) G1 r1 H1 (.ok (mk ks acc) cs2) Q := by simpa [dcW] using kc
      obtain ⟨f1, f2, f3⟩ := ci.fin hD
      exact kc _ _ _ _ f1 f2 (hm upd_same ci.len ci.nod f3)
theorem dc_ev {own : List Nat} {tg : Tg} {it : I} {cond : Cd} {kx e : T} {env : List SV} {cs : List C} : evE P (.dc own tg it cond kx e) env cs = calm ((evI P it env cs).bind fun q cs1 => (dcW q.2 (dcF P cond (keyE P kx) e) tg (wipeE env own) q.1 cs1 [] []).bind fun p cs2 => .ok (.dct p.1 p.2) cs2) := by
  unfold evE
  rfl
theorem dcT_ev {own : List Nat} {tg : Tg} {it : I} {cond : Cd} {kx : Ts} {e : T} {env : List SV} {cs : List C} : evE P (.dcT own tg it cond kx e) env cs = calm ((evI P it env cs).bind fun q cs1 => (dcW q.2 (dcF P cond (keyT P kx) e) tg (wipeE env own) q.1 cs1 [] []).bind fun p cs2 => .ok (.dctT p.1 p.2) cs2) := by
  unfold evE
  rfl
theorem dcK_imp {vs0 : List Nat} {tg : Tg} {it : I} {cond : Cd} {kx e : T} (hin : tg.ins vs0 = true) (σ : L2.St) (H : Hp) (Q : VK) (h : tE X.K L P W (.dc vs0 tg it cond kx e) σ H Q) :
    tDcG dkK (tI X.K L P W it) (gOf X.K tg) (tCd X.K L P cond) (tE X.K L P W0 kx) (tE X.K L P W0 e) vs0 σ H Q := by
  obtain ⟨G, r, cs, env, s, er, k⟩ := h
  rw [dc_ev] at k
  exact dc_imp dkK keyE_ok (fun h l n q => .dct h l n q) hin σ H Q s er k
theorem dcT_imp {vs0 : List Nat} {tg : Tg} {it : I} {cond : Cd} {kx : Ts} {e : T} (hin : tg.ins vs0 = true) (σ : L2.St) (H : Hp) (Q : VK) (h : tE X.K L P W (.dcT vs0 tg it cond kx e) σ H Q) :
    tDcG dkT (tI X.K L P W it) (gOf X.K tg) (tCd X.K L P cond) (tTup (tTs X.K L P W0 kx)) (tE X.K L P W0 e) vs0 σ H Q := by
  obtain ⟨G, r, cs, env, s, er, k⟩ := h
  rw [dcT_ev] at k
  exact dc_imp dkT keyT_ok (fun h l n q => .dctT h l n q) hin σ H Q s er k
theorem sE_sum {a : Expr} {ta : T} {p : Pos} (hc : X.calm = true) (hg : Gl X "sum") (hm : X.mg "sum" = none) (ha : PE X a (tE X.K L P W ta)) (hst : isStar a = false) :
    PE X (.Call (.Name "sum" p) [a] [] pos) (tE X.K L P W (.sum ta)) := by
  refine PE.imp (pe_callB (cr_sum hc) hg hm (by decide +kernel) (pa_cons ha pa_nil (star_ok hst)) (by decide) (by decide) (star_ok hst)) fun σ H Q ⟨G, r, cs, env, s, er, k⟩ => ?_
  unfold evE at k
  refine ⟨G, r, cs, env, s, er, k.bind fun x cs1 hx v G1 r1 H1 g1 s1 rv k1 => ?_⟩
  obtain ⟨d, e1, k2⟩ := k1.some_of
  unfold sumD at e1
  split at e1
  · rename_i ds t
    cases q : D.ints ds with
    | none => rw [q] at e1; cases e1
    | some l =>
      rw [q] at e1
      cases e1
      obtain ⟨a, ws, rfl, h1, h2⟩ := top_lst s1 rv t
      have hw := ints_vals h2 q
      subst hw
      exact ⟨a, l, rfl, SqL.of h1, k2.ok0 s1 (.int _)⟩
  · cases e1
end
end XV
set_option Elab.async false
set_option linter.all false
set_option autoImplicit false
set_option maxRecDepth 100000
namespace XV
open PySem PySem.Spec PyProof.Rows L2

def turnOf (e : Expr) (d : Nat) (t i : Expr) (ifs : List Expr) (it acc : Value) (env : Env) (body : Sem Fin → Sem Fin) : Sem Fin := do
  standAt i.pos
  match ← pyNext it with
  | none => pure (.done .next)
  | some v =>
    letOwnedTupleGo t it v
    assign t env v
    let mut ok := true
    for c in ifs do
      if ok then ok ← isTrue c env (eval c env)
    if ok then body (again (.compLoop e d it acc env)) else again (.compLoop e d it acc env)
def startOf (e : Expr) (d : Nat) (i : Expr) (acc : Value) (env : Env) (k : Sem Fin) : Sem Fin := do
  let x ← eval i env
  standAt i.pos
  let x ← foldedSetIterable i env x
  let _ ← runOwn (.compStart e d (← holding [x] (pyIter x)) acc env) env
  k
structure Cmp (e : Expr) : Prop where
  uL : ∀ (A : Around) (d : Nat) (it acc : Value) (env : Env), A.under (.compLoop e d it acc env) = A
  dL : ∀ (P : Program) (w : World) (d : Nat) (it acc : Value) (env : Env), (model P w).den (.compLoop e d it acc env) = (compTurn e d it acc env).onRaise (fun x => do noteFrame x env; theTreesLotGoes x)
  uS : ∀ (A : Around) (d : Nat) (it acc : Value) (env : Env), A.under (.compStart e d it acc env) = A
  dS : ∀ (P : Program) (w : World) (d : Nat) (it acc : Value) (env : Env), (model P w).den (.compStart e d it acc env) = (compStart e d it acc env).onRaise (fun x => do noteFrame x env; standAt theWindowsPlace)
  qL : ∀ (d : Nat) (it acc : Value) (env : Env), (Code.compLoop e d it acc env).quiet = true
theorem cmp_dict {kx vx : Expr} {gens : List Comprehension} {scope : Scope} {pos : Pos} : Cmp (.DictComp kx vx gens scope pos) := ⟨fun _ _ _ _ _ => rfl, fun _ _ _ _ _ _ => rfl, fun _ _ _ _ _ => rfl, fun _ _ _ _ _ _ => rfl, fun _ _ _ _ => rfl⟩
theorem cmp_list {elt : Expr} {gens : List Comprehension} {scope : Scope} {pos : Pos} : Cmp (.ListComp elt gens scope pos) := ⟨fun _ _ _ _ _ => rfl, fun _ _ _ _ _ _ => rfl, fun _ _ _ _ _ => rfl, fun _ _ _ _ _ _ => rfl, fun _ _ _ _ => rfl⟩
theorem cmp_set {elt : Expr} {gens : List Comprehension} {scope : Scope} {pos : Pos} : Cmp (.SetComp elt gens scope pos) := ⟨fun _ _ _ _ _ => rfl, fun _ _ _ _ _ _ => rfl, fun _ _ _ _ _ => rfl, fun _ _ _ _ _ _ => rfl, fun _ _ _ _ => rfl⟩
section
variable {prog : Program} {w : World} {A : Around} {R : Result → Shared → Prop} {s : Shared} {e t i : Expr} {ifs : List Expr} {d : Nat} {it acc : Value} {env : Env} {body : Sem Fin → Sem Fin}
theorem loop_gen (hturn : compTurn e d it acc env = turnOf e d t i ifs it acc env body) (C : Cmp e) (I : Nat → Shared → Prop)
    (turn : ∀ n s, I n s → wpAny (model prog w) A (pyNext it) (fun r s₁ => match r with
      | none => R (.ok .next) s₁
      | some v => wpAny (model prog w) A (letOwnedTupleGo t it v) (fun _ s₁' => wpAny (model prog w) A (assign t env v) (fun _ s₂ =>
          wpAny (model prog w) A (forIn ifs true fun c r => if r = true then do let ok ← isTrue c env (eval c env); pure (ForInStep.yield ok) else pure (ForInStep.yield r)) (fun ok s₃ =>
            if ok = true then ∀ (k : Sem Fin) (Q : Fin → Shared → Prop) (E : Value → Shared → Prop), (∀ s₄, (∃ m, m < n ∧ I m s₄) → wpAny (model prog w) A k Q E s₄) → wpAny (model prog w) A (body k) Q E s₃
            else ∃ m, m < n ∧ I m s₃) (notedBy (model prog w) A env fun e s' => R (.error e) s') s₂) (notedBy (model prog w) A env fun e s' => R (.error e) s') s₁') (notedBy (model prog w) A env fun e s' => R (.error e) s') s₁) (notedBy (model prog w) A env fun e s' => R (.error e) s') s)
    (n : Nat) (h : I n s) : codeAny (model prog w) A (.compLoop e d it acc env) R s := by
  refine codeAny_loop (C.qL _ _ _ _) I (fun n s hI => ?_) n h
  rw [C.uL, C.dL]
  refine wpAny_noted ?_
  rw [hturn]
  refine wpAny_bind (wpAny_standAt (wpAny_bind (wpAny_mono (turn n s hI) (fun r s₁ h₁ => ?_) fun _ _ h' => h')))
  cases r with
  | none => exact wpAny_pure h₁
  | some v =>
    refine wpAny_bind (wpAny_mono h₁ (fun _ s₁' h₁' => ?_) fun _ _ h' => h')
    refine wpAny_bind (wpAny_mono h₁' (fun _ s₂ h₂ => wpAny_bind (wpAny_mono h₂ (fun ok s₃ h₃ => ?_) fun _ _ h' => h')) fun _ _ h' => h')
    cases ok with
    | false => exact wpAny_pure ⟨rfl, h₃⟩
    | true => exact h₃ _ _ _ fun s₄ h₄ => wpAny_pure ⟨rfl, h₄⟩
theorem start_gen (hc : ((clausesOf e)[d]?).elim false (·.is_async != 0) = false) (C : Cmp e) (h0 : codeAny (model prog w) A (.compLoop e d it acc env) R s)
    (h : wpAny (model prog w) A (pyIter it) (fun it' s' => codeAny (model prog w) A (.compLoop e d it' acc env) R s') (notedBy (model prog w) A env fun x s' => R (.error x) s') s) :
    codeAny (model prog w) A (.compStart e d it acc env) R s := by
  refine codeAny_of_tree ?_
  rw [C.uS, C.dS]
  refine wpAny_notedAt ?_
  unfold compStart
  rw [hc]
  simp only [Bool.false_eq_true, if_false]
  show wpAny _ A (ask >>= _) _ _ s
  refine wpAny_bind (wpAny_askSetting (wpAny_ite ?_))
  split
  · first
      | exact wpAny_bind (wpAny_pure (wpAny_pure (And.intro (C.qL _ _ _ _) h0)))
      | exact wpAny_pure (And.intro (C.qL _ _ _ _) h0)
  · have fin : wpAny (model prog w) A (do again (.compLoop e d (← pyIter it) acc env)) (fun fin s' =>
        match fin with
        | Fin.done f => R (Except.ok f) s'
        | Fin.again c' => c'.quiet = true ∧ codeAny (model prog w) A c' R s') (notedBy (model prog w) A env fun x s' => R (.error x) s') s :=
      wpAny_bind (wpAny_mono h (fun it' s' h' => wpAny_pure (And.intro (C.qL _ _ _ _) h')) fun _ _ x => x)
    cases hg : (clausesOf e)[d]? with
    | none =>
      refine wpAny_bind (wpAny_rule ?_)
      exact fin
    | some g =>
      refine wpAny_bind (wpAny_rule ?_)
      exact wpAny_bind (wpAny_standAt fin)
structure PB (X : Cx) (vs : List Nat) (body : Sem Fin → Sem Fin) (tb : L2.St → Hp → (Hp → Prop) → Prop) : Prop where
  run : ∀ (pins : List (Addr × Obj)) (s : Shared) (σ : L2.St) (H : Hp) (N : Hp → Prop) (k : Sem Fin) (Q : Fin → Shared → Prop) (E : Value → Shared → Prop), Inv X pins σ H s → tb σ H N →
    (∀ s' σ' H', Inv X pins σ' H' s' → wipe σ' vs = wipe σ vs → N H' → wpAny (model X.prog X.w) X.A k Q E s') → wpAny (model X.prog X.w) X.A (body k) Q E s
def tCl (wi : TI) (g : TG) (tt : TT) (vs : List Nat) (tb : L2.St → Hp → (Hp → Prop) → Prop) : L2.St → Hp → (Hp → Prop) → Prop := fun σ H N => wi σ H fun J H1 => ∃ W : Nat → Nat → Hp → Prop, (∃ m, W 0 m H1) ∧ ∀ i m H, W i m H →
  (J.stop i H ∧ N H) ∨ (J.go i H ∧ ∃ Nx : Hp → Prop, (∀ H', Nx H' → ∃ m', m' < m ∧ W (i + 1) m' H') ∧ ∀ x H', J.yld i H x H' → g x (wipe σ vs) H' fun σ2 H2 => wipe σ2 vs = wipe σ vs ∧ tt σ2 H2 fun b H3 => if b = true then tb σ2 H3 Nx else Nx H3)
theorem wipe_at {σ : L2.St} {i : Nat} : ∀ {vs : List Nat}, i ∈ vs → (wipe σ vs)[i]? = if i < σ.length then some none else none
  | [], h => by cases h
  | v :: vs, h => by
    show ((wipe σ vs).set v none)[i]? = _
    by_cases e : v = i
    · subst e
      rw [List.getElem?_set_self']
      by_cases hl : v < σ.length
      · rw [if_pos hl]
        obtain ⟨y, hy⟩ : ∃ y, (wipe σ vs)[v]? = some y := ⟨_, List.getElem?_eq_getElem (by rw [wipe_length]; exact hl)⟩
        rw [hy]; rfl
      · rw [if_neg hl, List.getElem?_eq_none (by rw [wipe_length]; omega)]; rfl
    · rw [List.getElem?_set_ne e]
      exact wipe_at ((List.mem_cons.mp h).resolve_left fun z => e z.symm)
theorem wipe_sup {σ τ : L2.St} {us vs : List Nat} (hv : ∀ i ∈ us, i ∈ vs) (h : wipe σ us = wipe τ us) : wipe σ vs = wipe τ vs := by
  have hl : σ.length = τ.length := by have := congrArg List.length h; rwa [wipe_length, wipe_length] at this
  refine List.ext_getElem? fun i => ?_
  by_cases hi : i ∈ vs
  · rw [wipe_at hi, wipe_at hi, hl]
  · rw [wipe_out hi, wipe_out hi, ← wipe_out (vs := us) fun z => hi (hv i z), h, wipe_out fun z => hi (hv i z)]
end
section
variable {X : Cx} {s0 : Shared} {H0 : Hp} {scope : Scope} {ce : Env} {fp0 : List Addr} {e tg iter : Expr} {ifs : List Expr} {d : Nat} {acc : Value} {body : Sem Fin → Sem Fin} {wi : TI} {g : TG} {tt : TT} {us vs : List Nat} {tb : L2.St → Hp → (Hp → Prop) → Prop}
theorem pb_clause (C : Cmp e) (hc : X.calm = true) (hcl : ((clausesOf e)[d]?).elim false (·.is_async != 0) = false) (hturn : ∀ it, compTurn e d it acc ce = turnOf e d tg iter ifs it acc ce body)
    (hi : PI (X.blk s0 H0 scope ce fp0) tg iter wi) (hg : PG (X.blk s0 H0 scope ce fp0) tg g) (ht : PTs (X.blk s0 H0 scope ce fp0) ifs tt) (hb : PB (X.blk s0 H0 scope ce fp0) us body tb) (hu : ∀ i ∈ us, i ∈ vs) (hs : ∀ x, foldedSetIterable iter ce x = pure x) :
    PB (X.blk s0 H0 scope ce fp0) vs (startOf e d iter acc ce) (tCl wi g tt vs tb) := by
  refine ⟨fun pins s σ H N kk Q E I h fin => ?_⟩
  unfold startOf
  refine wpAny_bind (thnF (hi.run pins s σ H _ I h) fun xv s1 hx => ?_)
  refine wpAny_bind (wpAny_standAt (wpAny_bind (wpAny_of_eq (hs xv) (wpAny_bind (wpAny_holding (thnF hx fun itv s2 h2 => ?_))))))
  obtain ⟨it1, fp1, tn1, J1, H11, e1, I11, T1, st11, f11, W1, ⟨m1, w1⟩, turn1⟩ := h2
  subst e1
  refine wpAny_bind (wpAny_runOwn ?_)
  rw [Around.mark_none]
  have stat1 : ∀ {H' : Hp}, (∀ b ∈ fp1, H' b = none) → ∀ b ∈ fp1, FpOk (X.blk s0 H0 scope ce fp0) pins H' b := fun hn b hb => ⟨hn b hb, (f11 b hb).2⟩
  have loop1 : codeAny (model X.prog X.w) X.A (.compLoop e d (.ref it1) acc ce) (fun r s' => match r with
      | .ok _ => ∃ σ' H', Inv (X.blk s0 H0 scope ce fp0) pins σ' H' s' ∧ wipe σ' vs = wipe σ vs ∧ N H'
      | .error _ => False) s2 := by
    refine loop_gen (hturn _) C (fun k s' => ∃ j H', Inv (X.blk s0 H0 scope ce fp0) pins (wipe σ vs) H' s' ∧ tn1 j s'.heap ∧ (∀ b ∈ fp1, H' b = none) ∧ W1 j k H') ?_ m1 ⟨0, H11, I11.weak (wipe_length _ _) (fun j v e => (wipe_some e).1), st11, fun b hb => (f11 b hb).1, w1⟩
    rintro k s12 ⟨j, H12, I12, st12, n12, w12⟩
    rcases turn1 j k H12 w12 with ⟨stop1, nx1⟩ | ⟨go1, Nx1, hNx1, step1⟩
    · refine thnF (T1.done (X.blk s0 H0 scope ce fp0) rfl rfl rfl hc j _ s12 (wipe σ vs) H12 (fun _ _ => False) I12 (stat1 n12) st12 stop1) fun r s13 ⟨hr, I13⟩ => ?_
      subst hr
      exact ⟨_, H12, I13, wipe_in σ vs vs (fun _ h => h), nx1⟩
    · refine thnF (T1.item (X.blk s0 H0 scope ce fp0) rfl rfl rfl hc j _ s12 (wipe σ vs) H12 (fun _ _ => False) I12 (stat1 n12) st12 go1) fun r s13 ⟨u1, hr, h13⟩ => ?_
      subst hr
      refine thnF h13 fun _ s14 ⟨x1, H14, I14, r14, y14, st14, n14⟩ => ?_
      have I14' := I14.pinned (stat1 n14) (T1.obj _ _ st14)
      refine thnF (hg.run _ s14 (wipe σ vs) H14 x1 u1 _ I14' r14 (step1 x1 H14 y14)) fun _ s15 ⟨σ15, H15, I15, hw15, q15⟩ => ?_
      refine thnF (ht.run _ s15 σ15 H15 _ I15 q15) fun b1 s16 ⟨H16, I16, q16⟩ => ?_
      have fin1 : ∀ {σ9 : L2.St} {s' : Shared} {H' : Hp}, Inv (X.blk s0 H0 scope ce fp0) (pins ++ pinsAt fp1 s14.heap) σ9 H' s' → wipe σ9 vs = wipe σ15 vs → Nx1 H' → ∃ m, m < k ∧ ∃ j H', Inv (X.blk s0 H0 scope ce fp0) pins (wipe σ vs) H' s' ∧ tn1 j s'.heap ∧ (∀ b ∈ fp1, H' b = none) ∧ W1 j m H' := fun {σ9 s' H'} I' hw nx => by
        obtain ⟨m', hm, w'⟩ := hNx1 H' nx
        have pin' : ∀ b ∈ fp1, ∀ o, s14.heap.get? b = some o → s'.heap.get? b = some o ∧ H' b = none := fun b hb o e =>
          let z := I'.pin (b, o) (List.mem_append_right _ (List.mem_append_right _ (mem_pinsAt hb e)))
          ⟨z.1, z.2.1⟩
        have hw := hw.trans hw15
        refine ⟨m', hm, j + 1, H', I'.unpinned.weak (by rw [← hw, wipe_length]) (fun j v e => by rw [← hw] at e; exact (wipe_some e).1), T1.keep _ _ _ st14 fun b hb o e => (pin' b hb o e).1, fun b hb => ?_, w'⟩
        obtain ⟨o, e, _⟩ := T1.obj _ _ st14 b hb
        exact (pin' b hb o e).2
      cases b1 with
      | false =>
        simp only [Bool.false_eq_true, if_false] at q16 ⊢
        exact fin1 I16 rfl q16
      | true =>
        simp only [if_true] at q16 ⊢
        exact fun k2 Q2 E2 h2 => hb.run _ s16 σ15 H16 _ k2 Q2 E2 I16 q16 fun s17 σ17 H17 I17 hw17 nx => h2 s17 (fin1 I17 (wipe_sup hu hw17) nx)
  refine codeAny_mono (start_gen hcl C loop1 (T1.self X.A 0 _ _ _ st11 loop1)) fun r s' hr => ?_
  cases r with
  | ok f =>
    obtain ⟨σ', H', I', hw', n'⟩ := hr
    exact fin s' σ' H' I' hw' n'
  | error e => exact hr.elim
def emitD (kx vx : Expr) (D : Addr) (env : Env) (k : Sem Fin) : Sem Fin := (do
  let kv ← eval kx env
  let vv ← holding [kv] (eval vx env)
  standAt { kx.pos with endLine := vx.pos.endLine, endCol := vx.pos.endCol }
  holding [kv, vv] (dictSet D kv vv)) >>= fun _ => k
section
variable {κ : Type} [DecidableEq κ] {kx vx : Expr} {tk tv : TE} {D : Addr}
def tEmD (dk : DKd κ) (tk tv : TE) (D : Addr) : L2.St → Hp → (Hp → Prop) → Prop := fun σ H N => tk σ H fun y H4 => tv σ H4 fun z H5 => ∃ kvs k, dk.ka H5 y k ∧ H5 D = some (dk.ob kvs) ∧ kvs.length < sizeLine ∧ N (upd H5 D (dk.ob (putK kvs k z)))
theorem pb_emitD (dk : DKd κ) (hu : X.A.units + 1 < cLine) (hk : PE (X.blk s0 H0 scope ce fp0) kx tk) (hv : PE (X.blk s0 H0 scope ce fp0) vx tv) : PB (X.blk s0 H0 scope ce fp0) [] (emitD kx vx D ce) (tEmD dk tk tv D) := by
  refine ⟨fun pins s σ H N kk Q E I h fin => ?_⟩
  unfold emitD
  refine wpAny_bind (wpAny_bind (thnF (hk.run _ s σ H _ I h) fun z s10 ⟨yk, H10, I10, r10, q10⟩ => ?_))
  refine wpAny_bind (wpAny_holding (thnF (hv.run _ s10 σ H10 _ I10 q10) fun z2 s11 ⟨yv, H11, I11, r11, kvs, k, ek, hD11, hz11, nx⟩ => ?_))
  refine wpAny_bind (wpAny_standAt (wpAny_holding ?_))
  exact dk.set (X := X.blk s0 H0 scope ce fp0) hu I11 hD11 hz11 ek r10 r11 fun s12 I12 => fin s12 σ _ I12 rfl nx
end
end
section
variable {X : Cx} {κ : Type} [DecidableEq κ]
def tDcN (dk : DKd κ) (wi : TI) (g : TG) (tt : TT) (tb : Addr → L2.St → Hp → (Hp → Prop) → Prop) (vs : List Nat) : TE := fun σ H Q => wi σ H fun J H1 => ∀ D, H1 D = none → ∃ W : Nat → Nat → Hp → Prop, (∃ m, W 0 m (upd H1 D (dk.ob []))) ∧ ∀ i m H, W i m H →
  (J.stop i H ∧ Q (.ref D) H) ∨ (J.go i H ∧ ∃ Nx : Hp → Prop, (∀ H', Nx H' → ∃ m', m' < m ∧ W (i + 1) m' H') ∧ ∀ x H', J.yld i H x H' → g x (wipe σ vs) H' fun σ2 H2 => wipe σ2 vs = wipe σ vs ∧ tt σ2 H2 fun b H3 => if b = true then tb D σ2 H3 Nx else Nx H3)
theorem dcN_core (dk : DKd κ) {pins : List (Addr × Obj)} {s : Shared} {σ : L2.St} {H : Hp} {Q : VK} {kx vx tg iter : Expr} {ifs : List Expr} {rest : List Comprehension} {us : List Nat} {body : Addr → Env → Sem Fin → Sem Fin} {tb : Addr → L2.St → Hp → (Hp → Prop) → Prop} {scope : Scope} {own : List (Str × Nat)} {pos pos' : Pos} {wi : TI} {g : TG} {tt : TT} {use : Option (Value → Sem Unit)} {Qf : Value → Shared → Prop}
    (hc : X.calm = true) (hN : X.N.Nodup) (I : Inv X pins σ H s) (hi : PI X tg iter wi) (ok : BlkOk X.N X.env.scope scope own)
    (hb : ∀ (s : Shared) (H : Hp) (C : Addr) (cl : List (Str × Addr)) (fp : List Addr), PG (X.blk s H scope (compEnvC scope cl C X.env) fp) tg g ∧ PTs (X.blk s H scope (compEnvC scope cl C X.env) fp) ifs tt ∧ ∀ D, PB (X.blk s H scope (compEnvC scope cl C X.env) fp) us (body D (compEnvC scope cl C X.env)) (tb D))
    (hus : ∀ i ∈ us, i ∈ own.map (·.2)) (hturn : ∀ it D ce, compTurn (.DictComp kx vx (⟨tg, iter, ifs, 0⟩ :: rest) scope pos) 0 it (.ref D) ce = turnOf (.DictComp kx vx (⟨tg, iter, ifs, 0⟩ :: rest) scope pos) 0 tg iter ifs it (.ref D) ce (body D ce))
    (hs : ∀ x, foldedSetIterable iter X.env x = pure x) (h : tDcN dk wi g tt tb (own.map (·.2)) σ H Q)
    (fin : ∀ D C s' m H', Inv X pins σ H' s' → Q (.ref D) H' → s'.heap.Ns C m → FpOk X pins H' C → compPost (model X.prog X.w) X.A X.xe use Qf (.ref D) C (.ok .next) s') :
    wpAny (model X.prog X.w) X.A (comprehension (.DictComp kx vx (⟨tg, iter, ifs, 0⟩ :: rest) scope pos) scope X.env pos' newDict false (eval iter X.env) use) Qf X.xe s := by
  have hfree : ∀ y ∈ scope.names, y.2 = .free → ∃ c, X.env.cells.lookup y.1 = some c := fun y hy e => (ok.free y hy e).elim (fun k => I.ok.has _ (.inl k)) fun k => I.ok.has _ (.inr k)
  refine wpAny_comprehension_free (use := use) rfl hs (closure_ok hfree) ok.kind (fun y hy e => by rw [ok.uniq y hy, e])
    (thn (hi.run pins s σ H _ I h) fun _ _ hx => thn hx fun itv s2 ⟨it, fp, tn, J, H2, e, I2, T, st2, f2, q⟩ => ?_)
  subst e
  refine wpAny_newObj_type (newEnv_comp ?_)
  generalize hD : s2.heap.objs.size = D
  obtain ⟨W, ⟨m0, w0⟩, turn⟩ := q D (I2.hok.fresh (Nat.le_of_eq hD))
  generalize hs3 : ({ s2 with heap := s2.heap.push { cls := .type "dict", data := .dict #[] } } : Shared) = s3
  have h3 : s3.heap = s2.heap.push { cls := .type "dict", data := .dict #[] } := by rw [← hs3]
  have I3 : Inv X pins σ (upd H2 D (dk.ob [])) s3 := by
    rw [← hs3]
    refine I2.laid (t' := s2.toks) (fun _ _ e => Heap.get?_push_of_some _ e) (Nat.le_of_eq hD) ?_
    rw [← hD]
    exact dk.emp _ s2.heap I2.big
  have f3 : ∀ b ∈ fp, FpOk X pins (upd H2 D (dk.ob [])) b ∧ b < s3.heap.objs.size := fun b hb => by
    obtain ⟨o, e, _⟩ := T.obj _ _ st2 b hb
    have hlt : b < s2.heap.objs.size := Heap.lt_size e
    refine ⟨⟨?_, (f2 b hb).2⟩, by rw [h3, Heap.size_push]; exact Nat.lt_succ_of_lt hlt⟩
    rw [upd_ne (by rw [← hD]; exact Nat.ne_of_lt hlt)]
    exact (f2 b hb).1
  have st3 : tn 0 s3.heap := T.keep _ _ _ st2 fun b _ o e => by rw [h3]; exact Heap.get?_push_of_some _ e
  have I4 := block_start I3 ok hN f3
  obtain ⟨pg, pt, pb⟩ := hb s3 (upd H2 D (dk.ob [])) s3.heap.objs.size (cellsFrom (s3.heap.objs.size + 1) scope.names (cloFrom X.env.cells scope.names [])) fp
  show codeAny _ _ (.compStart (.DictComp kx vx (⟨tg, iter, ifs, 0⟩ :: rest) scope pos) 0 (.ref it) (.ref D) (compEnvC scope (cellsFrom (s3.heap.objs.size + 1) scope.names (cloFrom X.env.cells scope.names [])) s3.heap.objs.size X.env)) (compPost (model X.prog X.w) X.A X.xe use Qf (.ref D) s3.heap.objs.size) { s3 with heap := pushCells (s3.heap.push { cls := .type "dict", data := .dict #[] }) scope.names }
  have nfp : ∀ b ∈ fp, (upd H2 D (dk.ob [])) b = none := fun b hb => (f3 b hb).1.1
  generalize hce : compEnvC scope (cellsFrom (s3.heap.objs.size + 1) scope.names (cloFrom X.env.cells scope.names [])) s3.heap.objs.size X.env = ce at I4 pg pt pb ⊢
  have cL : ce.locals = s3.heap.objs.size := by subst hce; rfl
  generalize hH3 : upd H2 D (dk.ob []) = H3 at I3 I4 pg pt pb w0 nfp f3
  generalize hs4 : ({ s3 with heap := pushCells (s3.heap.push { cls := .type "dict", data := .dict #[] }) scope.names } : Shared) = s4 at I4 ⊢
  have st4 : tn 0 s4.heap := T.keep _ _ _ st3 fun b _ o e => by rw [← hs4]; exact pushCells_keeps _ _ _ _ (Heap.get?_push_of_some _ e)
  have stat : ∀ {σ' : L2.St} {H' : Hp} {s' : Shared}, Inv (X.blk s3 H3 scope ce fp) [] σ' H' s' → (∀ b ∈ fp, H' b = none) → ∀ b ∈ fp, FpOk (X.blk s3 H3 scope ce fp) [] H' b := fun I' hn b hb =>
    ⟨hn b hb, (I'.ok.exf b hb).1, I'.ok.exfs b hb, .inl hb, fun x c e => (I'.ok.exf b hb).2 x c e, fun p hp => absurd (show p ∈ ([] : List (Addr × Obj)) ++ [] from hp) (by simp)⟩
  refine codeAny_compStart_dict ?_ (T.self X.A 0 _ _ _ st4 ?_) <;>
  · refine loop_gen (hturn _ _ _) cmp_dict (fun n s' => ∃ i H', Inv (X.blk s3 H3 scope ce fp) [] (wipe σ (own.map (·.2))) H' s' ∧ tn i s'.heap ∧ (∀ b ∈ fp, H' b = none) ∧ W i n H') ?_ m0 ⟨0, H3, I4, st4, nfp, w0⟩
    rintro n s5 ⟨i, H5, I5, st5, n5, w5⟩
    rcases turn i n H5 w5 with ⟨stop, qq⟩ | ⟨go, Nx, hNx, step⟩
    · refine thnF (T.done (X.blk s3 H3 scope ce fp) rfl rfl rfl hc i [] s5 _ H5 (fun _ _ => False) I5 (stat I5 n5) st5 stop) fun r s6 ⟨hr, I6⟩ => ?_
      subst hr
      have I7 : Inv X pins σ H5 s6 := I3.call' (ch := fp) I6.os I6.base I6.hok I6.bare fun b hb => ⟨(f3 b hb).1.2.2.2.1, (f3 b hb).1.2.1, (f3 b hb).1.2.2.2.2.1, (f3 b hb).1.2.2.2.2.2⟩
      have nC : H5 s3.heap.objs.size = none := by
        have z : H5 ce.locals = none := I6.free
        rw [cL] at z
        exact z
      obtain ⟨m, hn, _⟩ := I6.loc
      have hn : s6.heap.Ns ce.locals m := hn
      rw [cL] at hn
      exact fin D s3.heap.objs.size s6 m H5 I7 qq hn (I3.fpOk (Nat.le_refl _) nC)
    · refine thnF (T.item (X.blk s3 H3 scope ce fp) rfl rfl rfl hc i [] s5 _ H5 (fun _ _ => False) I5 (stat I5 n5) st5 go) fun r s6 ⟨u, hr, h6⟩ => ?_
      subst hr
      refine thnF h6 fun _ s7 ⟨x, H7, I7, r7, y7, st7, n7⟩ => ?_
      refine thnF (pg.run _ s7 _ H7 x u _ (I7.pinned (stat I7 n7) (T.obj _ _ st7)) r7 (step x H7 y7)) fun _ s8 ⟨σ8, H8, I8, hw8, q8⟩ => ?_
      refine thnF (pt.run _ s8 σ8 H8 _ I8 q8) fun b s9 ⟨H9, I9, q9⟩ => ?_
      have back : ∀ {σ9 : L2.St} {s' : Shared} {H' : Hp}, Inv (X.blk s3 H3 scope ce fp) ([] ++ pinsAt fp s7.heap) σ9 H' s' → wipe σ9 (own.map (·.2)) = wipe σ8 (own.map (·.2)) → Nx H' → ∃ m, m < n ∧ ∃ i H', Inv (X.blk s3 H3 scope ce fp) [] (wipe σ (own.map (·.2))) H' s' ∧ tn i s'.heap ∧ (∀ b ∈ fp, H' b = none) ∧ W i m H' := fun {σ9 s' H'} I' hw nx => by
        obtain ⟨m', hm, w'⟩ := hNx H' nx
        have pin' : ∀ b ∈ fp, ∀ o, s7.heap.get? b = some o → s'.heap.get? b = some o ∧ H' b = none := fun b hb o e =>
          let z := I'.pin (b, o) (List.mem_append_right _ (List.mem_append_right _ (mem_pinsAt hb e)))
          ⟨z.1, z.2.1⟩
        have hw := hw.trans hw8
        refine ⟨m', hm, i + 1, H', (I'.unpinned (pins := [])).weak (by rw [← hw, wipe_length]) (fun j v e => by rw [← hw] at e; exact (wipe_some e).1), T.keep _ _ _ st7 fun b hb o e => (pin' b hb o e).1, fun b hb => ?_, w'⟩
        obtain ⟨o, e, _⟩ := T.obj _ _ st7 b hb
        exact (pin' b hb o e).2
      cases b with
      | false =>
        simp only [Bool.false_eq_true, if_false] at q9 ⊢
        exact back I9 rfl q9
      | true =>
        simp only [if_true] at q9 ⊢
        exact fun k2 Q2 E2 h2 => (pb D).run _ s9 σ8 H9 _ k2 Q2 E2 I9 q9 fun s17 σ17 H17 I17 hw17 nx => h2 s17 (back I17 (wipe_sup hus hw17) nx)
section
variable {kx vx tg iter : Expr} {ifs : List Expr} {rest : List Comprehension} {us : List Nat} {body : Addr → Env → Sem Fin → Sem Fin} {tb : Addr → L2.St → Hp → (Hp → Prop) → Prop} {scope : Scope} {own : List (Str × Nat)} {pos : Pos} {wi : TI} {g : TG} {tt : TT}
theorem pe_dcN (dk : DKd κ) (hc : X.calm = true) (hN : X.N.Nodup) (hi : PI X tg iter wi) (ok : BlkOk X.N X.env.scope scope own)
    (hb : ∀ (s : Shared) (H : Hp) (C : Addr) (cl : List (Str × Addr)) (fp : List Addr), PG (X.blk s H scope (compEnvC scope cl C X.env) fp) tg g ∧ PTs (X.blk s H scope (compEnvC scope cl C X.env) fp) ifs tt ∧ ∀ D, PB (X.blk s H scope (compEnvC scope cl C X.env) fp) us (body D (compEnvC scope cl C X.env)) (tb D))
    (hus : ∀ i ∈ us, i ∈ own.map (·.2)) (hturn : ∀ it D ce, compTurn (.DictComp kx vx (⟨tg, iter, ifs, 0⟩ :: rest) scope pos) 0 it (.ref D) ce = turnOf (.DictComp kx vx (⟨tg, iter, ifs, 0⟩ :: rest) scope pos) 0 tg iter ifs it (.ref D) ce (body D ce))
    (hs : ∀ x, foldedSetIterable iter X.env x = pure x) : PE X (.DictComp kx vx (⟨tg, iter, ifs, 0⟩ :: rest) scope pos) (tDcN dk wi g tt tb (own.map (·.2))) := by
  refine ⟨fun pins s σ H Q I h => ?_⟩
  rw [arm_eval_DictComp]
  refine dcN_core dk hc hN I hi ok hb hus hturn hs h fun D C s' m H' I' q hn f => ⟨m, hn, fun h'' sb => ?_⟩
  exact ⟨.ref D, H', I'.turned (t' := s'.toks) (fun b o hb e => (sb.2 b hb).trans e) f.1 f.2.1 f.2.2.2.1 f.2.2.2.2.1 f.2.2.2.2.2, rfl, q⟩
end
end
end XV
set_option Elab.async false
set_option linter.all false
set_option autoImplicit false
set_option maxRecDepth 100000
namespace XV
open PySem PySem.Spec PyProof.Rows L2

structure GoX (D0 : Addr) (G : Hp) (r : List Addr) (H : Hp) (G' : Hp) (r' : List Addr) (H' : Hp) : Prop where
  g : Same G G'
  gf : ∀ b, ¬ Fr H b → G' b = G b
  rr : ∃ t, r' = r ++ t ∧ ∀ a ∈ t, Fr H a
  keep : ∀ b o, b ≠ D0 → H b = some o → b ∉ r → (∀ ps, o ≠ .tbl ps) → H' b = some o
  dom : ∀ b, ¬ Fr H b → ¬ Fr H' b
def OwnNe (D0 : Addr) (env : List SV) (σ : L2.St) : Prop := ∀ (i : Nat) (sv : SV) (a : Addr), env[i]? = some sv → isOwn sv = true → σ[i]? = some (some (V.ref a)) → a ≠ D0
section
variable {K : PySem.W.Frag} {L : Lay} {D0 : Addr} {G G' G2 : Hp} {r r' r2 : List Addr} {H H' H2 : Hp}
theorem GoX.of (g : Go G r H G' r' H') : GoX D0 G r H G' r' H' := ⟨g.g, g.gf, g.rr, fun b o _ h1 h2 h3 => g.keep b o h1 h2 h3, g.dom⟩
theorem GoX.trans (a : GoX D0 G r H G' r' H') (b : Go G' r' H' G2 r2 H2) : GoX D0 G r H G2 r2 H2 := by
  obtain ⟨t, e, hh⟩ := a.rr
  obtain ⟨t', e', hh'⟩ := b.rr
  subst e
  have nx : ∀ a ∈ t', Fr H a := fun x hx => Classical.byContradiction fun q => a.dom x q (hh' x hx)
  refine ⟨a.g.trans b.g, fun x hx => (b.gf x (a.dom x hx)).trans (a.gf x hx), ⟨t ++ t', by rw [e', List.append_assoc], fun x hx => (List.mem_append.mp hx).elim (hh x) (nx x)⟩, fun x o hne h hr ht => ?_, fun x h => b.dom x (a.dom x h)⟩
  refine b.keep x o (a.keep x o hne h hr ht) (fun hm => ?_) ht
  rcases List.mem_append.mp hm with hm | hm
  · exact hr hm
  · obtain ⟨ps, e⟩ := hh x hm _ h
    exact ht ps e
theorem GoX.pre (b : Go G r H G' r' H') (a : GoX D0 G' r' H' G2 r2 H2) : GoX D0 G r H G2 r2 H2 := by
  obtain ⟨t, e, hh⟩ := b.rr
  obtain ⟨t', e', hh'⟩ := a.rr
  subst e
  have nx : ∀ a ∈ t', Fr H a := fun x hx => Classical.byContradiction fun q => b.dom x q (hh' x hx)
  refine ⟨b.g.trans a.g, fun x hx => (a.gf x (b.dom x hx)).trans (b.gf x hx), ⟨t ++ t', by rw [e', List.append_assoc], fun x hx => (List.mem_append.mp hx).elim (hh x) (nx x)⟩, fun x o hne h hr ht => ?_, fun x h => a.dom x (b.dom x h)⟩
  refine a.keep x o hne (b.keep x o h hr ht) (fun hm => ?_) ht
  rcases List.mem_append.mp hm with hm | hm
  · exact hr hm
  · obtain ⟨ps, e⟩ := hh x hm _ h
    exact ht ps e
theorem GoX.put (a : GoX D0 G r H G' r' H') {o : HO} (ho : ∀ ps, o ≠ .tbl ps) : GoX D0 G r H G' r' (upd H' D0 o) := by
  refine ⟨a.g, a.gf, a.rr, fun b o hne h hr ht => by rw [upd_ne hne]; exact a.keep b o hne h hr ht, fun b h => ?_⟩
  by_cases e : b = D0
  · subst e; exact nFr upd_same ho
  · rw [Fr.upd e]; exact a.dom b h
theorem SvR.goX {o : Option (Option V)} {sv : SV} (h : SvR K L G r H o sv) (g : GoX D0 G r H G' r' H') (hne : isOwn sv = true → ∀ a, o = some (some (.ref a)) → a ≠ D0) : SvR K L G' r' H' o sv := by
  have nr : ∀ a, a ∉ r → ¬ Fr H a → a ∉ r' := fun a h1 h2 h3 => by
    obtain ⟨t, e, ht⟩ := g.rr
    subst e
    rcases List.mem_append.mp h3 with q | q
    · exact h1 q
    · exact h2 (ht a q)
  have rp : ∀ {d : D} {v : V}, Rep K L G r d v → Rep K L G' r' d v := fun q => by
    obtain ⟨t, e, _⟩ := g.rr
    subst e
    exact q.mono g.g
  have rps : ∀ {d : List D} {v : List V}, Reps K L G r d v → Reps K L G' r' d v := fun q => by
    obtain ⟨t, e, _⟩ := g.rr
    subst e
    exact q.mono g.g
  cases sv with
  | un => trivial
  | cb => exact h
  | d x => obtain ⟨v, e, q⟩ := h; exact ⟨v, e, rp q⟩
  | own ds =>
    obtain ⟨a, vs, e, h1, h2, h3, h4⟩ := h
    have hn : ¬ Fr H a := nFr h1 fun _ z => by cases z
    exact ⟨a, vs, e, g.keep a _ (hne rfl a e) h1 h3 (fun _ z => by cases z), (g.gf a hn).trans h2, nr a h3 hn, rps h4⟩
  | ownD ks ds =>
    obtain ⟨a, vs, e, h1, l, n, h2, h3, h4⟩ := h
    have hn : ¬ Fr H a := nFr h1 fun _ z => by cases z
    exact ⟨a, vs, e, g.keep a _ (hne rfl a e) h1 h3 (fun _ z => by cases z), l, n, (g.gf a hn).trans h2, nr a h3 hn, rps h4⟩
  | ownI c ks ds =>
    obtain ⟨a, dx, vs, e, h1, l, h2, h3, h4⟩ := h
    have hn : ¬ Fr H a := nFr h1 fun _ z => by cases z
    exact ⟨a, dx, vs, e, g.keep a _ (hne rfl a e) h1 h3 (fun _ z => by cases z), l, (g.gf a hn).trans h2, nr a h3 hn, rps h4⟩
theorem EnvR.goX {env : List SV} {σ : List (Option V)} (h : EnvR K L G r H env σ) (g : GoX D0 G r H G' r' H') (hne : OwnNe D0 env σ) : EnvR K L G' r' H' env σ :=
  ⟨h.len, fun i sv e => (h.get i sv e).goX g fun o a q => hne i sv a e o q, h.sep⟩
theorem EnvR.ownNe {env : List SV} {σ : List (Option V)} (h : EnvR K L G r H env σ) (hD : H D0 = none) : OwnNe D0 env σ := by
  intro i sv a e o q z
  subst z
  have s := h.get i sv e
  rw [q] at s
  cases sv with
  | un => cases o
  | cb => cases o
  | d x => cases o
  | own ds => obtain ⟨b, vs, e2, h1, _⟩ := s; cases e2; rw [hD] at h1; cases h1
  | ownD ks ds => obtain ⟨b, vs, e2, h1, _⟩ := s; cases e2; rw [hD] at h1; cases h1
  | ownI c ks ds => obtain ⟨b, dx, vs, e2, h1, _⟩ := s; cases e2; rw [hD] at h1; cases h1
theorem OwnNe.in_ {env env' : List SV} {σ σ' : L2.St} (h : OwnNe D0 env σ) (i : OwnIn env env' σ σ') : OwnNe D0 env' σ' := fun j sv a e o q => by
  obtain ⟨e1, e2⟩ := i j sv e o
  exact h j sv a e1 o (e2 ▸ q)
theorem OwnIn.wipe {env : List SV} {σ : L2.St} : ∀ own : List Nat, OwnIn env (wipeE env own) σ (L2.wipe σ own)
  | [] => fun i sv e o => ⟨e, rfl⟩
  | w :: own => fun i sv e o => by
    have ih := OwnIn.wipe (env := env) (σ := σ) own
    have e : ((wipeE env own).set w .un)[i]? = some sv := e
    show env[i]? = some sv ∧ ((L2.wipe σ own).set w none)[i]? = σ[i]?
    by_cases h : w = i
    · subst h
      rw [List.getElem?_set_self'] at e
      cases q : (wipeE env own)[w]? with
      | none => rw [q] at e; cases e
      | some y => rw [q] at e; cases e; cases o
    · rw [List.getElem?_set_ne h] at e ⊢
      exact ih i sv e o
end
section
variable {X : Cx} {L : Lay} {P : Cfg} {κ : Type} [DecidableEq κ]
theorem cl_imp (dk : DKd κ) {ke : List SV → List C → Out κ} {tk : TE} (hk : KeyOk dk X.K L ke tk) {vs1 : List Nat} {tg1 : Tg} {it1 : I} {cond1 : Cd} {e : T} (hin : tg1.ins vs1 = true) {D0 : Addr} {G1 : Hp} {r1 : List Addr} {H1 : Hp} (hD : H1 D0 = none) {σ0 σ2 : L2.St}
    {cont : List κ × List D → List C → Out D} {Q : VK} {N : Hp → Prop} {G2 : Hp} {r2 : List Addr} {cs2 : List C} {ks : List κ} {acc : List D} {vs : List V} {H : Hp} {env' : List SV} (c : CDi dk X.K L D0 G1 r1 H1 G2 r2 cs2 ks acc vs H) (er : EnvR X.K L G2 r2 H env' σ2) (hne : OwnNe D0 env' σ2)
    (kc : KO X.K L (Rep X.K L) (wE W0 σ0) G1 r1 H1 (((evI P it1 env' cs2).bind fun q cs1 => dcW q.2 (dcF P cond1 ke e) tg1 (wipeE env' vs1) q.1 cs1 ks acc).bind cont) Q)
    (hN : ∀ (G : Hp) (r : List Addr) (cs : List C) (ks : List κ) (acc : List D) (vs : List V) (H : Hp), CDi dk X.K L D0 G1 r1 H1 G r cs ks acc vs H → KO X.K L (Rep X.K L) (wE W0 σ0) G1 r1 H1 (cont (ks, acc) cs) Q → N H) :
    tCl (tI X.K L P W0 it1) (gOf X.K tg1) (tCd X.K L P cond1) vs1 (tEmD dk tk (tE X.K L P W0 e) D0) σ2 H N := by
  rw [Out.bind_assoc] at kc
  refine ⟨G2, r2, cs2, env', c.sep, er, KO.bind (KO.go kc c.go) fun q cs1 hds J G3 r3 H3 g3 s3 wk _ => ?_⟩
  rw [hds] at kc
  simp only [Out.bind_ok] at kc
  have w1 : okWs q.2 cs1 = true := evI_ok (P := P) (it := it1) (env := env') (cs := cs2) hds
  obtain ⟨ds, ws⟩ := q
  simp only at wk w1 kc
  have c3 := c.step g3 s3
  have er3 := er.go g3
  refine ⟨fun i m H => m = ds.length - i ∧ i ≤ ds.length ∧ ∃ G r cs ks acc vs, CDi dk X.K L D0 G1 r1 H1 G r cs ks acc vs H ∧ GoX D0 G3 r3 H3 G r H ∧ okWs ws cs = true ∧ KO X.K L (Rep X.K L) (wE W0 σ0) G1 r1 H1 ((dcW ws (dcF P cond1 ke e) tg1 (wipeE env' vs1) (ds.drop i) cs ks acc).bind cont) Q,
    ⟨ds.length, by simp, Nat.zero_le _, G3, r3, cs1, ks, acc, vs, c3, GoX.of (Go.refl _ _ _), w1, by simpa using kc⟩, ?_⟩
  rintro i m Hc ⟨rfl, hi, G, r, cs, ks', acc', vs', ci, gx, w2, kc⟩
  obtain ⟨t, er2, ht⟩ := gx.rr
  subst er2
  by_cases hlt : i < ds.length
  · refine .inr ⟨wk.go i Hc G t cs hlt gx.g ci.sep w2, fun H' => ∃ G r cs ks acc vs, CDi dk X.K L D0 G1 r1 H1 G r cs ks acc vs H' ∧ GoX D0 G3 r3 H3 G r H' ∧ okWs ws cs = true ∧ KO X.K L (Rep X.K L) (wE W0 σ0) G1 r1 H1 ((dcW ws (dcF P cond1 ke e) tg1 (wipeE env' vs1) (ds.drop (i + 1)) cs ks acc).bind cont) Q,
      fun H' z => ⟨ds.length - (i + 1), by omega, rfl, hlt, z⟩, fun x H' y => ?_⟩
    obtain ⟨d, hd⟩ : ∃ d, ds[i]? = some d := ⟨ds[i], List.getElem?_eq_getElem hlt⟩
    have hdrop : ds.drop i = d :: ds.drop (i + 1) := by
      rw [List.drop_eq_getElem_cons hlt]
      rw [List.getElem?_eq_getElem hlt] at hd
      cases hd
      rfl
    rw [hdrop] at kc
    obtain ⟨G4, g4, s4, rx⟩ := wk.yld i d G t cs Hc x H' hd gx.g ci.sep w2 y
    have c4 := ci.step g4 s4
    have gx4 := gx.trans g4
    unfold dcW at kc
    cases ha : asgT tg1 d (wipeE env' vs1) with
    | none => rw [ha] at kc; exact kc.elim
    | some env2 =>
      rw [ha] at kc
      refine asgT_ok s4 ((er3.goX gx4 hne).wipe vs1) rx ha fun σ3 er4 hw _ => ⟨?_, ?_⟩
      · rw [hw vs1 hin]
        exact wipe_in σ2 vs1 vs1 fun _ h => h
      · have body : ∀ {cs3 : List C} {G4 : Hp} {r4 : List Addr} {H4 : Hp}, CDi dk X.K L D0 G1 r1 H1 G4 r4 cs3 ks' acc' vs' H4 → GoX D0 G3 r3 H3 G4 r4 H4 → EnvR X.K L G4 r4 H4 env2 σ3 →
            KO X.K L (Rep X.K L) (wE W0 σ0) G1 r1 H1 (((ke env2 cs3).bind fun k cs2 => (evE P e env2 cs2).bind fun z cs3 => Out.ok (some (k, z)) cs3).bind fun r cs' => (if okWs ws cs' = true then (match r with
              | some p => if ks'.length < LIM then dcW ws (dcF P cond1 ke e) tg1 (wipeE env' vs1) (ds.drop (i + 1)) cs' (putD ks' acc' p.1 p.2).1 (putD ks' acc' p.1 p.2).2 else .bad
              | none => dcW ws (dcF P cond1 ke e) tg1 (wipeE env' vs1) (ds.drop (i + 1)) cs' ks' acc') else .bad).bind cont) Q →
            tEmD dk tk (tE X.K L P W0 e) D0 σ3 H4 fun H' => ∃ G r cs ks acc vs, CDi dk X.K L D0 G1 r1 H1 G r cs ks acc vs H' ∧ GoX D0 G3 r3 H3 G r H' ∧ okWs ws cs = true ∧ KO X.K L (Rep X.K L) (wE W0 σ0) G1 r1 H1 ((dcW ws (dcF P cond1 ke e) tg1 (wipeE env' vs1) (ds.drop (i + 1)) cs ks acc).bind cont) Q := by
          intro cs3 G4 r4 H4 c4 gx4 er4 k4
          rw [Out.bind_assoc] at k4
          refine hk σ3 H4 _ G4 r4 cs3 env2 _ Q c4.sep er4 (KO.go k4 c4.go) fun kk cs5 G5 r5 H5 y5 ek g5 s5 hka k5 => ?_
          rw [Out.bind_assoc] at k5
          refine ⟨G5, r5, cs5, env2, s5, er4.go g5, KO.bind k5 fun z cs6 he v G6 r6 H6 g6 s6 rz _ => ?_⟩
          rw [ek] at k4
          simp only [Out.bind_ok] at k4
          rw [he] at k4
          have c6 := (c4.step g5 s5).step g6 s6
          by_cases hw : okWs ws cs6 = true
          · by_cases hl : ks'.length < LIM
            · simp only [Out.bind_ok, if_pos hl, if_pos hw] at k4
              refine ⟨ks'.zip vs', kk, hka _ _ _ g6, c6.out, ?_, G6, r6, cs6, _, _, _, c6.put hD rz, ((gx4.trans g5).trans g6).put (dk.nt _), hw, k4⟩
              rw [List.length_zip]
              exact Nat.lt_of_le_of_lt (Nat.min_le_left _ _) (Nat.lt_of_lt_of_le hl (by decide))
            · simp only [Out.bind_ok, if_neg hl, if_pos hw] at k4
              exact k4.elim
          · simp only [Out.bind_ok, if_neg hw] at k4
            exact k4.elim
        cases cond1 with
        | no =>
          rw [Out.bind_assoc] at kc
          exact body c4 gx4 er4 kc
        | one c0 =>
          show tT X.K L P W0 c0 σ3 H' _
          refine ⟨G4, _, cs, env2, s4, er4, ?_⟩
          rw [Out.bind_assoc] at kc
          unfold dcF at kc
          simp only at kc
          cases ec : evE P c0 env2 cs with
          | bad => rw [ec] at kc; exact kc.elim
          | exc c0 ds0 cs0 => rw [ec] at kc; exact KO.go (o := .exc c0 ds0 cs0) (R := Rep X.K L) (Q := Q) kc c4.go
          | ok x0 cs4 =>
            rw [ec] at kc
            simp only [Out.bind_ok] at kc ⊢
            cases et : truD cs4 x0 with
            | none => rw [et] at kc; exact kc.elim
            | some kk =>
              rw [et] at kc
              simp only [ofO_some, Out.bind_ok] at kc ⊢
              intro b G5 r5 H5 g5 s5 eb
              cases eb
              have c5 := c4.step g5 s5
              cases kk with
              | false =>
                by_cases hw : okWs ws cs4 = true
                · simp only [Bool.false_eq_true, if_false, Out.bind_ok, if_pos hw] at kc
                  exact ⟨G5, r5, cs4, ks', acc', vs', c5, gx4.trans g5, hw, kc⟩
                · simp only [Bool.false_eq_true, if_false, Out.bind_ok, if_neg hw] at kc
                  exact kc.elim
              | true => exact body c5 (gx4.trans g5) (er4.go g5) kc
  · have e : i = ds.length := by omega
    subst e
    refine .inl ⟨wk.stop Hc G t cs gx.g ci.sep w2, hN G _ cs ks' acc' vs' Hc ci ?_⟩
    simpa [dcW] using kc
end
end XV
set_option Elab.async false
set_option linter.all false
set_option autoImplicit false
set_option maxRecDepth 100000
namespace XV
open PySem PySem.Spec PyProof.Rows L2
section
variable {X : Cx} {L : Lay} {P : Cfg} {W : WX} {κ : Type} [DecidableEq κ] {pos : Pos}
def inW (P : Cfg) (it1 : I) (tg1 : Tg) (vs1 : List Nat) (cond1 : Cd) (ke : List SV → List C → Out κ) (e : T) : List SV → List C → List κ → List D → Out (List κ × List D) := fun env1 cs' ks vs =>
  (evI P it1 env1 cs').bind fun q1 cs2 => dcW q1.2 (dcF P cond1 ke e) tg1 (wipeE env1 vs1) q1.1 cs2 ks vs
theorem dc2_imp (dk : DKd κ) {ke : List SV → List C → Out κ} {tk : TE} (hk : KeyOk dk X.K L ke tk) {mk : List κ → List D → D} (hm : ∀ {G : Hp} {r : List Addr} {a : Addr} {ks : List κ} {vs : List V} {ds : List D}, G a = some (dk.ob (ks.zip vs)) → ks.length = ds.length → ks.Nodup → Reps X.K L G r ds vs → Rep X.K L G r (mk ks ds) (.ref a))
    {vs0 vs1 : List Nat} {tg tg1 : Tg} {it it1 : I} {cond1 : Cd} {e : T} (hin : tg.ins vs0 = true) (hin1 : tg1.ins vs1 = true) (σ : L2.St) (H : Hp) (Q : VK) {G : Hp} {r : List Addr} {cs : List C} {env : List SV} (s : Sep X.K L G r cs H) (er : EnvR X.K L G r H env σ)
    (k : KO X.K L (Rep X.K L) (wE W σ) G r H (calm ((evI P it env cs).bind fun q cs1 => (nestW q.2 (inW P it1 tg1 vs1 cond1 ke e) tg (wipeE env vs0) q.1 cs1 [] []).bind fun p cs2 => .ok (mk p.1 p.2) cs2)) Q) :
    tDcN dk (tI X.K L P W it) (gOf X.K tg) tYes (fun D => tCl (tI X.K L P W0 it1) (gOf X.K tg1) (tCd X.K L P cond1) vs1 (tEmD dk tk (tE X.K L P W0 e) D)) vs0 σ H Q := by
  rw [calm_bind] at k
  have k := KO.bind (R1 := fun G r (q : List D × Ws) J => Wk X.K L J G r q.1 q.2) (o := calm (evI P it env cs)) (Q1 := fun (J : It) H1 => ∀ D, H1 D = none → ∃ W' : Nat → Nat → Hp → Prop, (∃ m, W' 0 m (upd H1 D (dk.ob []))) ∧ ∀ i m H, W' i m H →
      (J.stop i H ∧ Q (.ref D) H) ∨ (J.go i H ∧ ∃ Nx : Hp → Prop, (∀ H', Nx H' → ∃ m', m' < m ∧ W' (i + 1) m' H') ∧ ∀ x H', J.yld i H x H' → gOf X.K tg x (wipe σ vs0) H' fun σ2 H2 => wipe σ2 vs0 = wipe σ vs0 ∧ tYes σ2 H2 fun b H3 => if b = true then tCl (tI X.K L P W0 it1) (gOf X.K tg1) (tCd X.K L P cond1) vs1 (tEmD dk tk (tE X.K L P W0 e) D) σ2 H3 Nx else Nx H3)) k (fun q cs1 hds J G1 r1 H1 g1 s1 wk k1 D0 hD => ?_)
  · exact ⟨G, r, cs, env, s, er, k.calm⟩
  have w1 : okWs q.2 cs1 = true := evI_ok (P := P) (it := it) (env := env) (cs := cs) (by
    cases he : evI P it env cs <;> rw [he] at hds <;> first | (cases hds; done) | exact hds)
  obtain ⟨ds, ws⟩ := q
  simp only at wk w1 k1
  replace k1 : KO X.K L (Rep X.K L) (wE W0 σ) G1 r1 H1 ((nestW ws (inW P it1 tg1 vs1 cond1 ke e) tg (wipeE env vs0) ds cs1 [] []).bind fun p cs2 => .ok (mk p.1 p.2) cs2) Q := KO.calm k1
  have er1 := er.go g1
  refine ⟨fun i m H => m = ds.length - i ∧ i ≤ ds.length ∧ ∃ G2 r2 cs2 ks acc vs, CDi dk X.K L D0 G1 r1 H1 G2 r2 cs2 ks acc vs H ∧ okWs ws cs2 = true ∧ KO X.K L (Rep X.K L) (wE W0 σ) G1 r1 H1 ((nestW ws (inW P it1 tg1 vs1 cond1 ke e) tg (wipeE env vs0) (ds.drop i) cs2 ks acc).bind fun p cs2 => .ok (mk p.1 p.2) cs2) Q,
    ⟨ds.length, by simp, Nat.zero_le _, G1, r1, cs1, [], [], [], ?_, w1, by simpa using k1⟩, ?_⟩
  · refine ⟨⟨Same.refl G1, fun _ _ => rfl, ⟨[], by simp, by simp⟩, fun b o h _ _ => by rw [upd_ne (ne_of_none h hD)]; exact h, fun b h => ?_⟩, ⟨fun b o h => ?_, s1.nod, s1.len, fun i k e => ?_, Mt3.tabs s1.tabs (by rw [hD]; trivial), s1.gt, s1.lat⟩, upd_same, Same.free s1.same hD, fun hm => (s1.mem hm).2 (.of hD), rfl, List.nodup_nil, .nil⟩
    · have : b ≠ D0 := fun z => h (z ▸ .of hD)
      rw [Fr.upd this]; exact h
    · rw [upd_ne (ne_of_none h (Same.free s1.same hD))]; exact s1.same b o h
    · obtain ⟨a, h1, h2, h3⟩ := s1.cell i k e
      have ne : a ≠ D0 := fun z => h3.some (z ▸ .of hD)
      have := CellR.mono (t := []) (Same.refl G1) (H' := upd H1 D0 (dk.ob [])) (by rw [upd_ne ne]) h3
      exact ⟨a, h1, h2, by simpa using this⟩
  · rintro i m Hc ⟨rfl, hi, G2, r2, cs2, ks, acc, vs, ci, w2, kc⟩
    by_cases hlt : i < ds.length
    · obtain ⟨t, er2, ht⟩ := ci.go.rr
      subst er2
      refine .inr ⟨wk.go i Hc G2 t cs2 hlt ci.go.g ci.sep w2, fun H' => ∃ G3 r3 cs3 ks' acc' vs', CDi dk X.K L D0 G1 r1 H1 G3 r3 cs3 ks' acc' vs' H' ∧ okWs ws cs3 = true ∧ KO X.K L (Rep X.K L) (wE W0 σ) G1 r1 H1 ((nestW ws (inW P it1 tg1 vs1 cond1 ke e) tg (wipeE env vs0) (ds.drop (i + 1)) cs3 ks' acc').bind fun p cs2 => .ok (mk p.1 p.2) cs2) Q,
        fun H' ⟨G3, r3, cs3, ks', acc', vs', c3, w3, k3⟩ => ⟨ds.length - (i + 1), by omega, rfl, hlt, G3, r3, cs3, ks', acc', vs', c3, w3, k3⟩, fun x H' y => ?_⟩
      obtain ⟨d, hd⟩ : ∃ d, ds[i]? = some d := ⟨ds[i], List.getElem?_eq_getElem hlt⟩
      have hdrop : ds.drop i = d :: ds.drop (i + 1) := by
        rw [List.drop_eq_getElem_cons hlt]
        rw [List.getElem?_eq_getElem hlt] at hd
        cases hd
        rfl
      rw [hdrop] at kc
      obtain ⟨G3, g3, s3, rx⟩ := wk.yld i d G2 t cs2 Hc x H' hd ci.go.g ci.sep w2 y
      have c3 := ci.step g3 s3
      unfold nestW at kc
      cases ha : asgT tg d (wipeE env vs0) with
      | none => rw [ha] at kc; exact kc.elim
      | some env' =>
        rw [ha] at kc
        refine asgT_ok s3 (((er1.go c3.go).wipe vs0)) rx ha fun σ2 er3 hw hown => ⟨?_, ?_⟩
        · rw [hw vs0 hin]
          exact wipe_in σ vs0 vs0 fun _ h => h
        · have hne : OwnNe D0 env' σ2 := ((er1.ownNe hD).in_ (OwnIn.wipe vs0)).in_ hown
          unfold tYes
          simp only [if_true]
          rw [Out.bind_assoc] at kc
          refine cl_imp dk hk hin1 hD c3 er3 hne kc fun G r cs ks acc vs H c4 k4 => ?_
          by_cases hw2 : okWs ws cs = true
          · simp only [if_pos hw2] at k4
            exact ⟨G, r, cs, ks, acc, vs, c4, hw2, k4⟩
          · simp only [if_neg hw2] at k4
            exact k4.elim
    · have e : i = ds.length := by omega
      subst e
      obtain ⟨t, er2, ht⟩ := ci.go.rr
      subst er2
      refine .inl ⟨wk.stop Hc G2 t cs2 ci.go.g ci.sep w2, ?_⟩
      have kc : KO X.K L (Rep X.K L) (wE W0 σ) G1 r1 H1 (.ok (mk ks acc) cs2) Q := by simpa [nestW] using kc
      obtain ⟨f1, f2, f3⟩ := ci.fin hD
      exact kc _ _ _ _ f1 f2 (hm upd_same ci.len ci.nod f3)
theorem dc2_ev {own vs1 : List Nat} {tg tg1 : Tg} {it it1 : I} {kx e : T} {env : List SV} {cs : List C} : evE P (.dc2 own tg it vs1 tg1 it1 kx e) env cs = calm ((evI P it env cs).bind fun q cs1 => (nestW q.2 (inW P it1 tg1 vs1 .no (keyE P kx) e) tg (wipeE env own) q.1 cs1 [] []).bind fun p cs2 => .ok (.dct p.1 p.2) cs2) := by
  unfold evE
  rfl
theorem dc2K_imp {vs0 vs1 : List Nat} {tg tg1 : Tg} {it it1 : I} {kx e : T} (hin : tg.ins vs0 = true) (hin1 : tg1.ins vs1 = true) (σ : L2.St) (H : Hp) (Q : VK) (h : tE X.K L P W (.dc2 vs0 tg it vs1 tg1 it1 kx e) σ H Q) :
    tDcN dkK (tI X.K L P W it) (gOf X.K tg) tYes (fun D => tCl (tI X.K L P W0 it1) (gOf X.K tg1) tYes vs1 (tEmD dkK (tE X.K L P W0 kx) (tE X.K L P W0 e) D)) vs0 σ H Q := by
  obtain ⟨G, r, cs, env, s, er, k⟩ := h
  rw [dc2_ev] at k
  exact dc2_imp dkK keyE_ok (fun h l n q => .dct h l n q) hin hin1 σ H Q s er k
theorem mkS_cps (s : Str) : mkS s.cps.toList = s := by
  cases s
  simp [mkS]
theorem kD_rep {K : PySem.W.Frag} {G : Hp} {r : List Addr} (k : Key) : Rep K L G r (kD k) (kV k) := by
  cases k with
  | inl i => exact .int i
  | inr s =>
    have := Rep.str (K := K) (L := L) (G := G) (r := r) s.cps.toList
    rw [mkS_cps] at this
    exact this
theorem kD_reps {K : PySem.W.Frag} {G : Hp} {r : List Addr} : ∀ ks : List Key, Reps K L G r (ks.map kD) (ks.map kV)
  | [] => .nil
  | k :: ks => .cons (kD_rep k) (kD_reps ks)
theorem sE_lsK {a : Expr} {ta : T} {p : Pos} (hc : X.calm = true) (hg : Gl X "list") (hm : X.mg "list" = none) (ha : PE X a (tE X.K L P W ta)) (hst : isStar a = false) : PE X (.Call (.Name "list" p) [a] [] pos) (tE X.K L P W (.lsK ta)) := by
  refine PE.imp (pe_callTy (call_listD hc) hg hm (by decide +kernel) (pa_cons ha pa_nil (star_ok hst)) (by decide) (by decide) (star_ok hst)) fun σ H Q ⟨G, r, cs, env, s, er, k⟩ => ?_
  unfold evE at k
  refine ⟨G, r, cs, env, s, er, k.bind fun x cs1 hx v G1 r1 H1 g1 s1 rv k1 => ?_⟩
  obtain ⟨d, e1, k2⟩ := k1.some_of
  unfold lsKD at e1
  split at e1
  · rename_i ks ds t
    obtain ⟨a, vs, rfl, ea, hl, _, hq⟩ := top_dct s1 rv t
    have hq := hq.length
    obtain ⟨h1, rfl⟩ := lim_some e1
    refine ⟨a, ks.zip vs, rfl, .of ea, fun p hp => ?_⟩
    have e2 : ((ks.zip vs).map fun kv => kV kv.1) = ks.map kV := by
      have e3 : (ks.zip vs).map (·.1) = ks := List.map_fst_zip (by omega)
      have e4 := congrArg (List.map kV) e3
      rwa [List.map_map] at e4
    rw [e2]
    exact k2 _ _ _ _ (Go.new s1 (.lst (ks.map kV)) hp) (s1.new _ hp (fun _ z => by cases z)) (.lst upd_same (kD_reps ks))
  · cases e1
end
end XV
set_option Elab.async false
set_option linter.all false
set_option autoImplicit false
set_option maxRecDepth 100000
namespace XV
open PySem PySem.Spec PyProof.Rows L2 LamX

structure LamP (sc scope : Scope) (ps : List Str) : Prop where
  kind : scope.kind = .function
  co : scope.isCoroutine = false
  gen : scope.isGenerator = false
  nocell : ∀ y ∈ scope.names, y.2 ≠ .cell
  par : ∀ x ∈ ps, scope.names.lookup x = some .local
  nd : ps.Nodup
  loc : ∀ y ∈ scope.names, y.2 = .local → y.1 ∈ ps
  free : ∀ y ∈ scope.names, y.2 = .free → sc.names.lookup y.1 = some .cell ∨ sc.names.lookup y.1 = some .free
def lamPB (sc scope : Scope) (ps : List Str) : Bool :=
  decide (scope.kind = .function) && !scope.isCoroutine && !scope.isGenerator && decide ps.Nodup && ps.all (fun x => decide (scope.names.lookup x = some .local)) &&
  scope.names.all fun y => !decide (y.2 = .cell) && (!decide (y.2 = .local) || ps.contains y.1) && (!decide (y.2 = .free) || decide (sc.names.lookup y.1 = some .cell) || decide (sc.names.lookup y.1 = some .free))
theorem lamP_by {sc scope : Scope} {ps : List Str} (h : lamPB sc scope ps = true) : LamP sc scope ps := by
  unfold lamPB at h
  simp only [Bool.and_eq_true, Bool.or_eq_true, Bool.not_eq_true', decide_eq_true_eq, decide_eq_false_iff_not, List.all_eq_true, List.contains_iff_mem] at h
  obtain ⟨⟨⟨⟨⟨h1, h2⟩, h3⟩, h4⟩, h5⟩, h6⟩ := h
  refine ⟨h1, h2, h3, fun y hy => (h6 y hy).1.1, h5, h4, fun y hy e => ?_, fun y hy e => ?_⟩
  · rcases (h6 y hy).1.2 with z | z
    · exact absurd e z
    · exact z
  · rcases (h6 y hy).2 with (z | z) | z
    · exact absurd e z
    · exact .inl z
    · exact .inr z
theorem LamP.has {X : Cx} {scope : Scope} {ps : List Str} (L : LamP X.env.scope scope ps) (ok : X.Ok) : ∀ y ∈ scope.names, y.2 = .free → ∃ c, X.env.cells.lookup y.1 = some c := fun y hy e => by
  rcases L.free y hy e with k | k
  · exact ok.has _ (.inl k)
  · exact ok.has _ (.inr k)
def putS (σ : L2.St) : List Nat → List V → L2.St
  | i :: is, v :: vs => putS (σ.set i (some v)) is vs
  | _, _ => σ
theorem putS_len : ∀ {is : List Nat} {vs : List V} {σ : L2.St}, (putS σ is vs).length = σ.length
  | [], vs, σ => by unfold putS; rfl
  | i :: is, [], σ => by unfold putS; rfl
  | i :: is, v :: vs, σ => by unfold putS; rw [putS_len, List.length_set]
theorem putS_ne {i : Nat} : ∀ {is : List Nat} {vs : List V} {σ : L2.St}, i ∉ is → (putS σ is vs)[i]? = σ[i]?
  | [], vs, σ, _ => by unfold putS; rfl
  | j :: is, [], σ, _ => by unfold putS; rfl
  | j :: is, v :: vs, σ, h => by
    unfold putS
    rw [putS_ne (fun z => h (List.mem_cons_of_mem _ z)), List.getElem?_set_ne (by intro z; subst z; exact h List.mem_cons_self)]
theorem putS_at {i : Nat} {v : V} : ∀ {m : Nat} {is : List Nat} {vs : List V} {σ : L2.St}, is.Nodup → is[m]? = some i → vs[m]? = some v → i < σ.length → (putS σ is vs)[i]? = some (some v)
  | _, [], _, _, _, h, _, _ => by simp at h
  | _, j :: is, [], _, _, _, h, _ => by simp at h
  | 0, j :: is, w :: vs, σ, nd, h1, h2, hl => by
    simp at h1 h2
    subst h1 h2
    unfold putS
    rw [putS_ne (List.nodup_cons.mp nd).1, List.getElem?_set_self hl]
  | m + 1, j :: is, w :: vs, σ, nd, h1, h2, hl => by
    unfold putS
    exact putS_at (m := m) (List.nodup_cons.mp nd).2 (by simpa using h1) (by simpa using h2) (by rw [List.length_set]; exact hl)

structure Kp (H H' : Hp) (h h' : Heap) : Prop where
  any : ∀ b o, h.get? b = some o → H b = none → ∃ sl, h'.get? b = some { o with slots := sl }
  free : ∀ b o, h.get? b = some o → H b = none → H' b = none
theorem Kp.refl {H : Hp} {h : Heap} : Kp H H h h := ⟨fun b o e _ => ⟨o.slots, e⟩, fun _ _ _ n => n⟩
theorem Kp.of {fs : List Addr} {H H' : Hp} {h h' : Heap} (u : Un fs [] H H' h h') : Kp H H' h h' := ⟨fun b o e n => u.any e n (by simp), fun b o e n => u.free b o e n (by simp)⟩
theorem Kp.trans {H H1 H2 : Hp} {h h1 h2 : Heap} (a : Kp H H1 h h1) (b : Kp H1 H2 h1 h2) : Kp H H2 h h2 :=
  ⟨fun c o e n => by
    obtain ⟨sl, q⟩ := a.any c o e n
    obtain ⟨sl2, q2⟩ := b.any c _ q (a.free c o e n)
    exact ⟨sl2, q2⟩, fun c o e n => by
    obtain ⟨sl, q⟩ := a.any c o e n
    exact b.free c _ q (a.free c o e n)⟩
def XK0 : XK := fun _ _ _ => False
structure CbOk (P : Program) (w : World) (K : PySem.W.Frag) (mg : Str → Option Value) (base : Heap) (H : Hp) (h : Heap) (f : Addr) (k : Nat) (sp : Sp) : Prop where
  fn : ∀ (H1 : Hp) (h1 : Heap), Kp H H1 h h1 → PySem.W.FnAt f h1
  run : ∀ (A : Around) (outer : List Env) (s : Shared) (H1 : Hp) (us : List Value) (vs : List V) (Q : VK), Room k A → Env0 P w K mg base A outer s H1 → Kp H H1 h s.heap → Vals vs us → sp vs H1 Q XK0 →
    codeAny (model P w) A (.call (.ref f) ⟨us, []⟩) (CR (L2.CX P w) outer P w H1 s Q XK0) s
theorem CbOk.later {P : Program} {w : World} {K : PySem.W.Frag} {mg : Str → Option Value} {base : Heap} {H H2 : Hp} {h h2 : Heap} {f : Addr} {k : Nat} {sp : Sp} (c : CbOk P w K mg base H h f k sp) (q : Kp H H2 h h2) : CbOk P w K mg base H2 h2 f k sp :=
  ⟨fun H1 h1 q1 => c.fn H1 h1 (q.trans q1), fun A outer s H1 us vs Q hr e0 q1 => c.run A outer s H1 us vs Q hr e0 (q.trans q1)⟩
theorem CbOk.imp {P : Program} {w : World} {K : PySem.W.Frag} {mg : Str → Option Value} {base : Heap} {H : Hp} {h : Heap} {f : Addr} {k : Nat} {sp sp' : Sp} (c : CbOk P w K mg base H h f k sp) (q : ∀ vs H Q, sp' vs H Q XK0 → sp vs H Q XK0) : CbOk P w K mg base H h f k sp' :=
  ⟨c.fn, fun A outer s H1 us vs Q hr e0 q1 r z => c.run A outer s H1 us vs Q hr e0 q1 r (q _ _ _ z)⟩
theorem CbOk.mono {P : Program} {w : World} {K : PySem.W.Frag} {mg : Str → Option Value} {base : Heap} {H : Hp} {h : Heap} {f : Addr} {j k : Nat} {sp : Sp} (c : CbOk P w K mg base H h f j sp) (q : j ≤ k) : CbOk P w K mg base H h f k sp :=
  ⟨c.fn, fun A outer s H1 us vs Q hr => c.run A outer s H1 us vs Q (hr.mono q)⟩
section
variable {X : Cx} {pins : List (Addr × Obj)} {σ : L2.St} {H HZ : Hp} {s s1 : Shared}
theorem lam_startP {A : Around} {outer : List Env} {E : XK} {scope : Scope} {ps : List Str} {js : List Nat} {f c' : Addr} {h₁ : Heap} {tk : Nat} {vs : List V} {us : List Value} (I : Inv X pins σ H s) (L : LamP X.env.scope scope ps) (hjs : js.map (fun j => X.N[j]?) = ps.map some) (hN : X.N.Nodup)
    (e0 : Env0 X.prog X.w X.K X.mg X.base A outer s1 HZ) (hd : A.handled = none) (un : Kp H HZ s.heap s1.heap) (rv : Vals vs us) (hl : vs.length = ps.length) (hns : h₁.Ns s1.heap.objs.size fun y => (ps.zip us).reverse.lookup y) (kp : ∀ b o, s1.heap.get? b = some o → h₁.get? b = some o) :
    Inv (lamCx X A outer s1 HZ E scope f c') [] (putS σ js vs) HZ { s1 with heap := h₁, toks := tk } := by
  have hfree := L.has I.ok
  have cm : ∀ {y c}, (cloFrom X.env.cells scope.names []).lookup y = some c → X.env.cells.lookup y = some c := fun {y c} e => by
    rcases cloFrom_mem (PySem.mem_of_lookup e) with hm | ⟨h1, h2⟩
    · cases hm
    · obtain ⟨c1, hc⟩ := hfree _ h1 rfl
      have hc : X.env.cells.lookup y = some c1 := hc
      have e2 : c = c1 := by
        rw [h2, hc] <;> rfl
      rw [e2]
      exact hc
  have look : ∀ {y}, scope.names.lookup y = some .free → ∃ c, (cloFrom X.env.cells scope.names []).lookup y = some c := fun {y} hl => by
    have hy : (y, NameKind.free) ∈ scope.names := PySem.mem_of_lookup hl
    exact mem_lookup (cloFrom_has (cells := X.env.cells) (acc := []) hy)
  have cellK : ∀ {c : Addr} {v : Option Value}, H c = none → s.heap.IsCell c v → h₁.IsCell c v := fun {c v} n ⟨o, ho, hd⟩ => by
    obtain ⟨sl, q⟩ := un.any c o ho n
    exact ⟨_, kp _ _ q, hd⟩
  have ndN : ∀ {i j : Nat} {y : Str}, X.N[i]? = some y → X.N[j]? = some y → i = j := fun {i j y} h1 h2 => by
    exact (List.getElem?_inj (List.getElem?_eq_some_iff.mp h1).1 hN).mp (h1.trans h2.symm)
  have ljs : js.length = ps.length := by
    have := congrArg List.length hjs
    simpa using this
  have at_ : ∀ {m : Nat} {j : Nat}, js[m]? = some j → ∃ y, ps[m]? = some y ∧ X.N[j]? = some y := fun {m j} e => by
    have hm : m < ps.length := by rw [← ljs]; exact (List.getElem?_eq_some_iff.mp e).1
    have q := congrArg (fun l => l[m]?) hjs
    simp only [List.getElem?_map, e, List.getElem?_eq_getElem hm, Option.map_some] at q
    exact ⟨_, List.getElem?_eq_getElem hm, Option.some.inj q⟩
  have nd : js.Nodup := by
    refine List.pairwise_iff_getElem.mpr fun a b ha hb hab z => ?_
    obtain ⟨y1, p1, q1⟩ := at_ (List.getElem?_eq_getElem ha)
    obtain ⟨y2, p2, q2⟩ := at_ (List.getElem?_eq_getElem hb)
    rw [z, q2] at q1
    cases q1
    have := (List.getElem?_inj (List.getElem?_eq_some_iff.mp p1).1 L.nd).mp (p1.trans p2.symm)
    omega
  have noA : ∀ b : Addr, b ∉ (lamCx X A outer s1 HZ E scope f c').ex := fun b z => absurd (show b ∈ ([] : List Addr) from z) (by simp)
  refine ⟨⟨e0.mod, L.kind, rfl, rfl, Nat.le_refl _, fun y z c e1 e2 => I.ok.inj y z c (cm e1) (cm e2), fun y hy => ?_, fun y c z _ => ?_, fun _ => hd, Around.frames_deeper e0.frames, .inr ⟨rfl, rfl⟩, fun b z => absurd z (noA b), e0.bs, e0.bsz, fun b _ _ => noA b,
      fun b z => absurd z (noA b), e0.funs, e0.frf⟩,
    rfl, e0.bare, Un.kept kp, ⟨_, hns, fun i y v e1 e2 e3 => ?_⟩, fun y c e => ?_, e0.hok.fresh (Nat.le_refl _), fun y c e => ?_, fun q hq => absurd (show q ∈ ([] : List (Addr × Obj)) ++ [] from hq) (by simp), e0.hok.kept kp, by rw [putS_len]; exact I.len⟩
  · have hy : scope.names.lookup y = some .cell ∨ scope.names.lookup y = some .free := hy
    rcases hy with hy | hy
    · exact absurd rfl (L.nocell _ (PySem.mem_of_lookup hy))
    · exact look hy
  · have z : false = true := z
    cases z
  · have e3 : Vis scope y := e3
    have e1 : X.N[i]? = some y := e1
    rcases e3 with k | k | k
    · obtain ⟨m, hm⟩ := List.mem_iff_getElem?.mp (L.loc _ (PySem.mem_of_lookup k) rfl)
      have hmp : m < js.length := by rw [ljs]; exact (List.getElem?_eq_some_iff.mp hm).1
      obtain ⟨y2, p2, q2⟩ := at_ (List.getElem?_eq_getElem hmp)
      rw [hm] at p2
      cases p2
      have ei : i = js[m] := ndN e1 q2
      have hmv : m < vs.length := by rw [hl, ← ljs]; exact hmp
      have il : i < σ.length := by rw [I.len]; exact (List.getElem?_eq_some_iff.mp e1).1
      have e4 := putS_at (i := i) (m := m) nd (by rw [ei]; exact List.getElem?_eq_getElem hmp) (List.getElem?_eq_getElem hmv) il
      rw [e4] at e2
      cases e2
      obtain ⟨u, hu, ru⟩ := rv.get (List.getElem?_eq_getElem hmv)
      exact ⟨u, ru, .inl ⟨k, NdefX.zip_look L.nd hm hu⟩⟩
    · exact absurd rfl (L.nocell _ (PySem.mem_of_lookup k))
    · have ni : i ∉ js := fun hm => by
        obtain ⟨m, hm⟩ := List.mem_iff_getElem?.mp hm
        obtain ⟨y2, p2, q2⟩ := at_ hm
        rw [e1] at q2
        cases q2
        have := L.par _ (List.mem_of_getElem? p2)
        rw [k] at this
        cases this
      rw [putS_ne ni] at e2
      obtain ⟨m, hn, hl⟩ := I.loc
      have hvis : Vis X.env.scope y := (L.free _ (PySem.mem_of_lookup k) rfl).elim (fun k => .inr (.inl k)) (fun k => .inr (.inr k))
      obtain ⟨w', r, q⟩ := hl i y v e1 e2 hvis
      obtain ⟨c2, h2⟩ := look k
      refine ⟨w', r, .inr ⟨.inr k, c2, h2, ?_⟩⟩
      have c1 := cm h2
      rcases q with ⟨k', _⟩ | ⟨_, c3, e', z⟩
      · have k' : X.env.scope.names.lookup y = some .local := k'
        rcases L.free _ (PySem.mem_of_lookup k) rfl with k2 | k2 <;> rw [show X.env.scope.names.lookup y = _ from k2] at k' <;> cases k'
      · rw [c1] at e'
        cases e'
        exact cellK (I.freeC y _ c1) z
  · obtain ⟨w', z⟩ := I.cell y c (cm e)
    exact ⟨w', cellK (I.freeC y c (cm e)) z⟩
  · obtain ⟨v, o, ho, hd⟩ := I.cell y c (cm e)
    exact un.free c o ho (I.freeC y c (cm e))
theorem lam_cb {f c' : Addr} {pm ctv : Value} {params : Arguments} {body : Expr} {scope : Scope} {ps : List Str} {js : List Nat} {k : Nat} {tb : TE} (I : Inv X pins σ H s) (L : LamP X.env.scope scope ps) (hjs : js.map (fun j => X.N[j]?) = ps.map some) (hN : X.N.Nodup)
    (hf : s.heap.get? f = some (PySem.W.kla_obj "<lambda>" (X.env.qual ++ "<lambda>") params body scope (cloFrom X.env.cells scope.names []) pm c' ctv)) (hfn : H f = none)
    (hbind : ∀ us : List Value, us.length = ps.length → bindArgs (PySem.W.kla_fn "<lambda>" (X.env.qual ++ "<lambda>") params body scope (cloFrom X.env.cells scope.names []) pm (.ref c') ctv) ⟨us, []⟩ = pure (ps.zip us))
    (hbody : ∀ (A : Around) (outer : List Env) (s : Shared) (H : Hp), Room k (A.deeper (lamEnv X scope s.heap.objs.size f c')) → PE (lamCx X A outer s H XK0 scope f c') body tb) :
    CbOk X.prog X.w X.K X.mg X.base H s.heap f (k + 1) (fun vs H1 Q _ => vs.length = ps.length ∧ H1 c' = some (CodeO c' (X.env.qual ++ "<lambda>")) ∧ tb (putS σ js vs) H1 Q) := by
  refine ⟨fun H1 h1 q => ?_, fun A outer s1 HZ us vs Q hr e0 un rv hq => ?_⟩
  · obtain ⟨sl, q⟩ := un_any q hf hfn
    exact ⟨_, _, _, _, q⟩
  · obtain ⟨hl, hc, ht⟩ := hq
    obtain ⟨sl, of1⟩ := un.any f _ hf hfn
    obtain ⟨⟨oc, cvs, t, hoc, hdc, hvc⟩, _, _⟩ := e0.hok c' _ hc
    have lim : s1.heap.NoLimit := e0.mod.nolimit.keeps fun b o e => (e0.bs b o e).1
    refine PySem.W.kla_callFunE hr.depth of1 rfl L.co L.gen rfl ⟨c', oc, cvs, t, rfl, hoc, hdc, hvc⟩ ?_
    rw [hbind us (by rw [← rv.length]; exact hl)]
    refine wpAny_pure (wpAny_newFunctionEnv L.nocell (fun ⟨n, _⟩ hy => L.par n (List.of_mem_zip hy).1) (fun h₁ hns hsb => ⟨lim.fresh _ hsb, ?_⟩) L.kind)
    show codeAny _ _ (.expr body (lamEnv X scope s1.heap.objs.size f c')) _ _
    have kp : ∀ b o, s1.heap.get? b = some o → h₁.get? b = some o := fun b o e => hsb.extBut b o (Nat.ne_of_lt (Heap.lt_size e)) (Heap.get?_push_of_some _ e)
    have J := lam_startP (E := XK0) (scope := scope) (f := f) (c' := c') (tk := s1.toks + (ps.zip us).length) I L hjs hN e0 hr.hd un rv hl hns kp
    refine PySem.W.kla_codeExpr (wpAny_mono ((hbody A outer s1 HZ (hr.deeper _)).run [] _ _ HZ Q J ht) (fun v s' hq => ?_) fun e s' hq => hq)
    obtain ⟨w', H', J', rv, q⟩ := hq
    exact ⟨w', H', J'.os, J'.bare, J'.base, J'.hok, rv, q⟩
where
  un_any {H H' : Hp} {h h' : Heap} (q : Kp H H' h h') {b : Addr} {o : Obj} (e : h.get? b = some o) (n : H b = none) : ∃ sl, h'.get? b = some { o with slots := sl } := q.any b o e n
end
theorem pe_cb {Z : Cx} {H0 : Hp} {h0 : Heap} {k i : Nat} {f : Addr} {sp : Sp} {a : Str} {p pos : Pos} {e : Expr} {es : List Expr} {t : TA} (C : CbOk Z.prog Z.w Z.K Z.mg Z.base H0 h0 f k sp) (hk : ∀ (pins : List (Addr × Obj)) (σ : L2.St) (H : Hp) (s : Shared), Inv Z pins σ H s → Kp H0 H h0 s.heap) (hr : Room k Z.A)
    (hN : Z.N[i]? = some a) (hv : Vis Z.env.scope a) (ha : PA Z (e :: es) t) (hd : (a == ("__debug__" : Str)) = false) (hcd : (a == ("__classdict__" : Str)) = false)
    (he : starEach (e :: es) Z.env = (false, eval e Z.env) :: starEach es Z.env) (hpl : (backTo pos (starEach es Z.env)).any (·.1) = false) :
    PE Z (.Call (.Name a p) (e :: es) [] pos) (fun σ H Q => σ[i]? = some (some (.ref f)) ∧ t σ H fun vs H1 => sp vs H1 Q XK0) := by
  refine ⟨fun pins s σ H Q I h => ?_⟩
  obtain ⟨hs, ht⟩ := h
  refine wpAny_Call_Name_kw (thn ((pe_var (pos := p) hN hv hd hcd).run pins s σ H (fun v H1 => v = .ref f ∧ H1 = H) I ⟨.ref f, hs, rfl, rfl⟩) fun u s1 ⟨v, H1, I1, r1, q1⟩ => ?_)
  obtain ⟨ev, eH⟩ := q1
  subst ev
  rw [eH] at I1
  obtain rfl : u = Value.ref f := r1
  refine PySem.W.callWith_F (first := []) (C.fn _ _ (hk _ _ _ _ I1)) (thn (ha.run pos pins s1 σ H _ I1 ht) fun us s2 ⟨vs, H2, I2, r, q⟩ => ⟨C.fn _ _ (hk _ _ _ _ I2), ?_⟩) he hpl
  show wpAny _ _ (call (.ref f) us) _ _ _
  refine wpAny_call (codeAny_mono (C.run Z.A Z.stack s2 H2 us vs Q hr I2.env0 (hk _ _ _ _ I2) r q) fun r s' hq => ?_)
  cases r with
  | error e =>
    obtain ⟨_, _, _, _, _, _, _, _, _, _, _, _, _, _, _, _, z⟩ := hq
  | ok fl =>
    cases fl with
    | ret u => exact I2.after hq
    | next => exact False.elim hq
    | brk => exact False.elim hq
    | cont => exact False.elim hq
end XV
set_option Elab.async false
set_option linter.all false
set_option autoImplicit false
set_option maxRecDepth 100000
namespace XV
open PySem PySem.Spec PyProof.Rows L2 LamX

structure LayLe (L L2 : Lay) : Prop where
  cls : L2.cls = L.cls
  fld : L2.fld = L.fld
  tabs : L2.tabs = L.tabs
  codes : ∀ p ∈ L.codes, p ∈ L2.codes
  lat : ∀ G r, LaterL L2 G r → LaterL L G r
theorem LayLe.refl (L : Lay) : LayLe L L := ⟨rfl, rfl, rfl, fun _ h => h, fun _ _ h => h⟩
theorem LayLe.trans {L L1 L2 : Lay} (a : LayLe L L1) (b : LayLe L1 L2) : LayLe L L2 := ⟨b.cls.trans a.cls, b.fld.trans a.fld, b.tabs.trans a.tabs, fun p h => b.codes p (a.codes p h), fun G r h => a.lat G r (b.lat G r h)⟩
section
variable {K : PySem.W.Frag} {L L2 : Lay} {G G2 : Hp} {r r2 : List Addr} {H H2 : Hp} {cs cs2 : List C}
mutual
theorem Rep.lay (e : L2.cls = L.cls) : ∀ {d : D} {v : V}, Rep K L G r d v → Rep K L2 G r d v
  | _, _, .non => .non
  | _, _, .bl b => .bl b
  | _, _, .int i => .int i
  | _, _, .str x => .str x
  | _, _, .lst h q => .lst h (Reps.lay e q)
  | _, _, .tup h q => .tup h (Reps.lay e q)
  | _, _, .dct h l n q => .dct h l n (Reps.lay e q)
  | _, _, .dctT h l n q => .dctT h l n (Reps.lay e q)
  | _, _, .obj h l q => .obj (by rw [e]; exact h) l (Reps.lay e q)
  | _, _, .err0 h => .err0 (by rw [e]; exact h)
  | _, _, .err1 h h2 q => .err1 (by rw [e]; exact h) h2 (Rep.lay e q)
  | _, _, .ref h => .ref h
  | _, _, .scr h => .scr h
theorem Reps.lay (e : L2.cls = L.cls) : ∀ {ds : List D} {vs : List V}, Reps K L G r ds vs → Reps K L2 G r ds vs
  | _, _, .nil => .nil
  | _, _, .cons h q => .cons (Rep.lay e h) (Reps.lay e q)
end
theorem CellR.lay (e : L2.cls = L.cls) {a : Addr} {k : C} (h : CellR K L G r H a k) : CellR K L2 G r H a k := by
  cases k with
  | lst ds => obtain ⟨vs, h1, h2⟩ := h; exact ⟨vs, h1, h2.lay e⟩
  | dct ks ds => obtain ⟨vs, h1, l, n, h2⟩ := h; exact ⟨vs, h1, l, n, h2.lay e⟩
  | ins c ks ds => obtain ⟨dx, vs, h1, l, h2⟩ := h; exact ⟨dx, vs, by rw [e]; exact h1, l, h2.lay e⟩
theorem Sep.fore (le : LayLe L L2) (s : Sep K L2 G r cs H) : Sep K L G r cs H := by
  refine ⟨s.same, s.nod, s.len, fun c k e => ?_, ⟨by rw [← le.tabs]; exact s.tabs.1, fun p hp => s.tabs.2 p (le.codes p hp)⟩, s.gt, le.lat _ _ s.lat⟩
  obtain ⟨a, h1, h2, h3⟩ := s.cell c k e
  exact ⟨a, h1, h2, h3.lay le.cls.symm⟩
theorem Sep.code_free (s : Sep K L G r cs H) {a : Addr} {q : Str} (h : H a = some (CodeO a q)) : a ∉ r := fun hm => by
  obtain ⟨i, hi, e⟩ := List.getElem_of_mem hm
  have hc : i < cs.length := by rw [← s.len]; exact hi
  obtain ⟨b, h1, h2, h3⟩ := s.cell i cs[i] (List.getElem?_eq_getElem hc)
  rw [List.getElem?_eq_getElem hi] at h1
  have : a = b := by rw [← e]; exact Option.some.inj h1
  subst this
  cases hk : cs[i] with
  | lst ds => rw [hk] at h3; obtain ⟨vs, q, _⟩ := h3; rw [h] at q; unfold CodeO at q; cases q
  | dct ks ds => rw [hk] at h3; obtain ⟨vs, q, _⟩ := h3; rw [h] at q; unfold CodeO at q; cases q
  | ins c ks ds => rw [hk] at h3; obtain ⟨dx, vs, q, _⟩ := h3; rw [h] at q; unfold CodeO at q; cases q
theorem Sep.back (le : LayLe L L2) (s : Sep K L2 G r cs H) (g : Go G r H G2 r2 H2) (s2 : Sep K L G2 r2 cs2 H2) : Sep K L2 G2 r2 cs2 H2 := by
  refine ⟨s2.same, s2.nod, s2.len, fun c k e => ?_, ⟨by rw [le.tabs]; exact s2.tabs.1, fun p hp => ?_⟩, s2.gt, s.lat.more g.g (let ⟨t, e, _⟩ := g.rr; ⟨t, e⟩)⟩
  · obtain ⟨a, h1, h2, h3⟩ := s2.cell c k e
    exact ⟨a, h1, h2, h3.lay le.cls⟩
  · have h := s.tabs.2 p hp
    exact g.keep _ _ h (s.code_free h) codeO_ne
theorem ExR.lay (le : LayLe L L2) {c : Nat} {ds : List D} {cls : Value} {dd : Option Addr} (h : ExR K L c ds cls dd G r H) : ExR K L2 c ds cls dd G r H := by
  obtain ⟨h1, d, vs, h2, h3, h4, h5⟩ := h
  exact ⟨by rw [le.cls]; exact h1, d, vs, h2, by rw [le.fld]; exact h3, by rw [le.fld]; exact h4, h5.lay le.cls⟩
theorem ExR.lay' (le : LayLe L L2) {c : Nat} {ds : List D} {cls : Value} {dd : Option Addr} (h : ExR K L2 c ds cls dd G r H) : ExR K L c ds cls dd G r H := by
  obtain ⟨h1, d, vs, h2, h3, h4, h5⟩ := h
  exact ⟨by rw [← le.cls]; exact h1, d, vs, h2, by rw [← le.fld]; exact h3, by rw [← le.fld]; exact h4, h5.lay le.cls.symm⟩
theorem KO.fore {E : XK} {o : Out D} {Q : VK} (le : LayLe L L2) (s : Sep K L2 G r cs H) (h : KO K L2 (Rep K L2) E G r H o Q) : KO K L (Rep K L) E G r H o Q := by
  cases o with
  | ok a cs' => exact fun v G' r' H' g s' q => h v G' r' H' g (s.back le g s') (q.lay le.cls)
  | exc c ds cs' => exact fun cls dd G' r' H' g s' q => h cls dd G' r' H' g (s.back le g s') (q.lay le)
  | bad => exact h
theorem KO.aft {E : XK} {o : Out D} {Q : VK} (le : LayLe L L2) (h : KO K L (Rep K L) E G r H o Q) : KO K L2 (Rep K L2) E G r H o Q := by
  cases o with
  | ok a cs' => exact fun v G' r' H' g s' q => h v G' r' H' g (s'.fore le) (q.lay le.cls.symm)
  | exc c ds cs' => exact fun cls dd G' r' H' g s' q => h cls dd G' r' H' g (s'.fore le) (q.lay' le)
  | bad => exact h
theorem KO.uncalm {E E' : XK} {o : Out D} {Q : VK} (h : KO K L (Rep K L) E G r H (XV.calm o) Q) : KO K L (Rep K L) E' G r H o Q := by
  cases o with
  | ok a cs' => exact h
  | exc c ds cs' => exact h.elim
  | bad => exact h
theorem spF_lay {f : List D → List C → Out D} (le : LayLe L L2) {vs : List V} {H : Hp} {Q : VK} {E : XK} (h : spF K L2 f vs H Q E) : spF K L f vs H Q E := by
  obtain ⟨G, r, cs, ds, s, q, h⟩ := h
  exact ⟨G, r, cs, ds, s.fore le, q.lay le.cls.symm, KO.fore le s h⟩
theorem spI_lay {c : Nat} {g : List D → List C → Out D} (le : LayLe L L2) {vs : List V} {H : Hp} {Q : VK} {E : XK} (h : spI K L2 c g vs H Q E) : spI K L c g vs H Q E := by
  obtain ⟨G, r, H1, cs, ds, x, dx, vs', e1, e2, e3, e4, e5, s, q, h⟩ := h
  exact ⟨G, r, H1, cs, ds, x, dx, vs', e1, e2, e3, e4, by rw [← le.cls]; exact e5, s.fore le, q.lay le.cls.symm, KO.fore le s h⟩
theorem envD_at : ∀ {env : List SV} {i : Nat} {d : D}, (envD env)[i]? = some (.d d) → env[i]? = some (.d d)
  | [], _, _, h => by simp [envD] at h
  | sv :: env, 0, d, h => by cases sv <;> simp [envD] at h ⊢; exact h
  | sv :: env, i + 1, d, h => by
    have : (envD env)[i]? = some (.d d) := by cases sv <;> simpa [envD] using h
    simpa using envD_at (i := i) (d := d) this
theorem envD_len : ∀ {env : List SV}, (envD env).length = env.length
  | [] => rfl
  | sv :: env => by cases sv <;> simp [envD, envD_len (env := env)]
theorem envD_kind : ∀ {env : List SV} {i : Nat} {sv : SV}, (envD env)[i]? = some sv → sv = .un ∨ ∃ d, sv = .d d
  | [], _, _, h => by simp [envD] at h
  | s0 :: env, 0, sv, h => by cases s0 <;> simp [envD] at h <;> subst h <;> first | exact .inl rfl | exact .inr ⟨_, rfl⟩
  | s0 :: env, i + 1, sv, h => envD_kind (env := env) (i := i) (by cases s0 <;> simpa [envD] using h)
structure EnvL (K : PySem.W.Frag) (L : Lay) (G : Hp) (r : List Addr) (env : List SV) (σ : List (Option V)) : Prop where
  len : env.length = σ.length
  get : ∀ (i : Nat) (sv : SV), env[i]? = some sv → sv = .un ∨ ∃ d v, sv = .d d ∧ σ[i]? = some (some v) ∧ Rep K L G r d v
theorem EnvL.env {env : List SV} {σ : List (Option V)} (h : EnvL K L G r env σ) (H : Hp) : EnvR K L G r H env σ := by
  refine ⟨h.len, fun i sv e => ?_, fun i j sv sv' a _ e1 o1 _ _ _ _ => ?_⟩
  · rcases h.get i sv e with rfl | ⟨d, v, rfl, h1, h2⟩
    · trivial
    · exact ⟨v, h1, h2⟩
  · rcases h.get i sv e1 with rfl | ⟨d, v, rfl, _, _⟩ <;> cases o1
theorem EnvL.of {env : List SV} {σ : List (Option V)} (h : EnvR K L G r H env σ) (e : Same G G2) (e2 : ∃ t, r2 = r ++ t) : EnvL K L G2 r2 (envD env) σ := by
  refine ⟨by rw [envD_len]; exact h.len, fun i sv q => ?_⟩
  rcases envD_kind q with rfl | ⟨d, rfl⟩
  · exact .inl rfl
  · obtain ⟨v, h1, h2⟩ := h.get i (.d d) (envD_at q)
    obtain ⟨t, rfl⟩ := e2
    exact .inr ⟨d, v, rfl, h1, h2.mono e⟩
theorem EnvL.put : ∀ {is : List Nat} {ds : List D} {vs : List V} {env : List SV} {σ : List (Option V)}, EnvL K L G r env σ → Reps K L G r ds vs → EnvL K L G r (putE env is ds) (putS σ is vs)
  | [], _, _, env, σ, h, q => by unfold putE putS; exact h
  | i :: is, _, _, env, σ, h, .nil => by unfold putE putS; exact h
  | i :: is, _, _, env, σ, h, .cons (d := d) (v := v) q1 q2 => by
    unfold putE putS
    refine EnvL.put ⟨by rw [List.length_set, List.length_set]; exact h.len, fun j sv e => ?_⟩ q2
    by_cases hj : i = j
    · subst hj
      have hi : i < env.length := by
        have := (List.getElem?_eq_some_iff.mp e).1
        simpa using this
      rw [List.getElem?_set_self hi] at e
      cases e
      exact .inr ⟨d, v, rfl, by rw [List.getElem?_set_self (by rw [← h.len]; exact hi)], q1⟩
    · rw [List.getElem?_set_ne hj] at e ⊢
      exact h.get j sv e
end
def KRun (P : Program) (w : World) (K : PySem.W.Frag) (mg : Str → Option Value) (base : Heap) (L : Lay) (k kc : Nat) (f : Addr) (run : (List D → List C → Out D) → List D → List C → Out D) : Prop :=
  ∀ (A : Around) (outer : List Env) (s : Shared) (H : Hp) (us : List Value) (vs : List V) (Q : VK) (E : XK) (b : Addr) (cb : List D → List C → Out D) (LB : Lay), Room k A → Env0 P w K mg base A outer s H → Vals vs us → LayLe L LB → LB.cb = some b →
    CbOk P w K mg base H s.heap b kc (spF K LB fun ds cs => calm (cb ds cs)) → (∃ G r cs ds, Sep K LB G r cs H ∧ Reps K LB G r ds vs ∧ KO K LB (Rep K LB) E G r H (run cb ds cs) Q) →
    codeAny (model P w) A (.call (.ref f) ⟨us ++ [.ref b], []⟩) (CR (L2.CX P w) outer P w H s Q E) s
def lamF (P : Cfg) (own : List Nat) (env : List SV) (body : T) : List D → List C → Out D := fun as cs2 => if as.length = own.length then evE P body (putE (envD env) own as) cs2 else .bad
section
variable {X : Cx} {L : Lay} {P : Cfg} {W : WX} {k kr n : Nat} {x : Str} {f : Addr} {p lpos pos : Pos} {e1 : Expr} {t1 tb : T} {params : Arguments} {body : Expr} {scope : Scope} {ps : List Str} {own : List Nat}
theorem sE_callK {c TP : Addr} (hg : Gl X x) (hm : X.mg x = some (.ref f)) (hk : PySem.W.keepIn X.K (.ref f) = true) (hdb : (x == ("__debug__" : Str)) = false) (F : KRun X.prog X.w X.K X.mg X.base L kr (k + 2) f fun cb ds cs => P.callK cb n ds cs) (hr : Room kr X.A) (tk : Takes X W)
    (h1 : PE X e1 (tE X.K L P W t1)) (hs1 : isStar e1 = false) (TB : TabB X.base X.mg c TP) (hcode : X.env.code = .ref c) (hmT : (TP, X.env.qual ++ "<lambda>") ∈ L.tabs) (hu : ∀ p ∈ L.tabs, p.1 = TP → p.2 = X.env.qual ++ "<lambda>")
    (LP : LamP X.env.scope scope ps) (hjs : own.map (fun j => X.N[j]?) = ps.map some) (hN : X.N.Nodup) (hdef : defaultsOf params X.env = ([], []))
    (hbind : ∀ (q : Str) (cl : List (Str × Addr)) (pm cv ctv : Value) (us : List Value), us.length = ps.length → bindArgs (PySem.W.kla_fn "<lambda>" q params body scope cl pm cv ctv) ⟨us, []⟩ = pure (ps.zip us))
    (hbody : ∀ (A : Around) (outer : List Env) (s : Shared) (H : Hp) (f c' : Addr), Room (k + 1) (A.deeper (lamEnv X scope s.heap.objs.size f c')) → PE (lamCx X A outer s H XK0 scope f c') body (tE X.K L P (fun cls d _ H => XK0 cls d H) tb)) :
    PE X (.Call (.Name x p) [e1, .Lambda params body scope lpos] [] pos) (tE X.K L P W (.callK n (.cons t1 .nil) own tb)) := by
  refine ⟨fun pins s σ H Q I ⟨G, r, cs, env, sp, er, h⟩ => ?_⟩
  refine wpAny_Call_Name_kw (ld_glob I hg hm ?_ hdb)
  refine PySem.W.callWith_K (h₀ := X.base) I.ok.mod.kin hk ?_ (star_ok hs1) (by rfl)
  rw [star_ok hs1]
  show wpAny _ _ (spliced ((false, eval e1 X.env) :: backTo pos (starEach [.Lambda params body scope lpos] X.env))) _ _ s
  unfold evE at h
  refine Calls.spliced_cons (thn (h1.run pins s σ H (fun v H1 => ∃ G1 r1 cs1 d, Go G r H G1 r1 H1 ∧ Sep X.K L G1 r1 cs1 H1 ∧ Rep X.K L G1 r1 d v ∧ KO X.K L (Rep X.K L) (wE W σ) G1 r1 H1 (P.callK (lamF P own env tb) n [d] cs1) Q) I ⟨G, r, cs, env, sp, er, ?_⟩) fun u1 s1 ⟨v1, H1, I1, rv1, G1, r1, cs1, d1, g1, sp1, rp1, h2⟩ => ?_)
  · unfold evTs at h
    cases e : evE P t1 env cs with
    | bad => rw [e] at h; exact h
    | exc c ds cs' => rw [e] at h; exact h
    | ok d cs' =>
      rw [e] at h
      simp only [Out.bind_ok, evTs] at h
      exact fun v G' r' H' g s' q => ⟨G', r', cs', d, g, s', q, h.go2 g⟩
  show wpAny _ _ (spliced ((false, eval (.Lambda params body scope lpos) X.env) :: backTo pos (starEach [] X.env))) _ _ s1
  refine Calls.spliced_cons (lam_make2 I1 TB hcode hmT hu sp1.tabs.1 hdef (LP.has I1.ok) fun fl c' pm' ctv H2 s2 I2 eN T2 hf hfn hfr hco => ?_)
  refine Calls.spliced_nil ⟨I2.kIn, ?_⟩
  have g2 := Go.tabs sp1 eN
  have sp2 := sp1.ext eN T2
  have er2 : EnvR X.K L G1 r1 H2 env σ := er.go (g1.trans g2)
  let LB : Lay := { L with codes := (c', X.env.qual ++ "<lambda>") :: L.codes, cb := some fl, G0 := G1, r0 := r1 }
  have le : LayLe L LB := ⟨rfl, rfl, rfl, fun p hp => List.mem_cons_of_mem _ hp, fun G' r' ⟨a, b⟩ => sp1.lat.more a b⟩
  have sp3 : Sep X.K LB G1 r1 cs1 H2 := by
    refine ⟨sp2.same, sp2.nod, sp2.len, fun c k e => ?_, ⟨sp2.tabs.1, fun p hp => ?_⟩, sp2.gt, Same.refl G1, [], by simp [LB]⟩
    · obtain ⟨a, h1, h2, h3⟩ := sp2.cell c k e
      exact ⟨a, h1, h2, CellR.lay (L := L) (L2 := LB) rfl h3⟩
    · rcases List.mem_cons.mp hp with rfl | hp
      · exact hco
      · exact sp2.tabs.2 p hp
  have CB := lam_cb (k := k + 1) I2 LP hjs hN hf hfn (hbind _ _ _ _ _) (fun A outer s H hr => hbody A outer s H fl c' hr)
  have CB2 : CbOk X.prog X.w X.K X.mg X.base H2 s2.heap fl (k + 2) (spF X.K LB fun ds cs => calm (lamF P own env tb ds cs)) := CB.imp fun vs H3 Q3 ⟨G3, r3, cs3, ds3, s3, q3, h3⟩ => by
    have hl : ds3.length = own.length := by
      unfold lamF at h3
      dsimp only at h3
      by_cases hl : ds3.length = own.length
      · exact hl
      · rw [if_neg hl] at h3; exact h3.elim
    have ljs : own.length = ps.length := by
      have := congrArg List.length hjs
      simpa using this
    refine ⟨by rw [← q3.length, hl, ljs], s3.tabs.2 _ List.mem_cons_self, ?_⟩
    obtain ⟨a, t, b⟩ := s3.lat
    refine ⟨G3, r3, cs3, putE (envD env) own ds3, s3.fore le, ((EnvL.of er2 a ⟨t, b⟩).put (q3.lay le.cls.symm)).env H3, ?_⟩
    have h3 := KO.fore le s3 h3
    unfold lamF at h3
    dsimp only at h3
    rw [if_pos hl] at h3
    exact KO.uncalm h3
  refine wpAny_call (codeAny_mono (F X.A X.stack s2 H2 [u1] [v1] Q (wE W σ) fl (lamF P own env tb) LB hr I2.env0 (.cons rv1 .nil) le rfl CB2 ⟨G1, r1, cs1, [d1], sp3, .cons (rp1.lay le.cls) .nil, KO.aft le (h2.go2 g2)⟩) fun r s' hq => ?_)
  cases r with
  | error e => exact passAt tk σ pins H2 s2 e s' I2 hq
  | ok fl =>
    cases fl with
    | ret u => exact I2.after hq
    | next => exact False.elim hq
    | brk => exact False.elim hq
    | cont => exact False.elim hq
end
end XV
set_option Elab.async false
set_option linter.all false
set_option autoImplicit false
set_option maxRecDepth 100000
namespace XV
open PySem PySem.Spec PyProof.Rows L2 LamX

structure CbX (X : Cx) (L : Lay) (P : Cfg) (kc : Nat) : Prop where
  ex : ∃ (b : Addr) (H0 : Hp) (h0 : Heap), L.cb = some b ∧ CbOk X.prog X.w X.K X.mg X.base H0 h0 b kc (spF X.K L fun ds cs => XV.calm (P.cb ds cs)) ∧ ∀ (pins : List (Addr × Obj)) (σ : L2.St) (H : Hp) (s : Shared), Inv X pins σ H s → Kp H0 H h0 s.heap
section
variable {K : PySem.W.Frag} {L : Lay} {G : Hp} {r : List Addr} {H : Hp}
theorem KO.calmE {E E' : XK} {o : Out D} {Q : VK} (h : KO K L (Rep K L) E G r H (XV.calm o) Q) : KO K L (Rep K L) E' G r H (XV.calm o) Q := by
  cases o with
  | ok a cs' => exact h
  | exc c ds cs' => exact h.elim
  | bad => exact h
theorem KO.calm0 {E E' : XK} {o : Out D} {Q : VK} (h : KO K L (Rep K L) E G r H (XV.calm o) Q) : KO K L (Rep K L) E' G r H o Q := by
  cases o with
  | ok a cs' => exact h
  | exc c ds cs' => exact h.elim
  | bad => exact h
end
section
variable {X : Cx} {L : Lay} {P : Cfg} {W : WX} {k kc kr n i : Nat} {x a : Str} {f : Addr} {p p2 pos : Pos} {e e1 e2 : Expr} {es : List Expr} {t1 t2 : T} {ts : Ts}
theorem sE_cbk (C : CbX X L P kc) (hr : Room kc X.A) (hN : X.N[i]? = some a) (hv : Vis X.env.scope a) (hd : (a == ("__debug__" : Str)) = false) (hcd : (a == ("__classdict__" : Str)) = false)
    (ha : PA X (e :: es) (tTs X.K L P W ts)) (he : starEach (e :: es) X.env = (false, eval e X.env) :: starEach es X.env) (hpl : (backTo pos (starEach es X.env)).any (·.1) = false) :
    PE X (.Call (.Name a p) (e :: es) [] pos) (tE X.K L P W (.cbk i ts)) := by
  obtain ⟨b, H0, h0, hb, C, hk⟩ := C.ex
  refine PE.imp (pe_cb C hk hr hN hv ha hd hcd he hpl) fun σ H Q ⟨G, r, cs, env, s, er, h⟩ => ?_
  unfold evE at h
  cases e0 : env[i]? with
  | none => rw [e0] at h; exact h.elim
  | some sv =>
    rw [e0] at h
    cases sv <;> first | exact h.elim | skip
    obtain ⟨b2, q1, q2⟩ := er.get i _ e0
    rw [hb] at q1
    cases q1
    exact ⟨q2, G, r, cs, env, s, er, KO.bind h fun ds cs1 _ vs G' r' H' go s' rs ko => ⟨G', r', cs1, ds, s', by simpa using rs, KO.calmE ko⟩⟩
theorem sE_callP (hg : Gl X x) (hm : X.mg x = some (.ref f)) (hk : PySem.W.keepIn X.K (.ref f) = true) (hdb : (x == ("__debug__" : Str)) = false) (F : KRun X.prog X.w X.K X.mg X.base L kr kc f fun cb ds cs => P.callK cb n ds cs) (hr : Room kr X.A) (tk : Takes X W)
    (C : CbX X L P kc) (hN : X.N[i]? = some a) (hv : Vis X.env.scope a) (hd : (a == ("__debug__" : Str)) = false) (hcd : (a == ("__classdict__" : Str)) = false) (h1 : PE X e1 (tE X.K L P W t1)) (hs1 : isStar e1 = false) :
    PE X (.Call (.Name x p) [e1, .Name a p2] [] pos) (tE X.K L P W (.callP n (.cons t1 .nil) i)) := by
  obtain ⟨b, H0, h0, hb, C, hkp⟩ := C.ex
  refine ⟨fun pins s σ H Q I ⟨G, r, cs, env, sp, er, h⟩ => ?_⟩
  unfold evE at h
  cases e0 : env[i]? with
  | none => rw [e0] at h; exact h.elim
  | some sv =>
    rw [e0] at h
    cases sv <;> first | exact h.elim | skip
    obtain ⟨b2, q1, q2⟩ := er.get i _ e0
    rw [hb] at q1
    cases q1
    refine wpAny_Call_Name_kw (ld_glob I hg hm ?_ hdb)
    refine PySem.W.callWith_K (h₀ := X.base) I.ok.mod.kin hk (thn ((pa_cons h1 (pa_cons (pe_var (pos := p2) hN hv hd hcd) pa_nil) (star_ok hs1)).run pos pins s σ H (fun vs H1 => ∃ v1, vs = [v1, .ref b] ∧ ∃ G1 r1 cs1 d, Sep X.K L G1 r1 cs1 H1 ∧ Rep X.K L G1 r1 d v1 ∧ KO X.K L (Rep X.K L) (wE W σ) G1 r1 H1 (P.callK P.cb n [d] cs1) Q) I ⟨G, r, cs, env, sp, er, ?_⟩) fun us s1 ⟨vs, H1, I1, rv, v1, ev, G1, r1, cs1, d1, sp1, rp1, h2⟩ => ⟨I1.kIn, ?_⟩) (star_ok hs1) (by rfl)
    · unfold evTs at h
      cases e : evE P t1 env cs with
      | bad => rw [e] at h; exact h
      | exc c ds cs' => rw [e] at h; exact h
      | ok d cs' =>
        rw [e] at h
        simp only [Out.bind_ok, evTs] at h
        exact fun v G' r' H' g s' q => ⟨.ref b, q2, v, rfl, G', r', cs', d, s', q, h.go2 g⟩
    · subst ev
      obtain ⟨u1, rfl, r1'⟩ : ∃ u1, us = [u1, .ref b] ∧ RelV v1 u1 := by
        cases rv with
        | cons ra rb =>
          cases rb with
          | cons rc rd =>
            cases rd
            cases (show _ = Value.ref b from rc)
            exact ⟨_, rfl, ra⟩
      show wpAny _ _ (call (.ref f) [u1, .ref b]) _ _ _
      refine wpAny_call (codeAny_mono (F X.A X.stack s1 H1 [u1] [v1] Q (wE W σ) b P.cb L hr I1.env0 (.cons r1' .nil) (LayLe.refl L) hb (C.later (hkp _ _ _ _ I1)) ⟨G1, r1, cs1, [d1], sp1, .cons rp1 .nil, h2⟩) fun r s' hq => ?_)
      cases r with
      | error e => exact passAt tk σ pins H1 s1 e s' I1 hq
      | ok fl =>
        cases fl with
        | ret u => exact I1.after hq
        | next => exact False.elim hq
        | brk => exact False.elim hq
        | cont => exact False.elim hq
theorem fnAt_in {K : PySem.W.Frag} {h : Heap} {f : Addr} (hf : PySem.W.fnIn K f = true) (kin : K.In h) {b : Addr} {H H1 : Hp} {h1 : Heap} (n : H f = none) (q : Kp H H1 h h1) : PySem.W.FnAt f h1 := by
  unfold PySem.W.fnIn at hf
  cases e : K.lookup f with
  | none => rw [e] at hf; cases hf
  | some o =>
    rw [e] at hf
    obtain ⟨oc, od, dt, sl⟩ := o
    cases dt <;> first | cases hf | skip
    obtain ⟨sl2, q2⟩ := q.any f _ (kin f _ e) n
    exact ⟨_, _, _, _, q2⟩
theorem cb_def {fg : Addr} {fd : FuncData} {ps : List Str} {pins : List (Addr × Obj)} {σ : L2.St} {H : Hp} {s : Shared} {m : Nat} (I : Inv X pins σ H s) (F : FnOk X.prog X.w X.K X.mg X.base (L2.CX X.prog X.w) k fg fd ps (spF X.K L (P.call m))) (hf : PySem.W.fnIn X.K fg = true) (hb : Binds X.K fd ps []) {LB : Lay} (le : LayLe L LB) :
    CbOk X.prog X.w X.K X.mg X.base H s.heap fg k (spF X.K LB fun ds cs => XV.calm (P.call m ds cs)) := by
  have nf : H fg = none := by
    have hf2 := hf
    unfold PySem.W.fnIn at hf2
    cases e : X.K.lookup fg with
    | none => rw [e] at hf2; cases hf2
    | some o => exact (I.bs fg o (I.ok.mod.kin fg o e)).2
  refine ⟨fun H1 h1 q => fnAt_in (b := fg) hf I.kIn nf q, fun A outer s1 H1 us vs Q hr e0 q rv h => ?_⟩
  obtain ⟨G, r, cs, ds, s3, q3, h3⟩ := spF_lay le h
  have h4 : spF X.K L (P.call m) vs H1 Q XK0 := ⟨G, r, cs, ds, s3, q3, KO.calm0 h3⟩
  have hl : us.length = ps.length := by rw [← rv.length]; exact F.len _ _ _ _ h4
  have kin : X.K.In s1.heap := e0.mod.kin.keeps fun b o e => (e0.bs b o e).1
  have hb2 := hb s1 us kin (by simpa using hl)
  rw [List.append_nil] at hb2
  exact F.run A outer s1 H1 ⟨us, []⟩ us vs Q XK0 hr e0 hb2 rv h4
theorem sE_callF {y : Str} {fg : Addr} {fd : FuncData} {ps : List Str} {m : Nat} (hg : Gl X x) (hm : X.mg x = some (.ref f)) (hk : PySem.W.keepIn X.K (.ref f) = true) (hdb : (x == ("__debug__" : Str)) = false) (F : KRun X.prog X.w X.K X.mg X.base L kr kc f fun cb ds cs => P.callK cb n ds cs) (hr : Room kr X.A) (tk : Takes X W)
    (hgy : Gl X y) (hmy : X.mg y = some (.ref fg)) (hdy : (y == ("__debug__" : Str)) = false) (FG : FnOk X.prog X.w X.K X.mg X.base (L2.CX X.prog X.w) k fg fd ps (spF X.K L (P.call m))) (hkc : k ≤ kc) (hfg : PySem.W.fnIn X.K fg = true) (hbg : Binds X.K fd ps [])
    (h1 : PE X e1 (tE X.K L P W t1)) (hs1 : isStar e1 = false) (h2 : PE X e2 (tE X.K L P W t2)) (hs2 : isStar e2 = false) :
    PE X (.Call (.Name x p) [e1, e2, .Name y p2] [] pos) (tE X.K L P W (.callF n (.cons t1 (.cons t2 .nil)) m)) := by
  refine ⟨fun pins s σ H Q I ⟨G, r, cs, env, sp, er, h⟩ => ?_⟩
  unfold evE at h
  refine wpAny_Call_Name_kw (ld_glob I hg hm ?_ hdb)
  have hpl : (backTo pos (starEach [e2, .Name y p2] X.env)).any (·.1) = false := by rw [star_ok hs2]; rfl
  refine PySem.W.callWith_K (h₀ := X.base) I.ok.mod.kin hk (thn ((pa_cons h1 (pa_cons h2 (pa_cons (pe_glob (v := .ref fg) (pos := p2) hgy hmy rfl hdy) pa_nil) (star_ok hs2)) (star_ok hs1)).run pos pins s σ H (fun vs H1 => ∃ v1 v2, vs = [v1, v2, .ref fg] ∧ ∃ G1 r1 cs1 d d2, Sep X.K L G1 r1 cs1 H1 ∧ Rep X.K L G1 r1 d v1 ∧ Rep X.K L G1 r1 d2 v2 ∧ KO X.K L (Rep X.K L) (wE W σ) G1 r1 H1 (P.callK (P.call m) n [d, d2] cs1) Q) I ⟨G, r, cs, env, sp, er, ?_⟩) fun us s1 ⟨vs, H1, I1, rv, v1, v2, ev, G1, r1, cs1, d1, d2, sp1, rp1, rp2, h2⟩ => ⟨I1.kIn, ?_⟩) (star_ok hs1) hpl
  · simp only [evTs] at h
    cases e : evE P t1 env cs with
    | bad => rw [e] at h; exact h
    | exc c ds cs' => rw [e] at h; exact h
    | ok d cs' =>
      rw [e] at h
      simp only [Out.bind_ok] at h
      intro v G' r' H' g s' q
      refine ⟨G', r', cs', env, s', er.go g, ?_⟩
      have h := h.go2 g
      cases e3 : evE P t2 env cs' with
      | bad => rw [e3] at h; exact h
      | exc c ds cs2 => rw [e3] at h; exact h
      | ok d2 cs2 =>
        rw [e3] at h
        simp only [Out.bind_ok] at h
        exact fun v2 G2 r2 H2 g2 s2 q2 => ⟨v, v2, rfl, G2, r2, cs2, d, d2, s2, q.go g2, q2, h.go2 g2⟩
  · subst ev
    obtain ⟨u1, u2, rfl, r1', r2'⟩ : ∃ u1 u2, us = [u1, u2, .ref fg] ∧ RelV v1 u1 ∧ RelV v2 u2 := by
      cases rv with
      | cons ra rb =>
        cases rb with
        | cons rc rd =>
          cases rd with
          | cons re rf =>
            cases rf
            cases (show _ = Value.ref fg from re)
            exact ⟨_, _, rfl, ra, rc⟩
    show wpAny _ _ (call (.ref f) [u1, u2, .ref fg]) _ _ _
    let LB : Lay := { L with cb := some fg }
    have le : LayLe L LB := ⟨rfl, rfl, rfl, fun _ h => h, fun _ _ h => h⟩
    have sp2 : Sep X.K LB G1 r1 cs1 H1 := by
      refine ⟨sp1.same, sp1.nod, sp1.len, fun c k e => ?_, sp1.tabs, sp1.gt, sp1.lat⟩
      obtain ⟨a, h1, h2, h3⟩ := sp1.cell c k e
      exact ⟨a, h1, h2, CellR.lay (L := L) (L2 := LB) rfl h3⟩
    refine wpAny_call (codeAny_mono (F X.A X.stack s1 H1 [u1, u2] [v1, v2] Q (wE W σ) fg (P.call m) LB hr I1.env0 (.cons r1' (.cons r2' .nil)) le rfl ((cb_def I1 FG hfg hbg le).mono hkc) ⟨G1, r1, cs1, [d1, d2], sp2, .cons (rp1.lay le.cls) (.cons (rp2.lay le.cls) .nil), KO.aft le h2⟩) fun r s' hq => ?_)
    cases r with
    | error e => exact passAt tk σ pins H1 s1 e s' I1 hq
    | ok fl =>
      cases fl with
      | ret u => exact I1.after hq
      | next => exact False.elim hq
      | brk => exact False.elim hq
      | cont => exact False.elim hq
end
end XV
set_option Elab.async false
set_option linter.all false
set_option autoImplicit false
set_option maxRecDepth 100000
namespace XV
open PySem PySem.Spec PyProof.Rows L2
section
variable {X : Cx} {a D dd : Addr} {fs : List (Str × V)} {e : Expr} {te : TE} {pos : Pos}
theorem inst_atT {pins : List (Addr × Obj)} {s : Shared} {σ : L2.St} {H : Hp} (I : Inv X pins σ H s) (ea : H a = some (exo a D (some dd))) (ed : H dd = some (exd dd fs)) :
    ∃ (oe od : Obj) (mA : Str → Option Value), PySem.W.InstAt s.heap a oe D (some od) ∧ (∀ n, PySem.W.lookIn n od = some (mA n)) ∧ ∀ n, RelO (fs.lookup n) (mA n) := by
  obtain ⟨t1, ho⟩ := exo_at I.hok ea
  obtain ⟨mA, hns, hr⟩ := exd_at I.hok ed
  obtain ⟨od, hd, hl⟩ := lookIn_ns hns
  exact ⟨_, od, mA, ⟨ho, rfl, rfl, hd⟩, hl, hr⟩
theorem call_isT (C : ExcC X.K D) : CallR X (.builtin "isinstance") (fun xs H Q => ∃ (a dd C : Addr) (b : Bool) (fs : List (Str × V)), xs = [.ref a, .ref C] ∧ H a = some (exo a D (some dd)) ∧ H dd = some (exd dd fs) ∧ PySem.W.kitOne X.K (.ref D) (.ref C) = some b ∧ Q (.bl b) H) := by
  intro pins s σ H xs us Q I r h
  obtain ⟨a, dd, c, b, fs, rfl, ea, ed, e, q⟩ := h
  obtain ⟨u1, u2, rfl, r1, r2⟩ := vals2 r
  cases (show u1 = Value.ref a from r1)
  cases (show u2 = Value.ref c from r2)
  obtain ⟨oe, od, mA, J, _, _⟩ := inst_atT I ea ed
  obtain ⟨cd, hc, _⟩ := PySem.W.any_some C.hd
  exact PySem.W.kia_one (PySem.W.kitx_exc (by rw [hc]; rfl) C.hg C.hk C.hs C.ha C.hn C.ht C.hm) I.kIn J e (fun z => nomatch z) fun tk => ⟨.bl b, H, I.kept (t' := tk) fun _ _ z => z, rfl, q⟩
theorem pe_xfT {n : Str} (T : XfC X.K D) (hno : PySem.W.findIn X.K (.ref D) n = some none) (he : PE X e te) (hb : attributeBase e n X.env (eval e X.env) = eval e X.env) :
    PE X (.Attribute e n pos) (fun σ H Q => te σ H fun x H1 => ∃ (a dd : Addr) (fs : List (Str × V)) (v : V), x = .ref a ∧ H1 a = some (exo a D (some dd)) ∧ H1 dd = some (exd dd fs) ∧ fs.lookup n = some v ∧ Q v H1) := by
  refine ⟨fun pins s σ H Q I h => ?_⟩
  refine attr_of hb (thn (he.run pins s σ H _ I h) fun u s1 hh => ?_)
  obtain ⟨x, H1, I1, rx, a, dd, fs, v, ex, ea, ed, l, q⟩ := hh
  subst ex
  obtain rfl : u = Value.ref a := rx
  obtain ⟨oe, od, mA, J, hl, hr⟩ := inst_atT I1 ea ed
  obtain ⟨u, hu, ru⟩ := RelO.some_of (v := v) (o := mA n) (by rw [← l]; exact hr n)
  exact HandSPX.exc_get I1.kIn J T.ga T.gg T.exC (PySem.W.findObj_own T.hdC hno rfl (by rw [hl, hu])) (handed_of ru) ⟨v, H1, I1.tok _, ru, q⟩
end
section
variable {CX : CXT} {X : Cx} {x : Str} {C fI : Addr} {k : Nat} {fd : FuncData} {ps : List Str} {sp : Sp} {e : Expr} {es : List Expr} {ta : TA} {p pos : Pos}
def tOex (C : Addr) (sp : Sp) (ta : TA) : TE := fun σ H Q => ta σ H fun vs H1 => vs.length ≤ 1000 ∧ ∀ a, H1 a = none → sp (.ref a :: vs) (upd H1 a (exo a C none)) (fun v H2 => v = .non ∧ Q (.ref a) H2) (fun _ _ _ => False)
theorem pe_oex (T : OexC X.K C) (iC : PySem.W.findIn X.K (.ref C) "__init__" = some (some (.ref fI))) (tI : PySem.W.typeIn X.K (.ref fI) = some (.type "function"))
    (F1 : FnOk X.prog X.w X.K X.mg X.base CX k fI fd ps sp) (hr : Room (k + 1) X.A) (hb : Binds X.K fd ps []) (hx : Passes CX X (fun _ _ _ => False)) (hg : Gl X x) (hm : X.mg x = some (.ref C)) (ha : PA X (e :: es) ta)
    (hdb : (x == ("__debug__" : Str)) = false) (he : starEach (e :: es) X.env = (false, eval e X.env) :: starEach es X.env) (hpl : (backTo pos (starEach es X.env)).any (·.1) = false) :
    PE X (.Call (.Name x p) (e :: es) [] pos) (tOex C sp ta) := by
  refine ⟨fun pins s σ H Q I h => ?_⟩
  obtain ⟨nm, q, N, bs, bm, sn, sub, ab, col, dd, k0, k1, k2, k3, k5, hC, hbm⟩ := T.cls
  refine wpAny_Call_Name_kw (ld_glob I hg hm ?_ hdb)
  refine PySem.W.callWith_K (h₀ := X.base) I.ok.mod.kin T.kC (thn (ha.run pos pins s σ H _ I h) fun us s1 ⟨vs, H1, I1, r1, hz, q1⟩ => ⟨I1.kIn, ?_⟩) he hpl
  show wpAny _ _ (call (.ref C) us) _ _ _
  obtain ⟨hp, g, dr, tk, os⟩ := s1
  have hsz : hp.objs.size ≤ hp.objs.size + 1 := Nat.le_succ _
  have hn : H1 (hp.objs.size + 1) = none := I1.hok.fresh hsz
  have hq := q1 (hp.objs.size + 1) hn
  have kk : ∀ b o, hp.get? b = some o → ((hp.push (PySem.W.kdv_tup us)).push (PySem.HandSPX.excO C hp.objs.size)).get? b = some o := fun b o e => Heap.get?_push_of_some _ (Heap.get?_push_of_some _ e)
  have hget : ((hp.push (PySem.W.kdv_tup us)).push (PySem.HandSPX.excO C hp.objs.size)).get? (hp.objs.size + 1) = some (PySem.HandSPX.excO C hp.objs.size) := by heap_get
  have I2 : Inv X pins σ (upd H1 (hp.objs.size + 1) (exo (hp.objs.size + 1) C none)) ⟨(hp.push (PySem.W.kdv_tup us)).push (PySem.HandSPX.excO C hp.objs.size), g, dr, tk, os⟩ :=
    I1.laid (t' := tk) (a := hp.objs.size + 1) (o := exo (hp.objs.size + 1) C none) (h' := (hp.push (PySem.W.kdv_tup us)).push (PySem.HandSPX.excO C hp.objs.size)) kk hsz (exo_ok hget)
  have r2 : Vals (V.ref (hp.objs.size + 1) :: vs) (Value.ref (hp.objs.size + 1) :: us) := .cons rfl r1
  have hl : (Value.ref (hp.objs.size + 1) :: us ++ []).length = ps.length := by
    have e := r2.length
    rw [F1.len _ _ _ _ hq] at e
    simpa using e.symm
  have hus : us.length ≤ sizeLine := by
    rw [← Paired.length r1, sizeLine_eq]
    omega
  refine wpAny_call (PySem.HandSPX.call_own F.excBase_ValueError (fun Y => PySem.HandSPX.refsVE_contains Y bm hbm) (I1.kIn _ _ hC) (PySem.W.looks_findIn I1.kIn iC) (fun self => PySem.W.bind_fn I1.kIn self tI) hus
    (codeAny_mono (F1.run _ X.stack _ _ ⟨Value.ref (hp.objs.size + 1) :: us, []⟩ (Value.ref (hp.objs.size + 1) :: us) _ _ (fun _ _ _ => False) (hr.make C us []) (I2.env0.make C us []) (by simpa using hb _ (Value.ref (hp.objs.size + 1) :: us) I2.kIn hl) r2 hq) fun r s' hq' => ?_))
  cases r with
  | error er => exact hx pins σ _ _ er s' I2 hq'
  | ok fl =>
    cases fl with
    | ret u =>
      obtain ⟨v, H', I3, rv, ev, q3⟩ := I2.after hq'
      subst ev
      exact ⟨rv, ⟨V.ref (hp.objs.size + 1), H', I3, rfl, q3⟩⟩
    | next => exact False.elim hq'
    | brk => exact False.elim hq'
    | cont => exact False.elim hq'
end
end XV
set_option Elab.async false
set_option linter.all false
set_option maxRecDepth 100000
set_option maxHeartbeats 4000000
namespace PySem
namespace HandSPX
open Builtin Builtin.ObjectAttr
section
variable {M : Model} {A : Around} {E : Value → Shared → Prop} {h : Heap} {g : Array GenState} {d : Drawn} {t : Nat} {os : OsState}
variable {nm q : Str} {C N : Addr} {bs bm bmB : List Value} {hdct : Bool} {sn : List Str} {sub : List Value} {ab : Bool} {col : Option Bool} {dd : Option Addr} {k0 k1 k2 k3 k5 : Option Value} {B newId initId : String}
theorem check_kw (F : ExcBaseFacts B newId initId bmB)
    (hT : ∀ X : String, bm.contains (.type X) = bmB.contains (.type X))
    {rest : List Value} {n : Str} {v : Value} {Q : Unit → Shared → Prop}
    (hC : h.get? C = some (excClassObj nm q C N bs bm hdct sn sub ab col dd k0 k1 k2 k3 k5 newId))
    (hq : Q () ⟨h, g, d, t, os⟩) :
    wpAny M A (checkBuiltinCall newId ⟨.ref C :: rest, [(n, v)]⟩) Q E ⟨h, g, d, t, os⟩ := by
  have c1 : (Value.ref C :: bm).contains (.type B) = true := by
    rw [List.contains_cons, hT, F.hasB, Bool.or_true]
  have c2 := F.noStar
  simp only [checkBuiltinCall, F.newKind, F.newSplit, F.newRow]
  repeat (first
    | refine wpAny_loadPart_at hC ?_
    | (refine wpAny_isSubtype_exc hC ?_; rw [c1])
    | refine wpAny_staticBase_exc hC ?_
    | refine wpAny_madeBy_exc hC ?_
    | simp only [bne_self_eq_false, Bool.false_eq_true, if_false]
    | wp_step)
  exact hq
end
section
variable {prog : Program} {w : World} {A : Around} {E : Value → Shared → Prop} {R : Result → Shared → Prop} {h : Heap}
variable {g : Array GenState} {d : Drawn} {t : Nat} {os : OsState}
variable {nm q : Str} {C N : Addr} {bs bm bmB : List Value} {hdct : Bool} {sn : List Str} {sub : List Value} {ab : Bool}
variable {col : Option Bool} {dd : Option Addr} {k0 k1 k2 k3 k5 : Option Value} {B newId initId : String}
variable {n : Str} {v : Value}
abbrev bornH (h : Heap) (C : Addr) : Heap := (h.push (W.kdv_tup [])).push (excO C h.objs.size)
theorem new_kw (F : ExcBaseFacts B newId initId bmB)
    (hT : ∀ X : String, bm.contains (.type X) = bmB.contains (.type X))
    (hC : h.get? C = some (excClassObj nm q C N bs bm hdct sn sub ab col dd k0 k1 k2 k3 k5 newId))
    (hq : R (.ok (.ret (.ref (h.objs.size + 1)))) ⟨bornH h C, g, d, t, os⟩) :
    codeAny (model prog w) A (.builtin newId ⟨[.ref C], [(n, v)]⟩) R ⟨h, g, d, t, os⟩ := by
  have c0 := F.ends
  have c1 : (Value.ref C :: bm).contains (.type B) = true := by
    rw [List.contains_cons, hT, F.hasB, Bool.or_true]
  have c2 : (Value.ref C :: bm).contains (.type "AttributeError") = false := by
    rw [List.contains_cons, hT, F.noAttr]; rfl
  have c3 : (Value.ref C :: bm).contains (.type "NameError") = false := by
    rw [List.contains_cons, hT, F.noName]; rfl
  have hrest : ([] : List Value).length ≤ sizeLine := Nat.zero_le _
  refine codeAny_builtinAt F.entry ?_
  unfold Builtin.«BaseException.__new__»
  refine wpAt_bind ?_
  show wpAt _ _ _ (stack >>= _) _ _ _
  refine wpAt_bind (wpAt_stack fun p below => wpAt_of_wpAny ?_)
  wp_walk
  refine wpAt_of_wpAny ?_
  rw [F.owner]
  repeat (first
    | with_reducible refine wpAny_madeHere_exc F.canon hC ?_
    | with_reducible refine wpAny_loadPart_at hC ?_
    | (with_reducible refine wpAny_isSubtype_exc hC ?_; first | rw [c1] | rw [c2] | rw [c3])
    | wp_step)
  show R _ _
  rw [Heap.size_push]
  exact hq
theorem typecall_kw (F : ExcBaseFacts B newId initId bmB)
    (hT : ∀ X : String, bm.contains (.type X) = bmB.contains (.type X)) {fI : Addr} {Q : Fin → Shared → Prop}
    (hC : h.get? C = some (excClassObj nm q C N bs bm hdct sn sub ab col dd k0 k1 k2 k3 k5 newId))
    (hi : W.Looks (model prog w) h (typeLookup (.ref C) "__init__") (some (.ref fI)))
    (hb : ∀ self, W.Looks (model prog w) h (bindSpecial (.ref fI) self) (.ref fI, [self]))
    (hq : codeAny (model prog w) A (.call (.ref fI) ⟨[.ref (h.objs.size + 1)], [(n, v)]⟩)
      (fun r s' => match r with
        | .ok (.ret v) => v = .none ∧ Q (.done (.ret (.ref (h.objs.size + 1)))) s'
        | .ok _ => False
        | .error e => E e s') ⟨bornH h C, g, d, t, os⟩) :
    wpAny (model prog w) A (Builtin.«type.__call__» ⟨[.ref C], [(n, v)]⟩) Q E ⟨h, g, d, t, os⟩ := by
  repeat (first
    | with_reducible refine wpAny_loadPart_at hC ?_
    | with_reducible refine wpAny_madeBy_exc hC ?_
    | wp_step)
  refine codeAny_call_builtin_code (Code.quiet_builtin _ F.quiet) (check_kw F hT hC ?_)
  refine new_kw F hT hC ?_
  show wpAny _ _ _ _ _ _
  have kk : ∀ b o, h.get? b = some o → (bornH h C).get? b = some o := fun b o e =>
    Heap.get?_push_of_some _ (Heap.get?_push_of_some _ e)
  have c1 := kk _ _ hC
  have c2 : (bornH h C).get? (h.objs.size + 1) = some (excO C h.objs.size) := by heap_get
  have c3 : (Value.ref C :: bm).contains (.ref C) = true := by simp
  have c4 := hi.keeps kk
  have c5 := (hb (.ref (h.objs.size + 1))).keeps kk
  unfold isInstance
  repeat (first
    | with_reducible refine wpAny_loadPart_at c2 ?_
    | (with_reducible refine wpAny_isSubtype_exc c1 ?_; rw [c3])
    | wp_step)
  show wpAny _ _ (typeLookup (.ref C) _) _ _ _
  refine c4.at ?_
  refine wpAny_holding (wpAny_bind (c5.at ?_))
  refine wpAny_bind (wpAny_call (codeAny_mono hq fun r s' z => ?_))
  rcases r with e | (v | _ | _ | _) <;> first | exact z | exact z.elim | skip
  obtain ⟨rfl, z⟩ := z
  first
    | exact wpAny_pure (wpAny_pure z)
    | (wp_walk; exact z)
theorem call_kw (F : ExcBaseFacts B newId initId bmB)
    (hT : ∀ X : String, bm.contains (.type X) = bmB.contains (.type X)) {fI : Addr}
    (hC : h.get? C = some (excClassObj nm q C N bs bm hdct sn sub ab col dd k0 k1 k2 k3 k5 newId))
    (hi : W.Looks (model prog w) h (typeLookup (.ref C) "__init__") (some (.ref fI)))
    (hb : ∀ self, W.Looks (model prog w) h (bindSpecial (.ref fI) self) (.ref fI, [self]))
    (hq : codeAny (model prog w) (A.under (.builtin "type.__call__" ⟨[.ref C], [(n, v)]⟩))
      (.call (.ref fI) ⟨[.ref (h.objs.size + 1)], [(n, v)]⟩) (W.InitBack (h.objs.size + 1) R) ⟨bornH h C, g, d, t, os⟩) :
    codeAny (model prog w) A (.call (.ref C) ⟨[], [(n, v)]⟩) R ⟨h, g, d, t, os⟩ := by
  have c1 := tc_lookup
  have c2 := tc_bind (.ref C)
  have c3 : (⟨h, g, d, t, os⟩ : Shared).TypeIs (.ref C) "type" := ⟨_, hC, rfl⟩
  refine codeAny_of_tree ?_
  show wpAny _ _ (callAny (.ref C) _) _ _ _
  repeat (any_goals (first
    | assumption
    | with_reducible refine wpAny_loadPart_at hC ?_
    | wp_step))
  refine ⟨rfl, ?_⟩
  refine codeAny_call_builtin_at (Code.quiet_builtin _ (by decide +kernel)) entry_typeCall ?_
  refine wpAny_check_type_call_sub hC (typecall_kw F hT hC hi hb ?_)
  refine codeAny_mono hq fun r s' z => ?_
  rcases r with e | (v | _ | _ | _) <;> exact z
end
end HandSPX
end PySem
namespace XV
open PySem PySem.Spec PyProof.Rows L2
section
variable {CX : CXT} {X : Cx} {x n : Str} {C fI : Addr} {k : Nat} {fd : FuncData} {ps : List Str} {sp : Sp} {e : Expr} {kws : List Keyword} {tk : TA} {p pos : Pos}
def g1 {α : Type} : List α → List α → List α
  | [a], [b] => [a, b]
  | _, _ => []
def tOexK (C : Addr) (sp : Sp) (tk : TA) : TE := fun σ H Q => tk σ H fun zs H1 => zs.length = 1 ∧ ∀ a, H1 a = none →
  sp (.ref a :: zs) (upd H1 a (exo a C none)) (fun v H2 => v = .non ∧ Q (.ref a) H2) (fun _ _ _ => False)
theorem pe_oexK (T : OexC X.K C)
    (iC : PySem.W.findIn X.K (.ref C) "__init__" = some (some (.ref fI)))
    (tI : PySem.W.typeIn X.K (.ref fI) = some (.type "function"))
    (F1 : FnOk X.prog X.w X.K X.mg X.base CX k fI fd ps sp)
    (hr : Room (k + 1) X.A)
    (hb : KBinds X.K fd ps [n] g1 g1)
    (hx : Passes CX X (fun _ _ _ => False))
    (hg : Gl X x) (hm : X.mg x = some (.ref C)) (hkw : PK X kws tk)
    (hdb : (x == ("__debug__" : Str)) = false)
    (hall : (backToKw pos (keywordEach kws X.env)).all (·.1.isSome) = true)
    (hks : (backToKw pos (keywordEach kws X.env)).filterMap (·.1) = [n])
    (hpl : ((backTo pos (starEach [] X.env)).any (·.1) || (backToKw pos (keywordEach kws X.env)).any (·.1.isNone)) = false) :
    PE X (.Call (.Name x p) [] kws pos) (tOexK C sp tk) := by
  refine ⟨fun pins s σ H Q I h => ?_⟩
  obtain ⟨nm, q, N, bs, bm, sn, sub, ab, col, dd, k0, k1, k2, k3, k5, hC, hbm⟩ := T.cls
  refine wpAny_Call_Name_kw (ld_glob I hg hm ?_ hdb)
  refine PySem.W.callWith_KW0 (h₀ := X.base) I.ok.mod.kin T.kC hall ?_ hpl
  refine thn (hkw.run pos pins s σ H _ I h) fun ws s2 ⟨zs, H2, I2, rz, hz, q2⟩ => ⟨I2.kIn, ?_⟩
  rw [hks]
  obtain ⟨v, rfl⟩ : ∃ v, ws = [v] := by
    have := rz.length
    rw [hz] at this
    match ws, this with
    | [v], _ => exact ⟨v, rfl⟩
  show wpAny _ _ (call (.ref C) [] [(n, v)]) _ _ _
  obtain ⟨hp, g, dr, tk2, os⟩ := s2
  have le1 : hp.objs.size ≤ hp.objs.size + 1 := Nat.le_succ _
  have no1 : H2 (hp.objs.size + 1) = none := I2.hok.fresh le1
  have sp1 := q2 (hp.objs.size + 1) no1
  have keep : ∀ b o, hp.get? b = some o → (PySem.HandSPX.bornH hp C).get? b = some o := fun b o e =>
    Heap.get?_push_of_some _ (Heap.get?_push_of_some _ e)
  have at1 : (PySem.HandSPX.bornH hp C).get? (hp.objs.size + 1) = some (PySem.HandSPX.excO C hp.objs.size) := by heap_get
  have I3 : Inv X pins σ (upd H2 (hp.objs.size + 1) (exo (hp.objs.size + 1) C none)) ⟨PySem.HandSPX.bornH hp C, g, dr, tk2, os⟩ :=
    I2.laid (t' := tk2) keep le1 (exo_ok at1)
  have rr : Vals (V.ref (hp.objs.size + 1) :: zs) [Value.ref (hp.objs.size + 1), v] := .cons rfl rz
  have ll : [Value.ref (hp.objs.size + 1), v].length = ps.length := by
    rw [← rr.length]
    exact F1.len _ _ _ _ sp1
  refine wpAny_call (PySem.HandSPX.call_kw F.excBase_ValueError (fun Y => PySem.HandSPX.refsVE_contains Y bm hbm)
    (I2.kIn _ _ hC) (PySem.W.looks_findIn I2.kIn iC) (fun self => PySem.W.bind_fn I2.kIn self tI) ?_)
  refine codeAny_mono (F1.run _ X.stack _ _ ⟨[Value.ref (hp.objs.size + 1)], [(n, v)]⟩ [Value.ref (hp.objs.size + 1), v] _ _
    (fun _ _ _ => False) (hr.make C [] [(n, v)]) (I3.env0.make C [] [(n, v)])
    (hb.to _ [Value.ref (hp.objs.size + 1)] [v] I3.kIn ll) rr sp1) fun r s' hq' => ?_
  cases r with
  | error er => exact hx pins σ _ _ er s' I3 hq'
  | ok fl => cases fl with
    | ret u =>
      obtain ⟨y, H', I4, ry, ey, q3⟩ := I3.after hq'
      subst ey
      exact ⟨ry, ⟨V.ref (hp.objs.size + 1), H', I4, rfl, q3⟩⟩
    | next => exact False.elim hq'
    | brk => exact False.elim hq'
    | cont => exact False.elim hq'
end
end XV
set_option Elab.async false
set_option linter.all false
set_option autoImplicit false
set_option maxRecDepth 100000
namespace XV
open PySem PySem.Spec PyProof.Rows L2
section
variable {CX : CXT} {X : Cx} {x : Str} {C fI : Addr} {k : Nat} {fd : FuncData} {ps : List Str} {sp : Sp} {p pos : Pos}
def tOex0 (C : Addr) (sp : Sp) : TE := fun _ H Q => ∀ a, H a = none →
  sp [.ref a] (upd H a (exo a C none)) (fun v H2 => v = .non ∧ Q (.ref a) H2) (fun _ _ _ => False)
theorem pe_oex0 (T : OexC X.K C)
    (iC : PySem.W.findIn X.K (.ref C) "__init__" = some (some (.ref fI)))
    (tI : PySem.W.typeIn X.K (.ref fI) = some (.type "function"))
    (F1 : FnOk X.prog X.w X.K X.mg X.base CX k fI fd ps sp)
    (hr : Room (k + 1) X.A) (hb : Binds X.K fd ps [])
    (hx : Passes CX X (fun _ _ _ => False))
    (hg : Gl X x) (hm : X.mg x = some (.ref C))
    (hdb : (x == ("__debug__" : Str)) = false) :
    PE X (.Call (.Name x p) [] [] pos) (tOex0 C sp) := by
  refine ⟨fun pins s σ H Q I h => ?_⟩
  obtain ⟨nm, q, N, bs, bm, sn, sub, ab, col, dd, k0, k1, k2, k3, k5, hC, hbm⟩ := T.cls
  refine wpAny_Call_Name_kw (ld_glob I hg hm ?_ hdb)
  refine PySem.W.callWith_K0 I.kIn T.kC ?_
  show wpAny _ _ (call (.ref C) []) _ _ _
  obtain ⟨hp, g, dr, tk2, os⟩ := s
  have le1 : hp.objs.size ≤ hp.objs.size + 1 := Nat.le_succ _
  have no1 : H (hp.objs.size + 1) = none := I.hok.fresh le1
  have sp1 := h (hp.objs.size + 1) no1
  have keep : ∀ b o, hp.get? b = some o → (PySem.HandSPX.bornH hp C).get? b = some o := fun b o e =>
    Heap.get?_push_of_some _ (Heap.get?_push_of_some _ e)
  have at1 : (PySem.HandSPX.bornH hp C).get? (hp.objs.size + 1) = some (PySem.HandSPX.excO C hp.objs.size) := by heap_get
  have I3 : Inv X pins σ (upd H (hp.objs.size + 1) (exo (hp.objs.size + 1) C none)) ⟨PySem.HandSPX.bornH hp C, g, dr, tk2, os⟩ :=
    I.laid (t' := tk2) keep le1 (exo_ok at1)
  have rr : Vals [V.ref (hp.objs.size + 1)] [Value.ref (hp.objs.size + 1)] := .cons rfl .nil
  have ll : ([Value.ref (hp.objs.size + 1)] ++ []).length = ps.length := by
    have := F1.len _ _ _ _ sp1
    simpa using this
  have z0 : ([] : List Value).length ≤ sizeLine := Nat.zero_le _
  refine wpAny_call (PySem.HandSPX.call_own F.excBase_ValueError (fun Y => PySem.HandSPX.refsVE_contains Y bm hbm)
    (I.kIn _ _ hC) (PySem.W.looks_findIn I.kIn iC) (fun self => PySem.W.bind_fn I.kIn self tI) z0 ?_)
  refine codeAny_mono (F1.run _ X.stack _ _ ⟨[Value.ref (hp.objs.size + 1)], []⟩ [Value.ref (hp.objs.size + 1)] _ _
    (fun _ _ _ => False) (hr.make C [] []) (I3.env0.make C [] [])
    (by simpa using hb _ [Value.ref (hp.objs.size + 1)] I3.kIn ll) rr sp1) fun r s' hq' => ?_
  cases r with
  | error er => exact hx pins σ _ _ er s' I3 hq'
  | ok fl => cases fl with
    | ret u =>
      obtain ⟨y, H', I4, ry, ey, q3⟩ := I3.after hq'
      subst ey
      exact ⟨ry, ⟨V.ref (hp.objs.size + 1), H', I4, rfl, q3⟩⟩
    | next => exact False.elim hq'
    | brk => exact False.elim hq'
    | cont => exact False.elim hq'
end
section
variable {P : Program} {w : World} {K : PySem.W.Frag} {mg : Str → Option Value} {base : Heap}
def spI0 (K : PySem.W.Frag) : Sp := fun vs H Q _ => ∃ a C, vs = [.ref a] ∧ OexC K C ∧ H a = some (exo a C none) ∧ Q .non H
theorem init0_ok {x qual n1 : Str} {st : Stmt} {fI : Addr} {fd : FuncData} {p1 p2 p3 p4 p5 : Pos}
    (F : Fun K x qual st fI fd) (S : FnScope [n1] [n1] (defScope st))
    (hbd : defBody st = [.Expr (.Call (.Attribute (.Name "ValueError" p1) "__init__" p2) [.Name n1 p3] [] p4) p5])
    (hgl : ∀ cdv n, (envOfC qual (defScope st) n fI cdv).kindOf "ValueError" = some .globalImplicit)
    (hm : mg "ValueError" = none)
    (v1 : ∀ cdv n, Vis (envOfC qual (defScope st) n fI cdv).scope n1)
    (d1 : (n1 == ("__debug__" : Str)) = false) (c1 : (n1 == ("__classdict__" : Str)) = false)
    (vV : PySem.W.findCls K (.type "ValueError") (.type "type") "__init__" = some (.val (.builtin "ValueError.__init__")))
    (hs : ∀ env, swapsWith (.Call (.Attribute (.Name "ValueError" p1) "__init__" p2) [.Name n1 p3] [] p4) none p5.line env = pure false)
    (pl : Env → Sem Bool)
    (hc : ∀ env, eval (.Call (.Attribute (.Name "ValueError" p1) "__init__" p2) [.Name n1 p3] [] p4) env = (do
      let ov ← eval (.Name "ValueError" p1) env
      standAt p2.atName
      let (f, first) ← holding [ov] (getMethod ov "__init__" (pl env))
      callWith p4 f first (backTo p4 (starEach [.Name n1 p3] env)) (backToKw p4 (keywordEach [] env)))) :
    FnOk P w K mg base (L2.CX P w) 1 fI fd [n1] (spI0 K) := by
  refine F.okX S (fun vs H Q E ⟨a, C, e, _⟩ => by rw [e]; rfl) fun cdv A outer s H vs Q E hr ⟨a, C, e, T, ea, q⟩ => ?_
  rw [hbd]
  subst e
  refine ⟨_, pss_cons (ps_expr (pe_veinit (pl := pl _) (hgl _ _) hm vV (pa_cons (pe_var (i := 0) rfl (v1 _ _) d1 c1) pa_nil) (hc _)) (hs _)) pss_nil, ?_⟩
  exact ⟨.ref a, rfl, a, C, [], rfl, Nat.zero_le _, T, ea, q⟩
end
end XV
set_option Elab.async false
set_option linter.all false
set_option autoImplicit false
set_option maxRecDepth 100000
namespace XV
open PySem PySem.Spec PyProof.Rows L2
section
variable {X : Cx}
theorem passF : Passes (L2.CX X.prog X.w) X (fun _ _ _ => False) := fun _ _ _ _ _ _ _ h => by
  obtain ⟨_, _, _, _, _, _, _, _, _, _, _, _, z⟩ := h
  exact z.elim
theorem call_isX : CallR X (.builtin "isinstance") (fun xs H Q => ∃ (a D : Addr) (c : V) (u : Value) (b : Bool), xs = [.ref a, c] ∧ (∀ u', RelV c u' → u' = u) ∧ ExcC X.K D ∧
    ((∃ dd fs, H a = some (exo a D (some dd)) ∧ H dd = some (exd dd fs)) ∨ H a = some (exo a D none)) ∧ PySem.W.kitOne X.K (.ref D) u = some b ∧ Q (.bl b) H) := by
  intro pins s σ H xs us Q I r h
  obtain ⟨a, D, c, u, b, rfl, hu, C, hh, e, q⟩ := h
  obtain ⟨u1, u2, rfl, r1, r2⟩ := vals2 r
  cases (show u1 = Value.ref a from r1)
  cases hu u2 r2
  obtain ⟨cd, hc, _⟩ := PySem.W.any_some C.hd
  obtain ⟨oe, od, J⟩ : ∃ oe od, PySem.W.InstAt s.heap a oe D od := by
    rcases hh with ⟨dd, fs, ea, ed⟩ | ea
    · obtain ⟨oe, od, mA, J, _, _⟩ := inst_atT I ea ed
      exact ⟨oe, _, J⟩
    · obtain ⟨t1, ho⟩ := exo_at I.hok ea
      exact ⟨_, none, ho, rfl, rfl, True.intro⟩
  exact PySem.W.kia_one (PySem.W.kitx_exc (by rw [hc]; rfl) C.hg C.hk C.hs C.ha C.hn C.ht C.hm) I.kIn J e (fun z => nomatch z) fun tk => ⟨.bl b, H, I.kept (t' := tk) fun _ _ z => z, rfl, q⟩
end
theorem exo_ne {a C : Addr} {d : Option Addr} (ps : Array Value) : exo a C d ≠ .tbl ps := fun z => by unfold exo at z; cases z
theorem exd_ne {a : Addr} {fs : List (Str × V)} (ps : Array Value) : exd a fs ≠ .tbl ps := fun z => by unfold exd at z; cases z
section
variable {K : PySem.W.Frag} {L : Lay} {G : Hp} {r : List Addr} {H : Hp} {cs : List C} {E : XK} {Q : VK}
theorem Rep.err1_of {c : Nat} {f : Str} {d : D} {v : V} (h : Rep K L G r (.err c [f] [d]) v) : ∃ a dx w, v = .ref a ∧ G a = some (exo a (L.cls c) (some dx)) ∧ G dx = some (exd dx [(f, w)]) ∧ Rep K L G r d w := by
  cases h with
  | err1 h1 h2 q => exact ⟨_, _, _, rfl, h1, h2, q⟩
theorem Rep.err_of {c : Nat} {ks : List Str} {ds : List D} {v : V} (h : Rep K L G r (.err c ks ds) v) : ∃ a, v = .ref a ∧ ((∃ dd fs, G a = some (exo a (L.cls c) (some dd)) ∧ G dd = some (exd dd fs)) ∨ G a = some (exo a (L.cls c) none)) := by
  cases h with
  | err0 h1 => exact ⟨_, rfl, .inr h1⟩
  | err1 h1 h2 q => exact ⟨_, rfl, .inl ⟨_, _, h1, h2⟩⟩
theorem KO.err1 {c : Nat} {f : Str} {d : D} {v : V} {a dx : Addr} (h : KO K L (Rep K L) E G r H (.ok (.err c [f] [d]) cs) Q) (s : Sep K L G r cs H) (q : Rep K L G r d v) (ha : H a = none) (hd : H dx = none) (ne : dx ≠ a) :
    Q (.ref a) (upd (upd (upd H a (exo a (L.cls c) none)) dx (exd dx [(f, v)])) a (exo a (L.cls c) (some dx))) := by
  have e : upd (upd (upd H a (exo a (L.cls c) none)) dx (exd dx [(f, v)])) a (exo a (L.cls c) (some dx)) = upd (upd H dx (exd dx [(f, v)])) a (exo a (L.cls c) (some dx)) := by
    funext b
    by_cases h1 : b = a
    · subst h1; rw [upd_same, upd_same]
    · rw [upd_ne h1, upd_ne h1]
      by_cases h2 : b = dx
      · subst h2; rw [upd_same, upd_same]
      · rw [upd_ne h2, upd_ne h2, upd_ne h1]
  rw [e]
  have ha2 : upd H dx (exd dx [(f, v)]) a = none := by rw [upd_ne (fun z => ne z.symm)]; exact ha
  have g1 := Go.new s (exd dx [(f, v)]) hd
  have s1 := s.new (exd dx [(f, v)]) hd exd_ne
  have g2 := Go.new s1 (exo a (L.cls c) (some dx)) ha2
  have s2 := s1.new (exo a (L.cls c) (some dx)) ha2 exo_ne
  refine h _ _ _ _ (g1.trans g2) s2 (.err1 (dx := dx) upd_same ?_ (q.go (g1.trans g2)))
  rw [upd_ne ne, upd_same]
theorem KO.err0 {c : Nat} {a : Addr} (h : KO K L (Rep K L) E G r H (.ok (.err c [] []) cs) Q) (s : Sep K L G r cs H) (ha : H a = none) : Q (.ref a) (upd H a (exo a (L.cls c) none)) :=
  h _ _ _ _ (Go.new s _ ha) (s.new _ ha exo_ne) (.err0 upd_same)
end
section
variable {X : Cx} {L : Lay} {P : Cfg} {W : WX} {c : Nat} {x f nm : Str} {fI : Addr} {fd : FuncData} {ps : List Str} {p p2 pos kpos : Pos} {e : Expr} {t : T}
theorem sE_newE (T : OexC X.K (L.cls c)) (iC : PySem.W.findIn X.K (.ref (L.cls c)) "__init__" = some (some (.ref fI))) (tI : PySem.W.typeIn X.K (.ref fI) = some (.type "function")) (F1 : FnOk X.prog X.w X.K X.mg X.base (L2.CX X.prog X.w) 1 fI fd ps (spIx (L.cls c) f)) (hr : Room 2 X.A) (hb : Binds X.K fd ps [])
    (hg : Gl X x) (hm : X.mg x = some (.ref (L.cls c))) (hdb : (x == ("__debug__" : Str)) = false) (he : PE X e (tE X.K L P W t)) (hs : isStar e = false) : PE X (.Call (.Name x p) [e] [] pos) (tE X.K L P W (.newE c f t)) := by
  refine PE.imp (pe_oex T iC tI F1 hr hb passF hg hm (pa_cons he pa_nil (star_ok hs)) hdb (star_ok hs) (by rfl)) fun σ H Q ⟨G, r, cs, env, s, er, k⟩ => ?_
  unfold evE at k
  exact ⟨G, r, cs, env, s, er, k.bind fun d cs1 _ v G1 r1 H1 g1 s1 rv k1 => ⟨by simp, fun a ha => ⟨a, v, rfl, upd_same, fun dx hd ne => ⟨rfl, KO.err1 k1 s1 rv ha (by rwa [upd_ne ne] at hd) ne⟩⟩⟩⟩
theorem sE_newEK (T : OexC X.K (L.cls c)) (iC : PySem.W.findIn X.K (.ref (L.cls c)) "__init__" = some (some (.ref fI))) (tI : PySem.W.typeIn X.K (.ref fI) = some (.type "function")) (F1 : FnOk X.prog X.w X.K X.mg X.base (L2.CX X.prog X.w) 1 fI fd ps (spIx (L.cls c) f)) (hr : Room 2 X.A)
    (hb : KBinds X.K fd ps [nm] g1 g1) (hg : Gl X x) (hm : X.mg x = some (.ref (L.cls c))) (hdb : (x == ("__debug__" : Str)) = false) (he : PE X e (tE X.K L P W t)) :
    PE X (.Call (.Name x p) [] [⟨some nm, e, kpos⟩] pos) (tE X.K L P W (.newEK c f t)) := by
  refine PE.imp (pe_oexK T iC tI F1 hr hb passF hg hm (pk_cons he pk_nil) hdb (by rfl) (by rfl) (by rfl)) fun σ H Q ⟨G, r, cs, env, s, er, k⟩ => ?_
  unfold evE at k
  exact ⟨G, r, cs, env, s, er, k.bind fun d cs1 _ v G1 r1 H1 g1 s1 rv k1 => ⟨rfl, fun a ha => ⟨a, v, rfl, upd_same, fun dx hd ne => ⟨rfl, KO.err1 k1 s1 rv ha (by rwa [upd_ne ne] at hd) ne⟩⟩⟩⟩
theorem sE_newE0 (T : OexC X.K (L.cls c)) (iC : PySem.W.findIn X.K (.ref (L.cls c)) "__init__" = some (some (.ref fI))) (tI : PySem.W.typeIn X.K (.ref fI) = some (.type "function")) (F1 : FnOk X.prog X.w X.K X.mg X.base (L2.CX X.prog X.w) 1 fI fd ps (spI0 X.K)) (hr : Room 2 X.A) (hb : Binds X.K fd ps [])
    (hg : Gl X x) (hm : X.mg x = some (.ref (L.cls c))) (hdb : (x == ("__debug__" : Str)) = false) : PE X (.Call (.Name x p) [] [] pos) (tE X.K L P W (.newE0 c)) := by
  refine PE.imp (pe_oex0 T iC tI F1 hr hb passF hg hm hdb) fun σ H Q ⟨G, r, cs, env, s, er, k⟩ => ?_
  unfold evE at k
  exact fun a ha => ⟨a, L.cls c, rfl, T, upd_same, rfl, KO.err0 k s ha⟩
theorem sE_fldE (T : XfC X.K (L.cls c)) (hno : PySem.W.findIn X.K (.ref (L.cls c)) f = some none) (he : PE X e (tE X.K L P W t)) (hc : isCall0 e = false) : PE X (.Attribute e f pos) (tE X.K L P W (.fldE t c f)) := by
  refine PE.imp (pe_xfT T hno he (attr_ok hc)) fun σ H Q ⟨G, r, cs, env, s, er, k⟩ => ?_
  unfold evE at k
  refine ⟨G, r, cs, env, s, er, k.bind fun d cs1 _ v G1 r1 H1 g1 s1 rv k1 => ?_⟩
  obtain ⟨c', f', d', rfl⟩ : ∃ c' f' d', d = .err c' [f'] [d'] := by
    cases d <;> first | exact k1.elim | skip
    rename_i c' ks ds hq
    match ks, ds, k1 with
    | [f'], [d'], _ => exact ⟨c', f', d', rfl⟩
    | [], _, k => exact k.elim
    | [_], [], k => exact k.elim
    | [_], _ :: _ :: _, k => exact k.elim
    | _ :: _ :: _, _, k => exact k.elim
  obtain ⟨a, dx, w, rfl, h1, h2, q⟩ := rv.err1_of
  have k1 : KO X.K L (Rep X.K L) (wE W σ) G1 r1 H1 (if c' = c ∧ f' = f then .ok d' cs1 else .bad) Q := k1
  by_cases h : c' = c ∧ f' = f
  · rw [if_pos h] at k1
    have e1 := h.1
    have e2 := h.2
    rw [e1] at h1
    rw [e2] at h2
    exact ⟨a, dx, [(f, w)], w, rfl, s1.same _ _ h1, s1.same _ _ h2, by simp, KO.ok0 k1 s1 q⟩
  · rw [if_neg h] at k1; exact k1.elim
theorem sE_isE {tbl : List (Nat × Bool)} {v : V} {u : Value} {y : Expr} (hg : Gl X "isinstance") (hm : X.mg "isinstance" = none) (he : PE X e (tE X.K L P W t)) (hs : isStar e = false) (hy : PE X y (tC v)) (hsy : isStar y = false) (hu : ∀ u', RelV v u' → u' = u)
    (hk : ∀ c b, tbl.lookup c = some b → ExcC X.K (L.cls c) ∧ PySem.W.kitOne X.K (.ref (L.cls c)) u = some b) : PE X (.Call (.Name "isinstance" p) [e, y] [] pos) (tE X.K L P W (.isE t tbl)) := by
  refine PE.imp (pe_callB call_isX hg hm (by decide +kernel) (pa_cons he (pa_cons hy pa_nil (star_ok hsy)) (star_ok hs)) (by decide) (by decide) (star_ok hs) (by rw [star_ok hsy]; rfl)) fun σ H Q ⟨G, r, cs, env, s, er, k⟩ => ?_
  unfold evE at k
  refine ⟨G, r, cs, env, s, er, k.bind fun d cs1 _ w G1 r1 H1 g1 s1 rv k1 => ?_⟩
  cases d <;> first | exact k1.elim | skip
  rename_i c ks ds hq
  obtain ⟨a, rfl, hh⟩ := rv.err_of
  cases e1 : tbl.lookup c with
  | none => simp only [e1] at k1; exact k1.elim
  | some b =>
    simp only [e1] at k1
    obtain ⟨q1, q2⟩ := hk _ _ e1
    refine ⟨a, L.cls c, v, u, b, rfl, hu, q1, ?_, q2, KO.ok0 k1 s1 (.bl b)⟩
    rcases hh with ⟨dd, fs, h1, h2⟩ | h1
    · exact .inl ⟨dd, fs, s1.same _ _ h1, s1.same _ _ h2⟩
    · exact .inr (s1.same _ _ h1)
end
end XV
set_option Elab.async false
set_option linter.all false
set_option autoImplicit false
set_option maxRecDepth 100000
namespace XV
open PySem PySem.Spec PyProof.Rows L2
section
variable {K : PySem.W.Frag} {L : Lay} {G G1 : Hp} {r r1 : List Addr} {H H1 : Hp} {cs : List C} {D0 : Addr}
theorem CDi.start (s : Sep K L G r cs H) (hD : H D0 = none) : CDi dkK K L D0 G r H G r cs [] [] [] (upd H D0 (.dK [])) := by
  refine ⟨⟨Same.refl G, fun _ _ => rfl, ⟨[], by simp, by simp⟩, fun b o h _ _ => by rw [upd_ne (ne_of_none h hD)]; exact h, fun b h => ?_⟩, s.upd (Same.free s.same hD) (fun hm => (s.mem hm).2 (.of hD)) (by rw [hD]; trivial), upd_same, Same.free s.same hD, fun hm => (s.mem hm).2 (.of hD), rfl, List.nodup_nil, .nil⟩
  have : b ≠ D0 := fun z => h (z ▸ .of hD)
  rw [Fr.upd this]; exact h
theorem upd_upd {a : Addr} {x y : HO} : upd (upd H a x) a y = upd H a y := by
  funext b
  by_cases h : b = a
  · subst h; rw [upd_same, upd_same]
  · rw [upd_ne h, upd_ne h, upd_ne h]
def dlF : List (Key × D) → List Key → List D → List Key × List D
  | [], ks, ds => (ks, ds)
  | q :: r, ks, ds => dlF r (putD ks ds q.1 q.2).1 (putD ks ds q.1 q.2).2
theorem CDi.puts (hD : H1 D0 = none) : ∀ {qs : List (Key × D)} {ws : List V} {ks : List Key} {acc : List D} {vs : List V} {H : Hp}, CDi dkK K L D0 G1 r1 H1 G r cs ks acc vs H → Reps K L G r (qs.map (·.2)) ws →
    ∃ vs', CDi dkK K L D0 G1 r1 H1 G r cs (dlF qs ks acc).1 (dlF qs ks acc).2 vs' (upd H D0 (.dK (mergeK (ks.zip vs) ((qs.map (·.1)).zip ws))))
  | [], _, ks, acc, vs, H, c, .nil => ⟨vs, by
    have e : upd H D0 (.dK (mergeK (ks.zip vs) [])) = H := by
      funext b
      by_cases h : b = D0
      · subst h; rw [upd_same]; exact c.out.symm
      · rw [upd_ne h]
    show CDi dkK K L D0 G1 r1 H1 G r cs ks acc vs (upd H D0 (.dK (mergeK (ks.zip vs) [])))
    rw [e]; exact c⟩
  | q :: qs, _, ks, acc, vs, H, c, .cons (v := v) (vs := ws) h1 h2 => by
    obtain ⟨p1, _, _, _⟩ := putD_ok (k := q.1) c.len c.nod c.reps h1
    obtain ⟨vs', c'⟩ := CDi.puts hD (c.put hD (k := q.1) h1) h2
    refine ⟨vs', ?_⟩
    have e : upd (upd H D0 (dkK.ob (putK (ks.zip vs) q.1 v))) D0 (.dK (mergeK ((putD ks acc q.1 q.2).1.zip (putV ks vs q.1 v)) ((qs.map (·.1)).zip ws))) = upd H D0 (.dK (mergeK (ks.zip vs) (((q :: qs).map (·.1)).zip (v :: ws)))) := by
      rw [upd_upd, ← p1]
      rfl
    rw [← e]
    exact c'
def prsD : List D → Option (List (Key × D))
  | [] => some []
  | [_] => none
  | k :: v :: r => match keyD k, prsD r with
    | some x, some q => some ((x, v) :: q)
    | _, _ => none
theorem dlD_prs : ∀ {ds : List D} {ks : List Key} {vs : List D} {p : List Key × List D}, dlD ds ks vs = some p → ∃ q, prsD ds = some q ∧ p = dlF q ks vs
  | [], ks, vs, p, h => by cases h; exact ⟨[], rfl, rfl⟩
  | [_], ks, vs, p, h => by cases h
  | k :: v :: r, ks, vs, p, h => by
    unfold dlD at h
    cases e : keyD k with
    | none => simp only [e] at h; cases h
    | some x =>
      simp only [e] at h
      obtain ⟨q, h1, h2⟩ := dlD_prs h
      refine ⟨(x, v) :: q, ?_, h2⟩
      unfold prsD
      rw [e, h1]
theorem keyD_val {d : D} {x : Key} {v : V} (e : keyD d = some x) (q : Rep K L G r d v) : v = kV x := by
  cases d <;> first | (cases e; done) | skip
  · cases e; exact q.int_of
  · cases e; exact q.str_of
theorem prs_vals : ∀ {ds : List D} {vs : List V} {q : List (Key × D)}, prsD ds = some q → Reps K L G r ds vs → ∃ ws, Reps K L G r (q.map (·.2)) ws ∧ ws.length = q.length ∧ 2 * q.length = ds.length ∧ ∀ (f : List V → List (V × V)), (∀ a b l, f (a :: b :: l) = (a, b) :: f l) → f [] = [] → f vs = ((q.map (·.1)).zip ws).map fun kv => (kV kv.1, kv.2)
  | [], _, q, h, .nil => by cases h; exact ⟨[], .nil, rfl, rfl, fun f _ h0 => h0⟩
  | [_], _, q, h, _ => by cases h
  | k :: v :: r, _, q, h, .cons (v := a) h1 (.cons (v := b) (vs := l) h2 h3) => by
    unfold prsD at h
    cases e : keyD k with
    | none => simp only [e] at h; cases h
    | some x =>
      cases e2 : prsD r with
      | none => simp only [e, e2] at h; cases h
      | some q2 =>
        simp only [e, e2] at h
        cases h
        obtain ⟨ws, w1, w2, w3, w4⟩ := prs_vals e2 h3
        refine ⟨b :: ws, .cons h2 w1, by simp [w2], by simp; omega, fun f hf h0 => ?_⟩
        rw [hf, w4 f hf h0, keyD_val e h1]
        rfl
end
def pairsT (K : PySem.W.Frag) (L : Lay) (P : Cfg) (W : WX) : Ts → List (TE × TE)
  | .cons k (.cons v ts) => (tE K L P W k, tE K L P W v) :: pairsT K L P W ts
  | _ => []
def evenT : Ts → Bool
  | .nil => true
  | .cons _ .nil => false
  | .cons _ (.cons _ ts) => evenT ts
def pairV : List V → List (V × V)
  | a :: b :: l => (a, b) :: pairV l
  | _ => []
section
variable {X : Cx} {L : Lay} {P : Cfg} {W : WX} {pos : Pos}
theorem tE_mono {t : T} {σ : L2.St} {H : Hp} {Q Q' : VK} (h : tE X.K L P W t σ H Q) (k : ∀ v H', Q v H' → Q' v H') : tE X.K L P W t σ H Q' := by
  obtain ⟨G, r, cs, env, s, er, h⟩ := h
  exact ⟨G, r, cs, env, s, er, h.mono k⟩
theorem pairs_mono {σ : L2.St} : ∀ {ts : Ts} {H : Hp} {Q Q' : List (V × V) → Hp → Prop}, tPairs (pairsT X.K L P W ts) σ H Q → (∀ ps H', Q ps H' → Q' ps H') → tPairs (pairsT X.K L P W ts) σ H Q'
  | .nil, H, Q, Q', h, k => k _ _ h
  | .cons _ .nil, H, Q, Q', h, k => k _ _ h
  | .cons kt (.cons vt ts), H, Q, Q', h, k => tE_mono h fun x H1 h1 => tE_mono h1 fun y H2 h2 => pairs_mono (ts := ts) h2 fun ps H3 h3 => k _ _ h3
theorem pairs_imp {D0 : Addr} {G1 : Hp} {r1 : List Addr} {H1 : Hp} {env : List SV} {σ : L2.St} : ∀ {ts : Ts} {G : Hp} {r : List Addr} {cs : List C} {H : Hp} {dsA : List D} {vsA : List V} {cont : List D → List C → Out D} {Q : VK}, evenT ts = true → CDi dkK X.K L D0 G1 r1 H1 G r cs [] [] [] H → EnvR X.K L G r H env σ → Reps X.K L G r dsA vsA →
    KO X.K L (Rep X.K L) (wE W σ) G1 r1 H1 ((evTs P ts env cs).bind fun ds cs1 => cont (dsA ++ ds) cs1) Q →
    tPairs (pairsT X.K L P W ts) σ H fun ps H2 => ∃ G2 r2 cs2 ds vs, CDi dkK X.K L D0 G1 r1 H1 G2 r2 cs2 [] [] [] H2 ∧ Reps X.K L G2 r2 (dsA ++ ds) (vsA ++ vs) ∧ ps = pairV vs ∧ KO X.K L (Rep X.K L) (wE W σ) G1 r1 H1 (cont (dsA ++ ds) cs2) Q
  | .nil, G, r, cs, H, dsA, vsA, cont, Q, _, c, er, q, k => by
    unfold evTs at k
    exact ⟨G, r, cs, [], [], c, by simpa using q, rfl, by simpa using k⟩
  | .cons _ .nil, _, _, _, _, _, _, _, _, h, _, _, _, _ => by cases h
  | .cons kt (.cons vt ts), G, r, cs, H, dsA, vsA, cont, Q, h, c, er, q, k => by
    unfold evTs evTs at k
    show tE X.K L P W kt σ H fun x H1 => tE X.K L P W vt σ H1 fun y H2 => tPairs _ σ H2 fun ps H3 => _
    refine ⟨G, r, cs, env, c.sep, er, ?_⟩
    cases e1 : evE P kt env cs with
    | bad => rw [e1] at k; exact k
    | exc cc ds cs' => rw [e1] at k; exact k.go2 c.go
    | ok d1 cs1 =>
      rw [e1] at k
      simp only [Out.bind_ok] at k
      intro v1 Ga ra Ha ga sa qa
      have ca := c.step ga sa
      refine ⟨Ga, ra, cs1, env, sa, er.go ga, ?_⟩
      cases e2 : evE P vt env cs1 with
      | bad => rw [e2] at k; exact k
      | exc cc ds cs' => rw [e2] at k; exact k.go2 ca.go
      | ok d2 cs2 =>
        rw [e2] at k
        simp only [Out.bind_ok] at k
        intro v2 Gb rb Hb gb sb qb
        have cb := ca.step gb sb
        have k2 : KO X.K L (Rep X.K L) (wE W σ) G1 r1 H1 ((evTs P ts env cs2).bind fun ds cs1 => cont ((dsA ++ [d1, d2]) ++ ds) cs1) Q := by
          cases e3 : evTs P ts env cs2 with
          | bad => rw [e3] at k; exact k
          | exc cc ds cs' => rw [e3] at k; exact k
          | ok ds cs' =>
            rw [e3] at k
            simp only [Out.bind_ok] at k ⊢
            simpa using k
        have ih := pairs_imp (ts := ts) (dsA := dsA ++ [d1, d2]) (vsA := vsA ++ [v1, v2]) h cb ((er.go ga).go gb) (((q.go ga).go gb).append (.cons (qa.go gb) (.one qb))) k2
        refine pairs_mono ih fun ps H3 ⟨G2, r2, cs3, ds, vs, c3, q3, e3, k3⟩ => ⟨G2, r2, cs3, d1 :: d2 :: ds, v1 :: v2 :: vs, c3, by simpa using q3, by rw [e3]; rfl, by simpa using k3⟩
theorem sE_dl {keys : List (Option Expr)} {values : List Expr} {ts : Ts} (hev : evenT ts = true) (h : PPs X pos keys values (pairsT X.K L P W ts)) (hall : keys.all (·.isSome) = true) (hl : keys.length = values.length) (h0 : keys ≠ []) (h15 : keys.length ≤ 15) :
    PE X (.Dict keys values pos) (tE X.K L P W (.dl ts)) := by
  refine PE.imp (pe_disp h hall hl h0 h15) fun σ H Q ⟨G, r, cs, env, s, er, k⟩ => fun p hp => ?_
  unfold evE at k
  have c0 := CDi.start (D0 := p) s hp
  have g0 : Go G r H G r (upd H p (.dK [])) := c0.go
  refine pairs_mono (pairs_imp (Q := Q) (cont := fun ds cs1 => match dlD ds [] [] with
    | some q => if ds.length ≤ 30 then .ok (.dct q.1 q.2) cs1 else .bad
    | none => .bad) (dsA := []) (vsA := []) hev c0 (er.go g0) .nil k) fun ps H2 ⟨G2, r2, cs2, ds, vs, c2, q2, ep, k2⟩ => ⟨c2.out, ?_⟩
  simp only [List.nil_append] at q2 k2
  cases e1 : dlD ds [] [] with
  | none => rw [e1] at k2; exact k2.elim
  | some q =>
    rw [e1] at k2
    simp only at k2
    by_cases hz : ds.length ≤ 30
    · rw [if_pos hz] at k2
      obtain ⟨qs, e2, e3⟩ := dlD_prs e1
      obtain ⟨ws, w1, w2, w3, w4⟩ := prs_vals e2 q2
      obtain ⟨vs', c3⟩ := CDi.puts (qs := qs) hp c2 w1
      have e4 := w4 pairV (fun _ _ _ => rfl) rfl
      refine ⟨(qs.map (·.1)).zip ws, by rw [ep, e4], by rw [List.length_zip, List.length_map, w2]; omega, ?_⟩
      rw [← e3] at c3
      obtain ⟨g, sp, q5⟩ := c3.fin hp
      have e5 : (upd G2 p (dkK.ob (q.1.zip vs'))) p = some (.dK (q.1.zip vs')) := upd_same
      have k3 : KO X.K L (Rep X.K L) (wE W σ) G r H (.ok (.dct q.1 q.2) cs2) Q := k2
      exact k3 _ _ _ _ g sp (.dct e5 c3.len c3.nod q5)
    · rw [if_neg hz] at k2; exact k2.elim
end
end XV
set_option Elab.async false
set_option linter.all false
set_option autoImplicit false
set_option maxRecDepth 100000
namespace XV
open PySem PySem.Spec PyProof.Rows L2 L2H LamX

structure Glb where
  bl : List Str
  fns : List (Str × Nat)
  gks : List (Str × Nat)
  tys : List (Str × String)
  trd : Str
  errs : List (Str × Nat)
  news : List (Str × Nat)
  iscs : List (Str × Nat) := []
  neq : Bool := false
  itrs : List (Nat × Str) := []
  kfns : List (Str × Nat) := []
  lam : Bool := false
  cb : Bool := false
  exs : List (Str × Nat × Str) := []
  ex0 : List (Str × Nat) := []
  exf : List (Nat × Str) := []
  kits : List (Str × List (Nat × Bool)) := []

def knd (sc : Scope) (x : Str) (k : NameKind) : Bool := decide (sc.names.lookup x = some k)
def dbg (x : Str) : Bool := (x == ("__debug__" : Str)) || (x == ("__classdict__" : Str))
def glB (sc : Scope) (x : Str) : Bool := knd sc x .globalImplicit && !dbg x
def visB (sc : Scope) (x : Str) : Bool := (knd sc x .local || knd sc x .cell || knd sc x .free) && !dbg x
def lamOk (sc scope : Scope) (a : Arguments) : Bool := lamSB sc scope && a.posonlyargs.isEmpty && a.args.isEmpty && a.vararg.isNone && a.kwonlyargs.isEmpty && a.kw_defaults.isEmpty && a.kwarg.isNone && a.defaults.isEmpty
structure Fit (X : Cx) (L : Lay) (P : Cfg) (W : WX) (k : Nat) (g : Glb) (N : List Str) (sc : Scope) (fa : Bool) : Prop where
  hsc : X.env.scope = sc
  N : X.N = N
  nd : X.N.Nodup
  u : X.A.units + 100 < cLine
  cal : X.calm = true
  bl : ∀ x, g.bl.contains x = true → X.mg x = none
  tys : ∀ y m, g.tys.lookup y = some m → X.mg y = none ∧ bootBuiltins y = some (.type m) ∧ y ≠ "__name__"
  fns : ∀ x i, g.fns.lookup x = some i → ∃ f fd ps, FnOk X.prog X.w X.K X.mg X.base (L2.CX X.prog X.w) k f fd ps (spF X.K L (P.call i)) ∧ X.mg x = some (.ref f) ∧ PySem.W.keepIn X.K (.ref f) = true ∧ Binds X.K fd ps []
  room : Room (k + 1) X.A
  gks : ∀ x n, g.gks.lookup x = some n → ∃ u d v, X.mg x = some u ∧ RelV v u ∧ P.gk n = some d ∧ ∀ G r, Rep X.K L G r d v
  tk : Takes X W
  cls : ∀ c f, (P.flds c).contains f = true → Cls X.K (L.cls c) ∧ NoAttr X.K (L.cls c) f
  mth : MthOk X L P k
  news : ∀ x c, g.news.lookup x = some c → ∃ f fd ps, Mk X.K (L.cls c) f ∧ FnOk X.prog X.w X.K X.mg X.base (L2.CX X.prog X.w) k f fd ps (spI X.K L c (P.init c)) ∧ Binds X.K fd ps [] ∧ X.mg x = some (.ref (L.cls c))
  isc : ∀ x c, g.iscs.lookup x = some c → IsC X.K (L.cls c) ∧ X.mg x = some (.ref (L.cls c))
  nec : ∀ c f, P.meth c "__eq__" = some f → g.neq = true → NeC X.K (L.cls c)
  itr : ∀ c f, g.itrs.lookup c = some f → ItC X L c f
  fn : fa = true → ∀ x, X.fn x = true
  fnI : ∀ x i f, g.fns.lookup x = some i → X.mg x = some (.ref f) → PySem.W.fnIn X.K f = true
  kfn : fa = true → ∀ x n, g.kfns.lookup x = some n → ∃ f kr, X.mg x = some (.ref f) ∧ PySem.W.keepIn X.K (.ref f) = true ∧ KRun X.prog X.w X.K X.mg X.base L kr (k + 2) f (fun cb ds cs => P.callK cb n ds cs) ∧ Room kr X.A
  ex2 : fa = true → Room 2 X.A
  exs : ∀ x q, g.exs.lookup x = some q → ∃ fI fd ps, OexC X.K (L.cls q.1) ∧ PySem.W.findIn X.K (.ref (L.cls q.1)) "__init__" = some (some (.ref fI)) ∧ PySem.W.typeIn X.K (.ref fI) = some (.type "function") ∧ FnOk X.prog X.w X.K X.mg X.base (L2.CX X.prog X.w) 1 fI fd ps (spIx (L.cls q.1) q.2) ∧
    Binds X.K fd ps [] ∧ KBinds X.K fd ps [q.2] g1 g1 ∧ X.mg x = some (.ref (L.cls q.1))
  ex0 : ∀ x c, g.ex0.lookup x = some c → ∃ fI fd ps, OexC X.K (L.cls c) ∧ PySem.W.findIn X.K (.ref (L.cls c)) "__init__" = some (some (.ref fI)) ∧ PySem.W.typeIn X.K (.ref fI) = some (.type "function") ∧ FnOk X.prog X.w X.K X.mg X.base (L2.CX X.prog X.w) 1 fI fd ps (spI0 X.K) ∧ Binds X.K fd ps [] ∧ X.mg x = some (.ref (L.cls c))
  exf : ∀ c f, g.exf.contains (c, f) = true → XfC X.K (L.cls c) ∧ PySem.W.findIn X.K (.ref (L.cls c)) f = some none
  kits : ∀ nm tbl, g.kits.lookup nm = some tbl → ∃ (v : V) (u : Value), (∀ u', RelV v u' → u' = u) ∧ ((X.mg nm = some u ∧ RelV v u) ∨ (X.mg nm = none ∧ nm ≠ "__name__" ∧ ∃ m, bootBuiltins nm = some (.type m) ∧ v = .ty m)) ∧ ∀ c b, tbl.lookup c = some b → ExcC X.K (L.cls c) ∧ PySem.W.kitOne X.K (.ref (L.cls c)) u = some b
  cbx : fa = true → g.cb = true → CbX X L P (k + 2) ∧ Room (k + 2) X.A
  lamT : fa = true → g.lam = true → ∃ c TP, TabB X.base X.mg c TP ∧ X.env.code = .ref c ∧ (TP, X.env.qual ++ "<lambda>") ∈ L.tabs ∧ ∀ p ∈ L.tabs, p.1 = TP → p.2 = X.env.qual ++ "<lambda>"
  trd : fa = true → ∀ (params : Arguments) (body : Expr) (scope : Scope) (p lpos pos : Pos) (n : Nat) (e : T), lamOk sc scope params = true → glB sc g.trd = true →
    (∀ (A : Around) (outer : List Env) (s : Shared) (H : Hp) (E : XK) (f c' : Addr), Room (k + 1) (A.deeper (lamEnv X scope s.heap.objs.size f c')) → PE (lamCx X A outer s H E scope f c') body (tE X.K L P (fun cls d _ H => E cls d H) e)) →
    PE X (.Call (.Name g.trd p) [.Lambda params body scope lpos] [] pos) (tE X.K L P W (.tried n e))

section
variable {X : Cx} {L : Lay} {P : Cfg} {W : WX} {k : Nat} {g : Glb} {N : List Str} {sc : Scope} {fa : Bool}
theorem dbg_ok {x : Str} (h : dbg x = false) : (x == ("__debug__" : Str)) = false ∧ (x == ("__classdict__" : Str)) = false := by
  unfold dbg at h
  exact Bool.or_eq_false_iff.mp h
theorem Fit.gl (F : Fit X L P W k g N sc fa) {x : Str} (h : glB sc x = true) : Gl X x ∧ (x == ("__debug__" : Str)) = false := by
  unfold glB knd at h
  simp only [Bool.and_eq_true, decide_eq_true_eq, Bool.not_eq_true'] at h
  exact ⟨by show X.env.scope.names.lookup x = _; rw [F.hsc]; exact h.1, (dbg_ok h.2).1⟩
theorem Fit.vis (F : Fit X L P W k g N sc fa) {x : Str} (h : visB sc x = true) : Vis X.env.scope x ∧ (x == ("__debug__" : Str)) = false ∧ (x == ("__classdict__" : Str)) = false := by
  unfold visB knd at h
  simp only [Bool.and_eq_true, Bool.or_eq_true, decide_eq_true_eq, Bool.not_eq_true'] at h
  refine ⟨?_, dbg_ok h.2⟩
  rw [F.hsc]
  rcases h.1 with (q | q) | q
  · exact .inl q
  · exact .inr (.inl q)
  · exact .inr (.inr q)
theorem Fit.lam (F : Fit X L P W k g N sc fa) {A : Around} {outer : List Env} {s : Shared} {H : Hp} {E : XK} {scope : Scope} {f c' : Addr} (hr : Room (k + 1) (A.deeper (lamEnv X scope s.heap.objs.size f c'))) : Fit (lamCx X A outer s H E scope f c') L P (fun cls d _ H => E cls d H) k g N scope false where
  hsc := rfl
  N := F.N
  nd := F.nd
  u := by
    have := hr.un
    show (A.deeper (lamEnv X scope s.heap.objs.size f c')).units + 100 < cLine
    omega
  cal := rfl
  bl := F.bl
  tys := F.tys
  fns := F.fns
  room := hr
  gks := F.gks
  tk := takes_of rfl rfl rfl rfl
  cls := F.cls
  mth := F.mth
  news := F.news
  isc := F.isc
  nec := F.nec
  itr := F.itr
  fn := fun z => by cases z
  fnI := F.fnI
  ex2 := fun z => by cases z
  exs := F.exs
  ex0 := F.ex0
  exf := F.exf
  kits := F.kits
  kfn := fun z => by cases z
  cbx := fun z => by cases z
  lamT := fun z => by cases z
  trd := fun z => by cases z
theorem Fit.blk (F : Fit X L P W k g N sc fa) {s : Shared} {H : Hp} {scope : Scope} {C : Addr} {cl : List (Str × Addr)} {fp : List Addr} : Fit (X.blk s H scope (compEnvC scope cl C X.env) fp) L P W0 k g N (relS scope sc) false where
  hsc := by show relS scope X.env.scope = _; rw [F.hsc]
  N := F.N
  nd := F.nd
  u := F.u
  cal := F.cal
  bl := F.bl
  tys := F.tys
  fns := F.fns
  room := F.room
  gks := F.gks
  tk := LamX.takes0
  cls := F.cls
  mth := F.mth
  news := F.news
  isc := F.isc
  nec := F.nec
  itr := F.itr
  fn := fun z => by cases z
  fnI := F.fnI
  ex2 := fun z => by cases z
  exs := F.exs
  ex0 := F.ex0
  exf := F.exf
  kits := F.kits
  kfn := fun z => by cases z
  cbx := fun z => by cases z
  lamT := fun z => by cases z
  trd := fun z => by cases z

theorem pg_either {X : Cx} {e : Expr} {t t' : TG} (h : PG X e t) (h' : PG X e t') : PG X e (fun v σ H Q => t v σ H Q ∨ t' v σ H Q) := ⟨fun pins s σ H v u Q I r q => q.elim (h.run pins s σ H v u Q I r) (h'.run pins s σ H v u Q I r)⟩
mutual
def chkG (N : List Str) (sc : Scope) (cl : Str → Bool) : Tg → Expr → Bool
  | .nm i, e => match e with
    | .Name x _ => decide (N[i]? = some x) && (knd sc x .local || (cl x && knd sc x .cell))
    | _ => false
  | .tup gs, e => match e with
    | .Tuple es _ _ => chkGs N sc cl gs es
    | _ => false
def chkGs (N : List Str) (sc : Scope) (cl : Str → Bool) : List Tg → List Expr → Bool
  | [], es => es.isEmpty
  | g :: gs, es => match es with
    | e :: es => !isStar e && chkG N sc cl g e && chkGs N sc cl gs es
    | [] => false
end
theorem asgEach_cons {e : Expr} {es : List Expr} {env : Env} (h : isStar e = false) : assignEach (e :: es) env = (false, assign e env) :: assignEach es env := by
  cases e <;> first | rfl | (simp [isStar] at h)
theorem Fit.loc (F : Fit X L P W k g N sc fa) {b : Bool} {x : Str} (hf : b = true → X.fn x = true) (h : (knd sc x .local || (b && knd sc x .cell)) = true) : Loc X.env.scope x ∧ (X.fn x = true ∨ X.env.scope.names.lookup x = some .local) := by
  unfold knd at h
  simp only [Bool.and_eq_true, Bool.or_eq_true, decide_eq_true_eq] at h
  rw [F.hsc]
  rcases h with q | ⟨q1, q2⟩
  · exact ⟨.inl q, .inr q⟩
  · exact ⟨.inr q2, .inl (hf q1)⟩
mutual
theorem okG (F : Fit X L P W k g N sc fa) {cl : Str → Bool} (hf : ∀ x, cl x = true → X.fn x = true) : ∀ (t : Tg) (e : Expr), chkG N sc cl t e = true → PG X e (gOf X.K t)
  | .nm i, e, h => by
    unfold chkG at h
    split at h
    · rename_i x p
      simp only [Bool.and_eq_true, decide_eq_true_eq] at h
      obtain ⟨h1, h2⟩ := F.loc (hf x) h.2
      exact pg_name F.nd (by rw [F.N]; exact h.1) h1 h2
    · cases h
  | .tup gs, e, h => by
    unfold chkG at h
    split at h
    · rename_i es k0 p
      obtain ⟨h1, h2, h3⟩ := okGs F hf gs es h
      exact pg_either (pg_tup F.cal h1 h2 h3) (pg_lst F.cal h1 h2 h3)
    · cases h
theorem okGs (F : Fit X L P W k g N sc fa) {cl : Str → Bool} (hf : ∀ x, cl x = true → X.fn x = true) : ∀ (ts : List Tg) (es : List Expr), chkGs N sc cl ts es = true → PGs X es (gsOf X.K ts) ∧ (assignEach es X.env).length = ts.length ∧ (assignEach es X.env).findIdx? (·.1) = none
  | [], es, h => by
    unfold chkGs at h
    cases es with
    | nil => exact ⟨pgs_nil, rfl, rfl⟩
    | cons e es => cases h
  | t :: ts, es, h => by
    unfold chkGs at h
    split at h
    · rename_i e es
      simp only [Bool.and_eq_true, Bool.not_eq_true'] at h
      obtain ⟨h1, h2, h3⟩ := okGs F hf ts es h.2
      have hc := asgEach_cons (es := es) (env := X.env) h.1.1
      refine ⟨pgs_cons (okG F hf t e h.1.2) h1 (by rw [hc]; rfl), by rw [hc, List.length_cons, List.length_cons, h2], ?_⟩
      rw [hc, List.findIdx?_cons]
      simp [h3]
    · cases h
end
end
end XV
set_option Elab.async false
set_option linter.all false
set_option autoImplicit false
set_option maxRecDepth 100000
namespace XV
open PySem PySem.Spec PyProof.Rows L2 L2H LamX

def cst : D → Const → Bool
  | .non, .none => true
  | .bl b, .bool c => b == c
  | .int i, .int j => decide (i = j)
  | .str l, .str x => decide (x = mkS l)
  | _, _ => false
def isD0 : D → Bool
  | .dct [] [] => true
  | _ => false
def biN : Bi → Option Str
  | .len => some "len"
  | .list => some "list"
  | .all => some "all"
  | .any => some "any"
  | .int => some "int"
  | _ => none
def chkTy (g : Glb) (sc : Scope) (e : Expr) (m : String) : Bool := match e with
  | .Name y _ => decide (g.tys.lookup y = some m) && glB sc y
  | _ => false
def chkTys (g : Glb) (sc : Scope) : List Expr → List String → Bool
  | [], ms => ms.isEmpty
  | e :: es, ms => match ms with
    | m :: ms => chkTy g sc e m && chkTys g sc es ms
    | [] => false
def varB (N : List Str) (sc : Scope) (i : Nat) (x : Str) : Bool := decide (N[i]? = some x) && visB sc x
def ownN (N : List Str) (own : List Nat) : List (Str × Nat) := own.map fun i => ((N[i]?).getD "", i)
def lamPk (sc scope : Scope) (ps : List Str) (a : Arguments) : Bool :=
  lamPB sc scope ps && a.posonlyargs.isEmpty && a.vararg.isNone && a.kwonlyargs.isEmpty && a.kw_defaults.isEmpty && a.kwarg.isNone && a.defaults.isEmpty && (match a.args, ps with
    | [x], [y] => decide (x.arg = y)
    | [x, x'], [y, y'] => decide (x.arg = y) && decide (x'.arg = y')
    | _, _ => false)
def blkB (N : List Str) (sc scope : Scope) (own : List (Str × Nat)) : Bool :=
  decide (scope.kind = .function) && scope.names.all (fun y => decide (scope.names.lookup y.1 = some y.2)) && own.all (fun p => decide (N[p.2]? = some p.1)) &&
  scope.names.all (fun y => !decide (y.2 = .free) || knd sc y.1 .cell || knd sc y.1 .free) &&
  scope.names.all (fun y => !(decide (y.2 = .local) || decide (y.2 = .cell)) || (own.map (·.1)).contains y.1 || !(N.contains y.1))
mutual
def chk (g : Glb) (N : List Str) : T → Scope → Bool → Bool → Expr → Bool
  | .k d, sc, fa, m, e => match e with
    | .Constant c _ _ => cst d c
    | .Dict [] [] _ => isD0 d
    | _ => false
  | .v i, sc, fa, m, e => match e with
    | .Name x _ => varB N sc i x
    | _ => false
  | .pk i, sc, fa, m, e => false
  | .g n, sc, fa, m, e => match e with
    | .Name x _ => decide (g.gks.lookup x = some n) && glB sc x
    | _ => false
  | .tup ts, sc, fa, m, e => match e with
    | .Tuple es _ _ => chkA g N ts sc fa es
    | _ => false
  | .lst ts, sc, fa, m, e => match e with
    | .List es _ => chkA g N ts sc fa es
    | _ => false
  | .lstC ts, sc, fa, m, e => match e with
    | .List es _ => chkA g N ts sc fa es
    | _ => false
  | .bin o a b, sc, fa, m, e => match e with
    | .BinOp l op r _ => decide (op = oB o) && chk g N a sc fa false l && chk g N b sc fa false r
    | _ => false
  | .neg a, sc, fa, m, e => match e with
    | .UnaryOp .USub l _ => chk g N a sc fa false l
    | _ => false
  | .not a, sc, fa, m, e => match e with
    | .UnaryOp .Not l _ => chk g N a sc fa m l
    | _ => false
  | .and a b, sc, fa, m, e => match e with
    | .BoolOp .And [x, y] _ => chk g N a sc fa m x && chk g N b sc fa m y
    | .BoolOp .And (x :: y :: z :: r) p => chk g N a sc fa m x && chk g N b sc fa m (.BoolOp .And (y :: z :: r) p)
    | _ => false
  | .or a b, sc, fa, m, e => match e with
    | .BoolOp .Or [x, y] _ => chk g N a sc fa m x && chk g N b sc fa m y
    | .BoolOp .Or (x :: y :: z :: r) p => chk g N a sc fa m x && chk g N b sc fa m (.BoolOp .Or (y :: z :: r) p)
    | _ => false
  | .cmp op a b, sc, fa, m, e => match e with
    | .Compare l [o] [r] _ => decide (o = op) && chk g N a sc fa false l && !behindInMarks op r && (match b, r with
      | .pk j, .Name z _ => (decide (op = .In) || decide (op = .NotIn)) && varB N sc j z
      | b, r => chk g N b sc fa false r)
    | _ => false
  | .cmp2 op op' a b c, sc, fa, m, e => match e with
    | .Compare l [o, o'] [r, r'] _ => decide (o = op) && decide (o' = op') && chk g N a sc fa false l && chk g N b sc fa false r && chk g N c sc fa false r' && !lastMarks [op, op'] [r, r']
    | _ => false
  | .ife c a b, sc, fa, m, e => match e with
    | .IfExp x y z _ => !m && chk g N c sc fa true x && chk g N a sc fa false y && chk g N b sc fa false z
    | _ => false
  | .ix a i, sc, fa, m, e => match e with
    | .Subscript x y _ => !isSlice y && chk g N i sc fa false y && (match a, x with
      | .pk j, .Name z _ => varB N sc j z
      | a, x => chk g N a sc fa false x)
    | _ => false
  | .slc a lo hi, sc, fa, m, e => match e with
    | .Subscript x (.Slice l h none _) _ => chk g N a sc fa false x && chkP g N lo sc fa l && chkP g N hi sc fa h
    | _ => false
  | .call f ts, sc, fa, m, e => match e with
    | .Call (.Name x _) es [] _ => decide (g.fns.lookup x = some f) && glB sc x && !es.isEmpty && chkA g N ts sc fa es
    | _ => false
  | .bi n ts, sc, fa, m, e => match e with
    | .Call (.Name f _) [x] [] _ => decide (biN n = some f) && g.bl.contains f && glB sc f && (match n, ts, x with
      | .len, .cons (.pk i) .nil, .Name z _ => varB N sc i z
      | _, ts, x => chkA g N ts sc fa [x])
    | _ => false
  | .mt mm o ts, sc, fa, m, e => match e with
    | .Call (.Attribute x f ap) es [] cp => !isCall0 x && (ap.endLine == cp.line) && chk g N o sc fa false x && (match mm with
      | .join => decide (f = ("join" : Str)) && (match es with
        | [y] => chkA g N ts sc fa [y]
        | _ => false)
      | .upper => decide (f = ("upper" : Str)) && es.isEmpty && (match ts with
        | .nil => true
        | _ => false)
      | .lower => decide (f = ("lower" : Str)) && es.isEmpty && (match ts with
        | .nil => true
        | _ => false)
      | .swapcase => decide (f = ("swapcase" : Str)) && es.isEmpty && (match ts with
        | .nil => true
        | _ => false)
      | _ => false)
    | _ => false
  | .isi a ms, sc, fa, m, e => match e with
    | .Call (.Name f _) [x, c] [] _ => decide (f = ("isinstance" : Str)) && g.bl.contains ("isinstance" : Str) && glB sc ("isinstance" : Str) && !isStar x && ms.all BTY.contains && decide (ms.length ≤ 100) && chk g N a sc fa false x && (match c with
      | .Tuple es _ _ => chkTys g sc es ms
      | c => match ms with
        | [m] => chkTy g sc c m
        | _ => false)
    | _ => false
  | .comp own tg it cond t, sc, fa, m, e => match e with
    | .ListComp elt [⟨tg', iter, ifs, 0⟩] scope _ => blkB N sc scope (ownN N own) && chkI g N it sc fa tg' iter && chkG N (relS scope sc) (fun x => knd scope x .cell) tg tg' && chkD g N cond (relS scope sc) ifs && chk g N t (relS scope sc) false false elt && tg.ins own && !isSetD iter
    | _ => false
  | .tried n t, sc, fa, m, e => match e with
    | .Call (.Name f _) [.Lambda params body scope _] [] _ => fa && decide (f = g.trd) && glB sc g.trd && lamOk sc scope params && chk g N t scope false false body
    | _ => false
  | .fld o f, sc, fa, m, e => match e with
    | .Attribute x f' _ => decide (f' = f) && !isCall0 x && chk g N o sc fa false x
    | _ => false
  | .meth o mm ts, sc, fa, m, e => match e with
    | .Call (.Attribute x f ap) es [] cp => decide (f = mm) && !isCall0 x && (ap.endLine == cp.line) && decide (es.length < 30) && chk g N o sc fa false x && chkA g N ts sc fa es
    | _ => false
  | .new c ts, sc, fa, m, e => match e with
    | .Call (.Name x _) es [] _ => decide (g.news.lookup x = some c) && glB sc x && chkA g N ts sc fa es
    | _ => false
  | .lenM o, sc, fa, m, e => match e with
    | .Call (.Name f _) [x] [] _ => decide (f = ("len" : Str)) && g.bl.contains ("len" : Str) && glB sc ("len" : Str) && !isStar x && chk g N o sc fa false x
    | _ => false
  | .lstE t, sc, fa, m, e => match e with
    | .Call (.Name f _) [x] [] _ => decide (f = ("list" : Str)) && g.bl.contains ("list" : Str) && glB sc ("list" : Str) && !isStar x && chk g N t sc fa false x
    | _ => false
  | .srt t, sc, fa, m, e => match e with
    | .Call (.Name f _) [.Call (.Name f2 _) [x] [] _] [] _ => decide (f = ("sorted" : Str)) && g.bl.contains ("sorted" : Str) && glB sc ("sorted" : Str) && decide (f2 = ("set" : Str)) && g.bl.contains ("set" : Str) && glB sc ("set" : Str) && !isStar x && chk g N t sc fa false x
    | _ => false
  | .rev t, sc, fa, m, e => match e with
    | .Subscript x (.Slice none none (some (.UnaryOp .USub (.Constant (.int 1) _ _) _)) _) _ => chk g N t sc fa false x
    | _ => false
  | .tupE t, sc, fa, m, e => match e with
    | .Call (.Name f _) [x] [] _ => decide (f = ("tuple" : Str)) && g.bl.contains ("tuple" : Str) && glB sc ("tuple" : Str) && !isStar x && chk g N t sc fa false x
    | _ => false
  | .rngL t, sc, fa, m, e => match e with
    | .Call (.Name f _) [.Call (.Name f2 _) [x] [] _] [] _ => decide (f = ("list" : Str)) && g.bl.contains ("list" : Str) && glB sc ("list" : Str) && decide (f2 = ("range" : Str)) && g.bl.contains ("range" : Str) && glB sc ("range" : Str) && !isStar x && chk g N t sc fa false x
    | _ => false
  | .popAt o k, sc, fa, m, e => match e with
    | .Call (.Attribute x f ap) [y] [] cp => decide (f = ("pop" : Str)) && !isCall0 x && (ap.endLine == cp.line) && !isStar y && chk g N o sc fa false x && chk g N k sc fa false y
    | _ => false
  | .isC t c, sc, fa, m, e => match e with
    | .Call (.Name f _) [x, .Name y _] [] _ => decide (f = ("isinstance" : Str)) && g.bl.contains ("isinstance" : Str) && glB sc ("isinstance" : Str) && decide (g.iscs.lookup y = some c) && glB sc y && !isStar x && chk g N t sc fa false x
    | _ => false
  | .eqO ne a b, sc, fa, m, e => match e with
    | .Compare l [o] [r] _ => (match ne, o with
      | false, .Eq => true
      | true, .NotEq => g.neq
      | _, _ => false) && chk g N a sc fa false l && chk g N b sc fa false r
    | _ => false
  | .srs t, sc, fa, m, e => match e with
    | .Call (.Name f _) [x] [] _ => decide (f = ("sorted" : Str)) && g.bl.contains ("sorted" : Str) && glB sc ("sorted" : Str) && !isStar x && chk g N t sc fa false x
    | _ => false
  | .srk t, sc, fa, m, e => match e with
    | .Call (.Name f _) [x] [⟨some kw, .Name f2 _, _⟩] _ => decide (f = ("sorted" : Str)) && g.bl.contains ("sorted" : Str) && glB sc ("sorted" : Str) && decide (kw = ("key" : Str)) && decide (f2 = ("len" : Str)) && g.bl.contains ("len" : Str) && glB sc ("len" : Str) && !isStar x && chk g N t sc fa false x
    | _ => false
  | .dc own tg it cond k t, sc, fa, m, e => match e with
    | .DictComp kx vx [⟨tg', iter, ifs, 0⟩] scope _ => blkB N sc scope (ownN N own) && chkI g N it sc fa tg' iter && chkG N (relS scope sc) (fun x => knd scope x .cell) tg tg' && chkD g N cond (relS scope sc) ifs && chk g N k (relS scope sc) false false kx && chk g N t (relS scope sc) false false vx && tg.ins own && !isSetD iter
    | _ => false
  | .dcT own tg it cond ks t, sc, fa, m, e => match e with
    | .DictComp (.Tuple es _ _) vx [⟨tg', iter, ifs, 0⟩] scope _ => blkB N sc scope (ownN N own) && chkI g N it sc fa tg' iter && chkG N (relS scope sc) (fun x => knd scope x .cell) tg tg' && chkD g N cond (relS scope sc) ifs && chkA g N ks (relS scope sc) false es && chk g N t (relS scope sc) false false vx && tg.ins own && !isSetD iter
    | _ => false
  | .dc2 own tg it vs1 tg1 it1 k t, sc, fa, m, e => match e with
    | .DictComp kx vx [⟨tg', iter, [], 0⟩, ⟨tg1', iter1, [], 0⟩] scope _ => blkB N sc scope (ownN N own) && chkI g N it sc fa tg' iter && chkG N (relS scope sc) (fun x => knd scope x .cell) tg tg' && chkI g N it1 (relS scope sc) false tg1' iter1 && chkG N (relS scope sc) (fun x => knd scope x .cell) tg1 tg1' && chk g N k (relS scope sc) false false kx && chk g N t (relS scope sc) false false vx && tg.ins own && tg1.ins vs1 && vs1.all (fun i => own.contains i) && !isSetD iter && !isSetD iter1
    | _ => false
  | .lsK t, sc, fa, m, e => match e with
    | .Call (.Name f _) [x] [] _ => decide (f = ("list" : Str)) && g.bl.contains ("list" : Str) && glB sc ("list" : Str) && !isStar x && chk g N t sc fa false x
    | _ => false
  | .sum t, sc, fa, m, e => match e with
    | .Call (.Name f _) [x] [] _ => decide (f = ("sum" : Str)) && g.bl.contains ("sum" : Str) && glB sc ("sum" : Str) && !isStar x && chk g N t sc fa false x
    | _ => false
  | .newE c f t, sc, fa, m, e => match e with
    | .Call (.Name x _) [y] [] _ => fa && decide (g.exs.lookup x = some (c, f)) && glB sc x && !isStar y && chk g N t sc fa false y
    | _ => false
  | .newEK c f t, sc, fa, m, e => match e with
    | .Call (.Name x _) [] [⟨some kw, y, _⟩] _ => fa && decide (g.exs.lookup x = some (c, f)) && glB sc x && decide (kw = f) && chk g N t sc fa false y
    | _ => false
  | .newE0 c, sc, fa, m, e => match e with
    | .Call (.Name x _) [] [] _ => fa && decide (g.ex0.lookup x = some c) && glB sc x
    | _ => false
  | .fldE t c f, sc, fa, m, e => match e with
    | .Attribute x f' _ => decide (f' = f) && g.exf.contains (c, f) && !isCall0 x && chk g N t sc fa false x
    | _ => false
  | .isE t tbl, sc, fa, m, e => match e with
    | .Call (.Name f _) [x, .Name y _] [] _ => decide (f = ("isinstance" : Str)) && g.bl.contains ("isinstance" : Str) && glB sc ("isinstance" : Str) && decide (g.kits.lookup y = some tbl) && glB sc y && !isStar x && chk g N t sc fa false x
    | _ => false
  | .dl ts, sc, fa, m, e => match e with
    | .Dict keys values _ => !keys.isEmpty && decide (keys.length ≤ 15) && chkDl g N ts sc fa keys values
    | _ => false
  | .cbk i ts, sc, fa, m, e => match e with
    | .Call (.Name x _) es [] _ => fa && g.cb && varB N sc i x && !es.isEmpty && chkA g N ts sc fa es
    | _ => false
  | .callK f ts own b, sc, fa, m, e => match e with
    | .Call (.Name x _) [e1, .Lambda params body scope _] [] _ => fa && g.lam && decide (g.kfns.lookup x = some f) && glB sc x && lamPk sc scope ((ownN N own).map (·.1)) params && decide (own.map (fun j => N[j]?) = ((ownN N own).map (·.1)).map some) && chkA g N ts sc fa [e1] && chk g N b scope false false body
    | _ => false
  | .callP f ts i, sc, fa, m, e => match e with
    | .Call (.Name x _) [e1, .Name a _] [] _ => fa && g.cb && decide (g.kfns.lookup x = some f) && glB sc x && varB N sc i a && chkA g N ts sc fa [e1]
    | _ => false
  | .callF f ts h, sc, fa, m, e => match e with
    | .Call (.Name x _) [e1, e2, .Name y _] [] _ => fa && decide (g.kfns.lookup x = some f) && glB sc x && decide (g.fns.lookup y = some h) && glB sc y && chkA g N ts sc fa [e1, e2]
    | _ => false
  | .pop o, sc, fa, m, e => match e with
    | .Call (.Attribute x f ap) [] [] cp => decide (f = ("pop" : Str)) && !isCall0 x && (ap.endLine == cp.line) && chk g N o sc fa false x
    | _ => false
def chkA (g : Glb) (N : List Str) : Ts → Scope → Bool → List Expr → Bool
  | .nil, sc, fa, es => es.isEmpty
  | .cons t ts, sc, fa, es => match es with
    | e :: es => !isStar e && chk g N t sc fa false e && chkA g N ts sc fa es
    | [] => false
def chkDl (g : Glb) (N : List Str) : Ts → Scope → Bool → List (Option Expr) → List Expr → Bool
  | .nil, sc, fa, ks, vs => ks.isEmpty && vs.isEmpty
  | .cons t ts, sc, fa, ks, vs => match ks, vs with
    | some k :: ks, v :: vs => chk g N t sc fa false k && chkDv g N ts sc fa v ks vs
    | _, _ => false
def chkDv (g : Glb) (N : List Str) : Ts → Scope → Bool → Expr → List (Option Expr) → List Expr → Bool
  | .nil, sc, fa, v, ks, vs => false
  | .cons t ts, sc, fa, v, ks, vs => chk g N t sc fa false v && chkDl g N ts sc fa ks vs
def chkP (g : Glb) (N : List Str) : Cd → Scope → Bool → Option Expr → Bool
  | .no, sc, fa, e => e.isNone
  | .one t, sc, fa, e => match e with
    | some e => chk g N t sc fa false e
    | none => false
def chkD (g : Glb) (N : List Str) : Cd → Scope → List Expr → Bool
  | .no, sc, es => es.isEmpty
  | .one t, sc, es => match es with
    | [e] => chk g N t sc false true e
    | _ => false
def chkI (g : Glb) (N : List Str) : I → Scope → Bool → Expr → Expr → Bool
  | .val t, sc, fa, tg, e => chk g N t sc fa false e
  | .rng1 t, sc, fa, tg, e => match e with
    | .Call (.Name f _) [x] [] _ => decide (f = ("range" : Str)) && g.bl.contains ("range" : Str) && glB sc ("range" : Str) && !isStar x && chk g N t sc fa false x
    | _ => false
  | .rng2 t u, sc, fa, tg, e => match e with
    | .Call (.Name f _) [x, y] [] _ => decide (f = ("range" : Str)) && g.bl.contains ("range" : Str) && glB sc ("range" : Str) && !isStar x && !isStar y && chk g N t sc fa false x && chk g N u sc fa false y
    | _ => false
  | .enum t, sc, fa, tg, e => match e, tg with
    | .Call (.Name f _) [x] [] _, .Tuple _ _ _ => decide (f = ("enumerate" : Str)) && g.bl.contains ("enumerate" : Str) && glB sc ("enumerate" : Str) && !isStar x && chk g N t sc fa false x
    | _, _ => false
  | .own t c f, sc, fa, tg, e => decide (g.itrs.lookup c = some f) && chk g N t sc fa false e
  | .zip t u, sc, fa, tg, e => match e, tg with
    | .Call (.Name f _) [x, y] [] _, .Tuple _ _ _ => decide (f = ("zip" : Str)) && g.bl.contains ("zip" : Str) && glB sc ("zip" : Str) && !isStar x && !isStar y && chk g N t sc fa false x && chk g N u sc fa false y
    | _, _ => false
end
end XV
set_option Elab.async false
set_option linter.all false
set_option autoImplicit false
set_option maxRecDepth 100000
namespace XV
open PySem PySem.Spec PyProof.Rows L2 L2H LamX

def isBool : Expr → Bool
  | .BoolOp _ _ _ => true
  | _ => false
def Trip (X : Cx) (L : Lay) (P : Cfg) (W : WX) (m : Bool) (t : T) (e : Expr) : Prop :=
  (m = false → PE X e (tE X.K L P W t)) ∧ (m = true → PT X e (tT X.K L P W t)) ∧ (m = true → isBool e = true → PW X e (tT X.K L P W t))
section
variable {X : Cx} {L : Lay} {P : Cfg} {W : WX} {k : Nat} {g : Glb} {N : List Str} {sc : Scope} {fa m : Bool} {e : Expr} {t : T}
theorem trip (h : PE X e (tE X.K L P W t)) (hp : plainT e = true) : Trip X L P W m t e :=
  ⟨fun _ => h, fun _ => sT_of h hp, fun _ hb => by cases e <;> first | (cases hb; done) | (cases hp; done)⟩
theorem Trip.pe (h : Trip X L P W false t e) : PE X e (tE X.K L P W t) := h.1 rfl
theorem Trip.pt (h : Trip X L P W true t e) : PT X e (tT X.K L P W t) := h.2.1 rfl
theorem trip2 (h1 : PE X e (tE X.K L P W t)) (h2 : PT X e (tT X.K L P W t)) (hb : isBool e = false) : Trip X L P W m t e := ⟨fun _ => h1, fun _ => h2, fun _ h => by rw [hb] at h; cases h⟩
theorem Fit.var (F : Fit X L P W k g N sc fa) {i : Nat} {x : Str} (h : varB N sc i x = true) : X.N[i]? = some x ∧ Vis X.env.scope x ∧ (x == ("__debug__" : Str)) = false ∧ (x == ("__classdict__" : Str)) = false := by
  unfold varB at h
  simp only [Bool.and_eq_true, decide_eq_true_eq] at h
  exact ⟨by rw [F.N]; exact h.1, F.vis h.2⟩
theorem cst_ok {d : D} {c : Const} {j : Nat} {pos : Pos} (h : cst d c = true) : PE X (.Constant c j pos) (tE X.K L P W (.k d)) := by
  unfold cst at h
  split at h
  · exact sE_non
  · cases (beq_iff_eq.mp h); exact sE_bl
  · cases (of_decide_eq_true h); exact sE_int
  · exact sE_str (of_decide_eq_true h)
  · cases h
theorem ty_ok (F : Fit X L P W k g N sc fa) {mm : String} (h : chkTy g sc e mm = true) : PE X e (tC (.ty mm)) ∧ isStar e = false := by
  unfold chkTy at h
  split at h
  · rename_i y p
    simp only [Bool.and_eq_true, decide_eq_true_eq] at h
    obtain ⟨h1, h2, h3⟩ := F.tys _ _ h.1
    obtain ⟨h4, h5⟩ := F.gl h.2
    exact ⟨pe_tyN (m := y) h4 h1 h2 h3 h5, rfl⟩
  · cases h
theorem tys_ok (F : Fit X L P W k g N sc fa) : ∀ (es : List Expr) (ms : List String), chkTys g sc es ms = true → PA X es (tK (ms.map .ty))
  | [], ms, h => by
    cases ms with
    | nil => exact PA.imp pa_nil fun _ _ _ q => q
    | cons m ms => cases h
  | e :: es, ms, h => by
    unfold chkTys at h
    split at h
    · rename_i m ms
      simp only [Bool.and_eq_true] at h
      obtain ⟨h1, h2⟩ := ty_ok F h.1
      exact pa_tys h1 (tys_ok F es ms h.2) h2
    · cases h
theorem backTo_any {pos : Pos} {env : Env} : ∀ {es : List Expr}, (∀ e ∈ es, isStar e = false) → (backTo pos (starEach es env)).any (·.1) = false
  | [], _ => rfl
  | e :: es, h => by
    rw [star_ok (h e (by simp))]
    have ih := backTo_any (pos := pos) (env := env) (es := es) fun e he => h e (by simp [he])
    unfold backTo at ih ⊢
    simp only [List.map_cons, List.any_cons, Bool.false_or]
    exact ih
theorem ownN_snd {own : List Nat} : (ownN N own).map (·.2) = own := by
  unfold ownN
  rw [List.map_map]
  exact List.map_id'' (fun _ => rfl) own
theorem blk_ok {scope : Scope} {own : List (Str × Nat)} (h : blkB N sc scope own = true) : BlkOk N sc scope own := by
  unfold blkB knd at h
  simp only [Bool.and_eq_true, decide_eq_true_eq, List.all_eq_true, Bool.or_eq_true, Bool.not_eq_true', decide_eq_false_iff_not, List.contains_iff_mem] at h
  obtain ⟨⟨⟨⟨h1, h2⟩, h3⟩, h4⟩, h5⟩ := h
  refine ⟨h1, h2, h3, fun y hy e => ?_, fun y hy e => ?_⟩
  · rcases h4 y hy with (q | q) | q
    · exact absurd e q
    · exact .inl q
    · exact .inr q
  · rcases h5 y hy with (q | q) | q
    · rcases e with e | e
      · simp [e] at q
      · simp [e] at q
    · exact .inl q
    · exact .inr (by simpa using q)

theorem chkA_nil {ts : Ts} {es : List Expr} (h : chkA g N ts sc fa es = true) : es = [] → ts = .nil := fun e => by
  subst e
  cases ts with
  | nil => rfl
  | cons _ _ => unfold chkA at h; cases h
theorem not_t {b : Bool} (h : (!b) = true) : b = false := by cases b <;> first | rfl | cases h
theorem bind1 (q : Str) (a : PySem.Arg) (body : Expr) (scope : Scope) (cl : List (Str × Addr)) (pm cv ctv u : Value) : bindArgs (PySem.W.kla_fn "<lambda>" q ⟨[], [a], none, [], [], none, []⟩ body scope cl pm cv ctv) ⟨[u], []⟩ = pure [(a.arg, u)] := by
  unfold bindArgs
  simp [PySem.W.kla_fn, seqItems?, List.lookup]
  rfl
theorem bind2 (q : Str) (a b : PySem.Arg) (h : a.arg ≠ b.arg) (body : Expr) (scope : Scope) (cl : List (Str × Addr)) (pm cv ctv u u2 : Value) : bindArgs (PySem.W.kla_fn "<lambda>" q ⟨[], [a, b], none, [], [], none, []⟩ body scope cl pm cv ctv) ⟨[u, u2], []⟩ = pure [(a.arg, u), (b.arg, u2)] := by
  have h2 : (b.arg == a.arg) = false := by simpa using fun z => h z.symm
  unfold bindArgs
  simp [PySem.W.kla_fn, seqItems?, List.lookup, h2]
  rfl
theorem lempty {α : Type} {l : List α} (h : l.isEmpty = true) : l = [] := by cases l <;> first | rfl | cases h
theorem lnone {α : Type} {l : Option α} (h : l.isNone = true) : l = none := by cases l <;> first | rfl | cases h
theorem lamPk_ok {sc scope : Scope} {ps : List Str} {a : Arguments} (h : lamPk sc scope ps a = true) : LamP sc scope ps ∧ (∀ env : Env, defaultsOf a env = ([], [])) ∧
    ∀ (q : Str) (body : Expr) (cl : List (Str × Addr)) (pm cv ctv : Value) (us : List Value), us.length = ps.length → bindArgs (PySem.W.kla_fn "<lambda>" q a body scope cl pm cv ctv) ⟨us, []⟩ = pure (ps.zip us) := by
  unfold lamPk at h
  simp only [Bool.and_eq_true] at h
  obtain ⟨⟨⟨⟨⟨⟨⟨h0, h1⟩, h2⟩, h3⟩, h4⟩, h5⟩, h6⟩, h7⟩ := h
  obtain ⟨a1, a2, a3, a4, a5, a6, a7⟩ := a
  have e1 := lempty h1
  have e2 := lnone h2
  have e3 := lempty h3
  have e4 := lempty h4
  have e5 := lnone h5
  have e6 := lempty h6
  dsimp only at e1 e2 e3 e4 e5 e6 h7
  subst e1 e2 e3 e4 e5 e6
  have LP := lamP_by h0
  refine ⟨LP, fun env => rfl, fun q body cl pm cv ctv us hl => ?_⟩
  split at h7
  · rename_i x y
    have := of_decide_eq_true h7
    subst this
    match us, hl with
    | [u], _ => exact bind1 q x body scope cl pm cv ctv u
  · rename_i x x' y y'
    simp only [Bool.and_eq_true, decide_eq_true_eq] at h7
    obtain ⟨e1, e2⟩ := h7
    subst e1 e2
    have nd := LP.nd
    simp at nd
    match us, hl with
    | [u, u2], _ => exact bind2 q x x' nd body scope cl pm cv ctv u u2
  · cases h7
theorem dl_shape : ∀ (ts : Ts) (ks : List (Option Expr)) (vs : List Expr), chkDl g N ts sc fa ks vs = true → evenT ts = true ∧ ks.all (·.isSome) = true ∧ ks.length = vs.length
  | .nil, ks, vs, h => by
    unfold chkDl at h
    rw [Bool.and_eq_true] at h
    have e1 := lempty h.1
    have e2 := lempty h.2
    subst e1 e2
    exact ⟨rfl, rfl, rfl⟩
  | .cons t .nil, ks, vs, h => by
    unfold chkDl at h
    split at h
    · rw [Bool.and_eq_true] at h
      obtain ⟨_, h⟩ := h
      unfold chkDv at h
      cases h
    · cases h
  | .cons t (.cons t2 ts), ks, vs, h => by
    unfold chkDl at h
    split at h
    · rw [Bool.and_eq_true] at h
      obtain ⟨_, h⟩ := h
      unfold chkDv at h
      rw [Bool.and_eq_true] at h
      obtain ⟨a, b, c⟩ := dl_shape ts _ _ h.2
      exact ⟨a, by simpa using b, by simp [c]⟩
    · cases h
theorem kit_pe (F : Fit X L P W k g N sc fa) {y : Str} {p : Pos} {tbl : List (Nat × Bool)} (h : g.kits.lookup y = some tbl) (hg : glB sc y = true) : ∃ (v : V) (u : Value), PE X (.Name y p) (tC v) ∧ (∀ u', RelV v u' → u' = u) ∧ ∀ c b, tbl.lookup c = some b → ExcC X.K (L.cls c) ∧ PySem.W.kitOne X.K (.ref (L.cls c)) u = some b := by
  obtain ⟨v, u, h1, h2, h3⟩ := F.kits _ _ h
  obtain ⟨g1, g2⟩ := F.gl hg
  refine ⟨v, u, ?_, h1, h3⟩
  rcases h2 with ⟨m1, m2⟩ | ⟨m1, m2, m, m3, rfl⟩
  · exact pe_glob g1 m1 m2 g2
  · exact pe_tyN (m := y) g1 m1 m3 m2 g2
mutual
theorem ok (t : T) {X : Cx} {W : WX} {sc : Scope} {fa m : Bool} {e : Expr} (F : Fit X L P W k g N sc fa) (h : chk g N t sc fa m e = true) : Trip X L P W m t e := by
  cases t with
  | k d =>
    unfold chk at h
    split at h
    · exact trip (cst_ok h) rfl
    · unfold isD0 at h
      split at h
      · exact trip (PE.imp pe_dnewK fun σ H Q ⟨G, r, cs, env, s, er, q⟩ => fun p hp => q _ _ _ _ (Go.new s _ hp) (s.new _ hp) (.dct (vs := []) upd_same rfl List.nodup_nil .nil)) rfl
      · cases h
    · cases h
  | v i =>
    unfold chk at h
    split at h
    · obtain ⟨h1, h2, h3, h4⟩ := F.var h
      exact trip (sE_name h1 h2 h3 h4) rfl
    · cases h
  | pk i => unfold chk at h; cases h
  | g n =>
    unfold chk at h
    split at h
    · simp only [Bool.and_eq_true, decide_eq_true_eq] at h
      obtain ⟨u, d, v, h1, h2, h3, h4⟩ := F.gks _ _ h.1
      obtain ⟨h5, h6⟩ := F.gl h.2
      exact trip (sE_glob h5 h1 h2 h3 h4 h6) rfl
    · cases h
  | tup ts =>
    unfold chk at h
    split at h
    · exact trip (sE_tup (okA ts F h).1) rfl
    · cases h
  | lst ts =>
    unfold chk at h
    split at h
    · exact trip (sE_lst (okA ts F h).1) rfl
    · cases h
  | lstC ts =>
    unfold chk at h
    split at h
    · exact trip (sE_lstC (okA ts F h).1) rfl
    · cases h
  | bin o a b =>
    unfold chk at h
    split at h
    · simp only [Bool.and_eq_true, decide_eq_true_eq] at h
      obtain ⟨⟨rfl, h1⟩, h2⟩ := h
      exact trip (sE_op (ok a F h1).pe (ok b F h2).pe) rfl
    · cases h
  | neg a =>
    unfold chk at h
    split at h
    · exact trip (sE_neg (ok a F h).pe) rfl
    · cases h
  | not a =>
    unfold chk at h
    split at h
    · cases m with
      | false => exact ⟨fun _ => sE_not (ok a F h).pe, fun z => (by cases z), fun z => (by cases z)⟩
      | true => exact ⟨fun z => (by cases z), fun _ => sT_not (ok a F h).pt, fun _ z => (by cases z)⟩
    · cases h
  | and a b =>
    unfold chk at h
    split at h
    · simp only [Bool.and_eq_true] at h
      cases m with
      | false => exact ⟨fun _ => sE_and (ok a F h.1).pe (sE_one (ok b F h.2).pe), fun z => (by cases z), fun z => (by cases z)⟩
      | true =>
        rename_i p
        have w := sW_and (pos := p) (ok a F h.1).pt (sW_and1 (pos := p) (ok b F h.2).pt)
        exact ⟨fun z => (by cases z), fun _ => PW.pt w, fun _ _ => w⟩
    · simp only [Bool.and_eq_true] at h
      cases m with
      | false => exact ⟨fun _ => sE_and (ok a F h.1).pe (ok b F h.2).pe, fun z => (by cases z), fun z => (by cases z)⟩
      | true =>
        have w := sW_and (ok a F h.1).pt ((ok b F h.2).2.2 rfl rfl)
        exact ⟨fun z => (by cases z), fun _ => PW.pt w, fun _ _ => w⟩
    · cases h
  | or a b =>
    unfold chk at h
    split at h
    · simp only [Bool.and_eq_true] at h
      cases m with
      | false => exact ⟨fun _ => sE_or (ok a F h.1).pe (sE_one (ok b F h.2).pe), fun z => (by cases z), fun z => (by cases z)⟩
      | true =>
        rename_i p
        have w := sW_or (pos := p) (ok a F h.1).pt (sW_or1 (pos := p) (ok b F h.2).pt)
        exact ⟨fun z => (by cases z), fun _ => PW.pt w, fun _ _ => w⟩
    · simp only [Bool.and_eq_true] at h
      cases m with
      | false => exact ⟨fun _ => sE_or (ok a F h.1).pe (ok b F h.2).pe, fun z => (by cases z), fun z => (by cases z)⟩
      | true =>
        have w := sW_or (ok a F h.1).pt ((ok b F h.2).2.2 rfl rfl)
        exact ⟨fun z => (by cases z), fun _ => PW.pt w, fun _ _ => w⟩
    · cases h
  | cmp op a b =>
    unfold chk at h
    split at h
    · simp only [Bool.and_eq_true, decide_eq_true_eq] at h
      obtain ⟨⟨⟨rfl, h1⟩, h3⟩, h2⟩ := h
      split at h2
      · simp only [Bool.and_eq_true, Bool.or_eq_true, decide_eq_true_eq] at h2
        obtain ⟨q1, q2, q3, q4⟩ := F.var h2.2
        exact trip2 (sE_inO F.u h2.1 (ok a F h1).pe q1 q2 q3 q4 (not_t h3)) (sT_inO F.u h2.1 (ok a F h1).pe q1 q2 q3 q4 (not_t h3)) rfl
      · exact trip2 (sE_cmp F.u (ok a F h1).pe (ok b F h2).pe (not_t h3)) (sT_cmp F.u (ok a F h1).pe (ok b F h2).pe (not_t h3)) rfl
    · cases h
  | cmp2 op op' a b c =>
    unfold chk at h
    split at h
    · simp only [Bool.and_eq_true, decide_eq_true_eq] at h
      obtain ⟨⟨⟨⟨⟨rfl, rfl⟩, h1⟩, h2⟩, h3⟩, h4⟩ := h
      exact trip2 (sE_cmp2 F.u (ok a F h1).pe (ok b F h2).pe (ok c F h3).pe (not_t h4)) (sT_cmp2 F.u (ok a F h1).pe (ok b F h2).pe (ok c F h3).pe (not_t h4)) rfl
    · cases h
  | ife c a b =>
    unfold chk at h
    split at h
    · simp only [Bool.and_eq_true] at h
      obtain ⟨⟨⟨h0, h1⟩, h2⟩, h3⟩ := h
      have hm := not_t h0
      subst hm
      exact ⟨fun _ => sE_ife (ok c F h1).pt (ok a F h2).pe (ok b F h3).pe, fun z => (by cases z), fun z => (by cases z)⟩
    · cases h
  | ix a i =>
    unfold chk at h
    split at h
    · simp only [Bool.and_eq_true] at h
      obtain ⟨⟨h0, h1⟩, h2⟩ := h
      split at h2
      · obtain ⟨q1, q2, q3, q4⟩ := F.var h2
        exact trip (sE_ixO F.u q1 q2 q3 q4 (ok i F h1).pe (not_t h0)) rfl
      · exact trip (sE_ix F.u (ok a F h2).pe (ok i F h1).pe (not_t h0)) rfl
    · cases h
  | slc a lo hi =>
    unfold chk at h
    split at h
    · simp only [Bool.and_eq_true] at h
      exact trip (sE_slc (ok a F h.1.1).pe (okP lo F h.1.2) (okP hi F h.2)) rfl
    · cases h
  | call f ts =>
    unfold chk at h
    split at h
    · rename_i x p es p2
      simp only [Bool.and_eq_true, decide_eq_true_eq] at h
      obtain ⟨⟨⟨h1, h2⟩, h3⟩, h4⟩ := h
      obtain ⟨fa', fd, ps, q1, q2, q3, q4⟩ := F.fns _ _ h1
      obtain ⟨q5, q6⟩ := F.gl h2
      obtain ⟨a1, a2⟩ := okA ts F h4
      cases es with
      | nil => cases h3
      | cons e0 es0 => exact trip (sE_call q1 (F.room.mono (Nat.le_succ _)) q5 q2 q3 q4 F.tk a1 q6 (star_ok (a2 _ (by simp))) (backTo_any fun e he => a2 e (by simp [he]))) rfl
    · cases h
  | bi n ts =>
    unfold chk at h
    split at h
    · rename_i f p x p2
      simp only [Bool.and_eq_true, decide_eq_true_eq] at h
      obtain ⟨⟨⟨h1, h2⟩, h3⟩, h4⟩ := h
      obtain ⟨q5, q6⟩ := F.gl h3
      have q2 := F.bl _ h2
      split at h4
      · cases h1
        obtain ⟨r1, r2, r3, r4⟩ := F.var h4
        exact trip (sE_lenO (y := "len") r1 r2 r3 r4 q5 q2) rfl
      · obtain ⟨a1, a2⟩ := okA _ F h4
        have hs := a2 x (by simp)
        cases n <;> first
          | (cases h1; exact trip (sE_callB (call_len.or call_lenD) ok_len q5 q2 (by decide +kernel) a1 hs (by decide) q6 rfl) rfl)
          | (cases h1; exact trip (sE_callTy (call_list_of.or (call_list_text F.cal)) ok_list q5 q2 (by decide +kernel) a1 hs (by decide) q6 rfl) rfl)
          | (cases h1; exact trip (sE_callB (cr_all F.cal) ok_all q5 q2 (by decide +kernel) a1 hs (by decide) q6 rfl) rfl)
          | (cases h1; exact trip (sE_callB (cr_any F.cal) ok_any q5 q2 (by decide +kernel) a1 hs (by decide) q6 rfl) rfl)
          | (cases h1; exact trip (sE_callTy call_int1 ok_int q5 q2 (by decide +kernel) a1 hs (by decide) q6 rfl) rfl)
          | (cases h1; done)
    · cases h
  | mt mm o ts =>
    unfold chk at h
    split at h
    · rename_i x f ap es cp
      simp only [Bool.and_eq_true] at h
      obtain ⟨⟨⟨h1, h2⟩, h3⟩, h4⟩ := h
      split at h4
      · simp only [Bool.and_eq_true, decide_eq_true_eq] at h4
        obtain ⟨rfl, h5⟩ := h4
        split at h5
        · rename_i y
          cases ts with
          | nil => unfold chkA at h5; cases h5
          | cons t1 ts1 =>
            unfold chkA at h5
            simp only [Bool.and_eq_true] at h5
            cases ts1 with
            | nil => exact trip (sE_join (ok o F h3).pe (ok t1 F h5.1.2).pe (not_t h5.1.1) (not_t h1) h2) rfl
            | cons _ _ => have z := h5.2; unfold chkA at z; cases z
        · cases h5
      · simp only [Bool.and_eq_true, decide_eq_true_eq] at h4
        obtain ⟨⟨rfl, h5⟩, h6⟩ := h4
        cases es with
        | cons _ _ => cases h5
        | nil =>
          split at h6
          · exact trip (sE_upper (ok o F h3).pe (not_t h1) h2) rfl
          · cases h6
      · simp only [Bool.and_eq_true, decide_eq_true_eq] at h4
        obtain ⟨⟨rfl, h5⟩, h6⟩ := h4
        cases es with
        | cons _ _ => cases h5
        | nil =>
          split at h6
          · exact trip (sE_lower (ok o F h3).pe (not_t h1) h2) rfl
          · cases h6
      · simp only [Bool.and_eq_true, decide_eq_true_eq] at h4
        obtain ⟨⟨rfl, h5⟩, h6⟩ := h4
        cases es with
        | cons _ _ => cases h5
        | nil =>
          split at h6
          · exact trip (sE_swapcase (ok o F h3).pe (not_t h1) h2) rfl
          · cases h6
      · cases h4
    · cases h
  | isi a ms =>
    unfold chk at h
    split at h
    · simp only [Bool.and_eq_true, decide_eq_true_eq] at h
      obtain ⟨⟨⟨⟨⟨⟨⟨rfl, h1⟩, h2⟩, h3⟩, h4⟩, h5⟩, h6⟩, h7⟩ := h
      obtain ⟨q5, _⟩ := F.gl h2
      have q2 := F.bl _ h1
      split at h7
      · exact trip (sE_isiT q5 q2 (ok a F h6).pe (tys_ok F _ _ h7) (not_t h3) h4 h5) rfl
      · split at h7
        · obtain ⟨r1, r2⟩ := ty_ok F h7
          exact trip (sE_isi q5 q2 (ok a F h6).pe r1 (not_t h3) r2 (by simpa using h4)) rfl
        · cases h7
    · cases h
  | comp own tg it cond t =>
    unfold chk at h
    split at h
    · rename_i elt tg' iter ifs scope p
      simp only [Bool.and_eq_true] at h
      obtain ⟨⟨⟨⟨⟨⟨h1, h2⟩, h3⟩, h4⟩, h5⟩, h6⟩, h7⟩ := h
      have hb : BlkOk X.N X.env.scope scope (ownN N own) := by
        have := blk_ok h1
        rw [F.N, F.hsc]
        exact this
      have hl := pe_lc (wi := tI X.K L P W it) (g := gOf X.K tg) (tt := tCd X.K L P cond) (te := tE X.K L P W0 t) (pos := p) F.cal F.nd (okI it F h2) hb (fun s H C cl fp => okG F.blk (fun x hx => by
        show (scope.names.lookup x == some .cell) = true
        exact beq_iff_eq.mpr (of_decide_eq_true hx)) tg tg' h3) (fun s H C cl fp => okD cond F.blk h4) (fun s H C cl fp => (ok t F.blk h5).pe) (folded_ok (not_t h7))
      exact trip (PE.imp hl fun σ H Q q => comp_imp (own := ownN N own) (by rw [ownN_snd]; exact h6) σ H Q (by rw [ownN_snd]; exact q)) rfl
    · cases h
  | tried n t =>
    unfold chk at h
    split at h
    · simp only [Bool.and_eq_true, decide_eq_true_eq] at h
      obtain ⟨⟨⟨⟨h1, rfl⟩, h3⟩, h4⟩, h5⟩ := h
      exact trip (F.trd h1 _ _ _ _ _ _ n t h4 h3 fun A outer s H E f c' hr => (ok t (F.lam hr) h5).pe) rfl
    · cases h
  | fld o f =>
    unfold chk at h
    split at h
    · simp only [Bool.and_eq_true, decide_eq_true_eq] at h
      obtain ⟨⟨rfl, h1⟩, h2⟩ := h
      exact trip (sE_fld (ok o F h2).pe (not_t h1) F.cls) rfl
    · cases h
  | meth o mm ts =>
    unfold chk at h
    split at h
    · simp only [Bool.and_eq_true, decide_eq_true_eq] at h
      obtain ⟨⟨⟨⟨⟨rfl, h1⟩, h2⟩, h3⟩, h4⟩, h5⟩ := h
      obtain ⟨a1, a2⟩ := okA ts F h5
      exact trip (sE_meth F.mth (ok o F h4).pe (not_t h1) (F.room.mono (Nat.le_succ _)) F.tk a1 a2 h3 h2 (chkA_nil h5) (backTo_any a2) fun e es' he => backTo_any fun e2 he2 => a2 e2 (by rw [he]; exact List.mem_cons_of_mem _ he2)) rfl
    · cases h
  | new c ts =>
    unfold chk at h
    split at h
    · simp only [Bool.and_eq_true, decide_eq_true_eq] at h
      obtain ⟨⟨h1, h2⟩, h3⟩ := h
      obtain ⟨f, fd, ps, q1, q2, q3, q4⟩ := F.news _ _ h1
      obtain ⟨q5, q6⟩ := F.gl h2
      obtain ⟨a1, a2⟩ := okA ts F h3
      exact trip (sE_new q1 q2 q3 F.room q5 q4 q6 F.tk a1 a2 (chkA_nil h3) fun e es' he => backTo_any fun e2 he2 => a2 e2 (by rw [he]; exact List.mem_cons_of_mem _ he2)) rfl
    · cases h
  | lenM o =>
    unfold chk at h
    split at h
    · simp only [Bool.and_eq_true, decide_eq_true_eq] at h
      obtain ⟨⟨⟨⟨rfl, h1⟩, h2⟩, h3⟩, h4⟩ := h
      exact trip (sE_lenM F.mth F.room (F.gl h2).1 (F.bl _ h1) (ok o F h4).pe (not_t h3)) rfl
    · cases h
  | lstE o =>
    unfold chk at h
    split at h
    · simp only [Bool.and_eq_true, decide_eq_true_eq] at h
      obtain ⟨⟨⟨⟨rfl, h1⟩, h2⟩, h3⟩, h4⟩ := h
      exact trip (sE_lstE F.cal (F.gl h2).1 (F.bl _ h1) (ok o F h4).pe (not_t h3)) rfl
    · cases h
  | srt t =>
    unfold chk at h
    split at h
    · simp only [Bool.and_eq_true, decide_eq_true_eq] at h
      obtain ⟨⟨⟨⟨⟨⟨⟨rfl, h1⟩, h2⟩, rfl⟩, h3⟩, h4⟩, h5⟩, h6⟩ := h
      exact trip (sE_srt F.cal (F.gl h2).1 (F.bl _ h1) (F.gl h4).1 (F.bl _ h3) (ok t F h6).pe (not_t h5)) rfl
    · cases h
  | rev t =>
    unfold chk at h
    split at h
    · exact trip (sE_rev (ok t F h).pe) rfl
    · cases h
  | tupE t =>
    unfold chk at h
    split at h
    · simp only [Bool.and_eq_true, decide_eq_true_eq] at h
      obtain ⟨⟨⟨⟨rfl, h1⟩, h2⟩, h3⟩, h4⟩ := h
      exact trip (sE_tupE (F.gl h2).1 (F.bl _ h1) (ok t F h4).pe (not_t h3)) rfl
    · cases h
  | rngL t =>
    unfold chk at h
    split at h
    · simp only [Bool.and_eq_true, decide_eq_true_eq] at h
      obtain ⟨⟨⟨⟨⟨⟨⟨rfl, h1⟩, h2⟩, rfl⟩, h3⟩, h4⟩, h5⟩, h6⟩ := h
      exact trip (sE_rngL F.cal (F.gl h2).1 (F.bl _ h1) (F.gl h4).1 (F.bl _ h3) (ok t F h6).pe (not_t h5)) rfl
    · cases h
  | popAt o t =>
    unfold chk at h
    split at h
    · simp only [Bool.and_eq_true, decide_eq_true_eq] at h
      obtain ⟨⟨⟨⟨⟨rfl, h1⟩, h2⟩, h3⟩, h4⟩, h5⟩ := h
      exact trip (sE_popAt (ok o F h4).pe (ok t F h5).pe (not_t h3) (not_t h1) h2) rfl
    · cases h
  | isC t c =>
    unfold chk at h
    split at h
    · simp only [Bool.and_eq_true, decide_eq_true_eq] at h
      obtain ⟨⟨⟨⟨⟨⟨rfl, h1⟩, h2⟩, h3⟩, h4⟩, h5⟩, h6⟩ := h
      obtain ⟨q1, q2⟩ := F.isc _ _ h3
      exact trip (sE_isC q1 (F.gl h2).1 (F.bl _ h1) (ok t F h6).pe (F.gl h4).1 q2 (F.gl h4).2 (not_t h5)) rfl
    · cases h
  | eqO ne a b =>
    unfold chk at h
    split at h
    · simp only [Bool.and_eq_true] at h
      obtain ⟨⟨h1, h2⟩, h3⟩ := h
      have hC : ∀ c f, P.meth c "__eq__" = some f → Cls X.K (L.cls c) := fun c f e => by
        obtain ⟨_, _, _, q, _⟩ := F.mth c _ f e
        exact q
      split at h1
      · exact trip2 (sE_eqO F.mth hC F.room (ok a F h2).pe (ok b F h3).pe) (sT_eqO F.mth hC F.room (ok a F h2).pe (ok b F h3).pe) rfl
      · exact trip2 (sE_neO F.mth hC (fun c f e => F.nec c f e h1) F.room (ok a F h2).pe (ok b F h3).pe) (sT_neO F.mth hC (fun c f e => F.nec c f e h1) F.room (ok a F h2).pe (ok b F h3).pe) rfl
      · cases h1
    · cases h
  | srs t =>
    unfold chk at h
    split at h
    · simp only [Bool.and_eq_true, decide_eq_true_eq] at h
      obtain ⟨⟨⟨⟨rfl, h1⟩, h2⟩, h3⟩, h4⟩ := h
      exact trip (sE_srs (F.gl h2).1 (F.bl _ h1) (ok t F h4).pe (not_t h3)) rfl
    · cases h
  | srk t =>
    unfold chk at h
    split at h
    · simp only [Bool.and_eq_true, decide_eq_true_eq] at h
      obtain ⟨⟨⟨⟨⟨⟨⟨⟨rfl, h1⟩, h2⟩, rfl⟩, rfl⟩, h3⟩, h4⟩, h5⟩, h6⟩ := h
      exact trip (sE_srk F.room (F.gl h2).1 (F.bl _ h1) (F.gl h4).1 (F.bl _ h3) (ok t F h6).pe (not_t h5)) rfl
    · cases h
  | dc own tg it cond kx t =>
    unfold chk at h
    split at h
    · rename_i kx' vx' tg' iter ifs scope p
      simp only [Bool.and_eq_true] at h
      obtain ⟨⟨⟨⟨⟨⟨⟨h1, h2⟩, h3⟩, h4⟩, h8⟩, h5⟩, h6⟩, h7⟩ := h
      have hb : BlkOk X.N X.env.scope scope (ownN N own) := by
        have := blk_ok h1
        rw [F.N, F.hsc]
        exact this
      have hu := F.u
      have hl := pe_dcg dkK (own := ownN N own) (wi := tI X.K L P W it) (g := gOf X.K tg) (tt := tCd X.K L P cond) (tk := tE X.K L P W0 kx) (tv := tE X.K L P W0 t) (pos := p) (by omega) F.cal F.nd (okI it F h2) hb (fun s H C cl fp => ⟨okG F.blk (fun x hx => by
        show (scope.names.lookup x == some .cell) = true
        exact beq_iff_eq.mpr (of_decide_eq_true hx)) tg tg' h3, okD cond F.blk h4, (ok kx F.blk h8).pe, (ok t F.blk h5).pe⟩) (folded_ok (not_t h7))
      exact trip (PE.imp hl fun σ H Q q => by rw [ownN_snd]; exact dcK_imp h6 σ H Q q) rfl
    · cases h
  | dcT own tg it cond kx t =>
    unfold chk at h
    split at h
    · rename_i es' n' p' vx' tg' iter ifs scope p
      simp only [Bool.and_eq_true] at h
      obtain ⟨⟨⟨⟨⟨⟨⟨h1, h2⟩, h3⟩, h4⟩, h8⟩, h5⟩, h6⟩, h7⟩ := h
      have hb : BlkOk X.N X.env.scope scope (ownN N own) := by
        have := blk_ok h1
        rw [F.N, F.hsc]
        exact this
      have hu := F.u
      have hl := pe_dcg dkT (kx := .Tuple es' n' p') (own := ownN N own) (wi := tI X.K L P W it) (g := gOf X.K tg) (tt := tCd X.K L P cond) (tk := tTup (tTs X.K L P W0 kx)) (tv := tE X.K L P W0 t) (pos := p) (by omega) F.cal F.nd (okI it F h2) hb (fun s H C cl fp => ⟨okG F.blk (fun x hx => by
        show (scope.names.lookup x == some .cell) = true
        exact beq_iff_eq.mpr (of_decide_eq_true hx)) tg tg' h3, okD cond F.blk h4, pe_tup (okA kx F.blk h8).1, (ok t F.blk h5).pe⟩) (folded_ok (not_t h7))
      exact trip (PE.imp hl fun σ H Q q => by rw [ownN_snd]; exact dcT_imp h6 σ H Q q) rfl
    · cases h
  | dc2 own tg it vs1 tg1 it1 kx t =>
    unfold chk at h
    split at h
    · rename_i kx' vx' tg' iter tg1' iter1 scope p
      simp only [Bool.and_eq_true] at h
      obtain ⟨⟨⟨⟨⟨⟨⟨⟨⟨⟨⟨h1, h2⟩, h3⟩, h4⟩, h5⟩, h6⟩, h7⟩, h8⟩, h9⟩, h10⟩, h11⟩, h12⟩ := h
      have hb : BlkOk X.N X.env.scope scope (ownN N own) := by
        have := blk_ok h1
        rw [F.N, F.hsc]
        exact this
      have hu := F.u
      have hk : ∀ {cl : Scope} {x : Str}, knd scope x .cell = true → (scope.names.lookup x == some .cell) = true := fun hx => beq_iff_eq.mpr (of_decide_eq_true hx)
      have hl := pe_dcN dkK (kx := kx') (vx := vx') (own := ownN N own) (us := vs1) (rest := [⟨tg1', iter1, [], 0⟩]) (body := fun D ce => startOf (.DictComp kx' vx' [⟨tg', iter, [], 0⟩, ⟨tg1', iter1, [], 0⟩] scope p) 1 iter1 (.ref D) ce) (tb := fun D => tCl (tI X.K L P W0 it1) (gOf X.K tg1) tYes vs1 (tEmD dkK (tE X.K L P W0 kx) (tE X.K L P W0 t) D)) (wi := tI X.K L P W it) (g := gOf X.K tg) (tt := tYes) (pos := p) F.cal F.nd (okI it F h2) hb (fun s H C cl fp => ⟨okG F.blk (fun x hx => by
        show (scope.names.lookup x == some .cell) = true
        exact beq_iff_eq.mpr (of_decide_eq_true hx)) tg tg' h3, pts_nil, fun D => pb_clause cmp_dict F.cal rfl (fun it => rfl) (okI it1 F.blk h4) (okG F.blk (fun x hx => by
        show (scope.names.lookup x == some .cell) = true
        exact beq_iff_eq.mpr (of_decide_eq_true hx)) tg1 tg1' h5) pts_nil (pb_emitD dkK (by omega) (ok kx F.blk h6).pe (ok t F.blk h7).pe) (fun i hi => by cases hi) (folded_ok (not_t h12))⟩) (fun i hi => by
        rw [ownN_snd]
        exact List.contains_iff_mem.mp (List.all_eq_true.mp h10 i hi)) (fun it D ce => rfl) (folded_ok (not_t h11))
      exact trip (PE.imp hl fun σ H Q q => by rw [ownN_snd]; exact dc2K_imp h8 h9 σ H Q q) rfl
    · cases h
  | lsK t =>
    unfold chk at h
    split at h
    · simp only [Bool.and_eq_true, decide_eq_true_eq] at h
      obtain ⟨⟨⟨⟨rfl, h1⟩, h2⟩, h3⟩, h4⟩ := h
      exact trip (sE_lsK F.cal (F.gl h2).1 (F.bl _ h1) (ok t F h4).pe (not_t h3)) rfl
    · cases h
  | sum t =>
    unfold chk at h
    split at h
    · simp only [Bool.and_eq_true, decide_eq_true_eq] at h
      obtain ⟨⟨⟨⟨rfl, h1⟩, h2⟩, h3⟩, h4⟩ := h
      exact trip (sE_sum F.cal (F.gl h2).1 (F.bl _ h1) (ok t F h4).pe (not_t h3)) rfl
    · cases h
  | newE c f t =>
    unfold chk at h
    split at h
    · simp only [Bool.and_eq_true, decide_eq_true_eq] at h
      obtain ⟨⟨⟨⟨h1, h2⟩, h3⟩, h4⟩, h5⟩ := h
      obtain ⟨fI, fd, ps, q1, q2, q3, q4, q5, q6, q7⟩ := F.exs _ _ h2
      obtain ⟨g1, g2⟩ := F.gl h3
      exact trip (sE_newE q1 q2 q3 q4 (F.ex2 h1) q5 g1 q7 g2 (ok t F h5).pe (not_t h4)) rfl
    · cases h
  | newEK c f t =>
    unfold chk at h
    split at h
    · simp only [Bool.and_eq_true, decide_eq_true_eq] at h
      obtain ⟨⟨⟨⟨h1, h2⟩, h3⟩, rfl⟩, h5⟩ := h
      obtain ⟨fI, fd, ps, q1, q2, q3, q4, q5, q6, q7⟩ := F.exs _ _ h2
      obtain ⟨g1, g2⟩ := F.gl h3
      exact trip (sE_newEK q1 q2 q3 q4 (F.ex2 h1) q6 g1 q7 g2 (ok t F h5).pe) rfl
    · cases h
  | newE0 c =>
    unfold chk at h
    split at h
    · simp only [Bool.and_eq_true, decide_eq_true_eq] at h
      obtain ⟨⟨h1, h2⟩, h3⟩ := h
      obtain ⟨fI, fd, ps, q1, q2, q3, q4, q5, q7⟩ := F.ex0 _ _ h2
      obtain ⟨g1, g2⟩ := F.gl h3
      exact trip (sE_newE0 q1 q2 q3 q4 (F.ex2 h1) q5 g1 q7 g2) rfl
    · cases h
  | fldE t c f =>
    unfold chk at h
    split at h
    · simp only [Bool.and_eq_true, decide_eq_true_eq] at h
      obtain ⟨⟨⟨rfl, h1⟩, h2⟩, h3⟩ := h
      obtain ⟨q1, q2⟩ := F.exf _ _ h1
      exact trip (sE_fldE q1 q2 (ok t F h3).pe (not_t h2)) rfl
    · cases h
  | isE t tbl =>
    unfold chk at h
    split at h
    · rename_i f p1 x y p2 p3
      simp only [Bool.and_eq_true, decide_eq_true_eq] at h
      obtain ⟨⟨⟨⟨⟨⟨rfl, h1⟩, h2⟩, h3⟩, h4⟩, h5⟩, h6⟩ := h
      obtain ⟨v, u, q1, q2, q3⟩ := kit_pe (p := p2) F h3 h4
      exact trip (sE_isE (F.gl h2).1 (F.bl _ h1) (ok t F h6).pe (not_t h5) q1 rfl q2 q3) rfl
    · cases h
  | dl ts =>
    unfold chk at h
    split at h
    · simp only [Bool.and_eq_true, decide_eq_true_eq] at h
      obtain ⟨⟨h1, h2⟩, h3⟩ := h
      obtain ⟨q1, q2, q3⟩ := dl_shape ts _ _ h3
      exact trip (sE_dl q1 (okDl ts F h3) q2 q3 (fun z => by rw [z] at h1; cases h1) h2) rfl
    · cases h
  | cbk i ts =>
    unfold chk at h
    split at h
    · rename_i x p1 es p2
      simp only [Bool.and_eq_true] at h
      obtain ⟨⟨⟨⟨h1, h2⟩, h3⟩, h4⟩, h5⟩ := h
      cases es with
      | nil => cases h4
      | cons e es =>
        obtain ⟨a1, a2⟩ := okA ts F h5
        obtain ⟨q1, q2, q3, q4⟩ := F.var h3
        obtain ⟨C, hr⟩ := F.cbx h1 h2
        exact trip (sE_cbk C hr q1 q2 q3 q4 a1 (star_ok (a2 e (by simp))) (backTo_any fun e he => a2 e (List.mem_cons_of_mem _ he))) rfl
    · cases h
  | callK f ts own b =>
    unfold chk at h
    split at h
    · rename_i x p1 e1 params body scope p2 p3
      simp only [Bool.and_eq_true, decide_eq_true_eq] at h
      obtain ⟨⟨⟨⟨⟨⟨⟨h1, h2⟩, h3⟩, h4⟩, h5⟩, h6⟩, h7⟩, h8⟩ := h
      obtain ⟨LP, hdef, hbind⟩ := lamPk_ok h5
      obtain ⟨c, TP, q1, q2, q3, q4⟩ := F.lamT h1 h2
      obtain ⟨fa', kr, r1, r2, r3, r4⟩ := F.kfn h1 _ _ h3
      obtain ⟨g1, g2⟩ := F.gl h4
      cases ts with
      | nil => unfold chkA at h7; cases h7
      | cons t ts' =>
        unfold chkA at h7
        simp only [Bool.and_eq_true] at h7
        obtain ⟨⟨s1, s2⟩, s3⟩ := h7
        have e0 : ts' = .nil := chkA_nil s3 rfl
        subst e0
        have LP2 : LamP X.env.scope scope ((ownN N own).map (·.1)) := by rw [F.hsc]; exact LP
        exact trip (sE_callK (k := k) g1 r1 r2 g2 r3 r4 F.tk (ok t F s2).pe (not_t s1) q1 q2 q3 q4 LP2 (by rw [F.N]; exact h6) F.nd (hdef _) (fun q cl pm cv ctv us hl => hbind q body cl pm cv ctv us hl) fun A outer s H f' c' hr => (ok b (F.lam hr) h8).pe) rfl
    · cases h
  | callP f ts i =>
    unfold chk at h
    split at h
    · rename_i x p1 e1 a p2 p3
      simp only [Bool.and_eq_true, decide_eq_true_eq] at h
      obtain ⟨⟨⟨⟨⟨h1, h2⟩, h3⟩, h4⟩, h5⟩, h7⟩ := h
      obtain ⟨fa', kr, r1, r2, r3, r4⟩ := F.kfn h1 _ _ h3
      obtain ⟨g1, g2⟩ := F.gl h4
      obtain ⟨q1, q2, q3, q4⟩ := F.var h5
      obtain ⟨C, hr⟩ := F.cbx h1 h2
      cases ts with
      | nil => unfold chkA at h7; cases h7
      | cons t ts' =>
        unfold chkA at h7
        simp only [Bool.and_eq_true] at h7
        obtain ⟨⟨s1, s2⟩, s3⟩ := h7
        have e0 : ts' = .nil := chkA_nil s3 rfl
        subst e0
        exact trip (sE_callP g1 r1 r2 g2 r3 r4 F.tk C q1 q2 q3 q4 (ok t F s2).pe (not_t s1)) rfl
    · cases h
  | callF f ts m =>
    unfold chk at h
    split at h
    · rename_i x p1 e1 e2 y p2 p3
      simp only [Bool.and_eq_true, decide_eq_true_eq] at h
      obtain ⟨⟨⟨⟨⟨h1, h3⟩, h4⟩, h5⟩, h6⟩, h7⟩ := h
      obtain ⟨fa', kr, r1, r2, r3, r4⟩ := F.kfn h1 _ _ h3
      obtain ⟨g1, g2⟩ := F.gl h4
      obtain ⟨g3, g4⟩ := F.gl h6
      obtain ⟨fg, fd, ps, q1, q2, q3, q4⟩ := F.fns _ _ h5
      cases ts with
      | nil => unfold chkA at h7; cases h7
      | cons t ts' =>
        unfold chkA at h7
        simp only [Bool.and_eq_true] at h7
        obtain ⟨⟨s1, s2⟩, h7⟩ := h7
        cases ts' with
        | nil => unfold chkA at h7; cases h7
        | cons t2 ts2 =>
          unfold chkA at h7
          simp only [Bool.and_eq_true] at h7
          obtain ⟨⟨s3, s4⟩, s5⟩ := h7
          have e0 : ts2 = .nil := chkA_nil s5 rfl
          subst e0
          exact trip (sE_callF g1 r1 r2 g2 r3 r4 F.tk g3 q2 g4 q1 (by omega) (F.fnI _ _ _ h5 q2) q4 (ok t F s2).pe (not_t s1) (ok t2 F s4).pe (not_t s3)) rfl
    · cases h
  | pop o =>
    unfold chk at h
    split at h
    · simp only [Bool.and_eq_true, decide_eq_true_eq] at h
      obtain ⟨⟨⟨rfl, h1⟩, h2⟩, h3⟩ := h
      exact trip (sE_pop (ok o F h3).pe (not_t h1) h2) rfl
    · cases h
termination_by structural t
theorem okDl (ts : Ts) {X : Cx} {W : WX} {sc : Scope} {fa : Bool} {pos : Pos} {ks : List (Option Expr)} {vs : List Expr} (F : Fit X L P W k g N sc fa) (h : chkDl g N ts sc fa ks vs = true) : PPs X pos ks vs (pairsT X.K L P W ts) := by
  cases ts with
  | nil =>
    unfold chkDl at h
    rw [Bool.and_eq_true] at h
    have e1 := lempty h.1
    have e2 := lempty h.2
    subst e1 e2
    exact pps_nil
  | cons t ts =>
    unfold chkDl at h
    split at h
    · rw [Bool.and_eq_true] at h
      obtain ⟨h1, h⟩ := h
      cases ts with
      | nil => unfold chkDv at h; cases h
      | cons t2 ts2 =>
        unfold chkDv at h
        rw [Bool.and_eq_true] at h
        exact pps_cons (ok t F h1).pe (ok t2 F h.1).pe (okDl ts2 F h.2)
    · cases h
termination_by structural ts
theorem okA (ts : Ts) {X : Cx} {W : WX} {sc : Scope} {fa : Bool} {es : List Expr} (F : Fit X L P W k g N sc fa) (h : chkA g N ts sc fa es = true) : PA X es (tTs X.K L P W ts) ∧ ∀ e ∈ es, isStar e = false := by
  cases ts with
  | nil =>
    unfold chkA at h
    cases es with
    | nil => exact ⟨sA_nil, fun e he => by cases he⟩
    | cons _ _ => cases h
  | cons t ts =>
    unfold chkA at h
    split at h
    · simp only [Bool.and_eq_true] at h
      obtain ⟨a1, a2⟩ := okA ts F h.2
      exact ⟨sA_cons (ok t F h.1.2).pe a1 (not_t h.1.1), fun e he => (List.mem_cons.mp he).elim (fun z => z ▸ not_t h.1.1) (a2 e)⟩
    · cases h
termination_by structural ts
theorem okP (c : Cd) {X : Cx} {W : WX} {sc : Scope} {fa : Bool} {e : Option Expr} (F : Fit X L P W k g N sc fa) (h : chkP g N c sc fa e = true) : PO X e (tP X.K L P W c) := by
  cases c with
  | no =>
    unfold chkP at h
    cases e with
    | none => exact sP_none
    | some _ => cases h
  | one t =>
    unfold chkP at h
    split at h
    · exact sP_some (ok t F h).pe
    · cases h
termination_by structural c
theorem okD (c : Cd) {X : Cx} {sc : Scope} {es : List Expr} (F : Fit X L P W0 k g N sc false) (h : chkD g N c sc es = true) : PTs X es (tCd X.K L P c) := by
  cases c with
  | no =>
    unfold chkD at h
    cases es with
    | nil => exact pts_nil
    | cons _ _ => cases h
  | one t =>
    unfold chkD at h
    split at h
    · exact pts_one (ok t F h).pt
    · cases h
termination_by structural c
theorem okI (it : I) {X : Cx} {W : WX} {sc : Scope} {fa : Bool} {tg e : Expr} (F : Fit X L P W k g N sc fa) (h : chkI g N it sc fa tg e = true) : PI X tg e (tI X.K L P W it) := by
  cases it with
  | val t =>
    unfold chkI at h
    exact sI_val (ok t F h).pe
  | rng1 t =>
    unfold chkI at h
    split at h
    · simp only [Bool.and_eq_true, decide_eq_true_eq] at h
      obtain ⟨⟨⟨⟨rfl, h1⟩, h2⟩, h3⟩, h4⟩ := h
      exact sI_rng1 (F.gl h2).1 (F.bl _ h1) (ok t F h4).pe (not_t h3)
    · cases h
  | rng2 t u =>
    unfold chkI at h
    split at h
    · simp only [Bool.and_eq_true, decide_eq_true_eq] at h
      obtain ⟨⟨⟨⟨⟨⟨rfl, h1⟩, h2⟩, h3⟩, h4⟩, h5⟩, h6⟩ := h
      exact sI_rng2 (F.gl h2).1 (F.bl _ h1) (ok t F h5).pe (ok u F h6).pe (not_t h3) (not_t h4)
    · cases h
  | enum t =>
    unfold chkI at h
    split at h
    · simp only [Bool.and_eq_true, decide_eq_true_eq] at h
      obtain ⟨⟨⟨⟨rfl, h1⟩, h2⟩, h3⟩, h4⟩ := h
      exact sI_enum (F.gl h2).1 (F.bl _ h1) (ok t F h4).pe (not_t h3)
    · cases h
  | own t c f =>
    unfold chkI at h
    simp only [Bool.and_eq_true, decide_eq_true_eq] at h
    exact sI_own (F.itr _ _ h.1) (F.room.mono (by omega)) (ok t F h.2).pe
  | zip t u =>
    unfold chkI at h
    split at h
    · simp only [Bool.and_eq_true, decide_eq_true_eq] at h
      obtain ⟨⟨⟨⟨⟨⟨rfl, h1⟩, h2⟩, h3⟩, h4⟩, h5⟩, h6⟩ := h
      exact sI_zip (F.gl h2).1 (F.bl _ h1) (ok t F h5).pe (ok u F h6).pe (not_t h3) (not_t h4)
    · cases h
termination_by structural it
end
end
end XV
set_option Elab.async false
set_option linter.all false
set_option autoImplicit false
set_option maxRecDepth 100000
namespace XV
open PySem PySem.Spec PyProof.Rows L2 L2H LamX

def isTupE : Expr → Bool
  | .Tuple _ _ _ => true
  | _ => false
theorem noswap {tgs : List Expr} {e : Expr} {env : Env} (h : isTupE e = false) : swappedStores tgs e env = pure none := by
  unfold swappedStores
  cases e <;> first
    | (cases h; done)
    | (cases tgs with
       | nil => rfl
       | cons t ts => cases t <;> cases ts <;> rfl)
def notLoc (sc : Scope) : Expr → Bool
  | .Name a _ => !knd sc a .local
  | _ => true
def noSw (sc : Scope) (t x : Expr) : Bool := !isTupE x || (match t with
  | .Tuple ts _ _ => ts.any (notLoc sc)
  | _ => false)
theorem noswapS {o b e : Expr} {tpos : Pos} {env : Env} : swappedStores [.Subscript o b tpos] e env = pure none := by
  unfold swappedStores
  cases e <;> rfl
theorem asg_sub {o b : Expr} {tpos : Pos} {env : Env} (h : isSlice b = false) (v : Value) : assign (.Subscript o b tpos) env v = (do
      let ov ← holding [v] (eval o env)
      let iv ← holding [v, ov] (eval b env)
      standAt tpos
      holding [v, ov, iv] (setItem ov iv v)
      release [v, ov, iv] []) := by
  cases b <;> first | rfl | (cases h; done)
theorem aug_sub {b : Expr} (h : isSlice b = false) (ov iv new : Value) : augStore b ov iv new = (do holding [new, ov, iv] (setItem ov iv new); release [new, ov, iv] []; pure .next) := by
  cases b <;> first | rfl | (cases h; done)

def chkOE (g : Glb) (N : List Str) (sc : Scope) (t : T) (e : Expr) : Bool := match t, e with
  | .bi .list (.cons t .nil), .Call (.Name f _) [x] [] _ => decide (f = ("list" : Str)) && g.bl.contains ("list" : Str) && glB sc ("list" : Str) && !isStar x && chk g N t sc true false x
  | _, _ => false
def chkM (g : Glb) (N : List Str) (sc : Scope) : Pm → Expr → Bool
  | .val t, e => chk g N t sc true false e
  | .own ts, e => match e with
    | .List es _ => chkA g N ts sc true es
    | _ => false
  | .ownD, e => match e with
    | .Dict [] [] _ => true
    | _ => false
  | .ownE t, e => chkOE g N sc t e
def swOf (sc : Scope) (t x : Expr) : Bool := match t with
  | .Name y py => (match x with
    | .ListComp _ _ s p => knd sc y .local && py.line == p.line && !(s.names.any fun (n, k) => n == y && (k == .local || k == .cell))
    | .SetComp _ _ s p => knd sc y .local && py.line == p.line && !(s.names.any fun (n, k) => n == y && (k == .local || k == .cell))
    | .DictComp _ _ _ s p => knd sc y .local && py.line == p.line && !(s.names.any fun (n, k) => n == y && (k == .local || k == .cell))
    | _ => false)
  | _ => false
def lcOk (tg : Tg) (e : T) : Bool := match tg, e with
  | .nm _, .comp _ _ _ _ _ => true
  | .nm _, .dc _ _ _ _ _ _ => true
  | .nm _, .dcT _ _ _ _ _ _ => true
  | _, _ => false
def litE : Expr → Bool
  | .Constant _ _ _ => true
  | .Name _ _ => false
  | .List _ _ => false
  | .Call _ _ _ _ => false
  | _ => true
mutual
def chkS (g : Glb) (N : List Str) (sc : Scope) : S → Stmt → Bool
  | .asg tg e, s => match s with
    | .Assign [t] x _ => chkG N sc (fun _ => true) tg t && !isStar t && chk g N e sc true false x && (!swOf sc t x || lcOk tg e) && noSw sc t x
    | _ => false
  | .set1 i p, s => match s with
    | .Assign [.Name x _] e _ => decide (N[i]? = some x) && (knd sc x .local || (true && knd sc x .cell)) && chkM g N sc p e && !isComp e
    | _ => false
  | .par i j p q, s => match s with
    | .Assign [.Tuple [.Name x px, .Name y py] _ _] (.Tuple [a, b] _ _) _ => decide (N[i]? = some x) && decide (N[j]? = some y) && knd sc x .local && knd sc y .local && decide (i ≠ j) && decide (x ≠ y) && (px.line == py.line) && !isStar a && !isStar b &&
      !([a, b].all (foldedForSure 8)) && !([a, b].all (constantsAlone 8)) && chkM g N sc p a && chkM g N sc q b && decide (sc.kind = .function)
    | _ => false
  | .par3 i j l p q u, s => match s with
    | .Assign [.Tuple [.Name x px, .Name y py, .Name z pz] _ _] (.Tuple [a, b, c] _ _) _ => decide (N[i]? = some x) && decide (N[j]? = some y) && decide (N[l]? = some z) && knd sc x .local && knd sc y .local && knd sc z .local && decide (i ≠ j) && decide (i ≠ l) && decide (j ≠ l) && decide (x ≠ y) && decide (x ≠ z) && decide (y ≠ z) && (px.line == py.line) && (px.line == pz.line) &&
      !isStar a && !isStar b && !isStar c && !([a, b, c].all (foldedForSure 8)) && !([a, b, c].all (constantsAlone 8)) && chkM g N sc p a && chkM g N sc q b && chkM g N sc u c && decide (sc.kind = .function)
    | _ => false
  | .setIx o i e, s => match s with
    | .Assign [.Subscript ox b _] x _ => !isSlice b && chk g N o sc true false ox && chk g N i sc true false b && chk g N e sc true false x
    | _ => false
  | .app i e, s => match s with
    | .Expr (.Call (.Attribute (.Name x _) f ap) [a] [] cp) _ => decide (f = ("append" : Str)) && varB N sc i x && !isStar a && (ap.endLine == cp.line) && chk g N e sc true false a
    | _ => false
  | .appC o e, s => match s with
    | .Expr (.Call (.Attribute ox f ap) [a] [] cp) _ => decide (f = ("append" : Str)) && !isCall0 ox && !isStar a && (ap.endLine == cp.line) && chk g N o sc true false ox && chk g N e sc true false a
    | _ => false
  | .setOwn i b e, s => match s with
    | .Assign [.Subscript (.Name x _) bx _] y _ => varB N sc i x && !isSlice bx && chk g N b sc true false bx && chk g N e sc true false y
    | _ => false
  | .augOwn i b o e, s => match s with
    | .AugAssign (.Subscript (.Name x _) bx _) op y _ => decide (op = oB o) && varB N sc i x && !isSlice bx && chk g N b sc true false bx && chk g N e sc true false y
    | _ => false
  | .aug i o e, s => match s with
    | .AugAssign (.Name x _) op y _ => decide (op = oB o) && decide (N[i]? = some x) && (knd sc x .local || (true && knd sc x .cell)) && chk g N e sc true false y
    | _ => false
  | .expr e, s => match s with
    | .Expr x _ => !isComp x && chk g N e sc true false x
    | _ => false
  | .ret e, s => match s with
    | .Return (some x) _ => chk g N e sc true false x
    | _ => false
  | .retN, s => match s with
    | .Return none _ => true
    | _ => false
  | .iff c a b, s => match s with
    | .If x y z _ => chk g N c sc true true x && chkSs g N sc a y && chkSs g N sc b z
    | _ => false
  | .whl c b, s => match s with
    | .While x y [] _ => chk g N c sc true true x && chkSs g N sc b y
    | _ => false
  | .forr it tg b, s => match s with
    | .For t x y [] _ => chkI g N it sc true t x && chkG N sc (fun _ => true) tg t && chkSs g N sc b y && !isSetD x
    | _ => false
  | .brk, s => match s with
    | .Break _ => true
    | _ => false
  | .cnt, s => match s with
    | .Continue _ => true
    | _ => false
  | .pass, s => match s with
    | .Pass _ => true
    | _ => false
  | .raise c ts, s => match s with
    | .Raise (some (.Call (.Name x _) [e] [] _)) none _ => decide (g.errs.lookup x = some c) && glB sc x && !isStar e && chkA g N ts sc true [e]
    | _ => false
  | .frz _, s => false
  | .setF f t, s => match s with
    | .Assign [.Attribute (.Name x _) f' _] e _ => decide (f' = f) && varB N sc 0 x && chk g N t sc true false e
    | _ => false
  | .nvr, s => true
def chkSs (g : Glb) (N : List Str) (sc : Scope) : Ss → List Stmt → Bool
  | .nil, ss => ss.isEmpty
  | .cons s ts, ss => match s with
    | .frz _ => chkSs g N sc ts ss
    | s => match ss with
      | x :: xs => chkS g N sc s x && chkSs g N sc ts xs
      | [] => false
end
structure FitS (X : Cx) (L : Lay) (P : Cfg) (W : WX) (k : Nat) (g : Glb) (N : List Str) (sc : Scope) : Prop extends Fit X L P W k g N sc true where
  pass : PassesOwn (model X.prog X.w) X.A X.env X.xe
  bk : X.env.blockKind = .function
  errs : ∀ x c, g.errs.lookup x = some c → ∃ f fI fd ps, OexC X.K (L.cls c) ∧ L.fld c = [f] ∧ PySem.W.findIn X.K (.ref (L.cls c)) "__init__" = some (some (.ref fI)) ∧ PySem.W.typeIn X.K (.ref fI) = some (.type "function") ∧ FnOk X.prog X.w X.K X.mg X.base (L2.CX X.prog X.w) 1 fI fd ps (spIx (L.cls c) f) ∧ Binds X.K fd ps [] ∧ X.mg x = some (.ref (L.cls c))
  room2 : Room 2 X.A
end XV
set_option Elab.async false
set_option linter.all false
set_option autoImplicit false
set_option maxRecDepth 100000
namespace XV
open PySem PySem.Spec PyProof.Rows L2 L2H LamX

theorem star_any {a b : Expr} (h1 : isStar a = false) (h2 : isStar b = false) : ([a, b].any fun | .Starred .. => true | _ => false) = false := by
  cases a <;> first
    | (cases h1; done)
    | (cases b <;> first | (cases h2; done) | rfl)
theorem swap_par {x y : Str} {a b : Expr} {px py pt pt2 : Pos} {kt k2 : Nat} {env : Env} (hb : env.blockKind = .function) (hx : env.scope.names.lookup x = some .local) (hy : env.scope.names.lookup y = some .local) (hxy : x ≠ y) (hl : (px.line == py.line) = true)
    (h1 : isStar a = false) (h2 : isStar b = false) (f1 : ([a, b].all (foldedForSure 8)) = false) (f2 : ([a, b].all (constantsAlone 8)) = false) :
    swappedStores [.Tuple [.Name x px, .Name y py] kt pt] (.Tuple [a, b] k2 pt2) env = pure (some [x, y]) := by
  have e1 : env.kindOf x = some .local := hx
  have e2 : env.kindOf y = some .local := hy
  have hl2 : px.line = py.line := beq_iff_eq.mp hl
  have hyx : (y == x) = false := beq_eq_false_iff_ne.mpr fun z => hxy z.symm
  unfold swappedStores
  dsimp only
  rw [if_neg (by simp [hb])]
  rw [if_neg (by
    cases a <;> first
      | (cases h1; done)
      | (cases b <;> first | (cases h2; done) | simp))]
  rw [if_neg (by simp [e1, e2, hl2, Expr.pos, List.eraseDups, List.eraseDupsBy, List.eraseDupsBy.loop, hyx])]
  rw [if_neg (by rw [f1]; simp), if_neg (by rw [f2]; simp)]
  simp [e1, e2, hl2, Expr.pos]
theorem swap_par3 {x y z : Str} {a b c : Expr} {px py pz pt pt2 : Pos} {kt k2 : Nat} {env : Env} (hb : env.blockKind = .function) (hx : env.scope.names.lookup x = some .local) (hy : env.scope.names.lookup y = some .local) (hz : env.scope.names.lookup z = some .local) (hxy : x ≠ y) (hxz : x ≠ z) (hyz : y ≠ z) (hl : (px.line == py.line) = true) (hl3 : (px.line == pz.line) = true)
    (h1 : isStar a = false) (h2 : isStar b = false) (h3 : isStar c = false) (f1 : ([a, b, c].all (foldedForSure 8)) = false) (f2 : ([a, b, c].all (constantsAlone 8)) = false) :
    swappedStores [.Tuple [.Name x px, .Name y py, .Name z pz] kt pt] (.Tuple [a, b, c] k2 pt2) env = pure (some [x, y, z]) := by
  have e1 : env.kindOf x = some .local := hx
  have e2 : env.kindOf y = some .local := hy
  have e3 : env.kindOf z = some .local := hz
  have hl2 : px.line = py.line := beq_iff_eq.mp hl
  have hl4 : px.line = pz.line := beq_iff_eq.mp hl3
  have hyx : (y == x) = false := beq_eq_false_iff_ne.mpr fun z => hxy z.symm
  have hzx : (z == x) = false := beq_eq_false_iff_ne.mpr fun q => hxz q.symm
  have hzy : (z == y) = false := beq_eq_false_iff_ne.mpr fun q => hyz q.symm
  unfold swappedStores
  dsimp only
  rw [if_neg (by simp [hb])]
  rw [if_neg (fun h => by
    obtain ⟨e, he, hs⟩ := List.any_eq_true.mp h
    have hst : isStar e = true := by cases e <;> first | rfl | (cases hs; done)
    simp only [List.mem_cons, List.not_mem_nil, or_false] at he
    rcases he with rfl | rfl | rfl
    · rw [h1] at hst; cases hst
    · rw [h2] at hst; cases hst
    · rw [h3] at hst; cases hst)]
  rw [if_neg (by simp [e1, e2, e3, ← hl2, ← hl4, Expr.pos, List.eraseDups, List.eraseDupsBy, List.eraseDupsBy.loop, hyx, hzx, hzy])]
  rw [if_neg (by rw [f1]; simp), if_neg (by rw [f2]; simp)]
  simp [e1, e2, e3, ← hl2, ← hl4, Expr.pos]
theorem fm_ne {α β : Type} {f : α → Option β} {x : α} : ∀ {l : List α}, x ∈ l → f x = none → (l.filterMap f).length ≠ l.length
  | y :: l, h, e => by
    rcases List.mem_cons.mp h with z | z
    · subst z
      rw [List.filterMap_cons_none e, List.length_cons]
      have := List.length_filterMap_le f l
      omega
    · have ih := fm_ne z e
      cases q : f y with
      | none =>
        rw [List.filterMap_cons_none q, List.length_cons]
        have := List.length_filterMap_le f l
        omega
      | some b =>
        rw [List.filterMap_cons_some q, List.length_cons, List.length_cons]
        omega
theorem noSw_ok {sc : Scope} {t x : Expr} {env : Env} (hs : env.scope = sc) (h : noSw sc t x = true) : swappedStores [t] x env = pure none := by
  unfold noSw at h
  cases q : isTupE x with
  | false => exact noswap q
  | true =>
    rw [q] at h
    simp only [Bool.not_true, Bool.false_or] at h
    cases x <;> first | (cases q; done) | skip
    rename_i vs kv pv
    cases t <;> first | (cases h; done) | skip
    rename_i ts kt pt
    obtain ⟨e, he, hn⟩ := List.any_eq_true.mp h
    unfold swappedStores
    dsimp only
    split
    · rfl
    · split
      · rfl
      · rw [if_pos]
        rw [Bool.or_eq_true]
        left
        rw [bne_iff_ne]
        refine fm_ne he ?_
        cases e <;> first | rfl | skip
        rename_i a pa
        unfold notLoc knd at hn
        simp only [Bool.not_eq_true', decide_eq_false_iff_not] at hn
        have key : ¬ env.kindOf a = some .local := fun z => hn (by rw [← hs]; exact z)
        simp [key]
theorem swapsS_ok {e t : Expr} {l : Nat} {env : Env} (h : isComp e = false) : swapsWithSole [t] e l env = pure false := swaps_ok h
section
variable {X : Cx} {L : Lay} {P : Cfg} {W : WX} {k : Nat} {g : Glb} {N : List Str} {sc : Scope} {fu : Nat}
theorem okM (F : FitS X L P W k g N sc) {p : Pm} {e : Expr} (h : chkM g N sc p e = true) : PE X e (tM X.K L P W p) := by
  cases p with
  | val t => exact sM_val (ok t F.toFit h).pe
  | own ts =>
    cases e <;> first
      | exact sM_own (okA ts F.toFit h).1
      | (cases h; done)
  | ownD =>
    cases e with
    | Dict ks vs pos => cases ks <;> cases vs <;> first | exact sM_ownD | (cases h; done)
    | _ => cases h
  | ownE t0 =>
    have h : chkOE g N sc t0 e = true := h
    unfold chkOE at h
    split at h
    · simp only [Bool.and_eq_true, decide_eq_true_eq] at h
      obtain ⟨⟨⟨⟨rfl, h1⟩, h2⟩, h3⟩, h4⟩ := h
      exact sM_list F.cal (F.toFit.gl h2).1 (F.bl _ h1) (ok _ F.toFit h4).pe (not_t h3)
    · cases h
theorem knd_ok {x : Str} {kk : NameKind} (F : FitS X L P W k g N sc) (h : knd sc x kk = true) : X.env.scope.names.lookup x = some kk := by
  unfold knd at h
  rw [F.hsc]
  exact of_decide_eq_true h
theorem swOf_eq (F : FitS X L P W k g N sc) (t x : Expr) (l : Nat) : swapsWith x (some t) l X.env = pure (swOf sc t x) := by
  have hb : X.env.blockKind = .function := F.bk
  have hk : ∀ y, X.env.kindOf y = sc.names.lookup y := fun y => by rw [← F.hsc]; rfl
  have key : ∀ (y : Str) (py pos : Pos) (s : Scope), (X.env.blockKind == .function && X.env.kindOf y == some .local && py.line == pos.line && !(s.names.any fun (n, k) => n == y && (k == .local || k == .cell))) = (knd sc y .local && py.line == pos.line && !(s.names.any fun (n, k) => n == y && (k == .local || k == .cell))) := fun y py pos s => by
    unfold knd
    rw [hb, hk]
    have e : (sc.names.lookup y == some NameKind.local) = decide (sc.names.lookup y = some .local) := by
      cases q : decide (sc.names.lookup y = some .local) with
      | true => exact beq_iff_eq.mpr (of_decide_eq_true q)
      | false => exact beq_eq_false_iff_ne.mpr (of_decide_eq_false q)
    rw [e]
    rfl
  cases t with
  | Name y py =>
    cases x with
    | ListComp elt gs s p => exact congrArg pure (key y py p s)
    | SetComp elt gs s p => exact congrArg pure (key y py p s)
    | DictComp a b gs s p => exact congrArg pure (key y py p s)
    | _ => rfl
  | _ => cases x <;> rfl
theorem swOf_ok (F : FitS X L P W k g N sc) {t x : Expr} {l : Nat} (h : swOf sc t x = false) : swapsWithSole [t] x l X.env = pure false := by
  show swapsWith x (some t) l X.env = _
  rw [swOf_eq F, h]
theorem swA_ok {e o : Expr} {f : Str} {pp : Pos} {l : Nat} {env : Env} : swapsWith e (some (.Attribute o f pp)) l env = pure false := by cases e <;> rfl
theorem swB_ok {e o b : Expr} {pp : Pos} {l : Nat} {env : Env} : swapsWithSole [.Subscript o b pp] e l env = pure false := by cases e <;> rfl
theorem asg_imp {i : Nat} {t : T} (D : _) (σ : L2.St) (H : Hp) (h : tS X.K L P W fu (.asg (.nm i) t) D σ H) : tE X.K L P W t σ H fun x H1 => gName i x σ H1 D.nx := by
  obtain ⟨M, G0, r0, H0, G, r, cs, env, s, h⟩ := h
  unfold evS at h
  refine ⟨G, r, cs, env, s.sep, s.er, FO.bindK (R := Rep X.K L) s h fun d cs1 v G1 r1 H1 _ g1 s1 rd si hf => ?_⟩
  cases ha : asgT (.nm i) d env with
  | none => rw [ha] at hf; exact hf.elim
  | some env' =>
    rw [ha] at hf
    exact asgT_ok s1 si.er rd ha fun σ' er' _ ho => hf G1 r1 σ' H1 ⟨si.go, s1, er', fun i sv a e o q => by
      obtain ⟨e1, e2⟩ := ho i sv e o
      rw [e2] at q
      exact si.own i sv a e1 o q, fun c ks ds e => by
      obtain ⟨e1, e2⟩ := ho 0 _ e rfl
      rw [e2]
      exact si.me c ks ds e1⟩ (Same.refl _) ⟨[], by simp⟩
theorem swT_ok (F : FitS X L P W k g N sc) {tg : Tg} {e : T} {t x : Expr} {pos : Pos} (hl : lcOk tg e = true) (hg : chkG N sc (fun _ => true) tg t = true) (hc : chk g N e sc true false x = true) (hw : swOf sc t x = true) : PS X (.Assign [t] x pos) (tS X.K L P W fu (.asg tg e)) := by
  unfold lcOk at hl
  split at hl
  · rename_i i own tg it cond e
    unfold chkG at hg
    split at hg
    · rename_i y py
      unfold chk at hc
      split at hc
      · rename_i elt tg' iter ifs scope p
        simp only [Bool.and_eq_true, decide_eq_true_eq] at hc hg
        obtain ⟨⟨⟨⟨⟨⟨h1, h2⟩, h3⟩, h4⟩, h5⟩, h6⟩, h7⟩ := hc
        have hw0 := swOf_eq F (.Name y py) (.ListComp elt [⟨tg', iter, ifs, 0⟩] scope p) pos.line
        rw [hw] at hw0
        have hw : (knd sc y .local && py.line == p.line && !(scope.names.any fun (n, k) => n == y && (k == .local || k == .cell))) = true := hw
        simp only [Bool.and_eq_true] at hw
        have hyl := knd_ok F hw.1.1
        have hb : BlkOk X.N X.env.scope scope (ownN N own) := by
          have := blk_ok h1
          rw [F.N, F.hsc]
          exact this
        have hl := ps_setLc (i := i) (py := py) (spos := pos) (wi := tI X.K L P W it) (g := gOf X.K tg) (tt := tCd X.K L P cond) (te := tE X.K L P W0 e) F.cal F.nd (by rw [F.N]; exact hg.1) hyl hw0 (okI it F.toFit h2) hb (fun s H C cl fp => okG F.toFit.blk (fun x hx => by
          show (scope.names.lookup x == some .cell) = true
          exact beq_iff_eq.mpr (of_decide_eq_true hx)) tg tg' h3) (fun s H C cl fp => okD cond F.toFit.blk h4) (fun s H C cl fp => (ok e F.toFit.blk h5).pe) (folded_ok (not_t h7))
        exact PS.imp hl fun D σ H q => comp_imp (own := ownN N own) (by rw [ownN_snd]; exact h6) σ H _ (by rw [ownN_snd]; exact asg_imp D σ H q)
      · cases hc
    · cases hg
  · rename_i i own tg it cond kx e
    unfold chkG at hg
    split at hg
    · rename_i y py
      unfold chk at hc
      split at hc
      · rename_i kx' vx' tg' iter ifs scope p
        simp only [Bool.and_eq_true, decide_eq_true_eq] at hc hg
        obtain ⟨⟨⟨⟨⟨⟨⟨h1, h2⟩, h3⟩, h4⟩, h8⟩, h5⟩, h6⟩, h7⟩ := hc
        have hw0 := swOf_eq F (.Name y py) (.DictComp kx' vx' [⟨tg', iter, ifs, 0⟩] scope p) pos.line
        rw [hw] at hw0
        have hw : (knd sc y .local && py.line == p.line && !(scope.names.any fun (n, k) => n == y && (k == .local || k == .cell))) = true := hw
        simp only [Bool.and_eq_true] at hw
        have hyl := knd_ok F hw.1.1
        have hb : BlkOk X.N X.env.scope scope (ownN N own) := by
          have := blk_ok h1
          rw [F.N, F.hsc]
          exact this
        have hu := F.u
        have hl := ps_setDcg dkK (i := i) (py := py) (spos := pos) (own := ownN N own) (wi := tI X.K L P W it) (g := gOf X.K tg) (tt := tCd X.K L P cond) (tk := tE X.K L P W0 kx) (tv := tE X.K L P W0 e) (by omega) F.cal F.nd (by rw [F.N]; exact hg.1) hyl hw0 (okI it F.toFit h2) hb (fun s H C cl fp => ⟨okG F.toFit.blk (fun x hx => by
          show (scope.names.lookup x == some .cell) = true
          exact beq_iff_eq.mpr (of_decide_eq_true hx)) tg tg' h3, okD cond F.toFit.blk h4, (ok kx F.toFit.blk h8).pe, (ok e F.toFit.blk h5).pe⟩) (folded_ok (not_t h7))
        exact PS.imp hl fun D σ H q => by
          rw [ownN_snd]
          exact dcK_imp h6 σ H _ (asg_imp D σ H q)
      · cases hc
    · cases hg
  · rename_i i own tg it cond kx e
    unfold chkG at hg
    split at hg
    · rename_i y py
      unfold chk at hc
      split at hc
      · rename_i es' n' p' vx' tg' iter ifs scope p
        simp only [Bool.and_eq_true, decide_eq_true_eq] at hc hg
        obtain ⟨⟨⟨⟨⟨⟨⟨h1, h2⟩, h3⟩, h4⟩, h8⟩, h5⟩, h6⟩, h7⟩ := hc
        have hw0 := swOf_eq F (.Name y py) (.DictComp (.Tuple es' n' p') vx' [⟨tg', iter, ifs, 0⟩] scope p) pos.line
        rw [hw] at hw0
        have hw : (knd sc y .local && py.line == p.line && !(scope.names.any fun (n, k) => n == y && (k == .local || k == .cell))) = true := hw
        simp only [Bool.and_eq_true] at hw
        have hyl := knd_ok F hw.1.1
        have hb : BlkOk X.N X.env.scope scope (ownN N own) := by
          have := blk_ok h1
          rw [F.N, F.hsc]
          exact this
        have hu := F.u
        have hl := ps_setDcg dkT (kx := .Tuple es' n' p') (i := i) (py := py) (spos := pos) (own := ownN N own) (wi := tI X.K L P W it) (g := gOf X.K tg) (tt := tCd X.K L P cond) (tk := tTup (tTs X.K L P W0 kx)) (tv := tE X.K L P W0 e) (by omega) F.cal F.nd (by rw [F.N]; exact hg.1) hyl hw0 (okI it F.toFit h2) hb (fun s H C cl fp => ⟨okG F.toFit.blk (fun x hx => by
          show (scope.names.lookup x == some .cell) = true
          exact beq_iff_eq.mpr (of_decide_eq_true hx)) tg tg' h3, okD cond F.toFit.blk h4, pe_tup (okA kx F.toFit.blk h8).1, (ok e F.toFit.blk h5).pe⟩) (folded_ok (not_t h7))
        exact PS.imp hl fun D σ H q => by
          rw [ownN_snd]
          exact dcT_imp h6 σ H _ (asg_imp D σ H q)
      · cases hc
    · cases hg
  · cases hl
mutual
theorem okS (F : FitS X L P W k g N sc) : ∀ (s : S) (st : Stmt), chkS g N sc s st = true → PS X st (tS X.K L P W fu s)
  | .asg tg e, st, h => by
    unfold chkS at h
    split at h
    · simp only [Bool.and_eq_true] at h
      obtain ⟨⟨⟨⟨h1, h2⟩, h3⟩, h4⟩, h5⟩ := h
      rcases Bool.eq_false_or_eq_true (swOf sc _ _) with q | q
      · rw [q] at h4
        exact swT_ok F (by simpa using h4) h1 h3 q
      · exact sS_asg (ok e F.toFit h3).pe (okG F.toFit (fun x _ => F.fn rfl x) tg _ h1) (swOf_ok F q) (noSw_ok F.hsc h5) (by rw [asgEach_cons (not_t h2)]; rfl)
    · cases h
  | .set1 i p, st, h => by
    unfold chkS at h
    split at h
    · simp only [Bool.and_eq_true, decide_eq_true_eq] at h
      obtain ⟨⟨⟨h1, h2⟩, h3⟩, h4⟩ := h
      obtain ⟨q1, q2⟩ := F.toFit.loc (fun _ => F.fn rfl _) h2
      exact sS_set1 F.nd (by rw [F.N]; exact h1) q1 (okM F h3) (swaps_ok (not_t h4)) q2
    · cases h
  | .par i j p q, st, h => by
    unfold chkS at h
    split at h
    · simp only [Bool.and_eq_true, decide_eq_true_eq] at h
      obtain ⟨⟨⟨⟨⟨⟨⟨⟨⟨⟨⟨⟨⟨h1, h2⟩, h3⟩, h4⟩, h5⟩, h6⟩, h7⟩, h8⟩, h9⟩, h10⟩, h11⟩, h12⟩, h13⟩, h14⟩ := h
      exact sS_par F.cal F.nd (by rw [F.N]; exact h1) (by rw [F.N]; exact h2) h5 (knd_ok F h3) (knd_ok F h4) (okM F h12) (okM F h13) (not_t h8) (not_t h9)
        (swap_par F.bk (knd_ok F h3) (knd_ok F h4) h6 h7 (not_t h8) (not_t h9) (not_t h10) (not_t h11)) (swapsS_ok rfl)
    · cases h
  | .par3 i j l p q u, st, h => by
    unfold chkS at h
    split at h
    · simp only [Bool.and_eq_true, decide_eq_true_eq] at h
      obtain ⟨⟨⟨⟨⟨⟨⟨⟨⟨⟨⟨⟨⟨⟨⟨⟨⟨⟨⟨⟨⟨⟨h1, h2⟩, h3⟩, n1⟩, n2⟩, n3⟩, d1⟩, d2⟩, d3⟩, e1⟩, e2⟩, e3⟩, l1⟩, l2⟩, s1⟩, s2⟩, s3⟩, f1⟩, f2⟩, m1⟩, m2⟩, m3⟩, hk⟩ := h
      exact sS_par3 F.cal F.nd (by rw [F.N]; exact h1) (by rw [F.N]; exact h2) (by rw [F.N]; exact h3) d1 d2 d3 (knd_ok F n1) (knd_ok F n2) (knd_ok F n3) (okM F m1) (okM F m2) (okM F m3) (not_t s1) (not_t s2) (not_t s3)
        (swap_par3 F.bk (knd_ok F n1) (knd_ok F n2) (knd_ok F n3) e1 e2 e3 l1 l2 (not_t s1) (not_t s2) (not_t s3) (not_t f1) (not_t f2)) (swapsS_ok rfl)
    · cases h
  | .setIx o i e, st, h => by
    unfold chkS at h
    split at h
    · simp only [Bool.and_eq_true] at h
      obtain ⟨⟨⟨h1, h3⟩, h4⟩, h5⟩ := h
      exact sS_setIx (ok o F.toFit h3).pe (ok i F.toFit h4).pe (ok e F.toFit h5).pe swB_ok noswapS (asg_sub (not_t h1))
    · cases h
  | .app i e, st, h => by
    unfold chkS at h
    split at h
    · simp only [Bool.and_eq_true, decide_eq_true_eq] at h
      obtain ⟨⟨⟨⟨rfl, h1⟩, h2⟩, h3⟩, h4⟩ := h
      obtain ⟨q1, q2, q3, q4⟩ := F.toFit.var h1
      exact sS_app q1 q2 q3 q4 (ok e F.toFit h4).pe (not_t h2) h3
    · cases h
  | .appC o e, st, h => by
    unfold chkS at h
    split at h
    · simp only [Bool.and_eq_true, decide_eq_true_eq] at h
      obtain ⟨⟨⟨⟨⟨rfl, h1⟩, h2⟩, h3⟩, h4⟩, h5⟩ := h
      exact sS_appC (ok o F.toFit h4).pe (ok e F.toFit h5).pe (not_t h2) (not_t h1) h3
    · cases h
  | .setOwn i b e, st, h => by
    unfold chkS at h
    split at h
    · simp only [Bool.and_eq_true] at h
      obtain ⟨⟨⟨h1, h2⟩, h4⟩, h5⟩ := h
      obtain ⟨q1, q2, q3, q4⟩ := F.toFit.var h1
      exact sS_setOwn q1 q2 q3 q4 (ok b F.toFit h4).pe (ok e F.toFit h5).pe swB_ok noswapS (asg_sub (not_t h2))
    · cases h
  | .augOwn i b o e, st, h => by
    unfold chkS at h
    split at h
    · simp only [Bool.and_eq_true, decide_eq_true_eq] at h
      obtain ⟨⟨⟨⟨rfl, h1⟩, h2⟩, h4⟩, h5⟩ := h
      obtain ⟨q1, q2, q3, q4⟩ := F.toFit.var h1
      exact sS_augOwn q1 q2 q3 q4 (ok b F.toFit h4).pe (ok e F.toFit h5).pe (aug_sub (not_t h2))
    · cases h
  | .aug i o e, st, h => by
    unfold chkS at h
    split at h
    · simp only [Bool.and_eq_true, decide_eq_true_eq] at h
      obtain ⟨⟨⟨rfl, h1⟩, h2⟩, h4⟩ := h
      obtain ⟨q1, q2⟩ := F.toFit.loc (b := true) (fun _ => F.fn rfl _) (by simpa using h2)
      exact sS_aug F.nd (by rw [F.N]; exact h1) q1 (ok e F.toFit h4).pe q2
    · cases h
  | .expr e, st, h => by
    unfold chkS at h
    split at h
    · simp only [Bool.and_eq_true] at h
      exact sS_expr (ok e F.toFit h.2).pe (swaps_ok (not_t h.1))
    · cases h
  | .ret e, st, h => by
    unfold chkS at h
    split at h
    · exact sS_ret (ok e F.toFit h).pe
    · cases h
  | .retN, st, h => by
    unfold chkS at h
    split at h
    · exact sS_retN
    · cases h
  | .iff c a b, st, h => by
    unfold chkS at h
    split at h
    · simp only [Bool.and_eq_true] at h
      exact sS_if (ok c F.toFit h.1.1).pt (okSs F a _ h.1.2) (okSs F b _ h.2)
    · cases h
  | .whl c b, st, h => by
    unfold chkS at h
    split at h
    · simp only [Bool.and_eq_true] at h
      exact sS_whl F.pass (ok c F.toFit h.1).pt (okSs F b _ h.2)
    · cases h
  | .forr it tg b, st, h => by
    unfold chkS at h
    split at h
    · simp only [Bool.and_eq_true] at h
      obtain ⟨⟨⟨h1, h2⟩, h3⟩, h4⟩ := h
      exact sS_for F.pass F.cal (okI it F.toFit h1) (okG F.toFit (fun x _ => F.fn rfl x) tg _ h2) (okSs F b _ h3) (folded_ok (not_t h4))
    · cases h
  | .brk, st, h => by
    unfold chkS at h
    split at h
    · exact sS_brk
    · cases h
  | .cnt, st, h => by
    unfold chkS at h
    split at h
    · exact sS_cnt
    · cases h
  | .pass, st, h => by
    unfold chkS at h
    split at h
    · exact sS_pass
    · cases h
  | .raise c ts, st, h => by
    unfold chkS at h
    split at h
    · simp only [Bool.and_eq_true, decide_eq_true_eq] at h
      obtain ⟨⟨⟨h1, h2⟩, h3⟩, h4⟩ := h
      obtain ⟨f, fI, fd, ps, q1, q2, q3, q4, q5, q6, q7⟩ := F.errs _ _ h1
      obtain ⟨q8, q9⟩ := F.toFit.gl h2
      cases ts with
      | nil => unfold chkA at h4; cases h4
      | cons t ts =>
        unfold chkA at h4
        simp only [Bool.and_eq_true] at h4
        cases ts with
        | nil => exact sS_raise F.cal F.tk q1 q2 q3 q4 q5 F.room2 q6 q8 q7 (ok t F.toFit h4.1.2).pe (not_t h3) q9
        | cons _ _ => have z := h4.2; unfold chkA at z; cases z
    · cases h
  | .frz _, st, h => by unfold chkS at h; cases h
  | .setF f t, st, h => by
    unfold chkS at h
    split at h
    · simp only [Bool.and_eq_true, decide_eq_true_eq] at h
      obtain ⟨⟨rfl, h1⟩, h2⟩ := h
      obtain ⟨q1, q2, q3, q4⟩ := F.toFit.var h1
      exact sS_setF q1 q2 q3 q4 (ok t F.toFit h2).pe F.cls swA_ok
    · cases h
  | .nvr, st, h => sS_nvr
theorem okSs (F : FitS X L P W k g N sc) : ∀ (ss : Ss) (st : List Stmt), chkSs g N sc ss st = true → PSs X st (tSs X.K L P W fu ss)
  | .nil, st, h => by
    unfold chkSs at h
    cases st with
    | nil => exact sSs_nil
    | cons _ _ => cases h
  | .cons s ts, st, h => by
    unfold chkSs at h
    split at h
    · exact sSs_frz (okSs F ts st h)
    · split at h
      · simp only [Bool.and_eq_true] at h
        exact sSs_cons (okS F s _ h.1) (okSs F ts _ h.2)
      · cases h
end
end
end XV
set_option Elab.async false
set_option linter.all false
set_option autoImplicit false
set_option maxRecDepth 100000
namespace XV
open PySem PySem.Spec PyProof.Rows L2 L2H LamX

structure FunC (K : PySem.W.Frag) (x qual : Str) (st : Stmt) (f : Addr) (fd : FuncData) (cdv : Value) : Prop where
  ex : ∃ (oc : Value) (od : Option Addr) (kV doc pm : Value) (an : Option Addr) (ct : Value) (osl : Array (Option Value)),
    fd = PySem.W.fnOf x qual (defArgs st) (defBody st) (defScope st) .none kV doc pm an cdv ct ∧ K.lookup f = some ⟨oc, od, .func fd, osl⟩ ∧ PySem.W.codeIn K cdv qual = true
section
variable {P : Program} {w : World} {K : PySem.W.Frag} {mg : Str → Option Value} {base : Heap} {L : Lay}
theorem fnOk_ofC {x qual : Str} {st : Stmt} {f : Addr} {fd : FuncData} {cdv : Value} {N ps : List Str} {j k i : Nat} {p : Prog} {fn : Fn} (F : FunC K x qual st f fd cdv) (S : FnScope N ps (defScope st)) (hfn : p.fns[i]? = some fn) (hnp : fn.np = ps.length) (hns : fn.ns = N.length)
    (hbody : ∀ (A : Around) (outer : List Env) (s : Shared) (H : Hp) (E : XK), Room j (A.deeper (envOfC qual (defScope st) s.heap.objs.size f cdv)) →
      PSs (cxOf (L2.CX P w) P w K mg base N qual (defScope st) f cdv A outer s H E) (defBody st) (tSs K L (p.cfg (p.run k)) (fun cls d _ H => E cls d H) p.fu fn.body)) :
    FnOk P w K mg base (L2.CX P w) (j + 1) f fd ps (spF K L (p.run (k + 1) false i)) := by
  obtain ⟨oc, od, kV, doc, pm, an, ct, osl, rfl, lk, hcd⟩ := F.ex
  refine fn_of lk hcd S (fun vs H Q E ⟨G, r, cs, ds, s, q, h⟩ => ?_) fun A outer s H vs Q E hr ⟨G, r, cs, ds, sp, q, h⟩ => ⟨_, hbody A outer s H E hr, ?_⟩
  · unfold Prog.run at h
    simp only [hfn] at h
    by_cases hl : ds.length = fn.np
    · rw [← q.length, hl, hnp]
    · rw [if_neg hl] at h; exact h.elim
  · unfold Prog.run at h
    simp only [hfn] at h
    by_cases hl : ds.length = fn.np
    · rw [if_pos hl] at h
      have e : fn.ns - fn.np = N.length - vs.length := by rw [hns, ← hl, q.length]
      refine ⟨0, G, r, H, G, r, cs, _, ?_, FO.fin h⟩
      unfold start L2.start
      rw [e]
      exact SI.start sp q _
    · rw [if_neg hl] at h; exact h.elim

theorem FO.finI {M : Addr} {G : Hp} {r : List Addr} {H : Hp} {fl : Fl} {Q : VK} {E : XK} (h : KO K L (Rep K L) E G r H (XV.endsI fl) fun v H' => v = .ref M → Q .non H') : FO K L M (fun cls d _ H => E cls d H) G r H G r fl { nx := fun _ H' => Q .non H', rt := Q } := by
  cases fl with
  | nx env cs =>
    intro G' r' σ' H' s _ _
    have h : KO K L (Rep K L) E G r H (match env[(0 : Nat)]? with
      | some (.ownI c ks ds) => .ok (.obj c ks ds) cs
      | _ => .bad) fun v H' => v = .ref M → Q .non H' := h
    cases e : env[(0 : Nat)]? with
    | none => rw [e] at h; exact h.elim
    | some sv =>
      rw [e] at h
      cases sv <;> first | exact h.elim | skip
      rename_i c ks ds
      have hm := s.me c ks ds e
      obtain ⟨G2, s2, sm⟩ := s.frz e (.inr (.inr ⟨c, ks, ds, rfl, rfl⟩))
      have hi : 0 < env.length := (List.getElem?_eq_some_iff.mp e).1
      obtain ⟨v, q1, q2⟩ := s2.er.get 0 (.d (.obj c ks ds)) (by rw [List.getElem?_set_self hi])
      rw [hm] at q1
      cases q1
      exact h (.ref M) G2 r' H' s2.go s2.sep q2 rfl
  | ret d cs => exact h.elim
  | exc c ds cs => exact fun cls dd σ' G' r' H' g s q => h cls dd G' r' H' g s q
  | brk env cs => exact h.elim
  | cnt env cs => exact h.elim
  | bad => exact h.elim
theorem fnOk_ofI {x qual : Str} {st : Stmt} {f : Addr} {fd : FuncData} {cdv : Value} {N ps : List Str} {j k i c : Nat} {p : Prog} {fn : Fn} (F : FunC K x qual st f fd cdv) (S : FnScope N ps (defScope st)) (hc : p.inits[c]? = some (some i)) (hfn : p.fns[i]? = some fn) (hnp : fn.np = ps.length) (hns : fn.ns = N.length)
    (hbody : ∀ (A : Around) (outer : List Env) (s : Shared) (H : Hp) (E : XK), Room j (A.deeper (envOfC qual (defScope st) s.heap.objs.size f cdv)) →
      PSs (cxOf (L2.CX P w) P w K mg base N qual (defScope st) f cdv A outer s H E) (defBody st) (tSs K L (p.cfg (p.run k)) (fun cls d _ H => E cls d H) p.fu fn.body)) :
    FnOk P w K mg base (L2.CX P w) (j + 1) f fd ps (spI K L c (p.run (k + 1) true c)) := by
  obtain ⟨oc, od, kV, doc, pm, an, ct, osl, rfl, lk, hcd⟩ := F.ex
  refine fn_of lk hcd S (fun vs H Q E ⟨G, r, H1, cs, ds, x, dx, vs', ev, _, _, _, _, s, q, h⟩ => ?_) fun A outer s H vs Q E hr ⟨G, r, H1, cs, ds, x, dx, vs', ev, hx, hdx, ne, eH, sp, q, h⟩ => ⟨_, hbody A outer s H E hr, ?_⟩
  · unfold Prog.run at h
    simp only [hc, hfn] at h
    by_cases hl : ds.length + 1 = fn.np
    · rw [ev, List.length_cons, ← q.length, hl, hnp]
    · rw [if_neg hl] at h; exact h.elim
  · unfold Prog.run at h
    simp only [hc, hfn] at h
    by_cases hl : ds.length + 1 = fn.np
    · rw [if_pos hl] at h
      have e : fn.ns - fn.np = N.length - vs.length := by rw [hns, ← hl, ev, List.length_cons, q.length]
      subst ev eH
      have hg : Go G r H1 G r (upd (upd H1 dx (.own x)) x (.ins (L.cls c) dx [])) := ((Go.refl G r H1).upd (.of hdx)).upd (.of hx)
      have h1 : (upd H1 dx (.own x)) x = none := by rw [upd_ne (fun z => ne z.symm)]; exact hx
      have s2 : Sep K L G r cs (upd (upd H1 dx (.own x)) x (.ins (L.cls c) dx [])) :=
        (sp.upd (Same.free sp.same hdx) (fun hm => (sp.mem hm).2 (.of hdx)) (by rw [hdx]; trivial)).upd (Same.free sp.same hx) (fun hm => (sp.mem hm).2 (.of hx)) (by rw [h1]; trivial)
      have er0 := q.to_env (H := upd (upd H1 dx (.own x)) x (.ins (L.cls c) dx [])) (fn.ns - fn.np)
      refine ⟨x, G, r, H1, G, r, cs, .ownI c [] [] :: (ds.map .d ++ List.replicate (fn.ns - fn.np) .un), ⟨hg, s2, ⟨?_, fun i sv e1 => ?_, fun i j sv sv' a hij e1 o1 e2 o2 _ _ => ?_⟩, fun i sv a e1 o hq => ?_, fun c' ks' ds' e1 => ?_⟩, ?_⟩
      · have := er0.len
        unfold L2.start
        rw [← e]
        simp at this ⊢
        omega
      · cases i with
        | zero =>
          cases e1
          exact ⟨x, dx, [], rfl, upd_same, rfl, Same.free sp.same hx, fun hm => (sp.mem hm).2 (.of hx), .nil⟩
        | succ i =>
          have := er0.get i sv (by simpa using e1)
          unfold L2.start
          rw [← e]
          simpa using this
      · have key : ∀ {m : Nat} {sv : SV}, (SV.ownI c [] [] :: (ds.map SV.d ++ List.replicate (fn.ns - fn.np) SV.un))[m]? = some sv → isOwn sv = true → m = 0 := fun {m sv} em om => by
          cases m with
          | zero => rfl
          | succ m =>
            have hm := List.mem_of_getElem? (show (ds.map SV.d ++ List.replicate (fn.ns - fn.np) SV.un)[m]? = some sv by simpa using em)
            rcases List.mem_append.mp hm with z | z
            · obtain ⟨d, _, rfl⟩ := List.mem_map.mp z; cases om
            · cases List.eq_of_mem_replicate z; cases om
        exact hij ((key e1 o1).trans (key e2 o2).symm)
      · cases i with
        | zero =>
          have : a = x := by
            unfold L2.start at hq
            simp at hq
            exact hq.symm
          subst this
          exact .of hx
        | succ i =>
          have hm := List.mem_of_getElem? (show (ds.map SV.d ++ List.replicate (fn.ns - fn.np) SV.un)[i]? = some sv by simpa using e1)
          rcases List.mem_append.mp hm with z | z
          · obtain ⟨d, _, rfl⟩ := List.mem_map.mp z; cases o
          · cases List.eq_of_mem_replicate z; cases o
      · unfold L2.start
        simp
      · generalize evSs (p.cfg (p.run k)) p.fu fn.body (.ownI c [] [] :: (ds.map .d ++ List.replicate (fn.ns - fn.np) .un)) cs = fl at h
        exact FO.finI h
    · rw [if_neg hl] at h; exact h.elim

structure TrdOk (P : Program) (w : World) (K : PySem.W.Frag) (mg : Str → Option Value) (base : Heap) (L : Lay) (p : Prog) (x qual : Str) (f : Addr) (sc : Scope) (cdv : Value) (N : List Str) (trd : Str) : Prop where
  run : ∀ (k : Nat) (A : Around) (outer : List Env) (s : Shared) (H : Hp) (E : XK), Room (k + 7) (A.deeper (envOfC qual sc s.heap.objs.size f cdv)) → ∀ (kr : Nat) (params : Arguments) (body : Expr) (scope : Scope) (p0 lpos pos : Pos) (n : Nat) (e : T), lamOk sc scope params = true →
    (∀ (A' : Around) (outer' : List Env) (s' : Shared) (H' : Hp) (E' : XK) (f' c' : Addr), Room k (A'.deeper (lamEnv (cxOf (L2.CX P w) P w K mg base N qual sc f cdv A outer s H E) scope s'.heap.objs.size f' c')) →
      PE (lamCx (cxOf (L2.CX P w) P w K mg base N qual sc f cdv A outer s H E) A' outer' s' H' E' scope f' c') body (tE K L (p.cfg (p.run kr)) (fun cls d _ H => E' cls d H) e)) →
    PE (cxOf (L2.CX P w) P w K mg base N qual sc f cdv A outer s H E) (.Call (.Name trd p0) [.Lambda params body scope lpos] [] pos) (tE K L (p.cfg (p.run kr)) (fun cls d _ H => E cls d H) (.tried n e))
def LamOk (base : Heap) (mg : Str → Option Value) (L : Lay) (qual : Str) (cdv : Value) : Prop := ∃ c TP, cdv = .ref c ∧ TabB base mg c TP ∧ (TP, qual ++ ".<locals>." ++ "<lambda>") ∈ L.tabs ∧ ∀ p ∈ L.tabs, p.1 = TP → p.2 = qual ++ ".<locals>." ++ "<lambda>"
structure DefOk (P : Program) (w : World) (K : PySem.W.Frag) (mg : Str → Option Value) (base : Heap) (L : Lay) (p : Prog) (g : Glb) (i : Nat) (f : Addr) (fd : FuncData) (ps : List Str) : Prop where
  ex : ∃ (x qual : Str) (st : Stmt) (cdv : Value) (N : List Str) (fn : Fn) (trd : Str) (lam : Bool), FunC K x qual st f fd cdv ∧ FnScope N ps (defScope st) ∧ p.fns[i]? = some fn ∧ fn.np = ps.length ∧ fn.ns = N.length ∧ chkSs { g with trd := trd, lam := lam, cb := false } N (defScope st) fn.body (defBody st) = true ∧
    (glB (defScope st) trd = false ∨ TrdOk P w K mg base L p x qual f (defScope st) cdv N trd) ∧ (lam = false ∨ LamOk base mg L qual cdv)
  kp : PySem.W.keepIn K (.ref f) = true
  bd : Binds K fd ps []
theorem FunC.fnI {K : PySem.W.Frag} {x qual : Str} {st : Stmt} {f : Addr} {fd : FuncData} {cdv : Value} (F : FunC K x qual st f fd cdv) : PySem.W.fnIn K f = true := by
  obtain ⟨oc, od, kV, doc, pm, an, ct, osl, _, lk, _⟩ := F.ex
  unfold PySem.W.fnIn
  rw [lk]
structure DefK (P : Program) (w : World) (K : PySem.W.Frag) (mg : Str → Option Value) (base : Heap) (L : Lay) (p : Prog) (g : Glb) (i : Nat) (f : Addr) (fd : FuncData) (ps : List Str) : Prop where
  ex : ∃ (x qual : Str) (st : Stmt) (cdv : Value) (N : List Str) (fn : Fn), FunC K x qual st f fd cdv ∧ FnScope N ps (defScope st) ∧ p.fns[i]? = some fn ∧ fn.np = ps.length ∧ fn.ns = N.length ∧ chkSs { g with trd := "", lam := false, cb := true } N (defScope st) fn.body (defBody st) = true ∧ glB (defScope st) "" = false
  kp : PySem.W.keepIn K (.ref f) = true
  bd : Binds K fd ps []
structure Mdl (P : Program) (w : World) (K : PySem.W.Frag) (mg : Str → Option Value) (base : Heap) (L : Lay) (p : Prog) (g : Glb) : Prop where
  bl : ∀ x, g.bl.contains x = true → mg x = none
  tys : ∀ y m, g.tys.lookup y = some m → mg y = none ∧ bootBuiltins y = some (.type m) ∧ y ≠ "__name__"
  fns : ∀ x i, g.fns.lookup x = some i → ∃ f fd ps, DefOk P w K mg base L p g i f fd ps ∧ mg x = some (.ref f)
  gks : ∀ x n, g.gks.lookup x = some n → ∃ u d v, mg x = some u ∧ RelV v u ∧ p.gk[n]? = some d ∧ ∀ G r, Rep K L G r d v
  errs : ∀ x c, g.errs.lookup x = some c → ∃ f fI fd ps, OexC K (L.cls c) ∧ L.fld c = [f] ∧ PySem.W.findIn K (.ref (L.cls c)) "__init__" = some (some (.ref fI)) ∧ PySem.W.typeIn K (.ref fI) = some (.type "function") ∧ FnOk P w K mg base (L2.CX P w) 1 fI fd ps (spIx (L.cls c) f) ∧ Binds K fd ps [] ∧ mg x = some (.ref (L.cls c))
  cls : ∀ c f, (p.flds[c]?.getD []).contains f = true → Cls K (L.cls c) ∧ NoAttr K (L.cls c) f
  mths : ∀ c m i, ((p.meths[c]?).bind fun l => l.lookup m) = some i → ∃ f fd ps, DefOk P w K mg base L p g i f fd ps ∧ Cls K (L.cls c) ∧ Meth K (L.cls c) m f
  news : ∀ x c, g.news.lookup x = some c → ∃ i f fd ps, p.inits[c]? = some (some i) ∧ DefOk P w K mg base L p g i f fd ps ∧ Mk K (L.cls c) f ∧ mg x = some (.ref (L.cls c))
  isc : ∀ x c, g.iscs.lookup x = some c → IsC K (L.cls c) ∧ mg x = some (.ref (L.cls c))
  nec : ∀ c f, ((p.meths[c]?).bind fun l => l.lookup ("__eq__" : Str)) = some f → g.neq = true → NeC K (L.cls c)
  itr : ∀ c f, g.itrs.lookup c = some f → Cls K (L.cls c) ∧ NoAttr K (L.cls c) f ∧ ∃ fa fd ps, Meth K (L.cls c) "__iter__" fa ∧ FnN P w K mg base (L2.CX P w) 1 fa fd ps (spIter K f) ∧ Binds K fd ps []
  kfns : ∀ x i, g.kfns.lookup x = some i → ∃ f fd ps, DefK P w K mg base L p g i f fd ps ∧ mg x = some (.ref f)
  exs : ∀ x q, g.exs.lookup x = some q → ∃ fI fd ps, OexC K (L.cls q.1) ∧ PySem.W.findIn K (.ref (L.cls q.1)) "__init__" = some (some (.ref fI)) ∧ PySem.W.typeIn K (.ref fI) = some (.type "function") ∧ FnOk P w K mg base (L2.CX P w) 1 fI fd ps (spIx (L.cls q.1) q.2) ∧
    Binds K fd ps [] ∧ KBinds K fd ps [q.2] g1 g1 ∧ mg x = some (.ref (L.cls q.1))
  ex0 : ∀ x c, g.ex0.lookup x = some c → ∃ fI fd ps, OexC K (L.cls c) ∧ PySem.W.findIn K (.ref (L.cls c)) "__init__" = some (some (.ref fI)) ∧ PySem.W.typeIn K (.ref fI) = some (.type "function") ∧ FnOk P w K mg base (L2.CX P w) 1 fI fd ps (spI0 K) ∧ Binds K fd ps [] ∧ mg x = some (.ref (L.cls c))
  exf : ∀ c f, g.exf.contains (c, f) = true → XfC K (L.cls c) ∧ PySem.W.findIn K (.ref (L.cls c)) f = some none
  kits : ∀ nm tbl, g.kits.lookup nm = some tbl → ∃ (v : V) (u : Value), (∀ u', RelV v u' → u' = u) ∧ ((mg nm = some u ∧ RelV v u) ∨ (mg nm = none ∧ nm ≠ "__name__" ∧ ∃ m, bootBuiltins nm = some (.type m) ∧ v = .ty m)) ∧ ∀ c b, tbl.lookup c = some b → ExcC K (L.cls c) ∧ PySem.W.kitOne K (.ref (L.cls c)) u = some b
theorem KRun.lay {L LB : Lay} {k kc : Nat} {f : Addr} {run : (List D → List C → Out D) → List D → List C → Out D} (le : LayLe L LB) (h : KRun P w K mg base L k kc f run) : KRun P w K mg base LB k kc f run :=
  fun A outer s H us vs Q E b cb L2 hr e0 rv le2 => h A outer s H us vs Q E b cb L2 hr e0 rv (le.trans le2)
theorem startK_si {LB : Lay} {M b : Addr} {G : Hp} {r : List Addr} {H : Hp} {cs : List C} {ds : List D} {vs : List V} {n : Nat} (sp : Sep K LB G r cs H) (q : Reps K LB G r ds vs) (hb : LB.cb = some b) :
    SI K LB M G r H G r cs (ds.map .d ++ (SV.cb :: List.replicate n .un)) ((vs ++ [V.ref b]).map some ++ List.replicate n none) H := by
  have s0 := SI.start (K := K) (L := LB) (M := M) sp q (n + 1)
  have hl : (ds.map SV.d).length = vs.length := by rw [List.length_map]; exact q.length
  have hn : (vs.map (some : V → Option V)).length = vs.length := List.length_map ..
  have key : ∀ {i : Nat} {sv : SV}, (ds.map SV.d ++ (SV.cb :: List.replicate n SV.un))[i]? = some sv → isOwn sv = false := fun {i sv} e => by
    rcases List.mem_append.mp (List.mem_of_getElem? e) with z | z
    · obtain ⟨d, _, rfl⟩ := List.mem_map.mp z; rfl
    · rcases List.mem_cons.mp z with rfl | z
      · rfl
      · cases List.eq_of_mem_replicate z; rfl
  refine ⟨Go.refl G r H, sp, ⟨?_, fun i sv e => ?_, fun i j sv sv' a _ e1 o1 _ _ _ _ => ?_⟩, fun i sv a e o _ => ?_, fun c ks ds' e => ?_⟩
  · simp [q.length]
  · by_cases h1 : i < vs.length
    · rw [List.getElem?_append_left (by omega)] at e
      have e2 : ((vs ++ [V.ref b]).map some ++ List.replicate n none)[i]? = (vs.map some)[i]? := by
        rw [List.map_append, List.append_assoc, List.getElem?_append_left (by rw [hn]; exact h1)]
      rw [e2]
      rw [List.getElem?_map] at e
      cases ed : ds[i]? with
      | none => rw [ed] at e; cases e
      | some d =>
        rw [ed] at e
        cases e
        obtain ⟨v, q1, q2⟩ := q.get ed
        exact ⟨v, by rw [List.getElem?_map, q1]; rfl, q2⟩
    · rw [List.getElem?_append_right (by omega), hl] at e
      have e2 : ((vs ++ [V.ref b]).map some ++ List.replicate n (none : Option V))[i]? = (some (V.ref b) :: List.replicate n none)[i - vs.length]? := by
        rw [List.map_append, List.append_assoc, List.getElem?_append_right (by rw [hn]; omega), hn]; rfl
      rw [e2]
      cases hi : i - vs.length with
      | zero => rw [hi] at e; cases e; exact ⟨b, hb, rfl⟩
      | succ m =>
        rw [hi] at e
        have := List.mem_of_getElem? (show (List.replicate n SV.un)[m]? = some sv by simpa using e)
        cases List.eq_of_mem_replicate this
        trivial
  · rw [key e1] at o1; cases o1
  · rw [key e] at o; cases o
  · have := key e; cases this
theorem fit_of {p : Prog} {g : Glb} (M : Mdl P w K mg base L p g) {k i : Nat} (ih1 : ∀ (i : Nat) (f : Addr) (fd : FuncData) (ps : List Str), DefOk P w K mg base L p g i f fd ps → FnOk P w K mg base (L2.CX P w) (10 * k) f fd ps (spF K L (p.run k false i)))
    (ih2 : ∀ (c i : Nat) (f : Addr) (fd : FuncData) (ps : List Str), p.inits[c]? = some (some i) → DefOk P w K mg base L p g i f fd ps → FnOk P w K mg base (L2.CX P w) (10 * k) f fd ps (spI K L c (p.run k true c)))
    (ihK : ∀ (i : Nat) (f : Addr) (fd : FuncData) (ps : List Str), DefK P w K mg base L p g i f fd ps → KRun P w K mg base L (10 * k + 6) (10 * k + 2) f fun cb ds cs => p.runK (p.run k) 3 cb i ds cs)
    {x qual trd : Str} {lam : Bool} {st : Stmt} {cdv : Value} {N ps : List Str} {f : Addr} (S : FnScope N ps (defScope st)) (ht : glB (defScope st) trd = false ∨ TrdOk P w K mg base L p x qual f (defScope st) cdv N trd) (hlm : lam = false ∨ LamOk base mg L qual cdv) (A : Around) (outer : List Env) (s : Shared) (H : Hp) (E : XK) (hr : Room (10 * k + 9) (A.deeper (envOfC qual (defScope st) s.heap.objs.size f cdv))) :
    FitS (cxOf (L2.CX P w) P w K mg base N qual (defScope st) f cdv A outer s H E) L (p.cfg (p.run k)) (fun cls d _ H => E cls d H) (10 * k) { g with trd := trd, lam := lam, cb := false } N (defScope st) := {
      hsc := rfl
      N := rfl
      nd := S.nd
      u := (by have := hr.un; show (A.deeper _).units + 100 < _; omega)
      cal := rfl
      bl := M.bl
      tys := M.tys
      fns := fun y j hy => by
        obtain ⟨f', fd', ps', d', hm⟩ := M.fns y j hy
        exact ⟨f', fd', ps', ih1 j f' fd' ps' d', hm, d'.kp, d'.bd⟩
      room := hr.mono (by omega)
      gks := M.gks
      tk := takes_of rfl rfl rfl rfl
      cls := M.cls
      mth := fun c m i hi => by
        obtain ⟨f', fd', ps', d', h1, h2⟩ := M.mths c m i hi
        exact ⟨f', fd', ps', h1, h2, ih1 i f' fd' ps' d', d'.bd⟩
      news := fun y c hy => by
        obtain ⟨i, f', fd', ps', h1, d', h2, h3⟩ := M.news y c hy
        exact ⟨f', fd', ps', h2, ih2 c i f' fd' ps' h1 d', d'.bd, h3⟩
      isc := M.isc
      nec := M.nec
      itr := M.itr
      fn := fun _ _ => rfl
      fnI := fun y j f' hy hm => by
        obtain ⟨f2, fd2, ps2, d2, hm2⟩ := M.fns y j hy
        have e : f2 = f' := by
          have z : some (Value.ref f2) = some (Value.ref f') := hm2.symm.trans hm
          cases z; rfl
        subst e
        obtain ⟨x2, q2, st2, cdv2, N2, fn2, trd2, lam2, hF, _⟩ := d2.ex
        exact hF.fnI
      kfn := fun _ y j hy => by
        obtain ⟨f', fd', ps', d', hm⟩ := M.kfns y j hy
        exact ⟨f', 10 * k + 6, hm, d'.kp, ihK j f' fd' ps' d', hr.mono (by omega)⟩
      ex2 := fun _ => hr.mono (by omega)
      exs := M.exs
      ex0 := M.ex0
      exf := M.exf
      kits := M.kits
      cbx := fun _ z => by cases z
      lamT := fun _ z => by
        rcases hlm with q | q
        · rw [show lam = true from z] at q; cases q
        · obtain ⟨c, TP, q1, q2, q3, q4⟩ := q
          exact ⟨c, TP, q2, q1, q3, q4⟩
      trd := fun _ params body scope p0 lpos pos n e hl hg hb => by
        rcases ht with z | T
        · exact absurd (show glB (defScope st) trd = true from hg) (by rw [z]; simp)
        · exact T.run (10 * k + 1) A outer s H E (hr.mono (by omega)) k params body scope p0 lpos pos n e hl hb
      pass := passes_of rfl
      bk := by
        show (if (defScope st).kind.isAnnotationScope then _ else (defScope st).kind) = _
        rw [S.kind]
        rfl
      errs := M.errs
      room2 := hr.mono (by omega) }
theorem fit_ofK {p : Prog} {g : Glb} (M : Mdl P w K mg base L p g) {k i n : Nat} (ih1 : ∀ (i : Nat) (f : Addr) (fd : FuncData) (ps : List Str), DefOk P w K mg base L p g i f fd ps → FnOk P w K mg base (L2.CX P w) (10 * k) f fd ps (spF K L (p.run k false i)))
    (ih2 : ∀ (c i : Nat) (f : Addr) (fd : FuncData) (ps : List Str), p.inits[c]? = some (some i) → DefOk P w K mg base L p g i f fd ps → FnOk P w K mg base (L2.CX P w) (10 * k) f fd ps (spI K L c (p.run k true c)))
    (ihK : ∀ (i : Nat) (f : Addr) (fd : FuncData) (ps : List Str), DefK P w K mg base L p g i f fd ps → KRun P w K mg base L (10 * k + 3 + n) (10 * k + 2) f fun cb ds cs => p.runK (p.run k) n cb i ds cs)
    {LB : Lay} (le : LayLe L LB) {b : Addr} (hb : LB.cb = some b) {cb : List D → List C → Out D} {x qual : Str} {st : Stmt} {cdv : Value} {N ps : List Str} {f : Addr} (S : FnScope N ps (defScope st)) (hg : glB (defScope st) "" = false) (A : Around) (outer : List Env) (s : Shared) (H : Hp) (E : XK) (hr : Room (10 * k + 3 + n) (A.deeper (envOfC qual (defScope st) s.heap.objs.size f cdv)))
    (CB : CbOk P w K mg base H s.heap b (10 * k + 2) (spF K LB fun ds cs => XV.calm (cb ds cs))) :
    FitS (cxOf (L2.CX P w) P w K mg base N qual (defScope st) f cdv A outer s H E) LB (p.cfg0 (p.run k) cb (p.runK (p.run k) n)) (fun cls d _ H => E cls d H) (10 * k) { g with trd := "", lam := false, cb := true } N (defScope st) := {
      hsc := rfl
      N := rfl
      nd := S.nd
      u := (by have := hr.un; show (A.deeper _).units + 100 < _; omega)
      cal := rfl
      bl := M.bl
      tys := M.tys
      fns := fun y j hy => by
        obtain ⟨f', fd', ps', d', hm⟩ := M.fns y j hy
        exact ⟨f', fd', ps', (ih1 j f' fd' ps' d').imp fun _ _ _ _ => spF_lay le, hm, d'.kp, d'.bd⟩
      room := hr.mono (by omega)
      gks := fun y j hy => by
        obtain ⟨u, d, v, h1, h2, h3, h4⟩ := M.gks y j hy
        exact ⟨u, d, v, h1, h2, h3, fun G r => (h4 G r).lay le.cls⟩
      tk := takes_of rfl rfl rfl rfl
      cls := fun c f h => by rw [le.cls]; exact M.cls c f h
      mth := fun c m i hi => by
        obtain ⟨f', fd', ps', d', h1, h2⟩ := M.mths c m i hi
        rw [le.cls]
        exact ⟨f', fd', ps', h1, h2, (ih1 i f' fd' ps' d').imp fun _ _ _ _ => spF_lay le, d'.bd⟩
      news := fun y c hy => by
        obtain ⟨i, f', fd', ps', h1, d', h2, h3⟩ := M.news y c hy
        rw [le.cls]
        exact ⟨f', fd', ps', h2, (ih2 c i f' fd' ps' h1 d').imp fun _ _ _ _ => spI_lay le, d'.bd, h3⟩
      isc := fun y c hy => by rw [le.cls]; exact M.isc y c hy
      nec := fun c f h1 h2 => by rw [le.cls]; exact M.nec c f h1 h2
      itr := fun c f h => by
        unfold ItC
        rw [le.cls]; exact M.itr c f h
      fn := fun _ _ => rfl
      fnI := fun y j f' hy hm => by
        obtain ⟨f2, fd2, ps2, d2, hm2⟩ := M.fns y j hy
        have e : f2 = f' := by
          have z : some (Value.ref f2) = some (Value.ref f') := hm2.symm.trans hm
          cases z; rfl
        subst e
        obtain ⟨x2, q2, st2, cdv2, N2, fn2, trd2, lam2, hF, _⟩ := d2.ex
        exact hF.fnI
      kfn := fun _ y j hy => by
        obtain ⟨f', fd', ps', d', hm⟩ := M.kfns y j hy
        exact ⟨f', 10 * k + 3 + n, hm, d'.kp, (ihK j f' fd' ps' d').lay le, hr⟩
      ex2 := fun _ => hr.mono (by omega)
      exs := fun x q h => by rw [le.cls]; exact M.exs x q h
      ex0 := fun x q h => by rw [le.cls]; exact M.ex0 x q h
      exf := fun x q h => by rw [le.cls]; exact M.exf x q h
      kits := fun x q h => by rw [le.cls]; exact M.kits x q h
      cbx := fun _ _ => ⟨⟨b, H, s.heap, hb, CB, fun pins σ H' s' I => Kp.of I.base⟩, hr.mono (by omega)⟩
      lamT := fun _ z => by cases z
      trd := fun _ params body scope p0 lpos pos n e hl hg2 hb => absurd (show glB (defScope st) "" = true from hg2) (by rw [hg]; simp)
      pass := passes_of rfl
      bk := by
        show (if (defScope st).kind.isAnnotationScope then _ else (defScope st).kind) = _
        rw [S.kind]
        rfl
      errs := fun y c hy => by rw [le.cls, le.fld]; exact M.errs y c hy
      room2 := hr.mono (by omega) }
theorem Mdl.kruns {p : Prog} {g : Glb} (M : Mdl P w K mg base L p g) {k : Nat} (ih1 : ∀ (i : Nat) (f : Addr) (fd : FuncData) (ps : List Str), DefOk P w K mg base L p g i f fd ps → FnOk P w K mg base (L2.CX P w) (10 * k) f fd ps (spF K L (p.run k false i)))
    (ih2 : ∀ (c i : Nat) (f : Addr) (fd : FuncData) (ps : List Str), p.inits[c]? = some (some i) → DefOk P w K mg base L p g i f fd ps → FnOk P w K mg base (L2.CX P w) (10 * k) f fd ps (spI K L c (p.run k true c))) :
    ∀ (n i : Nat) (f : Addr) (fd : FuncData) (ps : List Str), DefK P w K mg base L p g i f fd ps → KRun P w K mg base L (10 * k + 3 + n) (10 * k + 2) f fun cb ds cs => p.runK (p.run k) n cb i ds cs
  | 0, i, f, fd, ps, d => fun A outer s H us vs Q E b cb LB hr e0 rv le hb C ⟨G, r, cs, ds, sp, q, h⟩ => h.elim
  | n + 1, i, f, fd, ps, d => fun A outer s H us vs Q E b cb LB hr e0 rv le hb C ⟨G, r, cs, ds, sp, q, h⟩ => by
    obtain ⟨x, qual, st, cdv, N, fn, hF, S, hfn, hnp, hns, hc, hgl⟩ := d.ex
    have hbd := d.bd
    obtain ⟨oc, od, kV, doc, pm, an, ct, osl, rfl, lk, hcd⟩ := hF.ex
    unfold Prog.runK at h
    simp only [hfn] at h
    by_cases hl : ds.length + 1 = fn.np
    · rw [if_pos hl] at h
      have kin : K.In s.heap := e0.mod.kin.keeps fun b o e => (e0.bs b o e).1
      have hlv : (vs ++ [V.ref b]).length = ps.length := by rw [List.length_append, ← q.length, ← hnp]; exact hl
      have hlu : (us ++ [Value.ref b]).length = ps.length := by rw [List.length_append, ← rv.length]; rw [List.length_append] at hlv; exact hlv
      have hb2 := hbd s (us ++ [.ref b]) kin (by simpa using hlu)
      rw [List.append_nil] at hb2
      refine run_ofS (N := N) (ps := ps) (us := us ++ [.ref b]) (vs := vs ++ [.ref b]) lk hcd S (k := 10 * k + 3 + n) hr e0 hb2 (rv.append (.cons (show L2.RelV (V.ref b) (Value.ref b) from rfl) .nil)) hlv fun hr' => ?_
      refine ⟨_, okSs (fu := p.fu) (k := 10 * k) (N := N) (sc := defScope st) (fit_ofK (x := x) (i := i) M ih1 ih2 (Mdl.kruns M ih1 ih2 n) le hb S hgl A outer s H E hr' C) fn.body (defBody st) hc, ?_⟩
      have e : fn.ns - fn.np = N.length - (vs ++ [V.ref b]).length := by rw [hns, hlv, hnp]
      have := startK_si (M := 0) (n := fn.ns - fn.np) sp q hb
      refine ⟨0, G, r, H, G, r, cs, _, ?_, FO.fin h⟩
      unfold startK L2.start
      rw [← e]
      exact this
    · rw [if_neg hl] at h; exact h.elim
theorem Mdl.oks {p : Prog} {g : Glb} (M : Mdl P w K mg base L p g) : ∀ k : Nat, (∀ (i : Nat) (f : Addr) (fd : FuncData) (ps : List Str), DefOk P w K mg base L p g i f fd ps → FnOk P w K mg base (L2.CX P w) (10 * k) f fd ps (spF K L (p.run k false i))) ∧
    (∀ (c i : Nat) (f : Addr) (fd : FuncData) (ps : List Str), p.inits[c]? = some (some i) → DefOk P w K mg base L p g i f fd ps → FnOk P w K mg base (L2.CX P w) (10 * k) f fd ps (spI K L c (p.run k true c)))
  | 0 => ⟨fun i f fd ps _ => fnOk_zero, fun c i f fd ps _ _ => ⟨fun _ _ _ _ ⟨_, _, _, _, _, _, _, _, _, _, _, _, _, _, _, h⟩ => h.elim, fun _ _ _ _ _ _ _ _ _ _ _ _ _ ⟨_, _, _, _, _, _, _, _, _, _, _, _, _, _, _, h⟩ => h.elim⟩⟩
  | k + 1 => by
    obtain ⟨ih1, ih2⟩ := Mdl.oks M k
    have ihK := M.kruns ih1 ih2 3
    refine ⟨fun i f fd ps d => ?_, fun c i f fd ps hc d => ?_⟩
    · obtain ⟨x, qual, st, cdv, N, fn, trd, lam, hF, S, hfn, hnp, hns, hc, ht, hlm⟩ := d.ex
      exact fnOk_ofC (j := 10 * k + 9) hF S hfn hnp hns fun A outer s H E hr => okSs (k := 10 * k) (g := { g with trd := trd, lam := lam, cb := false }) (N := N) (sc := defScope st) (fit_of M (i := i) ih1 ih2 ihK S ht hlm A outer s H E hr) fn.body (defBody st) hc
    · obtain ⟨x, qual, st, cdv, N, fn, trd, lam, hF, S, hfn, hnp, hns, hck, ht, hlm⟩ := d.ex
      exact fnOk_ofI (j := 10 * k + 9) hF S hc hfn hnp hns fun A outer s H E hr => okSs (k := 10 * k) (g := { g with trd := trd, lam := lam, cb := false }) (N := N) (sc := defScope st) (fit_of M (i := i) ih1 ih2 ihK S ht hlm A outer s H E hr) fn.body (defBody st) hck
theorem Mdl.ok {p : Prog} {g : Glb} (M : Mdl P w K mg base L p g) (k i : Nat) (f : Addr) (fd : FuncData) (ps : List Str) (d : DefOk P w K mg base L p g i f fd ps) : FnOk P w K mg base (L2.CX P w) (10 * k) f fd ps (spF K L (p.run k false i)) := (M.oks k).1 i f fd ps d
end
end XV
set_option Elab.async false
set_option linter.all false
set_option autoImplicit false
set_option maxRecDepth 100000
namespace XV
open PySem PySem.Spec PyProof.Rows L2 L2H LamX

theorem isEmpty_nil {α : Type} {l : List α} (h : l.isEmpty = true) : l = [] := by cases l <;> first | rfl | cases h
theorem isNone_none {α : Type} {l : Option α} (h : l.isNone = true) : l = none := by cases l <;> first | rfl | cases h
theorem lamOk_args {sc scope : Scope} {a : Arguments} (h : lamOk sc scope a = true) : LamS sc scope ∧ a = ⟨[], [], none, [], [], none, []⟩ := by
  unfold lamOk at h
  simp only [Bool.and_eq_true] at h
  obtain ⟨⟨⟨⟨⟨⟨⟨h0, h1⟩, h2⟩, h3⟩, h4⟩, h5⟩, h6⟩, h7⟩ := h
  obtain ⟨a1, a2, a3, a4, a5, a6, a7⟩ := a
  refine ⟨lamS_by h0, ?_⟩
  have e1 := isEmpty_nil h1
  have e2 := isEmpty_nil h2
  have e3 := isNone_none h3
  have e4 := isEmpty_nil h4
  have e5 := isEmpty_nil h5
  have e6 := isNone_none h6
  have e7 := isEmpty_nil h7
  dsimp only at e1 e2 e3 e4 e5 e6 e7
  rw [e1, e2, e3, e4, e5, e6, e7]
section
variable {P : Program} {w : World} {K : PySem.W.Frag} {mg : Str → Option Value} {base : Heap} {L : Lay}
theorem trdOk_of {p : Prog} {x0 qual : Str} {f0 : Addr} {sc : Scope} {c : Addr} {N : List Str} {trd : Str} {tbl : Addr → Str → Str → Prop} {ok : Str} {stT : Stmt} {gA CP fe TP : Addr} {fdT fde : FuncData} {cdT : Value} {Ng : List Str} {pse : List Str} {a e cn gn : Str} {j x1 : Nat} {p1 p2 p3 p4 p5 p6 p7 p8 p9 pa pb pc : Pos}
    (hok : ok = mkS ("told".toList.map Char.toNat)) (herr : ∀ c ds d0, p.errs c ds = some d0 → ∃ nm f d1, ds = [d1] ∧ L.fld c = [f] ∧ tbl (L.cls c) (mkS nm) f ∧ d0 = .tup [.str nm, d1])
    (hgl : sc.names.lookup trd = some .globalImplicit) (hdb : (trd == ("__debug__" : Str)) = false) (hm : mg trd = some (.ref gA)) (hk : PySem.W.keepIn K (.ref gA) = true)
    (FT : FunC K trd trd stT gA fdT cdT) (hbd : defBody stT = [.Try [.Return (some (.Tuple [.Constant (.str ok) j p1, .Call (.Name a p2) [] [] p3] x1 p4)) p5] [.ExceptHandler (some (.Name cn p6)) (some e) [.Return (some (.Call (.Name gn p7) [.Name e p8] [] p9)) pa] pb] [] [] pc])
    (hb : Binds K fdT [a] []) (Sg : FnScope Ng [a] (defScope stT)) (hN0 : Ng[0]? = some a) (hN1 : Ng[1]? = some e) (hva : Vis (defScope stT) a) (hda : dbg a = false) (hle : (defScope stT).names.lookup e = some .local) (hde : dbg e = false)
    (hglc : (defScope stT).names.lookup cn = some .globalImplicit) (hmc : mg cn = some (.ref CP)) (hdc : dbg cn = false) (hglg : (defScope stT).names.lookup gn = some .globalImplicit) (hmg : mg gn = some (.ref fe)) (hdg : dbg gn = false) (hkg : PySem.W.keepIn K (.ref fe) = true) (hbg : Binds K fde pse [])
    (hex : ∀ D nm f, tbl D nm f → PySem.W.exmOne K (.ref D) (.ref CP) = some true)
    (hF : ∀ D nm f, tbl D nm f → ∀ dd, FnE P w K mg base (L2.CX P w) 6 fe fde pse (.ref D) (some dd) (spT dd nm f))
    (TB : TabB base mg c TP) (hmT : (TP, qual ++ ".<locals>." ++ "<lambda>") ∈ L.tabs) (hu : ∀ q ∈ L.tabs, q.1 = TP → q.2 = qual ++ ".<locals>." ++ "<lambda>") :
    TrdOk P w K mg base L p x0 qual f0 sc (.ref c) N trd where
  run := by
    intro k A outer s H E hr kr params body scope p0 lpos pos n e1 hl hbody
    obtain ⟨LS, rfl⟩ := lamOk_args hl
    obtain ⟨oc, od, kV, doc, pm, an, ct, osl, rfl, lk, hcd⟩ := FT.ex
    have hG := tried_gives (X := cxOf (L2.CX P w) P w K mg base N qual sc f0 (.ref c) A outer s H E) (tbl := tbl) (ok := ok) (Ng := Ng) (x := trd) (a := a) (e := e) (g := gn) (c := cn) (q := qual ++ ".<locals>." ++ "<lambda>") (sg := defScope stT) (gA := gA) (CP := CP) (fe := fe) (fde := fde) (pse := pse) (cdg := cdT) (j := j) (k := 6) (x1 := x1)
      (p1 := p1) (p2 := p2) (p3 := p3) (p4 := p4) (p5 := p5) (p6 := p6) (p7 := p7) (p8 := p8) (p9 := p9) (pa := pa) (pb := pb) (pc := pc)
      Sg.nd hN1 hle (.inl hle) (dbg_ok hde).1 (dbg_ok hde).2 (fun _ _ => hle) hglc hmc (dbg_ok hdc).1 hglg hmg (dbg_ok hdg).1 hkg hbg hex hF (fun m => roomH_of ((hr.mono (by omega : 7 ≤ k + 7)).deeper _)) (fun f => rfl) (List.getElem?_eq_some_iff.mp hN1).1
    rw [← hbd] at hG
    exact sE_tried (X := cxOf (L2.CX P w) P w K mg base N qual sc f0 (.ref c) A outer s H E) (k := k) hok herr hgl hm hk lk hcd hb Sg hN0 hva hG TB rfl hmT hu (hr.mono (by omega)) LS rfl (fun _ _ _ _ _ => rfl) hbody hdb (dbg_ok hda).1 (dbg_ok hda).2
end
end XV
set_option Elab.async false
set_option linter.all false
set_option autoImplicit false
set_option maxRecDepth 100000
namespace XV
open PySem PySem.Spec PyProof.Rows L2

theorem lookup_mem {β : Type} {x : Str} {i : β} : ∀ {l : List (Str × β)}, l.lookup x = some i → (x, i) ∈ l
  | (y, j) :: l, h => by
    rw [List.lookup_cons] at h
    split at h
    · rename_i e
      cases h
      rw [beq_iff_eq.mp e]
      exact List.mem_cons_self
    · exact List.mem_cons_of_mem _ (lookup_mem h)
theorem all_nil {α : Type} {p : α → Prop} : ∀ q ∈ ([] : List α), p q := fun _ h => (List.not_mem_nil h).elim
theorem all_cons {α : Type} {p : α → Prop} {a : α} {l : List α} (h : p a) (t : ∀ q ∈ l, p q) : ∀ q ∈ a :: l, p q := List.forall_mem_cons.2 ⟨h, t⟩
theorem rep_ktup {K : PySem.W.Frag} {L : Lay} {a : Addr} {dd : Option Addr} {its : Array Value} {n : Nat} {sl : Array (Option Value)} {ds : List D} {xs : List V} (h : K.lookup a = some ⟨.type "tuple", dd, .seq its n, sl⟩) (hs : its.size ≤ sizeLine) (hv : Vals xs its.toList) (hr : ∀ G r, Reps K L G r ds xs) :
    ∀ G r, Rep K L G r (.tup ds) (.ref a) := fun G r => .tup (.inr ⟨_, its, n, h, rfl, rfl, hs, hv⟩) (hr G r)
theorem err_of {P : Program} {w : World} {K : PySem.W.Frag} {mg : Str → Option Value} {base : Heap} {L : Lay} {c : Nat} {C fI : Addr} {cn f n1 n2 x qual : Str} {st : Stmt} {fd : FuncData} {p1 p2 p3 p4 : Pos} (hC : L.cls c = C) (hF : L.fld c = [f]) (T : OexC K C)
    (ii : PySem.W.findIn K (.ref C) "__init__" = some (some (.ref fI))) (it : PySem.W.typeIn K (.ref fI) = some (.type "function")) (F : L2.Fun K x qual st fI fd) (S : FnScope [n1, n2] [n1, n2] (defScope st)) (hbd : defBody st = [.Assign [.Attribute (.Name n1 p1) f p2] (.Name n2 p3) p4])
    (l1 : (defScope st).names.lookup n1 = some .local) (l2 : (defScope st).names.lookup n2 = some .local) (d1 : dbg n1 = false) (d2 : dbg n2 = false) (hno : PySem.W.findIn K (.ref C) f = some none) (hb : Binds K fd [n1, n2] []) (hm : mg cn = some (.ref C)) :
    ∃ f fI fd ps, OexC K (L.cls c) ∧ L.fld c = [f] ∧ PySem.W.findIn K (.ref (L.cls c)) "__init__" = some (some (.ref fI)) ∧ PySem.W.typeIn K (.ref fI) = some (.type "function") ∧ FnOk P w K mg base (L2.CX P w) 1 fI fd ps (spIx (L.cls c) f) ∧ Binds K fd ps [] ∧ mg cn = some (.ref (L.cls c)) := by
  subst hC
  exact ⟨f, fI, fd, [n1, n2], T, hF, ii, it, init_ok F S hbd l1 l2 (fun _ _ => .inl l1) (fun _ _ => .inl l2) (dbg_ok d1).1 (dbg_ok d2).1 (dbg_ok d1).2 (dbg_ok d2).2 (fun _ => swaps_ok rfl) T hno, hb, hm⟩
theorem FnE.mono {P : Program} {w : World} {K : PySem.W.Frag} {mg : Str → Option Value} {base : Heap} {CX : CXT} {j k : Nat} {f : Addr} {fd : FuncData} {ps : List Str} {cls : Value} {d : Option Addr} {sp : Addr → Sp} (F : FnE P w K mg base CX j f fd ps cls d sp) (h : j ≤ k) : FnE P w K mg base CX k f fd ps cls d sp :=
  ⟨F.len, fun A outer s H args us vs Q E p hr => F.run A outer s H args us vs Q E p (hr.mono h)⟩
end XV
set_option Elab.async false
set_option linter.all false
set_option autoImplicit false
set_option maxRecDepth 100000
namespace XV
open PySem PySem.Spec PyProof.Rows L2 L2H

theorem fnE_tell {P : Program} {w : World} {K : PySem.W.Frag} {mg : Str → Option Value} {base : Heap} {x qual e nm fn : Str} {st : Stmt} {f D dd : Addr} {fd : FuncData} {ns : List Str} (F : L2.Fun K x qual st f fd) (S : FnScope (e :: ns) [e] (defScope st)) (T : ExcC K D)
    (hgi : (defScope st).names.lookup ("isinstance" : Str) = some .globalImplicit) (hmi : mg ("isinstance" : Str) = none) (hde : dbg e = false) (hle : (defScope st).names.lookup e = some .local)
    (hbody : ∀ (X : Cx) (a : Addr) (oe : Obj), X.K = K → X.mg = mg → X.env.scope = defScope st → Held X e a D dd oe → PSs X (defBody st) (tTell a dd nm fn)) :
    FnE P w K mg base (L2.CX P w) 4 f fd [e] (.ref D) (some dd) (spT dd nm fn) := by
  refine fnE_of (k := 3) F S (fun a vs H Q E h => by rw [h.1]; rfl) fun cdv A outer s H vs Q E p hot hz hr hsp => ?_
  obtain ⟨hvs, fs, v, q1, q2, q3⟩ := hsp
  refine ⟨tTell p.1 dd nm fn, hbody _ p.1 p.2 rfl rfl rfl ⟨T, List.mem_cons_self, hz, hot.2, hgi, hmi, rfl, .inl hle, (dbg_ok hde).1, (dbg_ok hde).2⟩, ?_⟩
  subst hvs
  exact ⟨rfl, fs, v, q1, q2, q3⟩
theorem fnE_tell2 {P : Program} {w : World} {K : PySem.W.Frag} {mg : Str → Option Value} {base : Heap} {x qual e nm fn : Str} {st : Stmt} {f D dd : Addr} {fd : FuncData} {k : Nat} {ns : List Str} (F : L2.Fun K x qual st f fd) (S : FnScope (e :: ns) [e] (defScope st)) (T : ExcC K D)
    (hgi : (defScope st).names.lookup ("isinstance" : Str) = some .globalImplicit) (hmi : mg ("isinstance" : Str) = none) (hde : dbg e = false) (hle : (defScope st).names.lookup e = some .local)
    (hbody : ∀ (X : Cx) (a : Addr) (oe : Obj) (W : WX), X.K = K → X.mg = mg → X.prog = P → X.w = w → X.base = base → X.env.scope = defScope st → Held X e a D dd oe → RoomH k X.A → Hot0 X.A (a, oe) → Takes X W → PSs X (defBody st) (tTell a dd nm fn)) :
    FnE P w K mg base (L2.CX P w) (k + 1) f fd [e] (.ref D) (some dd) (spT dd nm fn) := by
  refine fnE_of (k := k) F S (fun a vs H Q E h => by rw [h.1]; rfl) fun cdv A outer s H vs Q E p hot hz hr hsp => ?_
  obtain ⟨hvs, fs, v, q1, q2, q3⟩ := hsp
  refine ⟨tTell p.1 dd nm fn, hbody _ p.1 p.2 (fun cls d _ H => E cls d H) rfl rfl rfl rfl rfl rfl ⟨T, List.mem_cons_self, hz, hot.2, hgi, hmi, rfl, .inl hle, (dbg_ok hde).1, (dbg_ok hde).2⟩ hr hot ?_, ?_⟩
  · exact takes_of rfl rfl rfl rfl
  · subst hvs
    exact ⟨rfl, fs, v, q1, q2, q3⟩
theorem use {a b : Prop} (h : a) (k : a → b) : b := k h
end XV
set_option Elab.async false
set_option linter.all false
set_option autoImplicit false
set_option maxRecDepth 100000
namespace XV
open PySem PySem.Spec PyProof.Rows L2

def Lay.bare (L : Lay) : Prop := L.codes = [] ∧ L.G0 = (fun _ => none) ∧ L.r0 = []
theorem law_end {K : PySem.W.Frag} {L : Lay} {f : List D → List C → Out D} {H : Hp} {a : Addr} {ns : List Int} (R : ∃ cs, f [.scr ns] [] = .ok (.bl true) cs) (hT : ∀ p ∈ L.tabs, H p.1 = some (.tbl #[])) (hS : SqL K H a (ns.map V.int)) (hB : L.bare) :
    spF K L f [.ref a] H (fun v _ => v = .bl true) fun _ _ _ => False := by
  obtain ⟨cs, hR⟩ := R
  have tb : TabsC L H := ⟨fun p hp => LamX.TabS.nil (hT p hp), fun p hp => by rw [hB.1] at hp; cases hp⟩
  have lt : ∀ G : Hp, LaterL L G [] := fun G => ⟨fun b o e => (by rw [hB.2.1] at e; cases e), ([] : List Addr), (by rw [hB.2.2]; rfl)⟩
  have fin : ∀ G : Hp, KO K L (Rep K L) (fun _ _ _ => False) G [] H (f [.scr ns] []) (fun v _ => v = .bl true) := fun G => by
    rw [hR]
    exact fun v G' r' H' _ _ q => q.bl_of
  rcases hS with h | h
  · have hn : ∀ ps, H a ≠ some (.tbl ps) := fun ps z => by
      rcases h with h | ⟨o, h⟩ <;> (rw [h] at z; cases z)
    refine ⟨fun b => if b = a then H a else none, [], [], [.scr ns], ⟨fun b o e => ?_, List.nodup_nil, rfl, fun c k e => by simp at e, tb, fun b ps z => ?_, lt _⟩, .one (.scr (.inl ?_)), fin _⟩
    · by_cases hb : b = a
      · subst hb; simpa using e
      · simp [hb] at e
    · by_cases hb : b = a
      · subst hb; exact hn ps (by simpa using z)
      · simp [hb] at z
    · rcases h with h | ⟨o, h⟩
      · exact .inl (by simpa using h)
      · exact .inr ⟨o, by simpa using h⟩
  · exact ⟨fun _ => none, [], [], [.scr ns], ⟨fun b o e => (by cases e), List.nodup_nil, rfl, fun c k e => (by simp at e), tb, fun b ps z => (by cases z), lt _⟩, .one (.scr (.inr h)), fin _⟩
theorem cx_no {P : Program} {w : World} {outer : List Env} {H : Hp} {s : Shared} {e : Value} {s' : Shared} (h : L2.CX P w outer H s (fun _ _ _ => False) e s') : False := by
  obtain ⟨_, _, _, _, _, _, _, _, _, _, _, _, hE⟩ := h
  exact hE
theorem law_at {l : PySem.W.OpenLaw} {w : World} {K : PySem.W.Frag} {mg : Str → Option Value} {fa : Addr} {h : Heap} {L : Lay} {p : Prog} {g : Glb} {kk i n : Nat} {x : Str} {fd : FuncData} {cs : List (Addr × Addr)}
    (R : ∀ ns : List Int, ns.length ≤ n → ∃ cs, p.run kk false i [.scr ns] [] = .ok (.bl true) cs)
    (hT : ∀ q ∈ cs, h.get? q.2 = some { cls := .none, data := .fields #[] }) (nT : ∀ q ∈ cs, K.lookup q.2 = none) (C : ∀ q ∈ cs, PySem.W.CodeHd h q.1 q.2) (hb : ∀ (s : Shared) (u : Value), BindsTo s fd ⟨[u], []⟩ [(x, u)]) (hL : ∀ q ∈ L.tabs, q.1 ∈ cs.map (·.2)) (hB : L.bare)
    (M : ∀ base : Heap, K.In base → base.Ns mainGlobals mg → (∀ q ∈ cs, LamX.TabB base mg q.1 q.2) → Mdl l.prog w K mg base L p g ∧ DefOk l.prog w K mg base L p g i fa fd [x]) :
    LamX.LawAtS l w K (L2.CX l.prog w) (10 * kk) n x mg fa h := by
  refine ⟨fd, cs, spF K L (p.run kk false i), hT, nT, C, hb, fun H a ns hn _ hH hS => law_end (R ns hn) (fun q hq => ?_) hS hB, fun base h1 h2 h3 => ?_⟩
  · obtain ⟨c, hc, e⟩ := List.mem_map.mp (hL q hq)
    rw [← e]
    exact hH c hc
  · obtain ⟨m, d⟩ := M base h1 h2 h3
    exact m.ok kk i fa fd [x] d
end XV
set_option Elab.async false
set_option linter.all false
set_option autoImplicit false
set_option maxRecDepth 100000
namespace XV
open PySem

theorem whl_rule {c : List SV → List C → Out Bool} {b : List SV → List C → Fl} {I : Nat → List SV → List C → Prop} {Q : Fl → Prop}
    (h : ∀ m env cs, I m env cs → ∃ t cs1, c env cs = .ok t cs1 ∧ (t = false → Q (.nx env cs1)) ∧ (t = true → ∃ env2 cs2, (b env cs1 = .nx env2 cs2 ∨ b env cs1 = .cnt env2 cs2) ∧ ∃ m', m' < m ∧ I m' env2 cs2)) :
    ∀ n m env cs, m < n → I m env cs → Q (whlL c b n env cs)
  | 0, m, env, cs, hm, _ => absurd hm (Nat.not_lt_zero m)
  | n + 1, m, env, cs, hm, hi => by
    obtain ⟨t, cs1, e1, h1, h2⟩ := h m env cs hi
    unfold whlL
    rw [e1]
    cases t with
    | false => exact h1 rfl
    | true =>
      obtain ⟨env2, cs2, e2, m', hlt, hi'⟩ := h2 rfl
      have := whl_rule h n m' env2 cs2 (by omega) hi'
      rcases e2 with e2 | e2 <;> (simp only [Out.toF_ok, if_true, e2]; exact this)
theorem for_rule {b : List SV → List C → Fl} {tg : Tg} {I : List D → List SV → List C → Prop} {Q : Fl → Prop} (h0 : ∀ env cs, I [] env cs → Q (.nx env cs))
    (h : ∀ d ds env cs, I (d :: ds) env cs → ∃ env', asgT tg d env = some env' ∧ ((∃ env2 cs2, (b env' cs = .nx env2 cs2 ∨ b env' cs = .cnt env2 cs2) ∧ I ds env2 cs2) ∨ (∃ env2 cs2, b env' cs = .brk env2 cs2 ∧ Q (.nx env2 cs2)) ∨ ∃ x cs2, b env' cs = .ret x cs2 ∧ Q (.ret x cs2))) :
    ∀ ds env cs, I ds env cs → Q (forL b tg ds env cs)
  | [], env, cs, hi => h0 env cs hi
  | d :: ds, env, cs, hi => by
    obtain ⟨env', e1, h1⟩ := h d ds env cs hi
    unfold forL
    rw [e1]
    rcases h1 with ⟨env2, cs2, e2, hi'⟩ | ⟨env2, cs2, e2, q⟩ | ⟨x, cs2, e2, q⟩
    · have := for_rule h0 h ds env2 cs2 hi'
      rcases e2 with e2 | e2 <;> (simp only [e2]; exact this)
    · simp only [e2]; exact q
    · simp only [e2]; exact q
theorem comp_pure {f : List SV → List C → Out (Option D)} {tg : Tg} {env : List SV} {cs : List C} {g : D → Option D} : ∀ (ds acc : List D), (∀ d ∈ ds, ∃ env', asgT tg d env = some env' ∧ f env' cs = .ok (g d) cs) → acc.length + ds.length ≤ LIM →
    compL f tg env ds cs acc = .ok (acc ++ ds.filterMap g) cs
  | [], acc, _, _ => by simp [compL]
  | d :: ds, acc, h, hl => by
    obtain ⟨env', e1, e2⟩ := h d (by simp)
    unfold compL
    rw [e1]
    simp only [e2, Out.bind_ok]
    rw [List.length_cons] at hl
    cases hg : g d with
    | none =>
      simp only
      rw [comp_pure ds acc (fun x hx => h x (by simp [hx])) (by omega), List.filterMap_cons_none hg]
    | some y =>
      simp only
      rw [if_pos (by omega), comp_pure ds (acc ++ [y]) (fun x hx => h x (by simp [hx])) (by simp; omega), List.filterMap_cons_some hg, List.append_assoc]
      rfl
end XV
set_option Elab.async false
set_option linter.all false
set_option autoImplicit false
set_option maxRecDepth 100000
namespace XV
open PySem
section
variable {P : Cfg} {fu : Nat} {env e1 : List SV} {cs c1 c2 c3 : List C} {s : S} {sx a b : Ss} {o : Fl} {t ta tb tc : T} {ts : Ts} {x y z d : D} {ds xs : List D} {k : Bool} {i : Nat} {p q : Pm} {tg : Tg} {it : I}
theorem ss_nx (h : evS P fu s env cs = .nx e1 c1) (h2 : evSs P fu sx e1 c1 = o) : evSs P fu (.cons s sx) env cs = o := by
  rw [evSs, h, Fl.seq_nx, h2]
theorem ss_ret (h : evS P fu s env cs = .ret d c1) : evSs P fu (.cons s sx) env cs = .ret d c1 := by rw [evSs, h, Fl.seq_ret]
theorem ss_exc {c : Nat} (h : evS P fu s env cs = .exc c ds c1) : evSs P fu (.cons s sx) env cs = .exc c ds c1 := by rw [evSs, h, Fl.seq_exc]
theorem ss_cnt (h : evS P fu s env cs = .cnt e1 c1) : evSs P fu (.cons s sx) env cs = .cnt e1 c1 := by rw [evSs, h, Fl.seq_cnt]
theorem ss_brk (h : evS P fu s env cs = .brk e1 c1) : evSs P fu (.cons s sx) env cs = .brk e1 c1 := by rw [evSs, h, Fl.seq_brk]
theorem ss_nil : evSs P fu .nil env cs = .nx env cs := by rw [evSs]
theorem s_asg (h : evE P t env cs = .ok d c1) (ha : asgT tg d env = some e1) : evS P fu (.asg tg t) env cs = .nx e1 c1 := by rw [evS, h, Out.toF_ok, ha]
theorem s_ifc {k : Bool} (h : evE P t env cs = .ok x c1) (ht : truD c1 x = some k) (h2 : evSs P fu (if k then a else b) env c1 = o) : evS P fu (.iff t a b) env cs = o := by
  rw [evS, h, Out.toF_ok, ht, ofO_some, Out.toF_ok]
  cases k <;> exact h2
theorem s_ift (h : evE P t env cs = .ok x c1) (ht : truD c1 x = some true) (h2 : evSs P fu a env c1 = o) : evS P fu (.iff t a b) env cs = o := s_ifc h ht h2
theorem s_iff (h : evE P t env cs = .ok x c1) (ht : truD c1 x = some false) (h2 : evSs P fu b env c1 = o) : evS P fu (.iff t a b) env cs = o := s_ifc h ht h2
theorem s_ret (h : evE P t env cs = .ok d c1) : evS P fu (.ret t) env cs = .ret d c1 := by rw [evS, h, Out.toF_ok]
theorem s_retX {c : Nat} (h : evE P t env cs = .exc c ds c1) : evS P fu (.ret t) env cs = .exc c ds c1 := by rw [evS, h, Out.toF_exc]
theorem s_expr (h : evE P t env cs = .ok d c1) : evS P fu (.expr t) env cs = .nx env c1 := by rw [evS, h, Out.toF_ok]
theorem s_raise {c : Nat} (h : evTs P ts env cs = .ok ds c1) : evS P fu (.raise c ts) env cs = .exc c ds c1 := by rw [evS, h, Out.toF_ok]
theorem s_frz (h : env[i]? = some (.own ds)) : evS P fu (.frz i) env cs = .nx (env.set i (.d (.lst ds))) cs := by rw [evS, h]
theorem s_set1 {sv : SV} (h : evPm P p env cs = .ok sv c1) (hi : i < env.length) : evS P fu (.set1 i p) env cs = .nx (env.set i sv) c1 := by rw [evS, h, Out.toF_ok, if_pos hi]
theorem s_par {j : Nat} {sv sw : SV} (h : evPm P p env cs = .ok sv c1) (h2 : evPm P q env c1 = .ok sw c2) (hi : i < env.length ∧ j < env.length) : evS P fu (.par i j p q) env cs = .nx ((env.set i sv).set j sw) c2 := by
  rw [evS, h, Out.toF_ok, h2, Out.toF_ok, if_pos hi]
theorem pm_val (h : evE P t env cs = .ok d c1) : evPm P (.val t) env cs = .ok (.d d) c1 := by rw [evPm, h, Out.bind_ok]
theorem pm_own (h : evTs P ts env cs = .ok ds c1) (hl : ds.length ≤ LIM) : evPm P (.own ts) env cs = .ok (.own ds) c1 := by rw [evPm, h, Out.bind_ok, if_pos hl]
theorem s_app (h0 : env[i]? = some (.own xs)) (h : evE P t env cs = .ok d c1) (hl : xs.length < LIM) : evS P fu (.app i t) env cs = .nx (env.set i (.own (xs ++ [d]))) c1 := by
  rw [evS, h0]
  simp only [h, Out.toF_ok]
  rw [if_pos hl]
theorem s_for (h : evI P it env cs = .ok (ds, []) c1) (h2 : forL (fun env cs => evSs P fu b env cs) tg ds env c1 = o) : evS P fu (.forr it tg b) env cs = o := by
  rw [evS, h, Out.toF_ok]
  show forW [] _ _ _ _ _ = _
  rw [forW_nil, h2]
theorem iterW_d (h : iterD cs x = some ds) : iterW cs x = some (ds, []) := by
  unfold iterW
  cases x <;> first | (cases h; done) | (simp only [h, Option.map_some])
theorem s_aug {op : Bop} (h0 : env[i]? = some (.d x)) (h : evE P t env cs = .ok y c1) (hz : iopD op x y = some z) : evS P fu (.aug i op t) env cs = .nx (env.set i (.d z)) c1 := by
  rw [evS, h0]
  simp only [h, Out.toF_ok, hz]
theorem for_nil : forL (fun env cs => evSs P fu b env cs) tg [] env cs = .nx env cs := rfl
theorem for_nx {e0 : List SV} (ha : asgT tg d env = some e0) (h : evSs P fu b e0 cs = .nx e1 c1) (h2 : forL (fun env cs => evSs P fu b env cs) tg ds e1 c1 = o) : forL (fun env cs => evSs P fu b env cs) tg (d :: ds) env cs = o := by
  unfold forL; rw [ha]; simp only [h, Fl.turn_nx]; exact h2
theorem e_k : evE P (.k d) env cs = .ok d cs := by rw [evE]
theorem e_v (h : env[i]? = some (.d d)) : evE P (.v i) env cs = .ok d cs := by rw [evE, h]
theorem e_pk (h : env[i]? = some (.own ds)) : evE P (.pk i) env cs = .ok (.lst ds) cs := by rw [evE, h]
theorem e_g {n : Nat} (h : P.gk n = some d) : evE P (.g n) env cs = .ok d cs := by rw [evE, h, ofO_some]
theorem ts_nil : evTs P .nil env cs = .ok [] cs := by rw [evTs]
theorem ts_cons (h : evE P t env cs = .ok d c1) (h2 : evTs P ts env c1 = .ok ds c2) : evTs P (.cons t ts) env cs = .ok (d :: ds) c2 := by rw [evTs, h, Out.bind_ok, h2, Out.bind_ok]
theorem e_tup (h : evTs P ts env cs = .ok ds c1) (hl : ds.length ≤ LIM) : evE P (.tup ts) env cs = .ok (.tup ds) c1 := by rw [evE, h, Out.bind_ok, lim, if_pos hl, ofO_some]
theorem e_lst (h : evTs P ts env cs = .ok ds c1) (hl : ds.length ≤ LIM) : evE P (.lst ts) env cs = .ok (.lst ds) c1 := by rw [evE, h, Out.bind_ok, lim, if_pos hl, ofO_some]
theorem e_lstC (h : evTs P ts env cs = .ok ds c1) (hl : ds.length ≤ LIM) : evE P (.lstC ts) env cs = .ok (.ref c1.length) (c1 ++ [.lst ds]) := by rw [evE, h, Out.bind_ok, if_pos hl]
theorem e_bin {op : Bop} (h : evE P ta env cs = .ok x c1) (h2 : evE P tb env c1 = .ok y c2) (h3 : binD op c2 x y = some d) : evE P (.bin op ta tb) env cs = .ok d c2 := by rw [evE, h, Out.bind_ok, h2, Out.bind_ok, h3, ofO_some]
theorem e_not (h : evE P t env cs = .ok x c1) (ht : truD c1 x = some k) : evE P (.not t) env cs = .ok (.bl (!k)) c1 := by rw [evE, h, Out.bind_ok, ht, ofO_some, Out.bind_ok]
theorem e_and_t {o : Out D} (h : evE P ta env cs = .ok x c1) (ht : truD c1 x = some true) (h2 : evE P tb env c1 = o) : evE P (.and ta tb) env cs = o := by rw [evE, h, Out.bind_ok, ht, ofO_some, Out.bind_ok, if_pos rfl, h2]
theorem e_and_f (h : evE P ta env cs = .ok x c1) (ht : truD c1 x = some false) : evE P (.and ta tb) env cs = .ok x c1 := by rw [evE, h, Out.bind_ok, ht, ofO_some, Out.bind_ok]; rfl
theorem e_or_t (h : evE P ta env cs = .ok x c1) (ht : truD c1 x = some true) : evE P (.or ta tb) env cs = .ok x c1 := by rw [evE, h, Out.bind_ok, ht, ofO_some, Out.bind_ok, if_pos rfl]
theorem e_or_f {o : Out D} (h : evE P ta env cs = .ok x c1) (ht : truD c1 x = some false) (h2 : evE P tb env c1 = o) : evE P (.or ta tb) env cs = o := by rw [evE, h, Out.bind_ok, ht, ofO_some, Out.bind_ok]; exact h2
theorem e_andB {p q : Bool} (h : evE P ta env cs = .ok (.bl p) cs) (h2 : p = true → evE P tb env cs = .ok (.bl q) cs) : evE P (.and ta tb) env cs = .ok (.bl (p && q)) cs := by
  cases p with
  | true => exact e_and_t h rfl (h2 rfl)
  | false => exact e_and_f h rfl
theorem e_orB {p q : Bool} (h : evE P ta env cs = .ok (.bl p) cs) (h2 : p = false → evE P tb env cs = .ok (.bl q) cs) : evE P (.or ta tb) env cs = .ok (.bl (p || q)) cs := by
  cases p with
  | true => exact e_or_t h rfl
  | false => exact e_or_f h rfl (h2 rfl)
theorem e_notB {p : Bool} (h : evE P t env cs = .ok (.bl p) c1) : evE P (.not t) env cs = .ok (.bl (!p)) c1 := e_not h rfl
theorem e_cmp {op : CmpOp} (h : evE P ta env cs = .ok x c1) (h2 : evE P tb env c1 = .ok y c2) (h3 : cmpD op c2 x y = some k) : evE P (.cmp op ta tb) env cs = .ok (.bl k) c2 := by rw [evE, h, Out.bind_ok, h2, Out.bind_ok, h3, ofO_some, Out.bind_ok]
theorem e_ife {o : Out D} (h : evE P tc env cs = .ok x c1) (ht : truD c1 x = some k) (h2 : evE P (if k then ta else tb) env c1 = o) : evE P (.ife tc ta tb) env cs = o := by
  rw [evE, h, Out.bind_ok, ht, ofO_some, Out.bind_ok]
  cases k <;> exact h2
theorem e_ix (h : evE P ta env cs = .ok x c1) (h2 : evE P tb env c1 = .ok y c2) (h3 : ixD c2 x y = some d) : evE P (.ix ta tb) env cs = .ok d c2 := by rw [evE, h, Out.bind_ok, h2, Out.bind_ok, h3, ofO_some]
theorem p_no : evP P .no env cs = .ok none cs := by rw [evP]
theorem p_one {n : Int} (h : evE P t env cs = .ok (.int n) c1) : evP P (.one t) env cs = .ok (some n) c1 := by rw [evP, h, Out.bind_ok]
theorem e_slc {lo hi : Cd} {l m : Option Int} (h : evE P ta env cs = .ok x c1) (h2 : evP P lo env c1 = .ok l c2) (h3 : evP P hi env c2 = .ok m c3) (h4 : slcD c3 x l m = some d) : evE P (.slc ta lo hi) env cs = .ok d c3 := by rw [evE, h, Out.bind_ok, h2, Out.bind_ok, h3, Out.bind_ok, h4, ofO_some]
theorem e_call {f : Nat} {o : Out D} (h : evTs P ts env cs = .ok ds c1) (h2 : P.call f ds c1 = o) : evE P (.call f ts) env cs = o := by rw [evE, h, Out.bind_ok, h2]
theorem e_bi {n : Bi} (h : evTs P ts env cs = .ok ds c1) (h2 : biD n c1 ds = some d) : evE P (.bi n ts) env cs = .ok d c1 := by rw [evE, h, Out.bind_ok, h2, ofO_some]
theorem e_mt {m : Mt} (h : evE P t env cs = .ok x c1) (hm : mtOk m x = true) (h2 : evTs P ts env c1 = .ok ds c2) (h3 : mtD m c2 x ds = some d) : evE P (.mt m t ts) env cs = .ok d c2 := by rw [evE, h, Out.bind_ok, if_pos hm, h2, Out.bind_ok, h3, ofO_some]
theorem e_isi {ty : List String} (h : evE P t env cs = .ok x c1) (h2 : isiD c1 x ty = some d) : evE P (.isi t ty) env cs = .ok d c1 := by rw [evE, h, Out.bind_ok, h2, ofO_some]
theorem e_tried_ok {g : Nat} (h : evE P t env cs = .ok d c1) : evE P (.tried g t) env cs = .ok (.tup [.str ("told".toList.map Char.toNat), d]) c1 := by rw [evE, h]
theorem e_tried_exc {g c : Nat} (h : evE P t env cs = .exc c ds c1) (h2 : P.err c ds = some d) : evE P (.tried g t) env cs = .ok d c1 := by rw [evE, h]; simp only [h2, ofO_some]
theorem i_val (h : evE P t env cs = .ok x c1) (h2 : iterD c1 x = some ds) : evI P (.val t) env cs = .ok (ds, []) c1 := by rw [evI, h, Out.bind_ok, iterW_d h2, ofO_some]
theorem i_rng1 {j : Int} (h : evE P t env cs = .ok (.int j) c1) (hj : -1000000 < j ∧ j < 1000000) : evI P (.rng1 t) env cs = .ok ((List.range j.toNat).map fun (k : Nat) => D.int (k : Int), []) c1 := by rw [evI, h, Out.bind_ok]; simp only; rw [if_pos hj]
end
theorem run_ret {p : Prog} {k f : Nat} {ds : List D} {cs c1 : List C} {fn : Fn} {d : D} (h : p.fns[f]? = some fn) (hl : ds.length = fn.np) (hb : evSs (p.cfg (p.run k)) p.fu fn.body (start fn ds) cs = .ret d c1) : p.run (k + 1) false f ds cs = .ok d c1 := by
  unfold Prog.run
  simp only [h]
  rw [if_pos hl, hb]
  rfl
theorem run_nx {p : Prog} {k f : Nat} {ds : List D} {cs c1 : List C} {fn : Fn} {e1 : List SV} (h : p.fns[f]? = some fn) (hl : ds.length = fn.np) (hb : evSs (p.cfg (p.run k)) p.fu fn.body (start fn ds) cs = .nx e1 c1) : p.run (k + 1) false f ds cs = .ok .non c1 := by
  unfold Prog.run
  simp only [h]
  rw [if_pos hl, hb]
  rfl
theorem run_exc {p : Prog} {k f c : Nat} {ds es : List D} {cs c1 : List C} {fn : Fn} (h : p.fns[f]? = some fn) (hl : ds.length = fn.np) (hb : evSs (p.cfg (p.run k)) p.fu fn.body (start fn ds) cs = .exc c es c1) : p.run (k + 1) false f ds cs = .exc c es c1 := by
  unfold Prog.run
  simp only [h]
  rw [if_pos hl, hb]
  rfl
theorem comp_rule {f : List SV → List C → Out (Option D)} {tg : Tg} {env : List SV} {I : List D → List D → List C → Prop}
    (h : ∀ d ds acc cs, I (d :: ds) acc cs → ∃ e1, asgT tg d env = some e1 ∧ ∃ r c1, f e1 cs = .ok r c1 ∧ acc.length < LIM ∧ I ds (match r with | some y => acc ++ [y] | none => acc) c1) :
    ∀ ds acc cs, I ds acc cs → ∃ ys c1, compL f tg env ds cs acc = .ok ys c1 ∧ I [] ys c1
  | [], acc, cs, hi => ⟨acc, cs, rfl, hi⟩
  | d :: ds, acc, cs, hi => by
    obtain ⟨e1, ha, r, c1, hf, hl, hi2⟩ := h d ds acc cs hi
    obtain ⟨ys, c2, h2, h3⟩ := comp_rule h ds _ c1 hi2
    refine ⟨ys, c2, ?_, h3⟩
    unfold compL
    rw [ha]
    simp only [hf, Out.bind_ok]
    cases r with
    | none => exact h2
    | some y => simp only; rw [if_pos hl]; exact h2
end XV
set_option Elab.async false
set_option linter.all false
set_option autoImplicit false
set_option maxRecDepth 100000
namespace XV
open PySem
section
variable {P : Cfg} {fu : Nat} {env e1 : List SV} {cs c1 c2 c3 : List C} {s : S} {sx a b : Ss} {o o2 : Fl} {t ta tb tc : T} {ts : Ts} {x y z d : D} {ds xs : List D} {k : Bool} {i : Nat} {p q : Pm} {tg : Tg} {it : I}
theorem e_neg {n : Int} (h : evE P t env cs = .ok (.int n) c1) : evE P (.neg t) env cs = .ok (.int (-n)) c1 := by rw [evE, h, Out.bind_ok]
theorem e_fld {c : Nat} {ks : List Str} {f : Str} (h : evE P t env cs = .ok (.obj c ks ds) c1) (hf : (P.flds c).contains f = true) (h2 : (ks.zip ds).lookup f = some d) : evE P (.fld t f) env cs = .ok d c1 := by
  rw [evE, h, Out.bind_ok]; simp only; rw [if_pos hf, h2, ofO_some]
theorem e_meth {c f : Nat} {ks : List Str} {m : Str} {o : Out D} (h : evE P t env cs = .ok (.obj c ks ds) c1) (hm : P.meth c m = some f) (hk : ks.contains m = false) (h2 : evTs P ts env c1 = .ok xs c2) (h3 : P.call f (.obj c ks ds :: xs) c2 = o) : evE P (.meth t m ts) env cs = o := by
  rw [evE, h, Out.bind_ok]; simp only [hm, hk, Bool.false_eq_true, if_false]; rw [h2, Out.bind_ok, h3]
theorem e_new {c : Nat} {o : Out D} (h : evTs P ts env cs = .ok ds c1) (h2 : P.init c ds c1 = o) : evE P (.new c ts) env cs = o := by rw [evE, h, Out.bind_ok, h2]
theorem e_lenM {c f : Nat} {ks : List Str} {n : Int} (h : evE P t env cs = .ok (.obj c ks ds) c1) (hm : P.meth c "__len__" = some f) (h3 : P.call f [.obj c ks ds] c1 = .ok (.int n) c2) (hn : 0 ≤ n ∧ n < 1000000) : evE P (.lenM t) env cs = .ok (.int n) c2 := by
  rw [evE, h, Out.bind_ok]; simp only [hm, h3, Out.bind_ok]; rw [if_pos hn]; rfl
theorem pm_ownE (h : evE P t env cs = .ok (.lst ds) c1) : evPm P (.ownE t) env cs = .ok (.own ds) c1 := by rw [evPm, h, Out.bind_ok]
theorem pm_ownD : evPm P .ownD env cs = .ok (.ownD [] []) cs := by rw [evPm]
theorem i_rng2 {m n : Int} (h : evE P ta env cs = .ok (.int m) c1) (h2 : evE P tb env c1 = .ok (.int n) c2) (hj : (-1000000 < m ∧ m < 1000000) ∧ (-1000000 < n ∧ n < 1000000)) : evI P (.rng2 ta tb) env cs = .ok ((List.range (n - m).toNat).map fun (k : Nat) => D.int (m + (k : Int)), []) c2 := by
  rw [evI, h, Out.bind_ok, h2, Out.bind_ok]; simp only; rw [if_pos hj]
theorem i_enum (h : evE P t env cs = .ok x c1) (h2 : iterD c1 x = some ds) : evI P (.enum t) env cs = .ok ((List.range ds.length).zipWith (fun (k : Nat) d => D.tup [.int (k : Int), d]) ds, []) c1 := by
  rw [evI, h, Out.bind_ok, iterW_d h2, ofO_some, Out.bind_ok]
theorem i_zip (h : evE P ta env cs = .ok x c1) (h1 : evE P tb env c1 = .ok y c2) (h2 : iterD c2 x = some ds) (h3 : iterD c2 y = some xs) : evI P (.zip ta tb) env cs = .ok (ds.zipWith (fun x y => D.tup [x, y]) xs, []) c2 := by
  rw [evI, h, Out.bind_ok, h1, Out.bind_ok, iterW_d h2, ofO_some, Out.bind_ok, iterW_d h3, ofO_some, Out.bind_ok]; rfl
theorem s_setF {c : Nat} {ks : List Str} {f : Str} (h : evE P t env cs = .ok d c1) (h0 : env[(0 : Nat)]? = some (.ownI c ks ds)) (hf : (P.flds c).contains f ∧ ks.contains f = false ∧ ks.length < 1000) : evS P fu (.setF f t) env cs = .nx (env.set 0 (.ownI c (ks ++ [f]) (ds ++ [d]))) c1 := by
  rw [evS, h, Out.toF_ok]; simp only [h0]; rw [if_pos hf]
theorem s_asgX {c : Nat} (h : evE P t env cs = .exc c ds c1) : evS P fu (.asg tg t) env cs = .exc c ds c1 := by rw [evS, h, Out.toF_exc]
theorem s_exprX {c : Nat} (h : evE P t env cs = .exc c ds c1) : evS P fu (.expr t) env cs = .exc c ds c1 := by rw [evS, h, Out.toF_exc]
theorem s_setFX {c : Nat} {f : Str} (h : evE P t env cs = .exc c ds c1) : evS P fu (.setF f t) env cs = .exc c ds c1 := by rw [evS, h, Out.toF_exc]
theorem s_retN : evS P fu .retN env cs = .ret .non cs := by rw [evS]
theorem s_pass : evS P fu .pass env cs = .nx env cs := by rw [evS]
theorem s_cnt : evS P fu .cnt env cs = .cnt env cs := by rw [evS]
theorem s_brk : evS P fu .brk env cs = .brk env cs := by rw [evS]
theorem s_whl (h : whlL (fun env cs => (evE P t env cs).bind fun x cs1 => ofO (truD cs1 x) cs1) (fun env cs => evSs P fu b env cs) fu env cs = o) : evS P fu (.whl t b) env cs = o := by rw [evS, h]
theorem s_setIx {c4 : List C} (h : evE P tc env cs = .ok d c1) (h1 : evE P ta env c1 = .ok x c2) (h2 : evE P tb env c2 = .ok y c3) (h3 : setD c3 x y d = some c4) : evS P fu (.setIx ta tb tc) env cs = .nx env c4 := by
  rw [evS, h, Out.toF_ok, h1, Out.toF_ok, h2, Out.toF_ok, h3]
theorem cmp_eqQ (h : eqD cs x y = some k) (h0 : (isD00 x && isD00 y) = false) : cmpD .Eq cs x y = some k := by unfold cmpD; rw [h0]; exact h
theorem cmp_neQ (h : eqD cs x y = some k) : cmpD .NotEq cs x y = some (!k) := by unfold cmpD; rw [h]; rfl
theorem for_exc {e0 : List SV} {c : Nat} {es : List D} (ha : asgT tg d env = some e0) (h : evSs P fu b e0 cs = .exc c es c1) : forL (fun env cs => evSs P fu b env cs) tg (d :: ds) env cs = .exc c es c1 := by
  unfold forL; rw [ha]; simp only [h, Fl.turn_exc]
theorem for_ret {e0 : List SV} (ha : asgT tg d env = some e0) (h : evSs P fu b e0 cs = .ret x c1) : forL (fun env cs => evSs P fu b env cs) tg (d :: ds) env cs = .ret x c1 := by
  unfold forL; rw [ha]; simp only [h, Fl.turn_ret]
theorem for_cnt {e0 : List SV} (ha : asgT tg d env = some e0) (h : evSs P fu b e0 cs = .cnt e1 c1) (h2 : forL (fun env cs => evSs P fu b env cs) tg ds e1 c1 = o) : forL (fun env cs => evSs P fu b env cs) tg (d :: ds) env cs = o := by
  unfold forL; rw [ha]; simp only [h, Fl.turn_cnt]; exact h2
theorem for_brk {e0 : List SV} (ha : asgT tg d env = some e0) (h : evSs P fu b e0 cs = .brk e1 c1) : forL (fun env cs => evSs P fu b env cs) tg (d :: ds) env cs = .nx e1 c1 := by
  unfold forL; rw [ha]; simp only [h, Fl.turn_brk]
structure Br {α : Type} (k : Bool) (u v w : α) : Prop where
  h : (if k = true then u else v) = w
structure BrA (k : Bool) (u : Out D) (x : D) (c : List C) (o : Out D) : Prop where
  h : (if k = true then u else .ok x c) = o
structure BrO (k : Bool) (u : Out D) (x : D) (c : List C) (o : Out D) : Prop where
  h : (if k = true then .ok x c else u) = o
structure TrO (P : Cfg) (o o2 : Out D) : Prop where
  h : (match o with
    | .ok d cs1 => .ok (.tup [.str ("told".toList.map Char.toNat), d]) cs1
    | .exc c ds cs1 => ofO (P.err c ds) cs1
    | .bad => .bad) = o2
structure AsgO (tg : Tg) (env : List SV) (o : Out D) (f : Fl) : Prop where
  h : (o.toF fun d cs1 => match asgT tg d env with
    | some env' => .nx env' cs1
    | none => .bad) = f
structure RetO (o : Out D) (f : Fl) : Prop where
  h : (o.toF fun d cs1 => Fl.ret d cs1) = f
structure Sq (P : Cfg) (fu : Nat) (sx : Ss) (o o2 : Fl) : Prop where
  h : (o.seq fun env' cs' => evSs P fu sx env' cs') = o2
theorem br_t {α : Type} {u v w : α} (h : u = w) : Br true u v w := ⟨by rw [if_pos rfl]; exact h⟩
theorem br_f {α : Type} {u v w : α} (h : v = w) : Br false u v w := ⟨by rw [if_neg (by decide)]; exact h⟩
theorem ba_t {u o : Out D} {x : D} {c : List C} (h : u = o) : BrA true u x c o := ⟨by rw [if_pos rfl]; exact h⟩
theorem ba_f {u : Out D} {x : D} {c : List C} : BrA false u x c (.ok x c) := ⟨by rw [if_neg (by decide)]⟩
theorem bo_f {u o : Out D} {x : D} {c : List C} (h : u = o) : BrO false u x c o := ⟨by rw [if_neg (by decide)]; exact h⟩
theorem bo_t {u : Out D} {x : D} {c : List C} : BrO true u x c (.ok x c) := ⟨by rw [if_pos rfl]⟩
theorem tr_ok : TrO P (.ok d cs) (.ok (.tup [.str ("told".toList.map Char.toNat), d]) cs) := ⟨rfl⟩
theorem tr_exc {c : Nat} (h : P.err c ds = some d) : TrO P (.exc c ds cs) (.ok d cs) := ⟨by simp only [h, ofO_some]⟩
theorem asg_ok (h : asgT tg d env = some e1) : AsgO tg env (.ok d cs) (.nx e1 cs) := ⟨by rw [Out.toF_ok, h]⟩
theorem asg_exc {c : Nat} : AsgO tg env (.exc c ds cs) (.exc c ds cs) := ⟨rfl⟩
theorem ret_ok : RetO (.ok d cs) (.ret d cs) := ⟨rfl⟩
theorem ret_exc {c : Nat} : RetO (.exc c ds cs) (.exc c ds cs) := ⟨rfl⟩
theorem sq_nx (h : evSs P fu sx e1 c1 = o2) : Sq P fu sx (.nx e1 c1) o2 := ⟨by rw [Fl.seq_nx]; exact h⟩
theorem sq_ret : Sq P fu sx (.ret d c1) (.ret d c1) := ⟨rfl⟩
theorem sq_exc {c : Nat} : Sq P fu sx (.exc c ds c1) (.exc c ds c1) := ⟨rfl⟩
theorem sq_brk : Sq P fu sx (.brk e1 c1) (.brk e1 c1) := ⟨rfl⟩
theorem sq_cnt : Sq P fu sx (.cnt e1 c1) (.cnt e1 c1) := ⟨rfl⟩
theorem e_tr {g : Nat} {o o2 : Out D} (h : evE P t env cs = o) (h2 : TrO P o o2) : evE P (.tried g t) env cs = o2 := by rw [evE, h]; exact h2.h
theorem s_asgO {o : Out D} {f : Fl} (h : evE P t env cs = o) (h2 : AsgO tg env o f) : evS P fu (.asg tg t) env cs = f := by rw [evS, h]; exact h2.h
theorem s_retO {o : Out D} {f : Fl} (h : evE P t env cs = o) (h2 : RetO o f) : evS P fu (.ret t) env cs = f := by rw [evS, h]; exact h2.h
theorem ss_any (h : evS P fu s env cs = o) (h2 : Sq P fu sx o o2) : evSs P fu (.cons s sx) env cs = o2 := by rw [evSs, h]; exact h2.h
theorem s_if {k : Bool} (h : evE P t env cs = .ok x c1) (ht : truD c1 x = some k) (h2 : Br k (evSs P fu a env c1) (evSs P fu b env c1) o) : evS P fu (.iff t a b) env cs = o := by
  rw [evS, h, Out.toF_ok, ht, ofO_some, Out.toF_ok]; exact h2.h
theorem e_if {k : Bool} {o : Out D} (h : evE P tc env cs = .ok x c1) (ht : truD c1 x = some k) (h2 : Br k (evE P ta env c1) (evE P tb env c1) o) : evE P (.ife tc ta tb) env cs = o := by
  rw [evE, h, Out.bind_ok, ht, ofO_some, Out.bind_ok]; exact h2.h
theorem e_an {k : Bool} {o : Out D} (h : evE P ta env cs = .ok x c1) (ht : truD c1 x = some k) (h2 : BrA k (evE P tb env c1) x c1 o) : evE P (.and ta tb) env cs = o := by
  rw [evE, h, Out.bind_ok, ht, ofO_some, Out.bind_ok]; exact h2.h
theorem e_orr {k : Bool} {o : Out D} (h : evE P ta env cs = .ok x c1) (ht : truD c1 x = some k) (h2 : BrO k (evE P tb env c1) x c1 o) : evE P (.or ta tb) env cs = o := by
  rw [evE, h, Out.bind_ok, ht, ofO_some, Out.bind_ok]; exact h2.h
theorem s_forO (h : evI P it env cs = .ok (ds, []) c1) (h2 : forL (fun env cs => evSs P fu b env cs) tg ds env c1 = o) : evS P fu (.forr it tg b) env cs = o := s_for h h2
theorem i_valW {q : List D × Ws} (h : evE P t env cs = .ok x c1) (h2 : iterW c1 x = some q) : evI P (.val t) env cs = .ok q c1 := by rw [evI, h, Out.bind_ok, h2, ofO_some]
theorem i_enumW {q : List D × Ws} (h : evE P t env cs = .ok x c1) (h2 : iterW c1 x = some q) : evI P (.enum t) env cs = .ok ((List.range q.1.length).zipWith (fun (k : Nat) d => D.tup [.int (k : Int), d]) q.1, q.2) c1 := by
  rw [evI, h, Out.bind_ok, h2, ofO_some, Out.bind_ok]
theorem i_zipW {q q2 : List D × Ws} (h : evE P ta env cs = .ok x c1) (h1 : evE P tb env c1 = .ok y c2) (h2 : iterW c2 x = some q) (h3 : iterW c2 y = some q2) : evI P (.zip ta tb) env cs = .ok (q.1.zipWith (fun x y => D.tup [x, y]) q2.1, q.2 ++ q2.2) c2 := by
  rw [evI, h, Out.bind_ok, h1, Out.bind_ok, h2, ofO_some, Out.bind_ok, h3, ofO_some, Out.bind_ok]
theorem s_forW {q : List D × Ws} (h : evI P it env cs = .ok q c1) (h2 : forW q.2 (fun env cs => evSs P fu b env cs) tg q.1 env c1 = o) : evS P fu (.forr it tg b) env cs = o := by rw [evS, h, Out.toF_ok, h2]
theorem iterW_c {c : Nat} (h : cs[c]? = some (.lst ds)) : iterW cs (.ref c) = some (ds, [(c, ds)]) := by unfold iterW; simp only [h]
theorem e_tupE (h : evE P t env cs = .ok x c1) (h2 : tupD c1 x = some d) : evE P (.tupE t) env cs = .ok d c1 := by rw [evE, h, Out.bind_ok, h2, ofO_some]
theorem e_rngL {n : Int} (h : evE P t env cs = .ok (.int n) c1) (hn : -1000000 < n ∧ n < 1000000) : evE P (.rngL t) env cs = .ok (.lst ((List.range n.toNat).map fun (k : Nat) => D.int (k : Int))) c1 := by
  rw [evE, h, Out.bind_ok]; unfold rngD; simp only; rw [if_pos hn, ofO_some]
theorem e_isC {c : Nat} (h : evE P t env cs = .ok x c1) (h2 : isCD c1 x c = some d) : evE P (.isC t c) env cs = .ok d c1 := by rw [evE, h, Out.bind_ok, h2, ofO_some]
theorem e_popAt {c : Nat} {i : Int} (h : evE P ta env cs = .ok (.ref c) c1) (h0 : c1[c]? = some (.lst xs)) (h2 : evE P tb env c1 = .ok (.int i) c2) (h3 : c2[c]? = some (.lst ds)) (hi : 0 ≤ i ∧ i < 1000000) (h4 : ds[i.toNat]? = some d) :
    evE P (.popAt ta tb) env cs = .ok d (c2.set c (.lst (ds.eraseIdx i.toNat))) := by
  rw [evE, h, Out.bind_ok]; simp only [h0]; rw [h2, Out.bind_ok]
  have : popD c2 (.ref c) (.int i) = some (d, c2.set c (.lst (ds.eraseIdx i.toNat))) := by
    unfold popD; simp only [h3]; rw [if_pos hi, h4]; rfl
  simp only [this]
theorem e_eqO {ne r : Bool} {c f : Nat} {ks : List Str} {c3 : List C} (h : evE P ta env cs = .ok (.obj c ks ds) c1) (h2 : evE P tb env c1 = .ok y c2) (hm : P.meth c "__eq__" = some f) (hy : eqOk ne c c2 y = true) (h3 : P.call f [.obj c ks ds, y] c2 = .ok (.bl r) c3) :
    evE P (.eqO ne ta tb) env cs = .ok (.bl (r != ne)) c3 := by
  rw [evE, h, Out.bind_ok, h2, Out.bind_ok]; simp only [hm]; rw [if_pos hy, h3, Out.bind_ok]; rfl
theorem i_own {c : Nat} {f : Str} {ks : List Str} (h : evE P t env cs = .ok (.obj c ks ds) c1) (h2 : (ks.zip ds).lookup f = some (.lst xs)) : evI P (.own t c f) env cs = .ok (xs, []) c1 := by
  rw [evI, h, Out.bind_ok]; simp only [if_true, h2]
theorem e_rev (h : evE P t env cs = .ok x c1) (h2 : revD c1 x = some d) : evE P (.rev t) env cs = .ok d c1 := by rw [evE, h, Out.bind_ok, h2, ofO_some]
theorem e_srs (h : evE P t env cs = .ok x c1) (h2 : srsD c1 x = some d) : evE P (.srs t) env cs = .ok d c1 := by rw [evE, h, Out.bind_ok, h2, ofO_some]
theorem e_srk (h : evE P t env cs = .ok x c1) (h2 : srkD c1 x = some ds) : evE P (.srk t) env cs = .ok (.ref c1.length) (c1 ++ [.lst ds]) := by rw [evE, h, Out.bind_ok]; simp only [h2]
theorem e_lstE (h : evE P t env cs = .ok x c1) (h2 : listD c1 x = some (.lst ds)) : evE P (.lstE t) env cs = .ok (.ref c1.length) (c1 ++ [.lst ds]) := by rw [evE, h, Out.bind_ok]; simp only [h2]
theorem e_pop {c : Nat} (h : evE P t env cs = .ok (.ref c) c1) (h2 : c1[c]? = some (.lst (ds ++ [d]))) : evE P (.pop t) env cs = .ok d (c1.set c (.lst ds)) := by
  rw [evE, h, Out.bind_ok]; simp only [h2]
  simp
theorem forW_nx {ws : Ws} {e0 : List SV} (ha : asgT tg d env = some e0) (h : evSs P fu b e0 cs = .nx e1 c1) (hw : okWs ws c1 = true) (h2 : forW ws (fun env cs => evSs P fu b env cs) tg ds e1 c1 = o) : forW ws (fun env cs => evSs P fu b env cs) tg (d :: ds) env cs = o := by
  unfold forW; rw [ha]; simp only [h, Fl.turn_nx]; rw [if_pos hw]; exact h2
theorem s_appC {c3 : List C} (h : evE P ta env cs = .ok x c1) (hl : isLstC c1 x = true) (h2 : evE P tb env c1 = .ok d c2) (h3 : appD c2 x d = some c3) : evS P fu (.appC ta tb) env cs = .nx env c3 := by
  rw [evS, h, Out.toF_ok, hl]; simp only [h2, Out.toF_ok, h3]
theorem e_srt (h : evE P t env cs = .ok x c1) (h2 : srtD c1 x = some d) : evE P (.srt t) env cs = .ok d c1 := by rw [evE, h, Out.bind_ok, h2, ofO_some]
theorem e_notQ {b : Bool} (h : evE P t env cs = .ok x c1) (ht : truD c1 x = some k) (hb : (!k) = b) : evE P (.not t) env cs = .ok (.bl b) c1 := by rw [e_not h ht, hb]
end
theorem g_opt {α : Type} {a : Option α} {b : α} (h : a = some b) : a = some b := h
theorem g_bl {a b : Bool} (h : a = b) : a = b := h
theorem g_le {a b : Nat} (h : Nat.ble a b = true) : a ≤ b := Nat.le_of_ble_eq_true h
theorem g_lt {a b : Nat} (h : Nat.ble (a + 1) b = true) : a < b := Nat.le_of_ble_eq_true h
theorem run_init {p : Prog} {k c f : Nat} {ds ds' : List D} {cs c1 : List C} {fn : Fn} {e1 : List SV} {ks : List Str} {c' : Nat} (hc : p.inits[c]? = some (some f)) (h : p.fns[f]? = some fn) (hl : ds.length + 1 = fn.np)
    (hb : evSs (p.cfg (p.run k)) p.fu fn.body (.ownI c [] [] :: (ds.map .d ++ List.replicate (fn.ns - fn.np) .un)) cs = .nx e1 c1) (he : e1[(0 : Nat)]? = some (.ownI c' ks ds')) : p.run (k + 1) true c ds cs = .ok (.obj c' ks ds') c1 := by
  unfold Prog.run
  simp only [hc, h]
  rw [if_pos hl, hb]
  unfold endsI
  simp only [he]
theorem run_initX {p : Prog} {k c f : Nat} {ds es : List D} {cs c1 : List C} {fn : Fn} {x : Nat} (hc : p.inits[c]? = some (some f)) (h : p.fns[f]? = some fn) (hl : ds.length + 1 = fn.np)
    (hb : evSs (p.cfg (p.run k)) p.fu fn.body (.ownI c [] [] :: (ds.map .d ++ List.replicate (fn.ns - fn.np) .un)) cs = .exc x es c1) : p.run (k + 1) true c ds cs = .exc x es c1 := by
  unfold Prog.run
  simp only [hc, h]
  rw [if_pos hl, hb]
  rfl
theorem ev_compN {P : Cfg} {own : List Nat} {tg : Tg} {it : I} {e : T} {env : List SV} {cs c1 : List C} {ds : List D} {J : List D → List D → List C → Prop} (hi : evI P it env cs = .ok (ds, []) c1) (h0 : J ds [] c1)
    (h : ∀ d ds acc cs, J (d :: ds) acc cs → ∃ e1, asgT tg d (wipeE env own) = some e1 ∧ ∃ y c1, evE P e e1 cs = .ok y c1 ∧ acc.length < LIM ∧ J ds (acc ++ [y]) c1) : ∃ ys c2, evE P (.comp own tg it .no e) env cs = .ok (.lst ys) c2 ∧ J [] ys c2 := by
  obtain ⟨ys, c2, h1, h2⟩ := comp_rule (f := fun env' cs' => (evE P e env' cs').bind fun y cs'' => .ok (some y) cs'') (tg := tg) (env := wipeE env own) (I := J)
    (fun d ds acc cs hj => by
      obtain ⟨e1, ha, y, c1, he, hl, hj2⟩ := h d ds acc cs hj
      exact ⟨e1, ha, some y, c1, by rw [he, Out.bind_ok], hl, hj2⟩) ds [] c1 h0
  refine ⟨ys, c2, ?_, h2⟩
  unfold evE
  rw [hi, Out.bind_ok]
  show calm ((compW [] _ _ _ _ _ _).bind _) = _
  rw [compW_nil, h1]
  rfl
theorem ev_compC {P : Cfg} {own : List Nat} {tg : Tg} {it : I} {c e : T} {env : List SV} {cs c1 : List C} {ds : List D} {J : List D → List D → List C → Prop} (hi : evI P it env cs = .ok (ds, []) c1) (h0 : J ds [] c1)
    (h : ∀ d ds acc cs, J (d :: ds) acc cs → ∃ e1, asgT tg d (wipeE env own) = some e1 ∧ ∃ (k : Bool) (c1 : List C), evE P c e1 cs = .ok (.bl k) c1 ∧ ((k = false ∧ J ds acc c1 ∧ acc.length < LIM) ∨ (k = true ∧ ∃ y c2, evE P e e1 c1 = .ok y c2 ∧ acc.length < LIM ∧ J ds (acc ++ [y]) c2))) : ∃ ys c2, evE P (.comp own tg it (.one c) e) env cs = .ok (.lst ys) c2 ∧ J [] ys c2 := by
  obtain ⟨ys, c2, h1, h2⟩ := comp_rule (f := fun env' cs' => (evE P c env' cs').bind fun x cs2 => (ofO (truD cs2 x) cs2).bind fun k cs2 => if k then (evE P e env' cs2).bind fun y cs'' => .ok (some y) cs'' else .ok none cs2) (tg := tg) (env := wipeE env own) (I := J)
    (fun d ds acc cs hj => by
      obtain ⟨e1, ha, k, c1, hc, hk⟩ := h d ds acc cs hj
      refine ⟨e1, ha, ?_⟩
      rcases hk with ⟨rfl, hj2, hl⟩ | ⟨rfl, y, c2, he, hl, hj2⟩
      · exact ⟨none, c1, by rw [hc]; rfl, hl, hj2⟩
      · refine ⟨some y, c2, ?_, hl, hj2⟩
        rw [hc]
        show (evE P e e1 c1).bind _ = _
        rw [he]; rfl) ds [] c1 h0
  refine ⟨ys, c2, ?_, h2⟩
  unfold evE
  rw [hi, Out.bind_ok]
  show calm ((compW [] _ _ _ _ _ _).bind _) = _
  rw [compW_nil, h1]
  rfl
def Ss.take : Nat → Ss → Ss
  | 0, _ => .nil
  | _ + 1, .nil => .nil
  | n + 1, .cons s sx => .cons s (Ss.take n sx)
def Ss.drop : Nat → Ss → Ss
  | 0, sx => sx
  | _ + 1, .nil => .nil
  | n + 1, .cons _ sx => Ss.drop n sx
theorem ss_cut {P : Cfg} {fu : Nat} : ∀ (n : Nat) {sx : Ss} {env e1 : List SV} {cs c1 : List C} {o : Fl}, evSs P fu (sx.take n) env cs = .nx e1 c1 → evSs P fu (sx.drop n) e1 c1 = o → evSs P fu sx env cs = o
  | 0, sx, env, e1, cs, c1, o, h, h2 => by
    rw [show sx.take 0 = .nil from by unfold Ss.take; rfl, evSs] at h
    cases h
    rw [show sx.drop 0 = sx from by unfold Ss.drop; rfl] at h2
    exact h2
  | n + 1, .nil, env, e1, cs, c1, o, h, h2 => by
    rw [show Ss.nil.take (n + 1) = .nil from by unfold Ss.take; rfl, evSs] at h
    cases h
    rw [show Ss.nil.drop (n + 1) = .nil from by unfold Ss.drop; rfl] at h2
    exact h2
  | n + 1, .cons s sx, env, e1, cs, c1, o, h, h2 => by
    rw [show (Ss.cons s sx).take (n + 1) = .cons s (sx.take n) from by rw [Ss.take], evSs] at h
    rw [show (Ss.cons s sx).drop (n + 1) = sx.drop n from by rw [Ss.drop]] at h2
    rw [evSs]
    cases hs : evS P fu s env cs <;> rw [hs] at h <;> first | cases h | skip
    rename_i e0 c0
    rw [Fl.seq_nx] at h ⊢
    exact ss_cut n h h2
end XV
set_option Elab.async false
set_option linter.all false
set_option autoImplicit false
set_option maxRecDepth 100000
namespace XV
open PySem PySem.Spec PyProof.Rows L2 L2H LamX He

def oexB (K : PySem.W.Frag) (C : Addr) : Bool := (match K.lookup C with
  | some ⟨.type t, _, .cls cd, sl⟩ => (match cd.mro, sl.toList with
    | .ref C' :: bm, [_, _, _, _, some (.builtin n), _] => decide (t = "type") && (decide (C' = C) && (decide (n = "ValueError.__new__") && (!cd.hasDel && (cd.hasDict && PySem.HandSPX.refsVE bm))))
    | _, _ => false)
  | _ => false) && (eqO (PySem.W.findIn K (.ref C) "__setattr__") (some (some (.builtin "object.__setattr__"))) && (decide (PySem.W.subIn K (.ref C) (.type "BaseException") = some true) && (decide (PySem.W.typeIn K (.ref C) = some (.type "type")) && PySem.W.keepIn K (.ref C))))
theorem oexB_ok {K : PySem.W.Frag} {C : Addr} (h : oexB K C = true) : OexC K C := by
  obtain ⟨h1, h2⟩ := ba h
  obtain ⟨h2, h3⟩ := ba h2
  obtain ⟨h3, h4⟩ := ba h3
  obtain ⟨h4, h5⟩ := ba h4
  refine ⟨?_, eqO_ok h2, of_decide_eq_true h3, of_decide_eq_true h4, h5⟩
  split at h1
  · rename_i t dd cd sl ho
    split at h1
    · rename_i C' bm k0 k1 k2 k3 n k5 hm hs
      obtain ⟨e1, h1⟩ := ba h1
      obtain ⟨e2, h1⟩ := ba h1
      obtain ⟨e3, h1⟩ := ba h1
      obtain ⟨e4, h1⟩ := ba h1
      obtain ⟨e5, e6⟩ := ba h1
      have e1 := of_decide_eq_true e1
      have e2 := of_decide_eq_true e2
      have e3 := of_decide_eq_true e3
      subst e1 e2 e3
      obtain ⟨nm, bs, mro, ns, qn, hd, sn, sub, ab, col, del⟩ := cd
      dsimp only at hm e4 e5
      have e4 : del = false := by simpa using e4
      subst hm e4 e5
      have hsl : sl = #[k0, k1, k2, k3, some (.builtin "ValueError.__new__"), k5] := by
        obtain ⟨l⟩ := sl
        simp only at hs
        rw [hs]
      subst hsl
      exact ⟨nm, qn, ns, bs, bm, sn, sub, ab, col, dd, k0, k1, k2, k3, k5, ho, e6⟩
    · cases h1
  · cases h1
def excCB (K : PySem.W.Frag) (D : Addr) : Bool := xfB K D && (eqO (PySem.W.findIn K (.ref D) "__class__") (some (some (.builtin "object.__class__"))) && (eqO (PySem.W.specialIn K (.builtin "object.__class__") "__get__") (some (some (.builtin "getset_descriptor.__get__"))) &&
  (decide (PySem.W.takesIn K (.builtin "object.__class__") = some true) && decide (PySem.W.mroIn K D (.type "object") = some true))))
theorem excCB_ok {K : PySem.W.Frag} {D : Addr} (h : excCB K D = true) : ExcC K D ∧ XfC K D := by
  obtain ⟨h1, h⟩ := ba h
  obtain ⟨h2, h⟩ := ba h
  obtain ⟨h3, h⟩ := ba h
  obtain ⟨h4, h5⟩ := ba h
  have x := xfB_ok h1
  exact ⟨⟨x.ga, x.gg, x.exC, x.hdC, eqO_ok h2, eqO_ok h3, of_decide_eq_true h4, of_decide_eq_true h5⟩, x⟩

inductive Fc where
  | a (f : Fa)
  | str (x : Str) (l : List Nat)
  | tups (x : Str) (ls : List (List Nat))
  | err (x f : Str)
  | xis (x : Str)
  | kit (x y : Str) (b : Bool)
  | exm (x y : Str)
  | isc (x : Str)
  | nec (x : Str)
  | tne (p q : Defn)
  | err0 (x y : Str)
  | vini
  | xisL (cs : List Str)
  | kitL (y : Str) (l : List (Nat × Str × Bool))
  | kitT (m : String) (l : List (Nat × Str × Bool))
def iscB (K : PySem.W.Frag) (D : Addr) : Bool := eqO (PySem.W.findIn K (.ref D) "__class__") (some (some (.builtin "object.__class__"))) && (eqO (PySem.W.specialIn K (.builtin "object.__class__") "__get__") (some (some (.builtin "getset_descriptor.__get__"))) &&
  (decide (PySem.W.takesIn K (.builtin "object.__class__") = some true) && (decide (PySem.W.mroIn K D (.type "object") = some true) && ((PySem.W.clsIn K D).isSome && decide (PySem.W.typeIn K (.ref D) = some (.type "type"))))))
theorem iscB_ok {K : PySem.W.Frag} {D : Addr} (c : Cls K D) (h : iscB K D = true) : IsC K D := by
  obtain ⟨h2, h⟩ := ba h
  obtain ⟨h3, h⟩ := ba h
  obtain ⟨h4, h⟩ := ba h
  obtain ⟨h5, h⟩ := ba h
  obtain ⟨h6, h7⟩ := ba h
  exact ⟨c, eqO_ok h2, eqO_ok h3, of_decide_eq_true h4, of_decide_eq_true h5, h6, of_decide_eq_true h7⟩
def Fc.ok (K : PySem.W.Frag) : Fc → Bool
  | .a f => f.ok K
  | .str x l => (match PySem.W.nsIn K mainGlobals x with
    | some (some (.str y _)) => decide (y = mkS l)
    | _ => false)
  | .tups x ls => eqO (PySem.W.nsIn K mainGlobals x) (some (some (.ref (ga K x)))) && tupB K x (ls.map fun l => .str (mkS l))
  | .err x f => eqO (PySem.W.nsIn K mainGlobals x) (some (some (.ref (ga K x)))) && (oexB K (ga K x) && (eqO (PySem.W.findIn K (.ref (ga K x)) "__init__") (some (some (.ref (ma K (ga K x) "__init__")))) &&
      (decide (PySem.W.typeIn K (.ref (ma K (ga K x) "__init__")) = some (.type "function")) && eqO (PySem.W.findIn K (.ref (ga K x)) f) (some none))))
  | .xis x => excCB K (ga K x)
  | .kit x y b => decide (PySem.W.kitOne K (.ref (ga K x)) (.ref (ga K y)) = some b)
  | .exm x y => decide (PySem.W.exmOne K (.ref (ga K x)) (.ref (ga K y)) = some true)
  | .isc x => iscB K (ga K x)
  | .nec x => eqO (PySem.W.findIn K (.ref (ga K x)) "__ne__") (some (some (.builtin "object.__ne__")))
  | .tne p q => decide (tabOf K (codeOf K p) ≠ tabOf K (codeOf K q))
  | .err0 x y => eqO (PySem.W.nsIn K mainGlobals x) (some (some (.ref (ga K x)))) && (oexB K (ga K x) && (eqO (PySem.W.findIn K (.ref (ga K x)) "__init__") (some (some (.ref (ma K (ga K y) "__init__")))) &&
      decide (PySem.W.typeIn K (.ref (ma K (ga K y) "__init__")) = some (.type "function"))))
  | .vini => (match PySem.W.findCls K (.type "ValueError") (.type "type") "__init__" with
    | some (.val (.builtin n)) => decide (n = "ValueError.__init__")
    | _ => false)
  | .xisL cs => cs.all fun c => excCB K (ga K c)
  | .kitL y l => l.all fun q => decide (PySem.W.kitOne K (.ref (ga K q.2.1)) (.ref (ga K y)) = some q.2.2)
  | .kitT m l => l.all fun q => decide (PySem.W.kitOne K (.ref (ga K q.2.1)) (.type m) = some q.2.2)
def fdOf (K : PySem.W.Frag) (p : Defn) : FuncData := match K.lookup (fAd K p) with
  | some ⟨_, _, .func fd, _⟩ => fd
  | _ => ⟨default, default, default, default, default, default, default, default, default, default, default, default, default, default, default⟩
theorem fdOf_eq {K : PySem.W.Frag} {p : Defn} {oc : Value} {od : Option Addr} {osl : Array (Option Value)} {fd : FuncData} (lk : K.lookup (fAd K p) = some ⟨oc, od, .func fd, osl⟩) : fdOf K p = fd := by
  unfold fdOf
  rw [lk]
structure Hd (K : PySem.W.Frag) (h : Heap) (mg : Str → Option Value) (fcs : List Fc) (dfs : List DefD) : Prop where
  X : K.In h
  G : h.Ns mainGlobals mg
  f : ∀ (i : Nat) {f : Fc}, fcs[i]? = some f → f.ok K = true
  d : ∀ (i : Nat) {d : DefD}, dfs[i]? = some d → FunD K d.name d.qual d.params d.body d.scope (d.dvs K) (d.kws K) (fAd K d.at_) (fdOf K d.at_)
section
variable {K : PySem.W.Frag} {h : Heap} {mg : Str → Option Value} {fcs : List Fc} {dfs : List DefD}
theorem hd_of {w : World} {tf : List Defn} (X : K.In h) (G : h.Ns mainGlobals mg) (c : SaysX [] dfs [] tf (fun K => fcs.all (Fc.ok K)) w h K) : Hd K h mg fcs dfs where
  X := X
  G := G
  f := fun i f e => List.all_eq_true.mp c.more f (List.mem_of_getElem? e)
  d := fun i d e => by
    obtain ⟨fd, F⟩ := c.t.d.def_ i e
    obtain ⟨oc, od, dV, kV, doc, pm, an, cdv, ct, osl, e1, lk, _⟩ := F.ex
    rw [fdOf_eq lk]
    exact F
theorem Hd.glo (H : Hd K h mg fcs dfs) (i : Nat) {x : Str} (e : fcs[i]? = some (.a (.glo x))) : mg x = some (.ref (ga K x)) := glo_ok H.X H.G (H.f i e)
theorem Hd.free (H : Hd K h mg fcs dfs) (i : Nat) {x : Str} (e : fcs[i]? = some (.a (.free x))) : mg x = none := free_ok H.X H.G (H.f i e)
theorem Hd.cls (H : Hd K h mg fcs dfs) (i : Nat) {x : Str} (e : fcs[i]? = some (.a (.cls x))) : Cls K (ga K x) := cls_ok (H.f i e)
theorem Hd.noat (H : Hd K h mg fcs dfs) (i : Nat) {x f : Str} (e : fcs[i]? = some (.a (.noat x f))) : NoAttr K (ga K x) f := noat_ok (H.f i e)
theorem Hd.meth (H : Hd K h mg fcs dfs) (i : Nat) {x m : Str} (e : fcs[i]? = some (.a (.meth x m))) : Meth K (ga K x) m (ma K (ga K x) m) := meth_ok (H.f i e)
theorem Hd.mkr (H : Hd K h mg fcs dfs) (i : Nat) {x : Str} (e : fcs[i]? = some (.a (.mkr x))) : Mk K (ga K x) (ma K (ga K x) "__init__") := mkr_ok (H.f i e)
theorem Hd.xis (H : Hd K h mg fcs dfs) (i : Nat) {x : Str} (e : fcs[i]? = some (.xis x)) : ExcC K (ga K x) ∧ XfC K (ga K x) := excCB_ok (H.f i e)
theorem Hd.kit (H : Hd K h mg fcs dfs) (i : Nat) {x y : Str} {b : Bool} (e : fcs[i]? = some (.kit x y b)) : PySem.W.kitOne K (.ref (ga K x)) (.ref (ga K y)) = some b := of_decide_eq_true (H.f i e)
theorem Hd.exm (H : Hd K h mg fcs dfs) (i : Nat) {x y : Str} (e : fcs[i]? = some (.exm x y)) : PySem.W.exmOne K (.ref (ga K x)) (.ref (ga K y)) = some true := of_decide_eq_true (H.f i e)
theorem Hd.isc (H : Hd K h mg fcs dfs) (i j : Nat) {x : Str} (e : fcs[i]? = some (.isc x)) (e2 : fcs[j]? = some (.a (.cls x))) : IsC K (ga K x) := iscB_ok (H.cls j e2) (H.f i e)
theorem Hd.nec (H : Hd K h mg fcs dfs) (i : Nat) {x : Str} (e : fcs[i]? = some (.nec x)) : NeC K (ga K x) := eqO_ok (H.f i e)
theorem Hd.tne (H : Hd K h mg fcs dfs) (i : Nat) {p q : Defn} (e : fcs[i]? = some (.tne p q)) : tabOf K (codeOf K p) ≠ tabOf K (codeOf K q) := of_decide_eq_true (H.f i e)
theorem Hd.err (H : Hd K h mg fcs dfs) (i : Nat) {x f : Str} (e : fcs[i]? = some (.err x f)) : mg x = some (.ref (ga K x)) ∧ OexC K (ga K x) ∧ PySem.W.findIn K (.ref (ga K x)) "__init__" = some (some (.ref (ma K (ga K x) "__init__"))) ∧ PySem.W.typeIn K (.ref (ma K (ga K x) "__init__")) = some (.type "function") ∧ PySem.W.findIn K (.ref (ga K x)) f = some none := by
  obtain ⟨h1, h2⟩ := ba (H.f i e)
  obtain ⟨h2, h3⟩ := ba h2
  obtain ⟨h3, h4⟩ := ba h3
  obtain ⟨h4, h5⟩ := ba h4
  exact ⟨PySem.W.mg_of H.X H.G (eqO_ok h1), oexB_ok h2, eqO_ok h3, of_decide_eq_true h4, eqO_ok h5⟩
theorem Hd.vini (H : Hd K h mg fcs dfs) (i : Nat) (e : fcs[i]? = some .vini) : PySem.W.findCls K (.type "ValueError") (.type "type") "__init__" = some (.val (.builtin "ValueError.__init__")) := by
  have c : (match PySem.W.findCls K (.type "ValueError") (.type "type") "__init__" with
    | some (.val (.builtin n)) => decide (n = "ValueError.__init__")
    | _ => false) = true := H.f i e
  split at c
  · rename_i n q
    rw [q, of_decide_eq_true c]
  · cases c
theorem Hd.xisL (H : Hd K h mg fcs dfs) (i : Nat) {cs : List Str} (e : fcs[i]? = some (.xisL cs)) : ∀ c ∈ cs, ExcC K (ga K c) ∧ XfC K (ga K c) := fun c hc => excCB_ok (List.all_eq_true.mp (show (cs.all fun c => excCB K (ga K c)) = true from H.f i e) c hc)
theorem Hd.err0 (H : Hd K h mg fcs dfs) (i : Nat) {x y : Str} (e : fcs[i]? = some (.err0 x y)) : mg x = some (.ref (ga K x)) ∧ OexC K (ga K x) ∧ PySem.W.findIn K (.ref (ga K x)) "__init__" = some (some (.ref (ma K (ga K y) "__init__"))) ∧ PySem.W.typeIn K (.ref (ma K (ga K y) "__init__")) = some (.type "function") := by
  obtain ⟨h1, h2⟩ := ba (H.f i e)
  obtain ⟨h2, h3⟩ := ba h2
  obtain ⟨h3, h4⟩ := ba h3
  exact ⟨PySem.W.mg_of H.X H.G (eqO_ok h1), oexB_ok h2, eqO_ok h3, of_decide_eq_true h4⟩
variable {L : Lay} {p : Prog}
theorem Hd.int (H : Hd K h mg fcs dfs) (i : Nat) {x : Str} {z : Int} {n : Nat} (e : fcs[i]? = some (.a (.int x z))) (hp : p.gk[n]? = some (.int z)) : ∃ u d v, mg x = some u ∧ RelV v u ∧ p.gk[n]? = some d ∧ ∀ G r, Rep K L G r d v := by
  obtain ⟨t, ht⟩ := int_ok H.X H.G (H.f i e)
  exact ⟨_, _, .int z, ht, ⟨t, rfl⟩, hp, fun G r => .int z⟩
theorem Hd.str (H : Hd K h mg fcs dfs) (i : Nat) {x : Str} {l : List Nat} {n : Nat} (e : fcs[i]? = some (.str x l)) (hp : p.gk[n]? = some (.str l)) : ∃ u d v, mg x = some u ∧ RelV v u ∧ p.gk[n]? = some d ∧ ∀ G r, Rep K L G r d v := by
  have c : (match PySem.W.nsIn K mainGlobals x with
    | some (some (.str y _)) => decide (y = mkS l)
    | _ => false) = true := H.f i e
  cases q : PySem.W.nsIn K mainGlobals x with
  | none => rw [q] at c; cases c
  | some o =>
    rw [q] at c
    cases o with
    | none => cases c
    | some v =>
      cases v with
      | str y t =>
        have ej : y = mkS l := of_decide_eq_true c
        rw [ej] at q
        exact ⟨_, _, .str (mkS l), PySem.W.mg_of H.X H.G q, ⟨t, rfl⟩, hp, fun G r => .str l⟩
      | _ => cases c
theorem reps_strs {G : Hp} {r : List Addr} : ∀ ls : List (List Nat), Reps K L G r (ls.map D.str) (ls.map fun l => V.str (mkS l))
  | [] => .nil
  | l :: ls => .cons (.str l) (reps_strs ls)
theorem Hd.tups (H : Hd K h mg fcs dfs) (i : Nat) {x : Str} {ls : List (List Nat)} {n : Nat} (e : fcs[i]? = some (.tups x ls)) (hp : p.gk[n]? = some (.tup (ls.map D.str))) : ∃ u d v, mg x = some u ∧ RelV v u ∧ p.gk[n]? = some d ∧ ∀ G r, Rep K L G r d v := by
  obtain ⟨h1, h2⟩ := ba (H.f i e)
  refine ⟨_, _, .ref (ga K x), PySem.W.mg_of H.X H.G (eqO_ok h1), rfl, hp, fun G r => ?_⟩
  have q := tupB_ok h2 G
  rw [List.map_map] at q
  exact .tup q (reps_strs ls)
end
theorem lookup_memN {β : Type} {x : Nat} {i : β} : ∀ {l : List (Nat × β)}, l.lookup x = some i → (x, i) ∈ l
  | [], h => by cases h
  | (y, j) :: l, h => by
    rw [List.lookup_cons] at h
    split at h
    · rename_i e
      have e : x = y := by simpa using e
      cases h; subst e; exact List.mem_cons_self ..
    · exact List.mem_cons_of_mem _ (lookup_memN h)
section
variable {P : Program} {w : World} {K : PySem.W.Frag} {mg : Str → Option Value} {base : Heap} {L : Lay}
theorem funD_fun {x q : Str} {st : Stmt} {kws : List (Str × V)} {f : Addr} {fd : FuncData} (F : FunD K x q (defArgs st) (defBody st) (defScope st) [] kws f fd) : L2.Fun K x q st f fd := by
  obtain ⟨oc, od, dV, kV, doc, pm, an, cdv, ct, osl, rfl, lk, hcd, hD, hK⟩ := F.ex
  rcases hD with ⟨_, rfl⟩ | ⟨e, _⟩
  · exact ⟨⟨oc, od, kV, doc, pm, an, cdv, ct, osl, rfl, lk, hcd⟩, F.kp⟩
  · exact absurd rfl e
theorem funD_funC {x q : Str} {st : Stmt} {kws : List (Str × V)} {f : Addr} {fd : FuncData} (F : FunD K x q (defArgs st) (defBody st) (defScope st) [] kws f fd) : FunC K x q st f fd fd.code := by
  obtain ⟨oc, od, kV, doc, pm, an, cdv, ct, osl, rfl, lk, hcd⟩ := (funD_fun F).ex
  exact ⟨oc, od, kV, doc, pm, an, ct, osl, rfl, lk, hcd⟩
theorem code_ref {p : Defn} {x q : Str} {st : Stmt} {kws : List (Str × V)} {fd : FuncData} (F : FunD K x q (defArgs st) (defBody st) (defScope st) [] kws (fAd K p) fd) : fd.code = .ref (codeOf K p) := by
  obtain ⟨oc, od, kV, doc, pm, an, cdv, ct, osl, rfl, lk, hcd⟩ := (funD_fun F).ex
  obtain ⟨c, rfl⟩ := codeIn_ref hcd
  rw [codeOf_eq lk rfl] <;> rfl
theorem defOk_of {x q trd : Str} {lam : Bool} {st : Stmt} {kws : List (Str × V)} {f : Addr} {fd : FuncData} {N ps : List Str} {p : Prog} {g : Glb} {i : Nat} {fn : Fn} (F : FunD K x q (defArgs st) (defBody st) (defScope st) [] kws f fd) (S : FnScope N ps (defScope st)) (hfn : p.fns[i]? = some fn) (hnp : fn.np = ps.length) (hns : fn.ns = N.length)
    (hc : chkSs { g with trd := trd, lam := lam, cb := false } N (defScope st) fn.body (defBody st) = true) (ht : glB (defScope st) trd = false ∨ TrdOk P w K mg base L p x q f (defScope st) fd.code N trd) (hlm : lam = false ∨ LamOk base mg L q fd.code)
    (hb : ∀ (kV doc pm : Value) (an : Option Addr) (cdv ct : Value) (us : List Value), us.length = ps.length → bindArgs (PySem.W.fnOf x q (defArgs st) (defBody st) (defScope st) .none kV doc pm an cdv ct) ⟨us, []⟩ = pure (ps.zip us)) : DefOk P w K mg base L p g i f fd ps :=
  ⟨⟨x, q, st, fd.code, N, fn, trd, lam, funD_funC F, S, hfn, hnp, hns, hc, ht, hlm⟩, F.kp, (funD_fun F).binds hb⟩
theorem defK_of {x q : Str} {st : Stmt} {kws : List (Str × V)} {f : Addr} {fd : FuncData} {N ps : List Str} {p : Prog} {g : Glb} {i : Nat} {fn : Fn} (F : FunD K x q (defArgs st) (defBody st) (defScope st) [] kws f fd) (S : FnScope N ps (defScope st)) (hfn : p.fns[i]? = some fn) (hnp : fn.np = ps.length) (hns : fn.ns = N.length)
    (hc : chkSs { g with trd := "", lam := false, cb := true } N (defScope st) fn.body (defBody st) = true) (hg : glB (defScope st) "" = false)
    (hb : ∀ (kV doc pm : Value) (an : Option Addr) (cdv ct : Value) (us : List Value), us.length = ps.length → bindArgs (PySem.W.fnOf x q (defArgs st) (defBody st) (defScope st) .none kV doc pm an cdv ct) ⟨us, []⟩ = pure (ps.zip us)) : DefK P w K mg base L p g i f fd ps :=
  ⟨⟨x, q, st, fd.code, N, fn, funD_funC F, S, hfn, hnp, hns, hc, hg⟩, F.kp, (funD_fun F).binds hb⟩
theorem itrH {h : Heap} {fcs : List Fc} {dfs : List DefD} {kws : List (Str × V)} {cn f n1 x qual : Str} {st : Stmt} {c i j l : Nat} {p1 p2 p3 p4 p5 : Pos} (H : Hd K h mg fcs dfs) (e1 : fcs[i]? = some (.a (.cls cn))) (e2 : fcs[j]? = some (.a (.noat cn f))) (e3 : fcs[l]? = some (.a (.meth cn "__iter__"))) (hC : L.cls c = ga K cn)
    (F : FunD K x qual (defArgs st) (defBody st) (defScope st) [] kws (ma K (ga K cn) "__iter__") (fdOf K (cn, some "__iter__"))) (S : FnScope [n1] [n1] (defScope st)) (hbd : defBody st = [.Return (some (.Call (.Name "iter" p1) [.Attribute (.Name n1 p2) f p3] [] p4)) p5])
    (hgi : (defScope st).names.lookup ("iter" : Str) = some NameKind.globalImplicit) (hm : mg "iter" = none) (l1 : (defScope st).names.lookup n1 = some .local) (d1 : dbg n1 = false)
    (hb : ∀ (kV doc pm : Value) (an : Option Addr) (cdv ct : Value) (us : List Value), us.length = [n1].length → bindArgs (PySem.W.fnOf x qual (defArgs st) (defBody st) (defScope st) .none kV doc pm an cdv ct) ⟨us, []⟩ = pure ([n1].zip us)) :
    Cls K (L.cls c) ∧ NoAttr K (L.cls c) f ∧ ∃ fa fd ps, Meth K (L.cls c) "__iter__" fa ∧ FnN P w K mg base (L2.CX P w) 1 fa fd ps (spIter K f) ∧ Binds K fd ps [] := by
  rw [hC]
  exact ⟨H.cls i e1, H.noat j e2, _, _, _, H.meth l e3, iter_ok (funD_fun F) S hbd hgi hm (fun _ _ => .inl l1) (dbg_ok d1).1 (dbg_ok d1).2, (funD_fun F).binds hb⟩
theorem errH {h : Heap} {fcs : List Fc} {dfs : List DefD} {kws : List (Str × V)} {cn f n1 n2 x qual : Str} {st : Stmt} {c i : Nat} {p1 p2 p3 p4 : Pos} (H : Hd K h mg fcs dfs) (e : fcs[i]? = some (.err cn f)) (hC : L.cls c = ga K cn) (hF : L.fld c = [f]) (F : FunD K x qual (defArgs st) (defBody st) (defScope st) [] kws (fAd K (cn, some "__init__")) (fdOf K (cn, some "__init__")))
    (S : FnScope [n1, n2] [n1, n2] (defScope st)) (hbd : defBody st = [.Assign [.Attribute (.Name n1 p1) f p2] (.Name n2 p3) p4])
    (l1 : (defScope st).names.lookup n1 = some .local) (l2 : (defScope st).names.lookup n2 = some .local) (d1 : dbg n1 = false) (d2 : dbg n2 = false)
    (hb : ∀ (kV doc pm : Value) (an : Option Addr) (cdv ct : Value) (us : List Value), us.length = [n1, n2].length → bindArgs (PySem.W.fnOf x qual (defArgs st) (defBody st) (defScope st) .none kV doc pm an cdv ct) ⟨us, []⟩ = pure ([n1, n2].zip us)) :
    ∃ f fI fd ps, OexC K (L.cls c) ∧ L.fld c = [f] ∧ PySem.W.findIn K (.ref (L.cls c)) "__init__" = some (some (.ref fI)) ∧ PySem.W.typeIn K (.ref fI) = some (.type "function") ∧ FnOk P w K mg base (L2.CX P w) 1 fI fd ps (spIx (L.cls c) f) ∧ Binds K fd ps [] ∧ mg cn = some (.ref (L.cls c)) := by
  obtain ⟨h1, h2, h3, h4, h5⟩ := H.err i e
  exact err_of hC hF h2 h3 h4 (funD_fun F) S hbd l1 l2 d1 d2 h5 ((funD_fun F).binds hb) h1
theorem kb1 {x qual n : Str} {st : Stmt} {kws : List (Str × V)} {f : Addr} {fd : FuncData} {ps : List Str} (F : FunD K x qual (defArgs st) (defBody st) (defScope st) [] kws f fd) (hp : ps.length = 2)
    (hk : ∀ (kV doc pm : Value) (an : Option Addr) (cdv ct u v : Value), bindArgs (PySem.W.fnOf x qual (defArgs st) (defBody st) (defScope st) .none kV doc pm an cdv ct) ⟨[u], [(n, v)]⟩ = pure (ps.zip [u, v])) : KBinds K fd ps [n] g1 g1 where
  to := fun s us ws hK hl => by
    obtain ⟨oc, od, dV, kV, doc, pm, an, cdv, ct, osl, rfl, lk, hcd, hD, hkw⟩ := F.ex
    obtain rfl : dV = .none := by
      rcases hD with ⟨_, e⟩ | ⟨e, _⟩
      · exact e
      · exact absurd rfl e
    match us, ws, hl with
    | [u], [v], _ => exact BindsTo.of_eq (hk kV doc pm an cdv ct u v)
    | [], [], hl => rw [hp] at hl; cases hl
    | [], _ :: _, hl => rw [hp] at hl; cases hl
    | [_], [], hl => rw [hp] at hl; cases hl
    | [_], _ :: _ :: _, hl => rw [hp] at hl; cases hl
    | _ :: _ :: _, [], hl => rw [hp] at hl; cases hl
    | _ :: _ :: _, _ :: _, hl => rw [hp] at hl; cases hl
  rel := fun {vs us zs ws} r q => by
    cases r with
    | nil => cases q <;> exact .nil
    | cons r1 r =>
      cases r with
      | nil =>
        cases q with
        | nil => exact .nil
        | cons q1 q =>
          cases q with
          | nil => exact .cons r1 (.cons q1 .nil)
          | cons _ _ => exact .nil
      | cons _ _ => cases q <;> exact .nil
theorem exH {h : Heap} {fcs : List Fc} {dfs : List DefD} {kws : List (Str × V)} {cn f n1 x qual : Str} {st : Stmt} {c i : Nat} {p1 p2 p3 p4 : Pos} (H : Hd K h mg fcs dfs) (e : fcs[i]? = some (.err cn f)) (hC : L.cls c = ga K cn) (F : FunD K x qual (defArgs st) (defBody st) (defScope st) [] kws (fAd K (cn, some "__init__")) (fdOf K (cn, some "__init__")))
    (S : FnScope [n1, f] [n1, f] (defScope st)) (hbd : defBody st = [.Assign [.Attribute (.Name n1 p1) f p2] (.Name f p3) p4])
    (l1 : (defScope st).names.lookup n1 = some .local) (l2 : (defScope st).names.lookup f = some .local) (d1 : dbg n1 = false) (d2 : dbg f = false)
    (hb : ∀ (kV doc pm : Value) (an : Option Addr) (cdv ct : Value) (us : List Value), us.length = [n1, f].length → bindArgs (PySem.W.fnOf x qual (defArgs st) (defBody st) (defScope st) .none kV doc pm an cdv ct) ⟨us, []⟩ = pure ([n1, f].zip us))
    (hk : ∀ (kV doc pm : Value) (an : Option Addr) (cdv ct u v : Value), bindArgs (PySem.W.fnOf x qual (defArgs st) (defBody st) (defScope st) .none kV doc pm an cdv ct) ⟨[u], [(f, v)]⟩ = pure ([n1, f].zip [u, v])) :
    ∃ fI fd ps, OexC K (L.cls c) ∧ PySem.W.findIn K (.ref (L.cls c)) "__init__" = some (some (.ref fI)) ∧ PySem.W.typeIn K (.ref fI) = some (.type "function") ∧ FnOk P w K mg base (L2.CX P w) 1 fI fd ps (spIx (L.cls c) f) ∧ Binds K fd ps [] ∧ KBinds K fd ps [f] g1 g1 ∧ mg cn = some (.ref (L.cls c)) := by
  obtain ⟨h1, h2, h3, h4, h5⟩ := H.err i e
  rw [hC]
  exact ⟨_, _, _, h2, h3, h4, init_ok (funD_fun F) S hbd l1 l2 (fun _ _ => .inl l1) (fun _ _ => .inl l2) (dbg_ok d1).1 (dbg_ok d2).1 (dbg_ok d1).2 (dbg_ok d2).2 (fun _ => swaps_ok rfl) h2 h5, (funD_fun F).binds hb, kb1 F rfl hk, h1⟩
theorem ex0H {h : Heap} {fcs : List Fc} {dfs : List DefD} {kws : List (Str × V)} {cn cy n1 x qual : Str} {st : Stmt} {c i j : Nat} {p1 p2 p3 p4 p5 : Pos} (H : Hd K h mg fcs dfs) (e : fcs[i]? = some (.err0 cn cy)) (hC : L.cls c = ga K cn) (F : FunD K x qual (defArgs st) (defBody st) (defScope st) [] kws (fAd K (cy, some "__init__")) (fdOf K (cy, some "__init__")))
    (S : FnScope [n1] [n1] (defScope st)) (hbd : defBody st = [.Expr (.Call (.Attribute (.Name "ValueError" p1) "__init__" p2) [.Name n1 p3] [] p4) p5])
    (l1 : (defScope st).names.lookup n1 = some .local) (hg : (defScope st).names.lookup ("ValueError" : Str) = some .globalImplicit) (d1 : dbg n1 = false) (hm : mg "ValueError" = none) (ej : fcs[j]? = some .vini)
    (hb : ∀ (kV doc pm : Value) (an : Option Addr) (cdv ct : Value) (us : List Value), us.length = [n1].length → bindArgs (PySem.W.fnOf x qual (defArgs st) (defBody st) (defScope st) .none kV doc pm an cdv ct) ⟨us, []⟩ = pure ([n1].zip us))
    (pl : Env → Sem Bool) (hpl : ∀ env, eval (.Call (.Attribute (.Name "ValueError" p1) "__init__" p2) [.Name n1 p3] [] p4) env = (do
      let ov ← eval (.Name "ValueError" p1) env
      standAt p2.atName
      let (f, first) ← holding [ov] (getMethod ov "__init__" (pl env))
      callWith p4 f first (backTo p4 (starEach [.Name n1 p3] env)) (backToKw p4 (keywordEach [] env)))) :
    ∃ fI fd ps, OexC K (L.cls c) ∧ PySem.W.findIn K (.ref (L.cls c)) "__init__" = some (some (.ref fI)) ∧ PySem.W.typeIn K (.ref fI) = some (.type "function") ∧ FnOk P w K mg base (L2.CX P w) 1 fI fd ps (spI0 K) ∧ Binds K fd ps [] ∧ mg cn = some (.ref (L.cls c)) := by
  obtain ⟨h1, h2, h3, h4⟩ := H.err0 i e
  rw [hC]
  exact ⟨_, _, _, h2, h3, h4, init0_ok (funD_fun F) S hbd (fun _ _ => hg) hm (fun _ _ => .inl l1) (dbg_ok d1).1 (dbg_ok d1).2 (H.vini j ej) (fun _ => swaps_ok rfl) pl hpl, (funD_fun F).binds hb, h1⟩
theorem kitH {h : Heap} {fcs : List Fc} {dfs : List DefD} {y : Str} {l : List (Nat × Str × Bool)} {cs : List Str} {i j n : Nat} (H : Hd K h mg fcs dfs) (e : fcs[i]? = some (.kitL y l)) (ej : fcs[j]? = some (.xisL cs)) (en : fcs[n]? = some (.a (.glo y))) (hc : (l.all fun q => cs.contains q.2.1) = true) (hC : ∀ q ∈ l, L.cls q.1 = ga K q.2.1) :
    ∃ (v : V) (u : Value), (∀ u', RelV v u' → u' = u) ∧ ((mg y = some u ∧ RelV v u) ∨ (mg y = none ∧ y ≠ "__name__" ∧ ∃ m, bootBuiltins y = some (.type m) ∧ v = .ty m)) ∧ ∀ c b, (l.map fun q => (q.1, q.2.2)).lookup c = some b → ExcC K (L.cls c) ∧ PySem.W.kitOne K (.ref (L.cls c)) u = some b := by
  refine ⟨.ref (ga K y), .ref (ga K y), fun u' r => r, .inl ⟨H.glo n en, rfl⟩, fun c b hb => ?_⟩
  obtain ⟨q, hq, hq2⟩ := List.mem_map.mp (lookup_memN hb)
  cases hq2
  have h1 := List.all_eq_true.mp (show (l.all fun q => decide (PySem.W.kitOne K (.ref (ga K q.2.1)) (.ref (ga K y)) = some q.2.2)) = true from H.f i e) q hq
  rw [hC q hq]
  exact ⟨(H.xisL j ej q.2.1 (List.contains_iff_mem.mp (List.all_eq_true.mp hc q hq))).1, of_decide_eq_true h1⟩
theorem kitTH {h : Heap} {fcs : List Fc} {dfs : List DefD} {y : Str} {m : String} {l : List (Nat × Str × Bool)} {cs : List Str} {i j n : Nat} (H : Hd K h mg fcs dfs) (e : fcs[i]? = some (.kitT m l)) (ej : fcs[j]? = some (.xisL cs)) (en : fcs[n]? = some (.a (.free y))) (hy : y ≠ "__name__") (hm : bootBuiltins y = some (.type m)) (hc : (l.all fun q => cs.contains q.2.1) = true) (hC : ∀ q ∈ l, L.cls q.1 = ga K q.2.1) :
    ∃ (v : V) (u : Value), (∀ u', RelV v u' → u' = u) ∧ ((mg y = some u ∧ RelV v u) ∨ (mg y = none ∧ y ≠ "__name__" ∧ ∃ m, bootBuiltins y = some (.type m) ∧ v = .ty m)) ∧ ∀ c b, (l.map fun q => (q.1, q.2.2)).lookup c = some b → ExcC K (L.cls c) ∧ PySem.W.kitOne K (.ref (L.cls c)) u = some b := by
  refine ⟨.ty m, .type m, fun u' r => r, .inr ⟨H.free n en, hy, m, hm, rfl⟩, fun c b hb => ?_⟩
  obtain ⟨q, hq, hq2⟩ := List.mem_map.mp (lookup_memN hb)
  cases hq2
  have h1 := List.all_eq_true.mp (show (l.all fun q => decide (PySem.W.kitOne K (.ref (ga K q.2.1)) (.type m) = some q.2.2)) = true from H.f i e) q hq
  rw [hC q hq]
  exact ⟨(H.xisL j ej q.2.1 (List.contains_iff_mem.mp (List.all_eq_true.mp hc q hq))).1, of_decide_eq_true h1⟩
end
def layOf (K : PySem.W.Frag) (cs : List (Str × List Str)) (tabs : List (Addr × Str)) : Lay := { cls := fun c => ((cs[c]?).map fun q => ga K q.1).getD 0, fld := fun c => ((cs[c]?).map (·.2)).getD [], tabs := tabs }
section
variable {p : Prog}
theorem flds_of {l : List (Nat × Str)} {Q : Nat → Str → Prop} (e : ((List.range p.flds.length).flatMap fun c => ((p.flds[c]?).getD []).map fun f => (c, f)) = l) (h : ∀ q ∈ l, Q q.1 q.2) : ∀ c f, ((p.flds[c]?).getD []).contains f = true → Q c f := by
  intro c f hf
  have hm := List.contains_iff_mem.mp hf
  have hc : c < p.flds.length := by
    rcases Nat.lt_or_ge c p.flds.length with q | q
    · exact q
    · rw [List.getElem?_eq_none q] at hm; cases hm
  refine h (c, f) ?_
  rw [← e]
  exact List.mem_flatMap.mpr ⟨c, List.mem_range.mpr hc, List.mem_map.mpr ⟨f, hm, rfl⟩⟩
theorem meths_of {l : List (Nat × Str × Nat)} {Q : Nat → Str → Nat → Prop} (e : ((List.range p.meths.length).flatMap fun c => ((p.meths[c]?).getD []).map fun q => (c, q.1, q.2)) = l) (h : ∀ q ∈ l, Q q.1 q.2.1 q.2.2) : ∀ c m i, ((p.meths[c]?).bind fun l => l.lookup m) = some i → Q c m i := by
  intro c m i hi
  obtain ⟨ms, h1, h2⟩ := Option.bind_eq_some_iff.mp hi
  have hc : c < p.meths.length := (List.getElem?_eq_some_iff.mp h1).1
  refine h (c, m, i) ?_
  rw [← e]
  exact List.mem_flatMap.mpr ⟨c, List.mem_range.mpr hc, List.mem_map.mpr ⟨(m, i), by rw [h1]; exact lookup_mem h2, rfl⟩⟩
end
theorem lay_cls {K : PySem.W.Frag} {csl : List (Str × List Str)} {tabs : List (Addr × Str)} {l : List (Nat × Str × Bool)} (h : (l.all fun q => decide ((csl[q.1]?).map (·.1) = some q.2.1)) = true) : ∀ q ∈ l, (layOf K csl tabs).cls q.1 = ga K q.2.1 := fun q hq => by
  have := of_decide_eq_true (List.all_eq_true.mp h q hq)
  obtain ⟨z, h1, h2⟩ := Option.map_eq_some_iff.mp this
  show ((csl[q.1]?).map fun q => ga K q.1).getD 0 = _
  rw [h1, ← h2]
  rfl
theorem law_fin {l : PySem.W.OpenLaw} {w : World} {K : PySem.W.Frag} {h : Heap} {mg : Str → Option Value} {L : Lay} {p : Prog} {g : Glb} {kk i n : Nat} {x nm : Str} {dfs : List DefD} {ex : PySem.W.Frag → Bool} {tf : List Defn}
    (R : ∀ ns : List Int, ns.length ≤ n → ∃ cs, p.run kk false i [.scr ns] [] = .ok (.bl true) cs) (c : SaysX [] dfs [] tf ex w h K) (KX : K.In h)
    (hb : ∀ (s : Shared) (u : Value), BindsTo s (fdOf K (nm, none)) ⟨[u], []⟩ [(x, u)]) (hL : ∀ q ∈ L.tabs, q.1 ∈ (tf.map (cT K)).map (·.2))
    (M : ∀ base : Heap, (∀ q ∈ tf.map (cT K), TabB base mg q.1 q.2) → Mdl l.prog w K mg base L p g ∧ DefOk l.prog w K mg base L p g i (ga K nm) (fdOf K (nm, none)) [x]) (hB : L.bare := by exact ⟨rfl, rfl, rfl⟩) :
    LamX.LawAtS l w K (L2.CX l.prog w) (10 * kk) n x mg (ga K nm) h := by
  refine law_at (cs := tf.map (cT K)) R (fun q hq => ?_) (fun q hq => ?_) (fun q hq => ?_) hb hL hB fun base _ _ h3 => M base h3
  all_goals obtain ⟨d, hd, rfl⟩ := List.mem_map.mp hq
  · exact c.empty d hd
  · exact c.out d hd
  · exact PySem.W.codeHd_of_K KX (c.hd d hd)
end XV
set_option Elab.async false
set_option linter.all false
set_option autoImplicit false
set_option maxRecDepth 100000
namespace XV
open PySem PySem.Spec PyProof.Rows L2 He
theorem seenAt {as : List Addr} {fa : List Fa} {fn : List DefD} {ts : List Tab} {tf : List Defn} {ex : PySem.W.Frag → Bool} {w : World} {h : Heap} {K : PySem.W.Frag} (eK : frT h.get? as = K)
    (e1 : obsT fa fn ts K = valT fn ts w) (e2 : ex K = true) (e3 : tabsB h.get? tf K = true) : SaysX fa fn ts tf ex w h K := by
  have each : ∀ p, p ∈ tf → PySem.W.codeHdIn K (cT K p).1 (cT K p).2 = true ∧ ∃ ob, h.get? (cT K p).2 = some ob ∧ emptyTab ob = true := by
    intro p mp
    have both := Bool.and_eq_true_iff.mp (List.all_eq_true.mp e3 p mp)
    refine ⟨both.1, ?_⟩
    have right := both.2
    cases got : h.get? (cT K p).2 with
    | none => rw [got] at right; cases right
    | some ob => rw [got] at right; exact ⟨ob, rfl, right⟩
  refine { t := e1, more := e2, hd := fun p mp => (each p mp).1, out := fun p mp => ?_, empty := fun p mp => ?_ }
  · obtain ⟨ob, got, em⟩ := (each p mp).2
    rw [← eK] at got ⊢
    exact frT_none got em
  · obtain ⟨ob, got, em⟩ := (each p mp).2
    rw [got, emptyTab_eq em]
def hookY (as : List Addr) (fn : List DefD) (tf : List Defn) (ex : PySem.W.Frag → Bool) : PySem.W.Hook where
  α := AlT × (Bool × Bool)
  obs := fun s => (obsT [] fn [] (frT s.heap.get? as), ex (frT s.heap.get? as), tabsB s.heap.get? tf (frT s.heap.get? as))
  val := fun w => (valT fn [] w, true, true)
  says := fun w h => ∃ K : PySem.W.Frag, K.In h ∧ SaysX [] fn [] tf ex w h K
  of := fun w h e => ⟨_, frT_in, seenAt rfl (congrArg (fun z : AlT × (Bool × Bool) => z.1) e) (congrArg (fun z : AlT × (Bool × Bool) => z.2.1) e) (congrArg (fun z : AlT × (Bool × Bool) => z.2.2) e)⟩
  keeps := fun _ _ _ y k => y.elim fun K q => ⟨K, PySem.W.Frag.In.keeps q.1 k, { t := q.2.t, more := q.2.more, hd := q.2.hd, out := q.2.out, empty := fun p mp => k _ _ (q.2.empty p mp) }⟩
section
open HandSHeadRun PySem.W PySem.Calls
theorem runEq_of {r : OpenRow} {q : Program} {H : Hook} {ob : SharedT → H.α} {M : Nat} {loose : List PySem.Str} {w : World}
    (a : ∀ os : OsState, (endF (stepQ (denQ tabQ) r.prog w) M r.prog w os).map (fun s => looksF r.prog (boot_heap w.params) s.abs) = some true)
    (b : ∀ os : OsState, (endF (stepQ (denQ tabQ) r.prog w) M r.prog w os).map (fun s => seenQ q loose (importedModules r.prog.main.body) (fun s => xlAt q [] s && recOk r.toRowW.records s) s.abs) = some (openGood q loose))
    (c : ∀ os : OsState, (endF (stepQ (denQ tabQ) r.prog w) M r.prog w os).map ob = some (H.val w)) : RunEq r q H ob M loose w := by
  intro os
  have a := a os
  have b := b os
  have c := c os
  revert a b c
  generalize endF (stepQ (denQ tabQ) r.prog w) M r.prog w os = x
  intro a b c
  cases x with
  | none => cases a
  | some s =>
    have a := Option.some.inj a
    have b := Option.some.inj b
    have c := Option.some.inj c
    simp only [Option.map_some, a, b, c]
end
end XV
set_option Elab.async false
set_option linter.all false
set_option maxRecDepth 100000
namespace Md
open PySem PySem.Spec PyProof.Rows L2 L2H XV LamX He
def topS (i : Nat) : Stmt := PySem.Challenge.pw_toldpaths_k80_hands_refused.main.body.getD i (.Pass ⟨0, 0, 0, 0⟩)
def memS : Stmt → Nat → Stmt
  | .ClassDef _ _ _ body _ _ _ _ _ _ _, j => body.getD j (.Pass ⟨0, 0, 0, 0⟩)
  | s, _ => s
abbrev i__wall : Nat := 0
abbrev i_is_manner : Nat := 1
abbrev i_is_list : Nat := 2
abbrev i_is_number : Nat := 3
abbrev i_is_rising : Nat := 4
abbrev i_is_path : Nat := 5
abbrev i_steps : Nat := 6
abbrev i_marks : Nat := 7
abbrev i_reduced : Nat := 8
abbrev i_tree : Nat := 9
abbrev i__is_some_path : Nat := 10
abbrev i__is_plain_path : Nat := 11
abbrev i__is_marked_path : Nat := 12
abbrev i__steps : Nat := 13
abbrev i__marks : Nat := 14
abbrev i__beginnings : Nat := 15
abbrev i_reduced_row : Nat := 16
abbrev i_stepped : Nat := 17
abbrev i_board_of : Nat := 18
abbrev i_hanging : Nat := 19
abbrev i_covered : Nat := 20
abbrev i__line_board : Nat := 21
abbrev i__fit : Nat := 22
abbrev i__is_within : Nat := 23
abbrev i__tree_board : Nat := 24
abbrev i__laid : Nat := 25
abbrev i_explored : Nat := 26
abbrev i_explored_from : Nat := 27
abbrev i_led : Nat := 28
abbrev i_rows_of_paths : Nat := 29
abbrev i_is_home : Nat := 30
abbrev i_numbered : Nat := 31
abbrev i__pruned : Nat := 32
abbrev i_check_paths : Nat := 33
abbrev i_indices_of : Nat := 34
abbrev i_telling : Nat := 35
abbrev i_is_safe : Nat := 36
abbrev i_grants : Nat := 37
abbrev i__check_hands : Nat := 38
abbrev i__is_hand : Nat := 39
abbrev i__check_all : Nat := 40
abbrev i__menu_of : Nat := 41
abbrev i__known_by : Nat := 42
abbrev i__known_together : Nat := 43
abbrev i__is_safe_by : Nat := 44
abbrev i__law_fresh : Nat := 45
abbrev i__law_fill : Nat := 46
abbrev i__law_take : Nat := 47
abbrev i__law_one : Nat := 48
abbrev i__law_same : Nat := 49
abbrev i__law_tried : Nat := 50
abbrev i__law_error : Nat := 51
abbrev i__law_other_error : Nat := 52
abbrev i__law_later_error : Nat := 53
abbrev i_law : Nat := 54
abbrev i_Bridge_init : Nat := 55
abbrev i_Board_init : Nat := 56
abbrev i_Board_is_told : Nat := 57
abbrev i_Rooms_init : Nat := 58
abbrev i_Rooms_fresh : Nat := 59
abbrev i_Rooms_link : Nat := 60
abbrev i_Rooms_thread : Nat := 61
abbrev i_Rooms_put : Nat := 62
abbrev i_Rooms_moves_from : Nat := 63
abbrev i_Rooms_found : Nat := 64
abbrev i_Rooms_rows : Nat := 65
abbrev i_Rooms_lead : Nat := 66
abbrev i_Rooms_unite : Nat := 67
abbrev i_Teller_init : Nat := 68
abbrev i_Teller_all_told : Nat := 69
abbrev i_Teller_some_told : Nat := 70
abbrev i_Teller_search : Nat := 71
abbrev i_Teller_search_turned : Nat := 72
abbrev x_BadManner : Nat := 0
abbrev x_BadPath : Nat := 1
abbrev x_BadHand : Nat := 2
abbrev x_BadNumber : Nat := 3
abbrev x_Bridge : Nat := 4
abbrev x_Board : Nat := 5
abbrev x_Rooms : Nat := 6
abbrev x_Teller : Nat := 7
abbrev g_MANNERS : Nat := 0
abbrev g_SMALL : Nat := 1
abbrev g_LETTERS : Nat := 2
abbrev g_DIGITS : Nat := 3
abbrev g_MOST_HANDS : Nat := 4
abbrev g_MOST_KNOWN : Nat := 5
def glb : Glb where
  bl := ["len", "list", "all", "any", "int", "range", "enumerate", "zip", "isinstance", "sorted", "set", "sum", "bool", "str", "tuple", "dict"]
  fns := (("is_manner", 1) :: ("is_list", 2) :: ("is_number", 3) :: ("is_rising", 4) :: ("is_path", 5) :: ("_is_plain_path", 11) :: ("_is_marked_path", 12) :: ("_steps", 13) :: ("_marks", 14) :: ("check_paths", 33) :: ("telling", 35) :: ("is_safe", 36) :: ("grants", 37) :: ("_check_hands", 38) :: ("_is_hand", 39) :: ("_check_all", 40) :: ("_menu_of", 41) :: ("_law_fresh", 45) :: ("_law_fill", 46) :: ("_law_take", 47) :: ("_law_one", 48) :: ("_law_same", 49) :: ("law", 54) :: [])
  gks := [("MANNERS", 0), ("SMALL", 1), ("LETTERS", 2), ("DIGITS", 3), ("MOST_HANDS", 4), ("MOST_KNOWN", 5)]
  tys := [("bool", "bool"), ("int", "int"), ("str", "str"), ("tuple", "tuple"), ("list", "list"), ("dict", "dict")]
  trd := ""
  errs := [("BadManner", 0), ("BadPath", 1), ("BadHand", 2), ("BadNumber", 3)]
  news := []
def errsOf : Nat → List D → Option D
  | 0, [d] => some (.tup [.str [109, 97, 110, 110, 101, 114], d])
  | 1, [d] => some (.tup [.str [112, 97, 116, 104], d])
  | 2, [d] => some (.tup [.str [104, 97, 110, 100], d])
  | 3, [d] => some (.tup [.str [110, 117, 109, 98, 101, 114], d])
  | _, _ => none
abbrev s_is_manner : Stmt := topS 6
def b_is_manner : Ss := (.cons (.ret (.and (.isi (.v 0) ["str"]) (.cmp .In (.v 0) (.g g_MANNERS)))) .nil)
abbrev s_is_list : Stmt := topS 7
def b_is_list : Ss := (.cons (.ret (.isi (.v 0) ["list", "tuple"])) .nil)
abbrev s_is_number : Stmt := topS 8
def b_is_number : Ss := (.cons (.ret (.and (.isi (.v 0) ["int"]) (.not (.isi (.v 0) ["bool"])))) .nil)
abbrev s_is_rising : Stmt := topS 9
def q0_is_rising : T := (.comp [1, 2] (.tup [(.nm 1), (.nm 2)]) (.zip (.v 0) (.slc (.v 0) (.one (.k (.int 1))) .no)) .no (.cmp .Lt (.v 1) (.v 2)))
def q1_is_rising : T := (.bi .all (.cons q0_is_rising .nil))
def b_is_rising : Ss := (.cons (.ret q1_is_rising) .nil)
abbrev s_is_path : Stmt := topS 39
def b_is_path : Ss := (.cons (.iff (.not (.call i_is_manner (.cons (.v 0) .nil))) (.cons (.raise x_BadManner (.cons (.v 0) .nil)) .nil) .nil) (.cons (.iff (.cmp .Eq (.v 0) (.k (.str [97, 110, 121]))) (.cons (.ret (.call i__is_marked_path (.cons (.v 1) .nil))) .nil) .nil) (.cons (.ret (.call i__is_plain_path (.cons (.v 1) .nil))) .nil)))
abbrev s__is_plain_path : Stmt := topS 45
def q0__is_plain_path : T := (.comp [1] (.nm 1) (.val (.v 0)) .no (.cmp .In (.v 1) (.g g_LETTERS)))
def q1__is_plain_path : T := (.bi .all (.cons q0__is_plain_path .nil))
def b__is_plain_path : Ss := (.cons (.ret (.and (.isi (.v 0) ["str"]) (.and (.cmp .NotEq (.v 0) (.k (.str []))) q1__is_plain_path))) .nil)
abbrev s__is_marked_path : Stmt := topS 46
def q0__is_marked_path : T := (.comp [3] (.nm 3) (.val (.v 1)) .no (.cmp .In (.v 3) (.g g_SMALL)))
def q1__is_marked_path : T := (.bi .all (.cons q0__is_marked_path .nil))
def q2__is_marked_path : T := (.comp [2] (.nm 2) (.val (.call i__marks (.cons (.v 0) .nil))) .no (.call i_is_rising (.cons (.v 2) .nil)))
def q3__is_marked_path : T := (.bi .all (.cons q2__is_marked_path .nil))
def b__is_marked_path : Ss := (.cons (.iff (.not (.isi (.v 0) ["str"])) (.cons (.ret (.k (.bl false))) .nil) .nil) (.cons (.asg (.nm 1) (.call i__steps (.cons (.v 0) .nil))) (.cons (.iff (.or (.cmp .Eq (.v 1) (.lst .nil)) (.not q1__is_marked_path)) (.cons (.ret (.k (.bl false))) .nil) .nil) (.cons (.ret q3__is_marked_path) .nil))))
abbrev s__steps : Stmt := topS 47
def q0__steps : T := (.comp [1] (.nm 1) (.val (.v 0)) (.one (.cmp .NotIn (.v 1) (.g g_DIGITS))) (.v 1))
def b__steps : Ss := (.cons (.ret q0__steps) .nil)
abbrev s__marks : Stmt := topS 48
def q0__marks : Ss := (.cons (.iff (.cmp .In (.v 2) (.g g_DIGITS)) (.cons (.augOwn 1 (.neg (.k (.int 1))) .add (.v 2)) .nil) (.cons (.app 1 (.k (.str []))) .nil)) .nil)
def b__marks : Ss := (.cons (.set1 1 (.own (.cons (.k (.str [])) .nil))) (.cons (.forr (.val (.v 0)) (.nm 2) q0__marks) (.cons (.frz 1) (.cons (.ret (.v 1)) .nil))))
abbrev s_check_paths : Stmt := topS 77
def q0_check_paths : Ss := (.cons (.iff (.not (.call i_is_path (.cons (.v 0) (.cons (.v 2) .nil)))) (.cons (.raise x_BadPath (.cons (.v 2) .nil)) .nil) .nil) .nil)
def b_check_paths : Ss := (.cons (.iff (.not (.call i_is_list (.cons (.v 1) .nil))) (.cons (.raise x_BadPath (.cons (.v 1) .nil)) .nil) .nil) (.cons (.forr (.val (.v 1)) (.nm 2) q0_check_paths) .nil))
abbrev s_telling : Stmt := topS 82
def q0_telling : Ss := (.cons (.frz 6) (.cons .nvr .nil))
def b_telling : Ss := (.cons (.expr (.call i__check_hands (.cons (.v 0) (.cons (.v 1) .nil)))) (.cons (.iff (.not (.call i_is_path (.cons (.v 0) (.cons (.v 2) .nil)))) (.cons (.raise x_BadPath (.cons (.v 2) .nil)) .nil) .nil) (.cons (.asg (.nm 3) (.call i__menu_of (.cons (.v 1) .nil))) (.cons .nvr (.cons .nvr (.cons (.set1 6 (.own .nil)) (.cons (.forr (.rng1 (.bin .shl (.k (.int 1)) (.bi .len (.cons (.v 1) .nil)))) (.nm 7) q0_telling) (.cons (.frz 6) (.cons .nvr .nil)))))))))
abbrev s_is_safe : Stmt := topS 83
def b_is_safe : Ss := (.cons (.expr (.call i__check_all (.cons (.v 0) (.cons (.v 1) (.cons (.v 2) (.cons (.v 3) .nil)))))) (.cons (.asg (.nm 4) (.call i__menu_of (.cons (.v 1) .nil))) (.cons .nvr .nil)))
abbrev s_grants : Stmt := topS 84
def b_grants : Ss := (.cons (.expr (.call i__check_all (.cons (.v 0) (.cons (.v 1) (.cons (.v 2) (.cons (.v 3) .nil)))))) (.cons (.iff (.not (.call i_is_path (.cons (.v 0) (.cons (.v 4) .nil)))) (.cons (.raise x_BadPath (.cons (.v 4) .nil)) .nil) .nil) (.cons (.asg (.nm 5) (.call i__menu_of (.cons (.bin .add (.bi .list (.cons (.v 1) .nil)) (.lst (.cons (.lst (.cons (.v 4) .nil)) .nil))) .nil))) (.cons .nvr (.cons .nvr (.cons .nvr (.cons .nvr .nil)))))))
abbrev s__check_hands : Stmt := topS 85
def q0__check_hands : Ss := (.cons (.iff (.or (.cmp .GtE (.v 2) (.g g_MOST_HANDS)) (.not (.call i__is_hand (.cons (.v 0) (.cons (.v 3) .nil))))) (.cons (.raise x_BadHand (.cons (.v 2) .nil)) .nil) .nil) .nil)
def b__check_hands : Ss := (.cons (.iff (.not (.call i_is_manner (.cons (.v 0) .nil))) (.cons (.raise x_BadManner (.cons (.v 0) .nil)) .nil) .nil) (.cons (.iff (.not (.call i_is_list (.cons (.v 1) .nil))) (.cons (.raise x_BadHand (.cons (.k (.int 0)) .nil)) .nil) .nil) (.cons (.forr (.enum (.v 1)) (.tup [(.nm 2), (.nm 3)]) q0__check_hands) .nil)))
abbrev s__is_hand : Stmt := topS 86
def q0__is_hand : T := (.comp [2] (.nm 2) (.val (.v 1)) .no (.call i_is_path (.cons (.v 0) (.cons (.v 2) .nil))))
def q1__is_hand : T := (.bi .all (.cons q0__is_hand .nil))
def b__is_hand : Ss := (.cons (.iff (.or (.not (.call i_is_list (.cons (.v 1) .nil))) (.or (.cmp .Gt (.bi .len (.cons (.v 1) .nil)) (.g g_MOST_KNOWN)) (.not q1__is_hand))) (.cons (.ret (.k (.bl false))) .nil) .nil) (.cons (.ret (.cmp .Eq (.bi .len (.cons (.call i__menu_of (.cons (.lst (.cons (.v 1) .nil)) .nil)) .nil)) (.bi .len (.cons (.v 1) .nil)))) .nil))
abbrev s__check_all : Stmt := topS 87
def b__check_all : Ss := (.cons (.expr (.call i__check_hands (.cons (.v 0) (.cons (.v 1) .nil)))) (.cons (.iff (.or (.not (.call i_is_number (.cons (.v 2) .nil))) (.cmp .Lt (.v 2) (.k (.int 0)))) (.cons (.raise x_BadNumber (.cons (.v 2) .nil)) .nil) .nil) (.cons (.expr (.call i_check_paths (.cons (.v 0) (.cons (.v 3) .nil)))) .nil)))
abbrev s__menu_of : Stmt := topS 88
def q0__menu_of : T := (.dc2 [1, 2] (.nm 1) (.val (.v 0)) [2] (.nm 2) (.val (.v 1)) (.v 2) (.k (.bl true)))
def b__menu_of : Ss := (.cons (.ret (.lsK q0__menu_of)) .nil)
abbrev s__law_fresh : Stmt := topS 93
def b__law_fresh : Ss := (.cons (.ret (.lstC (.cons (.slc (.v 0) .no (.one (.k (.int 63)))) (.cons (.k (.int 0)) (.cons (.k (.int 0)) (.cons (.k (.bl false)) .nil)))))) .nil)
abbrev s__law_fill : Stmt := topS 94
def q0__law_fill : Ss := (.cons (.asg (.nm 6) (.bin .mod (.bi .int (.cons (.bin .mul (.bin .add (.bin .add (.v 1) (.bin .mul (.bin .mul (.k (.int 10007)) (.v 4)) (.v 4))) (.bin .mul (.k (.int 101)) (.v 4))) (.bin .add (.k (.int 48271)) (.bin .mul (.k (.int 2)) (.v 4)))) .nil)) (.v 5))) (.cons (.setIx (.v 0) (.k (.int 2)) (.bin .add (.bin .mul (.ix (.v 0) (.k (.int 2))) (.v 5)) (.bin .mod (.bi .int (.cons (.bin .pow (.v 6) (.k (.int 5))) .nil)) (.v 5)))) .nil))
def b__law_fill : Ss := (.cons (.par 2 3 (.val (.ix (.v 0) (.k (.int 0)))) (.val (.ix (.v 0) (.k (.int 1))))) (.cons (.asg (.nm 1) (.bin .add (.bin .mul (.k (.int 31)) (.v 3)) (.k (.int 7)))) (.cons (.iff (.cmp .Gt (.bi .len (.cons (.v 2) .nil)) (.k (.int 0))) (.cons (.asg (.nm 1) (.bin .add (.bin .mul (.k (.int 104729)) (.bin .fdiv (.v 3) (.bi .len (.cons (.v 2) .nil)))) (.ix (.v 2) (.bin .mod (.bi .int (.cons (.v 3) .nil)) (.bi .len (.cons (.v 2) .nil)))))) .nil) .nil) (.cons (.setIx (.v 0) (.k (.int 1)) (.bin .add (.v 3) (.k (.int 1)))) (.cons (.setIx (.v 0) (.k (.int 3)) (.or (.cmp .GtE (.v 3) (.bi .len (.cons (.v 2) .nil))) (.cmp .Lt (.v 1) (.bin .pow (.k (.int 10)) (.k (.int 18)))))) (.cons (.setIx (.v 0) (.k (.int 2)) (.bin .sub (.v 1) (.bin .pow (.k (.int 10)) (.k (.int 18))))) (.cons (.iff (.ix (.v 0) (.k (.int 3))) (.cons (.setIx (.v 0) (.k (.int 2)) (.k (.int 0))) (.cons (.forr (.enum (.tup (.cons (.k (.int 2147483647)) (.cons (.k (.int 2147483629)) (.cons (.k (.int 2147483587)) (.cons (.k (.int 2147483579)) (.cons (.k (.int 2147483563)) .nil))))))) (.tup [(.nm 4), (.nm 5)]) q0__law_fill) .nil)) .nil) .nil)))))))
abbrev s__law_take : Stmt := topS 95
def q0__law_take : T := (.and (.cmp .Lt (.v 2) (.k (.int 64))) (.or (.cmp .Eq (.ix (.v 0) (.k (.int 2))) (.k (.int 0))) (.and (.ix (.v 0) (.k (.int 3))) (.cmp .Lt (.ix (.v 0) (.k (.int 2))) (.bin .mul (.v 1) (.k (.int 4096)))))))
def q1__law_take : Ss := (.cons (.expr (.call i__law_fill (.cons (.v 0) .nil))) (.cons (.aug 2 .add (.k (.int 1))) (.cons (.iff (.and (.ix (.v 0) (.k (.int 3))) (.cmp .Lt (.ix (.v 0) (.k (.int 2))) (.bin .mul (.v 1) (.k (.int 4096))))) (.cons (.setIx (.v 0) (.k (.int 2)) (.bin .add (.ix (.v 0) (.k (.int 2))) (.bin .mul (.bin .mul (.v 1) (.k (.int 4096))) (.bin .add (.k (.int 1)) (.bin .mod (.bi .int (.cons (.ix (.v 0) (.k (.int 2))) .nil)) (.k (.int 4093))))))) .nil) .nil) .nil)))
def b__law_take : Ss := (.cons (.asg (.nm 2) (.k (.int 0))) (.cons (.whl q0__law_take q1__law_take) (.cons (.asg (.nm 3) (.bin .mod (.bi .int (.cons (.ix (.v 0) (.k (.int 2))) .nil)) (.v 1))) (.cons (.setIx (.v 0) (.k (.int 2)) (.bin .fdiv (.ix (.v 0) (.k (.int 2))) (.v 1))) (.cons (.ret (.v 3)) .nil)))))
abbrev s__law_one : Stmt := topS 96
def b__law_one : Ss := (.cons (.ret (.ix (.v 1) (.call i__law_take (.cons (.v 0) (.cons (.bi .len (.cons (.v 1) .nil)) .nil))))) .nil)
abbrev s__law_same : Stmt := topS 97
def q0__law_same : T := (.comp [2, 3] (.tup [(.nm 2), (.nm 3)]) (.zip (.v 0) (.v 1)) .no (.call i__law_same (.cons (.v 2) (.cons (.v 3) .nil))))
def q1__law_same : T := (.bi .all (.cons q0__law_same .nil))
def b__law_same : Ss := (.cons (.iff (.isi (.v 1) ["list", "tuple"]) (.cons (.iff (.or (.cmp .NotEq (.isi (.v 0) ["list"]) (.isi (.v 1) ["list"])) (.cmp .NotEq (.isi (.v 0) ["tuple"]) (.isi (.v 1) ["tuple"]))) (.cons (.ret (.k (.bl false))) .nil) .nil) (.cons (.ret (.and (.cmp .Eq (.bi .len (.cons (.v 0) .nil)) (.bi .len (.cons (.v 1) .nil))) q1__law_same)) .nil)) .nil) (.cons (.iff (.isi (.v 1) ["int"]) (.cons (.ret (.and (.isi (.v 0) ["int"]) (.and (.cmp .Eq (.isi (.v 0) ["bool"]) (.isi (.v 1) ["bool"])) (.cmp .Eq (.v 0) (.v 1))))) .nil) .nil) (.cons (.ret (.and (.cmp .Is (.isi (.v 0) ["bool", "int", "list", "tuple"]) (.k (.bl false))) (.cmp .Eq (.v 0) (.v 1)))) .nil)))
abbrev s_law : Stmt := topS 102
def q0_law : Ss := (.cons (.asg (.tup [(.nm 10), (.nm 11)]) (.tup (.cons (.call i__law_one (.cons (.v 1) (.cons (.lst (.cons (.k (.str [97, 110, 121])) (.cons (.k (.str [109, 97, 116, 99, 104, 101, 100])) (.cons (.k (.str [116, 117, 114, 110, 101, 100])) .nil)))) .nil))) (.cons (.call i__law_one (.cons (.v 1) (.cons (.lst (.cons (.k .non) (.cons (.k (.str [])) (.cons (.k (.int 5)) (.cons (.lst (.cons (.k (.str [97, 110, 121])) .nil)) .nil))))) .nil))) .nil)))) (.cons (.asg (.nm 3) (.call i__law_one (.cons (.v 1) (.cons (.lst (.cons (.k .non) (.cons (.k (.str [])) (.cons (.k (.str [49])) (.cons (.k (.int 5)) (.cons (.lst (.cons (.k (.str [97])) .nil)) (.cons (.k (.str [97, 45])) (.cons (.ife (.cmp .Eq (.v 10) (.k (.str [97, 110, 121]))) (.k (.str [97, 65])) (.k (.str [97, 49, 98]))) .nil)))))))) .nil)))) (.cons (.asg (.nm 4) (.call i__law_one (.cons (.v 1) (.cons (.lst (.cons (.k .non) (.cons (.k (.int 5)) (.cons (.k (.str [97, 98])) (.cons (.lst (.cons (.k (.str [97])) (.cons (.v 3) .nil))) (.cons (.lst (.cons (.k (.str [97])) (.cons (.k (.str [97])) .nil))) (.cons (.bi .list (.cons (.k (.str [97, 98, 99, 100, 101])) .nil)) (.cons (.k (.dct [] [])) .nil)))))))) .nil)))) (.cons (.asg (.nm 5) (.call i__law_one (.cons (.v 1) (.cons (.lst (.cons (.lst (.cons (.lst (.cons (.k (.str [97])) .nil)) (.cons (.v 4) (.cons (.k .non) .nil)))) (.cons (.bin .mul (.lst (.cons (.lst .nil) .nil)) (.k (.int 7))) (.cons (.k (.int 5)) (.cons (.k (.str [97, 98])) (.cons (.k (.dct [] [])) .nil)))))) .nil)))) (.cons (.asg (.nm 6) (.k (.int 0))) (.cons (.iff (.isi (.v 5) ["list"]) (.cons (.asg (.nm 6) (.ife (.cmp .Eq (.bi .len (.cons (.v 5) .nil)) (.k (.int 3))) (.k (.int 1)) (.k (.int 6)))) .nil) .nil) (.cons (.asg (.tup [(.nm 12), (.nm 13)]) (.tup (.cons (.call i__law_one (.cons (.v 1) (.cons (.lst (.cons (.k .non) (.cons (.neg (.k (.int 1))) (.cons (.k (.bl true)) (.cons (.k (.str [49])) (.cons (.lst (.cons (.k (.int 0)) .nil)) .nil)))))) .nil))) (.cons (.call i__law_one (.cons (.v 1) (.cons (.lst (.cons (.k .non) (.cons (.k (.int 5)) (.cons (.k (.str [97, 98])) (.cons (.k (.dct [] [])) .nil))))) .nil))) .nil)))) (.cons (.asg (.nm 7) (.lst (.cons (.lst (.cons (.k (.str [97])) .nil)) (.cons (.lst (.cons (.k (.str [98])) .nil)) .nil)))) (.cons (.set1 8 (.own (.cons (.tried 0 (.call i_telling (.cons (.v 11) (.cons (.v 5) (.cons (.v 3) .nil))))) .nil))) (.cons (.app 8 (.tried 0 (.call i_is_safe (.cons (.v 11) (.cons (.v 5) (.cons (.v 12) (.cons (.v 13) .nil))))))) (.cons (.app 8 (.tried 0 (.call i_grants (.cons (.v 11) (.cons (.v 5) (.cons (.v 12) (.cons (.v 13) (.cons (.v 3) .nil)))))))) (.cons (.frz 8) (.cons (.iff (.not (.call i__law_same (.cons (.v 8) (.cons (.bin .mul (.lst (.cons (.tup (.cons (.k (.str [109, 97, 110, 110, 101, 114])) (.cons (.v 11) .nil))) .nil)) (.k (.int 3))) .nil)))) (.cons (.ret (.k (.bl false))) .nil) .nil) (.cons (.set1 8 (.own (.cons (.tried 0 (.call i_telling (.cons (.v 10) (.cons (.v 5) (.cons (.v 3) .nil))))) .nil))) (.cons (.app 8 (.tried 0 (.call i_is_safe (.cons (.v 10) (.cons (.v 5) (.cons (.v 12) (.cons (.v 13) .nil))))))) (.cons (.app 8 (.tried 0 (.call i_grants (.cons (.v 10) (.cons (.v 5) (.cons (.v 12) (.cons (.v 13) (.cons (.v 3) .nil)))))))) (.cons (.frz 8) (.cons (.iff (.not (.call i__law_same (.cons (.v 8) (.cons (.bin .mul (.lst (.cons (.tup (.cons (.k (.str [104, 97, 110, 100])) (.cons (.v 6) .nil))) .nil)) (.k (.int 3))) .nil)))) (.cons (.ret (.k (.bl false))) .nil) .nil) (.cons (.set1 8 (.own (.cons (.tried 0 (.call i_telling (.cons (.v 10) (.cons (.v 7) (.cons (.v 3) .nil))))) .nil))) (.cons (.app 8 (.tried 0 (.call i_is_safe (.cons (.v 10) (.cons (.v 7) (.cons (.v 12) (.cons (.v 13) .nil))))))) (.cons (.app 8 (.tried 0 (.call i_grants (.cons (.v 10) (.cons (.v 7) (.cons (.k (.int 1)) (.cons (.v 13) (.cons (.v 3) .nil)))))))) (.cons (.app 8 (.tried 0 (.call i_grants (.cons (.v 10) (.cons (.v 7) (.cons (.k (.int 1)) (.cons (.lst (.cons (.k (.str [97])) (.cons (.v 3) .nil))) (.cons (.k .non) .nil)))))))) (.cons (.app 8 (.tried 0 (.call i_grants (.cons (.v 10) (.cons (.v 7) (.cons (.k (.int 1)) (.cons (.lst .nil) (.cons (.v 3) .nil)))))))) (.cons (.asg (.nm 9) (.lst (.cons (.tup (.cons (.k (.str [112, 97, 116, 104])) (.cons (.v 3) .nil))) (.cons (.tup (.cons (.k (.str [110, 117, 109, 98, 101, 114])) (.cons (.v 12) .nil))) (.cons (.tup (.cons (.k (.str [112, 97, 116, 104])) (.cons (.v 13) .nil))) (.cons (.tup (.cons (.k (.str [112, 97, 116, 104])) (.cons (.v 3) .nil))) (.cons (.tup (.cons (.k (.str [112, 97, 116, 104])) (.cons (.v 3) .nil))) .nil))))))) (.cons (.frz 8) (.cons (.iff (.not (.call i__law_same (.cons (.v 8) (.cons (.v 9) .nil)))) (.cons (.ret (.k (.bl false))) .nil) .nil) .nil))))))))))))))))))))))))))
def b_law : Ss := (.cons (.asg (.nm 1) (.call i__law_fresh (.cons (.v 0) .nil))) (.cons (.forr (.rng1 (.k (.int 5))) (.nm 2) q0_law) (.cons (.ret (.k (.bl true))) .nil)))
def prog : Prog where
  fns := [⟨0, 0, .nil⟩, ⟨1, 1, b_is_manner⟩, ⟨1, 1, b_is_list⟩, ⟨1, 1, b_is_number⟩, ⟨1, 3, b_is_rising⟩, ⟨2, 2, b_is_path⟩, ⟨0, 0, .nil⟩, ⟨0, 0, .nil⟩, ⟨0, 0, .nil⟩, ⟨0, 0, .nil⟩, ⟨0, 0, .nil⟩, ⟨1, 2, b__is_plain_path⟩, ⟨1, 4, b__is_marked_path⟩, ⟨1, 2, b__steps⟩, ⟨1, 3, b__marks⟩, ⟨0, 0, .nil⟩, ⟨0, 0, .nil⟩, ⟨0, 0, .nil⟩, ⟨0, 0, .nil⟩, ⟨0, 0, .nil⟩, ⟨0, 0, .nil⟩, ⟨0, 0, .nil⟩, ⟨0, 0, .nil⟩, ⟨0, 0, .nil⟩, ⟨0, 0, .nil⟩, ⟨0, 0, .nil⟩, ⟨0, 0, .nil⟩, ⟨0, 0, .nil⟩, ⟨0, 0, .nil⟩, ⟨0, 0, .nil⟩, ⟨0, 0, .nil⟩, ⟨0, 0, .nil⟩, ⟨0, 0, .nil⟩, ⟨2, 3, b_check_paths⟩, ⟨0, 0, .nil⟩, ⟨3, 9, b_telling⟩, ⟨4, 5, b_is_safe⟩, ⟨5, 11, b_grants⟩, ⟨2, 4, b__check_hands⟩, ⟨2, 3, b__is_hand⟩, ⟨4, 4, b__check_all⟩, ⟨1, 3, b__menu_of⟩, ⟨0, 0, .nil⟩, ⟨0, 0, .nil⟩, ⟨0, 0, .nil⟩, ⟨1, 1, b__law_fresh⟩, ⟨1, 7, b__law_fill⟩, ⟨2, 4, b__law_take⟩, ⟨2, 2, b__law_one⟩, ⟨2, 4, b__law_same⟩, ⟨0, 0, .nil⟩, ⟨0, 0, .nil⟩, ⟨0, 0, .nil⟩, ⟨0, 0, .nil⟩, ⟨1, 14, b_law⟩, ⟨0, 0, .nil⟩, ⟨0, 0, .nil⟩, ⟨0, 0, .nil⟩, ⟨0, 0, .nil⟩, ⟨0, 0, .nil⟩, ⟨0, 0, .nil⟩, ⟨0, 0, .nil⟩, ⟨0, 0, .nil⟩, ⟨0, 0, .nil⟩, ⟨0, 0, .nil⟩, ⟨0, 0, .nil⟩, ⟨0, 0, .nil⟩, ⟨0, 0, .nil⟩, ⟨0, 0, .nil⟩, ⟨0, 0, .nil⟩, ⟨0, 0, .nil⟩, ⟨0, 0, .nil⟩, ⟨0, 0, .nil⟩]
  gk := [.tup [(.str [97, 110, 121]), (.str [109, 97, 116, 99, 104, 101, 100]), (.str [116, 117, 114, 110, 101, 100])], (.str [97, 98, 99, 100, 101, 102, 103, 104, 105, 106, 107, 108, 109, 110, 111, 112, 113, 114, 115, 116, 117, 118, 119, 120, 121, 122]), (.str [97, 98, 99, 100, 101, 102, 103, 104, 105, 106, 107, 108, 109, 110, 111, 112, 113, 114, 115, 116, 117, 118, 119, 120, 121, 122, 65, 66, 67, 68, 69, 70, 71, 72, 73, 74, 75, 76, 77, 78, 79, 80, 81, 82, 83, 84, 85, 86, 87, 88, 89, 90]), (.str [48, 49, 50, 51, 52, 53, 54, 55, 56, 57]), (.int 6), (.int 4)]
  meths := [[], [], [], [], [], [], [], []]
  flds := [[], [], [], [], ["index", "start", "end", "cover"], ["goal", "whole", "bridges"], ["_moves", "_same"], ["_turned", "_menu", "_paths", "_boards"]]
  inits := [none, none, none, none, none, none, none, none]
  errs := errsOf
  fu := 100
theorem c_is_manner : chkSs { glb with trd := "", lam := false, cb := false } ["thing"] (defScope s_is_manner) b_is_manner (defBody s_is_manner) = true := by decide +kernel
theorem sc_is_manner : FnScope ["thing"] ["thing"] (defScope s_is_manner) := ⟨rfl, rfl, rfl, by decide +kernel, rfl, by decide +kernel, by decide +kernel⟩
theorem c_is_list : chkSs { glb with trd := "", lam := false, cb := false } ["thing"] (defScope s_is_list) b_is_list (defBody s_is_list) = true := by decide +kernel
theorem sc_is_list : FnScope ["thing"] ["thing"] (defScope s_is_list) := ⟨rfl, rfl, rfl, by decide +kernel, rfl, by decide +kernel, by decide +kernel⟩
theorem c_is_number : chkSs { glb with trd := "", lam := false, cb := false } ["thing"] (defScope s_is_number) b_is_number (defBody s_is_number) = true := by decide +kernel
theorem sc_is_number : FnScope ["thing"] ["thing"] (defScope s_is_number) := ⟨rfl, rfl, rfl, by decide +kernel, rfl, by decide +kernel, by decide +kernel⟩
theorem c_is_rising : chkSs { glb with trd := "", lam := false, cb := false } ["row", "one", "other"] (defScope s_is_rising) b_is_rising (defBody s_is_rising) = true := by decide +kernel
theorem sc_is_rising : FnScope ["row", "one", "other"] ["row"] (defScope s_is_rising) := ⟨rfl, rfl, rfl, by decide +kernel, rfl, by decide +kernel, by decide +kernel⟩
theorem c_is_path : chkSs { glb with trd := "", lam := false, cb := false } ["manner", "thing"] (defScope s_is_path) b_is_path (defBody s_is_path) = true := by decide +kernel
theorem sc_is_path : FnScope ["manner", "thing"] ["manner", "thing"] (defScope s_is_path) := ⟨rfl, rfl, rfl, by decide +kernel, rfl, by decide +kernel, by decide +kernel⟩
theorem c__is_plain_path : chkSs { glb with trd := "", lam := false, cb := false } ["thing", "step"] (defScope s__is_plain_path) b__is_plain_path (defBody s__is_plain_path) = true := by decide +kernel
theorem sc__is_plain_path : FnScope ["thing", "step"] ["thing"] (defScope s__is_plain_path) := ⟨rfl, rfl, rfl, by decide +kernel, rfl, by decide +kernel, by decide +kernel⟩
theorem c__is_marked_path : chkSs { glb with trd := "", lam := false, cb := false } ["thing", "taken", "mark", "step"] (defScope s__is_marked_path) b__is_marked_path (defBody s__is_marked_path) = true := by decide +kernel
theorem sc__is_marked_path : FnScope ["thing", "taken", "mark", "step"] ["thing"] (defScope s__is_marked_path) := ⟨rfl, rfl, rfl, by decide +kernel, rfl, by decide +kernel, by decide +kernel⟩
theorem c__steps : chkSs { glb with trd := "", lam := false, cb := false } ["text", "sign"] (defScope s__steps) b__steps (defBody s__steps) = true := by decide +kernel
theorem sc__steps : FnScope ["text", "sign"] ["text"] (defScope s__steps) := ⟨rfl, rfl, rfl, by decide +kernel, rfl, by decide +kernel, by decide +kernel⟩
theorem c__marks : chkSs { glb with trd := "", lam := false, cb := false } ["text", "found", "sign"] (defScope s__marks) b__marks (defBody s__marks) = true := by decide +kernel
theorem sc__marks : FnScope ["text", "found", "sign"] ["text"] (defScope s__marks) := ⟨rfl, rfl, rfl, by decide +kernel, rfl, by decide +kernel, by decide +kernel⟩
theorem c_check_paths : chkSs { glb with trd := "", lam := false, cb := false } ["manner", "paths", "path"] (defScope s_check_paths) b_check_paths (defBody s_check_paths) = true := by decide +kernel
theorem sc_check_paths : FnScope ["manner", "paths", "path"] ["manner", "paths"] (defScope s_check_paths) := ⟨rfl, rfl, rfl, by decide +kernel, rfl, by decide +kernel, by decide +kernel⟩
theorem c_telling : chkSs { glb with trd := "", lam := false, cb := false } ["manner", "hands", "path", "menu", "known", "teller", "found", "group", "fewer"] (defScope s_telling) b_telling (defBody s_telling) = true := by decide +kernel
theorem sc_telling : FnScope ["manner", "hands", "path", "menu", "known", "teller", "found", "group", "fewer"] ["manner", "hands", "path"] (defScope s_telling) := ⟨rfl, rfl, rfl, by decide +kernel, rfl, by decide +kernel, by decide +kernel⟩
theorem c_is_safe : chkSs { glb with trd := "", lam := false, cb := false } ["manner", "hands", "k", "secrets", "menu"] (defScope s_is_safe) b_is_safe (defBody s_is_safe) = true := by decide +kernel
theorem sc_is_safe : FnScope ["manner", "hands", "k", "secrets", "menu"] ["manner", "hands", "k", "secrets"] (defScope s_is_safe) := ⟨rfl, rfl, rfl, by decide +kernel, rfl, by decide +kernel, by decide +kernel⟩
theorem c_grants : chkSs { glb with trd := "", lam := false, cb := false } ["manner", "hands", "k", "secrets", "path", "menu", "known", "given", "teller", "index", "chosen"] (defScope s_grants) b_grants (defBody s_grants) = true := by decide +kernel
theorem sc_grants : FnScope ["manner", "hands", "k", "secrets", "path", "menu", "known", "given", "teller", "index", "chosen"] ["manner", "hands", "k", "secrets", "path"] (defScope s_grants) := ⟨rfl, rfl, rfl, by decide +kernel, rfl, by decide +kernel, by decide +kernel⟩
theorem c__check_hands : chkSs { glb with trd := "", lam := false, cb := false } ["manner", "hands", "index", "hand"] (defScope s__check_hands) b__check_hands (defBody s__check_hands) = true := by decide +kernel
theorem sc__check_hands : FnScope ["manner", "hands", "index", "hand"] ["manner", "hands"] (defScope s__check_hands) := ⟨rfl, rfl, rfl, by decide +kernel, rfl, by decide +kernel, by decide +kernel⟩
theorem c__is_hand : chkSs { glb with trd := "", lam := false, cb := false } ["manner", "thing", "path"] (defScope s__is_hand) b__is_hand (defBody s__is_hand) = true := by decide +kernel
theorem sc__is_hand : FnScope ["manner", "thing", "path"] ["manner", "thing"] (defScope s__is_hand) := ⟨rfl, rfl, rfl, by decide +kernel, rfl, by decide +kernel, by decide +kernel⟩
theorem c__check_all : chkSs { glb with trd := "", lam := false, cb := false } ["manner", "hands", "k", "secrets"] (defScope s__check_all) b__check_all (defBody s__check_all) = true := by decide +kernel
theorem sc__check_all : FnScope ["manner", "hands", "k", "secrets"] ["manner", "hands", "k", "secrets"] (defScope s__check_all) := ⟨rfl, rfl, rfl, by decide +kernel, rfl, by decide +kernel, by decide +kernel⟩
theorem c__menu_of : chkSs { glb with trd := "", lam := false, cb := false } ["hands", "hand", "path"] (defScope s__menu_of) b__menu_of (defBody s__menu_of) = true := by decide +kernel
theorem sc__menu_of : FnScope ["hands", "hand", "path"] ["hands"] (defScope s__menu_of) := ⟨rfl, rfl, rfl, by decide +kernel, rfl, by decide +kernel, by decide +kernel⟩
theorem c__law_fresh : chkSs { glb with trd := "", lam := false, cb := false } ["_law_script"] (defScope s__law_fresh) b__law_fresh (defBody s__law_fresh) = true := by decide +kernel
theorem sc__law_fresh : FnScope ["_law_script"] ["_law_script"] (defScope s__law_fresh) := ⟨rfl, rfl, rfl, by decide +kernel, rfl, by decide +kernel, by decide +kernel⟩
theorem c__law_fill : chkSs { glb with trd := "", lam := false, cb := false } ["_law_state", "_law_seed", "_law_cells", "_law_nth", "_law_k", "_law_prime", "_law_far"] (defScope s__law_fill) b__law_fill (defBody s__law_fill) = true := by decide +kernel
theorem sc__law_fill : FnScope ["_law_state", "_law_seed", "_law_cells", "_law_nth", "_law_k", "_law_prime", "_law_far"] ["_law_state"] (defScope s__law_fill) := ⟨rfl, rfl, rfl, by decide +kernel, rfl, by decide +kernel, by decide +kernel⟩
theorem c__law_take : chkSs { glb with trd := "", lam := false, cb := false } ["_law_state", "_law_many", "_law_laps", "_law_digit"] (defScope s__law_take) b__law_take (defBody s__law_take) = true := by decide +kernel
theorem sc__law_take : FnScope ["_law_state", "_law_many", "_law_laps", "_law_digit"] ["_law_state", "_law_many"] (defScope s__law_take) := ⟨rfl, rfl, rfl, by decide +kernel, rfl, by decide +kernel, by decide +kernel⟩
theorem c__law_one : chkSs { glb with trd := "", lam := false, cb := false } ["_law_state", "_law_things"] (defScope s__law_one) b__law_one (defBody s__law_one) = true := by decide +kernel
theorem sc__law_one : FnScope ["_law_state", "_law_things"] ["_law_state", "_law_things"] (defScope s__law_one) := ⟨rfl, rfl, rfl, by decide +kernel, rfl, by decide +kernel, by decide +kernel⟩
theorem c__law_same : chkSs { glb with trd := "", lam := false, cb := false } ["_law_found", "_law_due", "_law_a", "_law_b"] (defScope s__law_same) b__law_same (defBody s__law_same) = true := by decide +kernel
theorem sc__law_same : FnScope ["_law_found", "_law_due", "_law_a", "_law_b"] ["_law_found", "_law_due"] (defScope s__law_same) := ⟨rfl, rfl, rfl, by decide +kernel, rfl, by decide +kernel, by decide +kernel⟩
theorem c_law : chkSs { glb with trd := "_law_tried", lam := false, cb := false } ["_law_script", "_law_state", "_law_turn", "_law_odd", "_law_wrong", "_law_hands", "_law_index", "_law_right", "_law_found", "_law_due", "_law_manner", "_law_bad", "_law_number", "_law_none"] (defScope s_law) b_law (defBody s_law) = true := by decide +kernel
theorem sc_law : FnScope ["_law_script", "_law_state", "_law_turn", "_law_odd", "_law_wrong", "_law_hands", "_law_index", "_law_right", "_law_found", "_law_due", "_law_manner", "_law_bad", "_law_number", "_law_none"] ["_law_script"] (defScope s_law) := ⟨rfl, rfl, rfl, by decide +kernel, rfl, by decide +kernel, by decide +kernel⟩
end Md
set_option Elab.async false
set_option linter.all false
set_option maxRecDepth 100000
namespace Md
open PySem PySem.Spec PyProof.Rows L2 L2H XV LamX He
abbrev dd_is_manner : DefD := ⟨("is_manner", none), "is_manner", "is_manner", defArgs s_is_manner, defBody s_is_manner, defScope s_is_manner, [], []⟩
abbrev dd_is_list : DefD := ⟨("is_list", none), "is_list", "is_list", defArgs s_is_list, defBody s_is_list, defScope s_is_list, [], []⟩
abbrev dd_is_number : DefD := ⟨("is_number", none), "is_number", "is_number", defArgs s_is_number, defBody s_is_number, defScope s_is_number, [], []⟩
abbrev dd_is_rising : DefD := ⟨("is_rising", none), "is_rising", "is_rising", defArgs s_is_rising, defBody s_is_rising, defScope s_is_rising, [], []⟩
abbrev dd_is_path : DefD := ⟨("is_path", none), "is_path", "is_path", defArgs s_is_path, defBody s_is_path, defScope s_is_path, [], []⟩
abbrev dd__is_plain_path : DefD := ⟨("_is_plain_path", none), "_is_plain_path", "_is_plain_path", defArgs s__is_plain_path, defBody s__is_plain_path, defScope s__is_plain_path, [], []⟩
abbrev dd__is_marked_path : DefD := ⟨("_is_marked_path", none), "_is_marked_path", "_is_marked_path", defArgs s__is_marked_path, defBody s__is_marked_path, defScope s__is_marked_path, [], []⟩
abbrev dd__steps : DefD := ⟨("_steps", none), "_steps", "_steps", defArgs s__steps, defBody s__steps, defScope s__steps, [], []⟩
abbrev dd__marks : DefD := ⟨("_marks", none), "_marks", "_marks", defArgs s__marks, defBody s__marks, defScope s__marks, [], []⟩
abbrev dd_check_paths : DefD := ⟨("check_paths", none), "check_paths", "check_paths", defArgs s_check_paths, defBody s_check_paths, defScope s_check_paths, [], []⟩
abbrev dd_telling : DefD := ⟨("telling", none), "telling", "telling", defArgs s_telling, defBody s_telling, defScope s_telling, [], []⟩
abbrev dd_is_safe : DefD := ⟨("is_safe", none), "is_safe", "is_safe", defArgs s_is_safe, defBody s_is_safe, defScope s_is_safe, [], []⟩
abbrev dd_grants : DefD := ⟨("grants", none), "grants", "grants", defArgs s_grants, defBody s_grants, defScope s_grants, [], []⟩
abbrev dd__check_hands : DefD := ⟨("_check_hands", none), "_check_hands", "_check_hands", defArgs s__check_hands, defBody s__check_hands, defScope s__check_hands, [], []⟩
abbrev dd__is_hand : DefD := ⟨("_is_hand", none), "_is_hand", "_is_hand", defArgs s__is_hand, defBody s__is_hand, defScope s__is_hand, [], []⟩
abbrev dd__check_all : DefD := ⟨("_check_all", none), "_check_all", "_check_all", defArgs s__check_all, defBody s__check_all, defScope s__check_all, [], []⟩
abbrev dd__menu_of : DefD := ⟨("_menu_of", none), "_menu_of", "_menu_of", defArgs s__menu_of, defBody s__menu_of, defScope s__menu_of, [], []⟩
abbrev dd__law_fresh : DefD := ⟨("_law_fresh", none), "_law_fresh", "_law_fresh", defArgs s__law_fresh, defBody s__law_fresh, defScope s__law_fresh, [], []⟩
abbrev dd__law_fill : DefD := ⟨("_law_fill", none), "_law_fill", "_law_fill", defArgs s__law_fill, defBody s__law_fill, defScope s__law_fill, [], []⟩
abbrev dd__law_take : DefD := ⟨("_law_take", none), "_law_take", "_law_take", defArgs s__law_take, defBody s__law_take, defScope s__law_take, [], []⟩
abbrev dd__law_one : DefD := ⟨("_law_one", none), "_law_one", "_law_one", defArgs s__law_one, defBody s__law_one, defScope s__law_one, [], []⟩
abbrev dd__law_same : DefD := ⟨("_law_same", none), "_law_same", "_law_same", defArgs s__law_same, defBody s__law_same, defScope s__law_same, [], []⟩
abbrev dd_law : DefD := ⟨("law", none), "law", "law", defArgs s_law, defBody s_law, defScope s_law, [], []⟩
abbrev s_BadManner_init : Stmt := memS (topS 12) 0
abbrev dd_BadManner_init : DefD := ⟨("BadManner", some "__init__"), "__init__", "BadManner.__init__", defArgs s_BadManner_init, defBody s_BadManner_init, defScope s_BadManner_init, [], []⟩
abbrev s_BadPath_init : Stmt := memS (topS 13) 0
abbrev dd_BadPath_init : DefD := ⟨("BadPath", some "__init__"), "__init__", "BadPath.__init__", defArgs s_BadPath_init, defBody s_BadPath_init, defScope s_BadPath_init, [], []⟩
abbrev s_BadHand_init : Stmt := memS (topS 36) 0
abbrev dd_BadHand_init : DefD := ⟨("BadHand", some "__init__"), "__init__", "BadHand.__init__", defArgs s_BadHand_init, defBody s_BadHand_init, defScope s_BadHand_init, [], []⟩
abbrev s_BadNumber_init : Stmt := memS (topS 25) 0
abbrev dd_BadNumber_init : DefD := ⟨("BadNumber", some "__init__"), "__init__", "BadNumber.__init__", defArgs s_BadNumber_init, defBody s_BadNumber_init, defScope s_BadNumber_init, [], []⟩
abbrev s__law_error : Stmt := topS 99
abbrev dd__law_error : DefD := ⟨("_law_error", none), "_law_error", "_law_error", defArgs s__law_error, defBody s__law_error, defScope s__law_error, [], []⟩
abbrev s__law_other_error : Stmt := topS 100
abbrev dd__law_other_error : DefD := ⟨("_law_other_error", none), "_law_other_error", "_law_other_error", defArgs s__law_other_error, defBody s__law_other_error, defScope s__law_other_error, [], []⟩
abbrev s__law_later_error : Stmt := topS 101
abbrev dd__law_later_error : DefD := ⟨("_law_later_error", none), "_law_later_error", "_law_later_error", defArgs s__law_later_error, defBody s__law_later_error, defScope s__law_later_error, [], []⟩
abbrev s__law_tried : Stmt := topS 98
abbrev dd__law_tried : DefD := ⟨("_law_tried", none), "_law_tried", "_law_tried", defArgs s__law_tried, defBody s__law_tried, defScope s__law_tried, [], []⟩
def dfs : List DefD := [dd_is_manner, dd_is_list, dd_is_number, dd_is_rising, dd_is_path, dd__is_plain_path, dd__is_marked_path, dd__steps, dd__marks, dd_check_paths, dd_telling, dd_is_safe, dd_grants, dd__check_hands, dd__is_hand, dd__check_all, dd__menu_of, dd__law_fresh, dd__law_fill, dd__law_take, dd__law_one, dd__law_same, dd_law, dd_BadManner_init, dd_BadPath_init, dd_BadHand_init, dd_BadNumber_init, dd__law_error, dd__law_other_error, dd__law_later_error, dd__law_tried]
def fcs : List Fc := [.xis "BadManner", .err "BadManner" "manner", .a (.free "isinstance"), .a (.glo "BadManner"), .kit "BadManner" "BadManner" true, .xis "BadPath", .err "BadPath" "path", .a (.glo "BadPath"), .kit "BadPath" "BadPath" true, .kit "BadPath" "BadManner" false, .xis "BadHand", .err "BadHand" "index", .a (.glo "BadHand"), .kit "BadHand" "BadHand" true, .a (.glo "BadMoment"), .kit "BadHand" "BadMoment" false, .a (.glo "BadThing"), .kit "BadHand" "BadThing" false, .a (.glo "BadFact"), .kit "BadHand" "BadFact" false, .a (.glo "BadGroup"), .kit "BadHand" "BadGroup" false, .a (.glo "BadLetter"), .kit "BadHand" "BadLetter" false, .a (.glo "IsTold"), .kit "BadHand" "IsTold" false, .a (.glo "BadReading"), .kit "BadHand" "BadReading" false, .a (.glo "_law_later_error"), .a (.glo "BadNumber"), .kit "BadHand" "BadNumber" false, .a (.glo "BadMachine"), .kit "BadHand" "BadMachine" false, .a (.glo "BadBook"), .kit "BadHand" "BadBook" false, .a (.glo "BadAnswers"), .kit "BadHand" "BadAnswers" false, .a (.glo "BadPlan"), .kit "BadHand" "BadPlan" false, .a (.glo "BadIndex"), .kit "BadHand" "BadIndex" false, .a (.glo "_law_other_error"), .a (.glo "BadKept"), .kit "BadHand" "BadKept" false, .a (.glo "BadText"), .kit "BadHand" "BadText" false, .a (.glo "BadKind"), .kit "BadHand" "BadKind" false, .a (.glo "BadLink"), .kit "BadHand" "BadLink" false, .a (.glo "BadMany"), .kit "BadHand" "BadMany" false, .a (.glo "BadPlace"), .kit "BadHand" "BadPlace" false, .kit "BadHand" "BadPath" false, .kit "BadHand" "BadManner" false, .xis "BadNumber", .err "BadNumber" "number", .kit "BadNumber" "BadNumber" true, .kit "BadNumber" "BadMachine" false, .kit "BadNumber" "BadBook" false, .kit "BadNumber" "BadAnswers" false, .kit "BadNumber" "BadPlan" false, .kit "BadNumber" "BadIndex" false, .kit "BadNumber" "BadKept" false, .kit "BadNumber" "BadText" false, .kit "BadNumber" "BadKind" false, .kit "BadNumber" "BadLink" false, .kit "BadNumber" "BadMany" false, .kit "BadNumber" "BadPlace" false, .kit "BadNumber" "BadPath" false, .kit "BadNumber" "BadManner" false, .a (.glo "_law_tried"), .a (.glo "PathError"), .a (.glo "_law_error"), .exm "BadManner" "PathError", .exm "BadPath" "PathError", .exm "BadHand" "PathError", .exm "BadNumber" "PathError", .a (.glo "is_manner"), .a (.glo "is_list"), .a (.glo "is_number"), .a (.glo "is_rising"), .a (.glo "is_path"), .a (.glo "_is_plain_path"), .a (.glo "_is_marked_path"), .a (.glo "_steps"), .a (.glo "_marks"), .a (.glo "check_paths"), .a (.glo "telling"), .a (.glo "is_safe"), .a (.glo "grants"), .a (.glo "_check_hands"), .a (.glo "_is_hand"), .a (.glo "_check_all"), .a (.glo "_menu_of"), .a (.glo "_law_fresh"), .a (.glo "_law_fill"), .a (.glo "_law_take"), .a (.glo "_law_one"), .a (.glo "_law_same"), .a (.glo "law"), .a (.free "len"), .a (.free "list"), .a (.free "all"), .a (.free "any"), .a (.free "int"), .a (.free "range"), .a (.free "enumerate"), .a (.free "zip"), .a (.free "sorted"), .a (.free "set"), .a (.free "sum"), .a (.free "bool"), .a (.free "str"), .a (.free "tuple"), .a (.free "dict"), .tups "MANNERS" [[97, 110, 121], [109, 97, 116, 99, 104, 101, 100], [116, 117, 114, 110, 101, 100]], .str "SMALL" [97, 98, 99, 100, 101, 102, 103, 104, 105, 106, 107, 108, 109, 110, 111, 112, 113, 114, 115, 116, 117, 118, 119, 120, 121, 122], .str "LETTERS" [97, 98, 99, 100, 101, 102, 103, 104, 105, 106, 107, 108, 109, 110, 111, 112, 113, 114, 115, 116, 117, 118, 119, 120, 121, 122, 65, 66, 67, 68, 69, 70, 71, 72, 73, 74, 75, 76, 77, 78, 79, 80, 81, 82, 83, 84, 85, 86, 87, 88, 89, 90], .str "DIGITS" [48, 49, 50, 51, 52, 53, 54, 55, 56, 57], .a (.int "MOST_HANDS" 6), .a (.int "MOST_KNOWN" 4), .a (.cls "Bridge"), .a (.noat "Bridge" "index"), .a (.noat "Bridge" "start"), .a (.noat "Bridge" "end"), .a (.noat "Bridge" "cover"), .a (.cls "Board"), .a (.noat "Board" "goal"), .a (.noat "Board" "whole"), .a (.noat "Board" "bridges"), .a (.cls "Rooms"), .a (.noat "Rooms" "_moves"), .a (.noat "Rooms" "_same"), .a (.cls "Teller"), .a (.noat "Teller" "_turned"), .a (.noat "Teller" "_menu"), .a (.noat "Teller" "_paths"), .a (.noat "Teller" "_boards")]
theorem d_is_manner {P : Program} {w : World} {K : PySem.W.Frag} {h : Heap} {mg : Str → Option Value} {base : Heap} {L : Lay} (H : Hd K h mg fcs dfs) : DefOk P w K mg base L prog glb 1 (fAd K ("is_manner", none)) (fdOf K ("is_manner", none)) ["thing"] :=
  defOk_of (st := s_is_manner) (trd := "") (H.d 0 (d := dd_is_manner) rfl) sc_is_manner rfl rfl rfl c_is_manner (.inl (by decide +kernel)) (.inl rfl) (fun _ _ _ _ _ _ us hl => match us, hl with | [_], _ => rfl)
theorem d_is_list {P : Program} {w : World} {K : PySem.W.Frag} {h : Heap} {mg : Str → Option Value} {base : Heap} {L : Lay} (H : Hd K h mg fcs dfs) : DefOk P w K mg base L prog glb 2 (fAd K ("is_list", none)) (fdOf K ("is_list", none)) ["thing"] :=
  defOk_of (st := s_is_list) (trd := "") (H.d 1 (d := dd_is_list) rfl) sc_is_list rfl rfl rfl c_is_list (.inl (by decide +kernel)) (.inl rfl) (fun _ _ _ _ _ _ us hl => match us, hl with | [_], _ => rfl)
theorem d_is_number {P : Program} {w : World} {K : PySem.W.Frag} {h : Heap} {mg : Str → Option Value} {base : Heap} {L : Lay} (H : Hd K h mg fcs dfs) : DefOk P w K mg base L prog glb 3 (fAd K ("is_number", none)) (fdOf K ("is_number", none)) ["thing"] :=
  defOk_of (st := s_is_number) (trd := "") (H.d 2 (d := dd_is_number) rfl) sc_is_number rfl rfl rfl c_is_number (.inl (by decide +kernel)) (.inl rfl) (fun _ _ _ _ _ _ us hl => match us, hl with | [_], _ => rfl)
theorem d_is_rising {P : Program} {w : World} {K : PySem.W.Frag} {h : Heap} {mg : Str → Option Value} {base : Heap} {L : Lay} (H : Hd K h mg fcs dfs) : DefOk P w K mg base L prog glb 4 (fAd K ("is_rising", none)) (fdOf K ("is_rising", none)) ["row"] :=
  defOk_of (st := s_is_rising) (trd := "") (H.d 3 (d := dd_is_rising) rfl) sc_is_rising rfl rfl rfl c_is_rising (.inl (by decide +kernel)) (.inl rfl) (fun _ _ _ _ _ _ us hl => match us, hl with | [_], _ => rfl)
theorem d_is_path {P : Program} {w : World} {K : PySem.W.Frag} {h : Heap} {mg : Str → Option Value} {base : Heap} {L : Lay} (H : Hd K h mg fcs dfs) : DefOk P w K mg base L prog glb 5 (fAd K ("is_path", none)) (fdOf K ("is_path", none)) ["manner", "thing"] :=
  defOk_of (st := s_is_path) (trd := "") (H.d 4 (d := dd_is_path) rfl) sc_is_path rfl rfl rfl c_is_path (.inl (by decide +kernel)) (.inl rfl) (fun _ _ _ _ _ _ us hl => match us, hl with | [_, _], _ => rfl)
theorem d__is_plain_path {P : Program} {w : World} {K : PySem.W.Frag} {h : Heap} {mg : Str → Option Value} {base : Heap} {L : Lay} (H : Hd K h mg fcs dfs) : DefOk P w K mg base L prog glb 11 (fAd K ("_is_plain_path", none)) (fdOf K ("_is_plain_path", none)) ["thing"] :=
  defOk_of (st := s__is_plain_path) (trd := "") (H.d 5 (d := dd__is_plain_path) rfl) sc__is_plain_path rfl rfl rfl c__is_plain_path (.inl (by decide +kernel)) (.inl rfl) (fun _ _ _ _ _ _ us hl => match us, hl with | [_], _ => rfl)
theorem d__is_marked_path {P : Program} {w : World} {K : PySem.W.Frag} {h : Heap} {mg : Str → Option Value} {base : Heap} {L : Lay} (H : Hd K h mg fcs dfs) : DefOk P w K mg base L prog glb 12 (fAd K ("_is_marked_path", none)) (fdOf K ("_is_marked_path", none)) ["thing"] :=
  defOk_of (st := s__is_marked_path) (trd := "") (H.d 6 (d := dd__is_marked_path) rfl) sc__is_marked_path rfl rfl rfl c__is_marked_path (.inl (by decide +kernel)) (.inl rfl) (fun _ _ _ _ _ _ us hl => match us, hl with | [_], _ => rfl)
theorem d__steps {P : Program} {w : World} {K : PySem.W.Frag} {h : Heap} {mg : Str → Option Value} {base : Heap} {L : Lay} (H : Hd K h mg fcs dfs) : DefOk P w K mg base L prog glb 13 (fAd K ("_steps", none)) (fdOf K ("_steps", none)) ["text"] :=
  defOk_of (st := s__steps) (trd := "") (H.d 7 (d := dd__steps) rfl) sc__steps rfl rfl rfl c__steps (.inl (by decide +kernel)) (.inl rfl) (fun _ _ _ _ _ _ us hl => match us, hl with | [_], _ => rfl)
theorem d__marks {P : Program} {w : World} {K : PySem.W.Frag} {h : Heap} {mg : Str → Option Value} {base : Heap} {L : Lay} (H : Hd K h mg fcs dfs) : DefOk P w K mg base L prog glb 14 (fAd K ("_marks", none)) (fdOf K ("_marks", none)) ["text"] :=
  defOk_of (st := s__marks) (trd := "") (H.d 8 (d := dd__marks) rfl) sc__marks rfl rfl rfl c__marks (.inl (by decide +kernel)) (.inl rfl) (fun _ _ _ _ _ _ us hl => match us, hl with | [_], _ => rfl)
theorem d_check_paths {P : Program} {w : World} {K : PySem.W.Frag} {h : Heap} {mg : Str → Option Value} {base : Heap} {L : Lay} (H : Hd K h mg fcs dfs) : DefOk P w K mg base L prog glb 33 (fAd K ("check_paths", none)) (fdOf K ("check_paths", none)) ["manner", "paths"] :=
  defOk_of (st := s_check_paths) (trd := "") (H.d 9 (d := dd_check_paths) rfl) sc_check_paths rfl rfl rfl c_check_paths (.inl (by decide +kernel)) (.inl rfl) (fun _ _ _ _ _ _ us hl => match us, hl with | [_, _], _ => rfl)
theorem d_telling {P : Program} {w : World} {K : PySem.W.Frag} {h : Heap} {mg : Str → Option Value} {base : Heap} {L : Lay} (H : Hd K h mg fcs dfs) : DefOk P w K mg base L prog glb 35 (fAd K ("telling", none)) (fdOf K ("telling", none)) ["manner", "hands", "path"] :=
  defOk_of (st := s_telling) (trd := "") (H.d 10 (d := dd_telling) rfl) sc_telling rfl rfl rfl c_telling (.inl (by decide +kernel)) (.inl rfl) (fun _ _ _ _ _ _ us hl => match us, hl with | [_, _, _], _ => rfl)
theorem d_is_safe {P : Program} {w : World} {K : PySem.W.Frag} {h : Heap} {mg : Str → Option Value} {base : Heap} {L : Lay} (H : Hd K h mg fcs dfs) : DefOk P w K mg base L prog glb 36 (fAd K ("is_safe", none)) (fdOf K ("is_safe", none)) ["manner", "hands", "k", "secrets"] :=
  defOk_of (st := s_is_safe) (trd := "") (H.d 11 (d := dd_is_safe) rfl) sc_is_safe rfl rfl rfl c_is_safe (.inl (by decide +kernel)) (.inl rfl) (fun _ _ _ _ _ _ us hl => match us, hl with | [_, _, _, _], _ => rfl)
theorem d_grants {P : Program} {w : World} {K : PySem.W.Frag} {h : Heap} {mg : Str → Option Value} {base : Heap} {L : Lay} (H : Hd K h mg fcs dfs) : DefOk P w K mg base L prog glb 37 (fAd K ("grants", none)) (fdOf K ("grants", none)) ["manner", "hands", "k", "secrets", "path"] :=
  defOk_of (st := s_grants) (trd := "") (H.d 12 (d := dd_grants) rfl) sc_grants rfl rfl rfl c_grants (.inl (by decide +kernel)) (.inl rfl) (fun _ _ _ _ _ _ us hl => match us, hl with | [_, _, _, _, _], _ => rfl)
theorem d__check_hands {P : Program} {w : World} {K : PySem.W.Frag} {h : Heap} {mg : Str → Option Value} {base : Heap} {L : Lay} (H : Hd K h mg fcs dfs) : DefOk P w K mg base L prog glb 38 (fAd K ("_check_hands", none)) (fdOf K ("_check_hands", none)) ["manner", "hands"] :=
  defOk_of (st := s__check_hands) (trd := "") (H.d 13 (d := dd__check_hands) rfl) sc__check_hands rfl rfl rfl c__check_hands (.inl (by decide +kernel)) (.inl rfl) (fun _ _ _ _ _ _ us hl => match us, hl with | [_, _], _ => rfl)
theorem d__is_hand {P : Program} {w : World} {K : PySem.W.Frag} {h : Heap} {mg : Str → Option Value} {base : Heap} {L : Lay} (H : Hd K h mg fcs dfs) : DefOk P w K mg base L prog glb 39 (fAd K ("_is_hand", none)) (fdOf K ("_is_hand", none)) ["manner", "thing"] :=
  defOk_of (st := s__is_hand) (trd := "") (H.d 14 (d := dd__is_hand) rfl) sc__is_hand rfl rfl rfl c__is_hand (.inl (by decide +kernel)) (.inl rfl) (fun _ _ _ _ _ _ us hl => match us, hl with | [_, _], _ => rfl)
theorem d__check_all {P : Program} {w : World} {K : PySem.W.Frag} {h : Heap} {mg : Str → Option Value} {base : Heap} {L : Lay} (H : Hd K h mg fcs dfs) : DefOk P w K mg base L prog glb 40 (fAd K ("_check_all", none)) (fdOf K ("_check_all", none)) ["manner", "hands", "k", "secrets"] :=
  defOk_of (st := s__check_all) (trd := "") (H.d 15 (d := dd__check_all) rfl) sc__check_all rfl rfl rfl c__check_all (.inl (by decide +kernel)) (.inl rfl) (fun _ _ _ _ _ _ us hl => match us, hl with | [_, _, _, _], _ => rfl)
theorem d__menu_of {P : Program} {w : World} {K : PySem.W.Frag} {h : Heap} {mg : Str → Option Value} {base : Heap} {L : Lay} (H : Hd K h mg fcs dfs) : DefOk P w K mg base L prog glb 41 (fAd K ("_menu_of", none)) (fdOf K ("_menu_of", none)) ["hands"] :=
  defOk_of (st := s__menu_of) (trd := "") (H.d 16 (d := dd__menu_of) rfl) sc__menu_of rfl rfl rfl c__menu_of (.inl (by decide +kernel)) (.inl rfl) (fun _ _ _ _ _ _ us hl => match us, hl with | [_], _ => rfl)
theorem d__law_fresh {P : Program} {w : World} {K : PySem.W.Frag} {h : Heap} {mg : Str → Option Value} {base : Heap} {L : Lay} (H : Hd K h mg fcs dfs) : DefOk P w K mg base L prog glb 45 (fAd K ("_law_fresh", none)) (fdOf K ("_law_fresh", none)) ["_law_script"] :=
  defOk_of (st := s__law_fresh) (trd := "") (H.d 17 (d := dd__law_fresh) rfl) sc__law_fresh rfl rfl rfl c__law_fresh (.inl (by decide +kernel)) (.inl rfl) (fun _ _ _ _ _ _ us hl => match us, hl with | [_], _ => rfl)
theorem d__law_fill {P : Program} {w : World} {K : PySem.W.Frag} {h : Heap} {mg : Str → Option Value} {base : Heap} {L : Lay} (H : Hd K h mg fcs dfs) : DefOk P w K mg base L prog glb 46 (fAd K ("_law_fill", none)) (fdOf K ("_law_fill", none)) ["_law_state"] :=
  defOk_of (st := s__law_fill) (trd := "") (H.d 18 (d := dd__law_fill) rfl) sc__law_fill rfl rfl rfl c__law_fill (.inl (by decide +kernel)) (.inl rfl) (fun _ _ _ _ _ _ us hl => match us, hl with | [_], _ => rfl)
theorem d__law_take {P : Program} {w : World} {K : PySem.W.Frag} {h : Heap} {mg : Str → Option Value} {base : Heap} {L : Lay} (H : Hd K h mg fcs dfs) : DefOk P w K mg base L prog glb 47 (fAd K ("_law_take", none)) (fdOf K ("_law_take", none)) ["_law_state", "_law_many"] :=
  defOk_of (st := s__law_take) (trd := "") (H.d 19 (d := dd__law_take) rfl) sc__law_take rfl rfl rfl c__law_take (.inl (by decide +kernel)) (.inl rfl) (fun _ _ _ _ _ _ us hl => match us, hl with | [_, _], _ => rfl)
theorem d__law_one {P : Program} {w : World} {K : PySem.W.Frag} {h : Heap} {mg : Str → Option Value} {base : Heap} {L : Lay} (H : Hd K h mg fcs dfs) : DefOk P w K mg base L prog glb 48 (fAd K ("_law_one", none)) (fdOf K ("_law_one", none)) ["_law_state", "_law_things"] :=
  defOk_of (st := s__law_one) (trd := "") (H.d 20 (d := dd__law_one) rfl) sc__law_one rfl rfl rfl c__law_one (.inl (by decide +kernel)) (.inl rfl) (fun _ _ _ _ _ _ us hl => match us, hl with | [_, _], _ => rfl)
theorem d__law_same {P : Program} {w : World} {K : PySem.W.Frag} {h : Heap} {mg : Str → Option Value} {base : Heap} {L : Lay} (H : Hd K h mg fcs dfs) : DefOk P w K mg base L prog glb 49 (fAd K ("_law_same", none)) (fdOf K ("_law_same", none)) ["_law_found", "_law_due"] :=
  defOk_of (st := s__law_same) (trd := "") (H.d 21 (d := dd__law_same) rfl) sc__law_same rfl rfl rfl c__law_same (.inl (by decide +kernel)) (.inl rfl) (fun _ _ _ _ _ _ us hl => match us, hl with | [_, _], _ => rfl)
theorem d_law {P : Program} {w : World} {K : PySem.W.Frag} {h : Heap} {mg : Str → Option Value} {base : Heap} {L : Lay} (H : Hd K h mg fcs dfs) (TT : TrdOk P w K mg base L prog "law" "law" (fAd K ("law", none)) (defScope s_law) (fdOf K ("law", none)).code ["_law_script", "_law_state", "_law_turn", "_law_odd", "_law_wrong", "_law_hands", "_law_index", "_law_right", "_law_found", "_law_due", "_law_manner", "_law_bad", "_law_number", "_law_none"] "_law_tried") : DefOk P w K mg base L prog glb 54 (fAd K ("law", none)) (fdOf K ("law", none)) ["_law_script"] :=
  defOk_of (st := s_law) (trd := "_law_tried") (H.d 22 (d := dd_law) rfl) sc_law rfl rfl rfl c_law (.inr TT) (.inl rfl) (fun _ _ _ _ _ _ us hl => match us, hl with | [_], _ => rfl)
theorem sc__law_error : FnScope ["_law_e"] ["_law_e"] (defScope s__law_error) := ⟨rfl, rfl, rfl, by decide +kernel, rfl, by decide +kernel, by decide +kernel⟩
theorem sc__law_other_error : FnScope ["_law_e"] ["_law_e"] (defScope s__law_other_error) := ⟨rfl, rfl, rfl, by decide +kernel, rfl, by decide +kernel, by decide +kernel⟩
theorem sc__law_later_error : FnScope ["_law_e", "_law_word", "_law_is_one"] ["_law_e"] (defScope s__law_later_error) := ⟨rfl, rfl, rfl, by decide +kernel, rfl, by decide +kernel, by decide +kernel⟩
theorem sc__law_tried : FnScope ["_law_deed", "_law_e"] ["_law_deed"] (defScope s__law_tried) := ⟨rfl, rfl, rfl, by decide +kernel, rfl, by decide +kernel, by decide +kernel⟩
theorem t0_BadManner {P : Program} {w : World} {K : PySem.W.Frag} {h : Heap} {mg : Str → Option Value} {base : Heap} (H : Hd K h mg fcs dfs) (dd : Addr) : FnE P w K mg base (L2.CX P w) 4 (ga K "_law_error") (fdOf K ("_law_error", none)) ["_law_e"] (.ref (ga K "BadManner")) (some dd) (spT dd "manner" "manner") :=
  fnE_tell (funD_fun (st := s__law_error) (H.d 27 (d := dd__law_error) rfl)) sc__law_error (H.xis 0 rfl).1 rfl (H.free 2 rfl) rfl rfl fun X a oe hK hM hS h => tell_hit h (by rw [hK]; exact (H.xis 0 rfl).2) (by rw [hK]; exact (H.err 1 rfl).2.2.2.2) (show X.env.scope.names.lookup ("BadManner" : Str) = some .globalImplicit by rw [hS]; rfl) (by rw [hM]; exact H.glo 3 rfl) rfl (by rw [hK]; exact H.kit 4 rfl) (attr_ok rfl)
theorem t0_BadPath {P : Program} {w : World} {K : PySem.W.Frag} {h : Heap} {mg : Str → Option Value} {base : Heap} (H : Hd K h mg fcs dfs) (dd : Addr) : FnE P w K mg base (L2.CX P w) 4 (ga K "_law_error") (fdOf K ("_law_error", none)) ["_law_e"] (.ref (ga K "BadPath")) (some dd) (spT dd "path" "path") :=
  fnE_tell (funD_fun (st := s__law_error) (H.d 27 (d := dd__law_error) rfl)) sc__law_error (H.xis 5 rfl).1 rfl (H.free 2 rfl) rfl rfl fun X a oe hK hM hS h => tell_miss h (show X.env.scope.names.lookup ("BadManner" : Str) = some .globalImplicit by rw [hS]; rfl) (by rw [hM]; exact H.glo 3 rfl) rfl (by rw [hK]; exact H.kit 9 rfl) (tell_hit h (by rw [hK]; exact (H.xis 5 rfl).2) (by rw [hK]; exact (H.err 6 rfl).2.2.2.2) (show X.env.scope.names.lookup ("BadPath" : Str) = some .globalImplicit by rw [hS]; rfl) (by rw [hM]; exact H.glo 7 rfl) rfl (by rw [hK]; exact H.kit 8 rfl) (attr_ok rfl))
theorem t2_BadHand {P : Program} {w : World} {K : PySem.W.Frag} {h : Heap} {mg : Str → Option Value} {base : Heap} (H : Hd K h mg fcs dfs) (dd : Addr) : FnE P w K mg base (L2.CX P w) 4 (ga K "_law_later_error") (fdOf K ("_law_later_error", none)) ["_law_e"] (.ref (ga K "BadHand")) (some dd) (spT dd "hand" "index") :=
  fnE_tell (funD_fun (st := s__law_later_error) (H.d 29 (d := dd__law_later_error) rfl)) sc__law_later_error (H.xis 10 rfl).1 rfl (H.free 2 rfl) rfl rfl fun X a oe hK hM hS h => tell_miss h (show X.env.scope.names.lookup ("BadReading" : Str) = some .globalImplicit by rw [hS]; rfl) (by rw [hM]; exact H.glo 26 rfl) rfl (by rw [hK]; exact H.kit 27 rfl) (tell_miss h (show X.env.scope.names.lookup ("IsTold" : Str) = some .globalImplicit by rw [hS]; rfl) (by rw [hM]; exact H.glo 24 rfl) rfl (by rw [hK]; exact H.kit 25 rfl) (tell_miss h (show X.env.scope.names.lookup ("BadLetter" : Str) = some .globalImplicit by rw [hS]; rfl) (by rw [hM]; exact H.glo 22 rfl) rfl (by rw [hK]; exact H.kit 23 rfl) (tell_miss h (show X.env.scope.names.lookup ("BadGroup" : Str) = some .globalImplicit by rw [hS]; rfl) (by rw [hM]; exact H.glo 20 rfl) rfl (by rw [hK]; exact H.kit 21 rfl) (tell_miss h (show X.env.scope.names.lookup ("BadFact" : Str) = some .globalImplicit by rw [hS]; rfl) (by rw [hM]; exact H.glo 18 rfl) rfl (by rw [hK]; exact H.kit 19 rfl) (tell_miss h (show X.env.scope.names.lookup ("BadThing" : Str) = some .globalImplicit by rw [hS]; rfl) (by rw [hM]; exact H.glo 16 rfl) rfl (by rw [hK]; exact H.kit 17 rfl) (tell_miss h (show X.env.scope.names.lookup ("BadMoment" : Str) = some .globalImplicit by rw [hS]; rfl) (by rw [hM]; exact H.glo 14 rfl) rfl (by rw [hK]; exact H.kit 15 rfl) (tell_hit h (by rw [hK]; exact (H.xis 10 rfl).2) (by rw [hK]; exact (H.err 11 rfl).2.2.2.2) (show X.env.scope.names.lookup ("BadHand" : Str) = some .globalImplicit by rw [hS]; rfl) (by rw [hM]; exact H.glo 12 rfl) rfl (by rw [hK]; exact H.kit 13 rfl) (attr_ok rfl))))))))
theorem t1_BadHand {P : Program} {w : World} {K : PySem.W.Frag} {h : Heap} {mg : Str → Option Value} {base : Heap} (H : Hd K h mg fcs dfs) (dd : Addr) : FnE P w K mg base (L2.CX P w) 5 (ga K "_law_other_error") (fdOf K ("_law_other_error", none)) ["_law_e"] (.ref (ga K "BadHand")) (some dd) (spT dd "hand" "index") :=
  fnE_tell2 (k := 4) (funD_fun (st := s__law_other_error) (H.d 28 (d := dd__law_other_error) rfl)) sc__law_other_error (H.xis 10 rfl).1 rfl (H.free 2 rfl) rfl rfl fun X a oe W hK hM hP hW hB hS h hr hot tk => tell_miss h (show X.env.scope.names.lookup ("BadIndex" : Str) = some .globalImplicit by rw [hS]; rfl) (by rw [hM]; exact H.glo 39 rfl) rfl (by rw [hK]; exact H.kit 40 rfl) (tell_miss h (show X.env.scope.names.lookup ("BadPlan" : Str) = some .globalImplicit by rw [hS]; rfl) (by rw [hM]; exact H.glo 37 rfl) rfl (by rw [hK]; exact H.kit 38 rfl) (tell_miss h (show X.env.scope.names.lookup ("BadAnswers" : Str) = some .globalImplicit by rw [hS]; rfl) (by rw [hM]; exact H.glo 35 rfl) rfl (by rw [hK]; exact H.kit 36 rfl) (tell_miss h (show X.env.scope.names.lookup ("BadBook" : Str) = some .globalImplicit by rw [hS]; rfl) (by rw [hM]; exact H.glo 33 rfl) rfl (by rw [hK]; exact H.kit 34 rfl) (tell_miss h (show X.env.scope.names.lookup ("BadMachine" : Str) = some .globalImplicit by rw [hS]; rfl) (by rw [hM]; exact H.glo 31 rfl) rfl (by rw [hK]; exact H.kit 32 rfl) (tell_miss h (show X.env.scope.names.lookup ("BadNumber" : Str) = some .globalImplicit by rw [hS]; rfl) (by rw [hM]; exact H.glo 29 rfl) rfl (by rw [hK]; exact H.kit 30 rfl) (tell_go h (show FnE X.prog X.w X.K X.mg X.base (L2.CX X.prog X.w) 4 (ga K "_law_later_error") (fdOf K ("_law_later_error", none)) ["_law_e"] (.ref (ga K "BadHand")) (some dd) (spT dd "hand" "index") by rw [hP, hW, hK, hM, hB]; exact t2_BadHand H dd) hr hot (show X.env.scope.names.lookup ("_law_later_error" : Str) = some .globalImplicit by rw [hS]; rfl) (by rw [hM]; exact H.glo 28 rfl) (by rw [hK]; exact (H.d 29 (d := dd__law_later_error) rfl).kp) (by rw [hK]; exact (funD_fun (st := s__law_later_error) (H.d 29 (d := dd__law_later_error) rfl)).binds (ps := ["_law_e"]) fun _ _ _ _ _ _ us hl => match us, hl with | [_], _ => rfl) tk rfl))))))
theorem t0_BadHand {P : Program} {w : World} {K : PySem.W.Frag} {h : Heap} {mg : Str → Option Value} {base : Heap} (H : Hd K h mg fcs dfs) (dd : Addr) : FnE P w K mg base (L2.CX P w) 6 (ga K "_law_error") (fdOf K ("_law_error", none)) ["_law_e"] (.ref (ga K "BadHand")) (some dd) (spT dd "hand" "index") :=
  fnE_tell2 (k := 5) (funD_fun (st := s__law_error) (H.d 27 (d := dd__law_error) rfl)) sc__law_error (H.xis 10 rfl).1 rfl (H.free 2 rfl) rfl rfl fun X a oe W hK hM hP hW hB hS h hr hot tk => tell_miss h (show X.env.scope.names.lookup ("BadManner" : Str) = some .globalImplicit by rw [hS]; rfl) (by rw [hM]; exact H.glo 3 rfl) rfl (by rw [hK]; exact H.kit 55 rfl) (tell_miss h (show X.env.scope.names.lookup ("BadPath" : Str) = some .globalImplicit by rw [hS]; rfl) (by rw [hM]; exact H.glo 7 rfl) rfl (by rw [hK]; exact H.kit 54 rfl) (tell_miss h (show X.env.scope.names.lookup ("BadPlace" : Str) = some .globalImplicit by rw [hS]; rfl) (by rw [hM]; exact H.glo 52 rfl) rfl (by rw [hK]; exact H.kit 53 rfl) (tell_miss h (show X.env.scope.names.lookup ("BadMany" : Str) = some .globalImplicit by rw [hS]; rfl) (by rw [hM]; exact H.glo 50 rfl) rfl (by rw [hK]; exact H.kit 51 rfl) (tell_miss h (show X.env.scope.names.lookup ("BadLink" : Str) = some .globalImplicit by rw [hS]; rfl) (by rw [hM]; exact H.glo 48 rfl) rfl (by rw [hK]; exact H.kit 49 rfl) (tell_miss h (show X.env.scope.names.lookup ("BadKind" : Str) = some .globalImplicit by rw [hS]; rfl) (by rw [hM]; exact H.glo 46 rfl) rfl (by rw [hK]; exact H.kit 47 rfl) (tell_miss h (show X.env.scope.names.lookup ("BadText" : Str) = some .globalImplicit by rw [hS]; rfl) (by rw [hM]; exact H.glo 44 rfl) rfl (by rw [hK]; exact H.kit 45 rfl) (tell_miss h (show X.env.scope.names.lookup ("BadKept" : Str) = some .globalImplicit by rw [hS]; rfl) (by rw [hM]; exact H.glo 42 rfl) rfl (by rw [hK]; exact H.kit 43 rfl) (tell_go h (show FnE X.prog X.w X.K X.mg X.base (L2.CX X.prog X.w) 5 (ga K "_law_other_error") (fdOf K ("_law_other_error", none)) ["_law_e"] (.ref (ga K "BadHand")) (some dd) (spT dd "hand" "index") by rw [hP, hW, hK, hM, hB]; exact t1_BadHand H dd) hr hot (show X.env.scope.names.lookup ("_law_other_error" : Str) = some .globalImplicit by rw [hS]; rfl) (by rw [hM]; exact H.glo 41 rfl) (by rw [hK]; exact (H.d 28 (d := dd__law_other_error) rfl).kp) (by rw [hK]; exact (funD_fun (st := s__law_other_error) (H.d 28 (d := dd__law_other_error) rfl)).binds (ps := ["_law_e"]) fun _ _ _ _ _ _ us hl => match us, hl with | [_], _ => rfl) tk rfl))))))))
theorem t1_BadNumber {P : Program} {w : World} {K : PySem.W.Frag} {h : Heap} {mg : Str → Option Value} {base : Heap} (H : Hd K h mg fcs dfs) (dd : Addr) : FnE P w K mg base (L2.CX P w) 4 (ga K "_law_other_error") (fdOf K ("_law_other_error", none)) ["_law_e"] (.ref (ga K "BadNumber")) (some dd) (spT dd "number" "number") :=
  fnE_tell (funD_fun (st := s__law_other_error) (H.d 28 (d := dd__law_other_error) rfl)) sc__law_other_error (H.xis 56 rfl).1 rfl (H.free 2 rfl) rfl rfl fun X a oe hK hM hS h => tell_miss h (show X.env.scope.names.lookup ("BadIndex" : Str) = some .globalImplicit by rw [hS]; rfl) (by rw [hM]; exact H.glo 39 rfl) rfl (by rw [hK]; exact H.kit 63 rfl) (tell_miss h (show X.env.scope.names.lookup ("BadPlan" : Str) = some .globalImplicit by rw [hS]; rfl) (by rw [hM]; exact H.glo 37 rfl) rfl (by rw [hK]; exact H.kit 62 rfl) (tell_miss h (show X.env.scope.names.lookup ("BadAnswers" : Str) = some .globalImplicit by rw [hS]; rfl) (by rw [hM]; exact H.glo 35 rfl) rfl (by rw [hK]; exact H.kit 61 rfl) (tell_miss h (show X.env.scope.names.lookup ("BadBook" : Str) = some .globalImplicit by rw [hS]; rfl) (by rw [hM]; exact H.glo 33 rfl) rfl (by rw [hK]; exact H.kit 60 rfl) (tell_miss h (show X.env.scope.names.lookup ("BadMachine" : Str) = some .globalImplicit by rw [hS]; rfl) (by rw [hM]; exact H.glo 31 rfl) rfl (by rw [hK]; exact H.kit 59 rfl) (tell_hit h (by rw [hK]; exact (H.xis 56 rfl).2) (by rw [hK]; exact (H.err 57 rfl).2.2.2.2) (show X.env.scope.names.lookup ("BadNumber" : Str) = some .globalImplicit by rw [hS]; rfl) (by rw [hM]; exact H.glo 29 rfl) rfl (by rw [hK]; exact H.kit 58 rfl) (attr_ok rfl))))))
theorem t0_BadNumber {P : Program} {w : World} {K : PySem.W.Frag} {h : Heap} {mg : Str → Option Value} {base : Heap} (H : Hd K h mg fcs dfs) (dd : Addr) : FnE P w K mg base (L2.CX P w) 5 (ga K "_law_error") (fdOf K ("_law_error", none)) ["_law_e"] (.ref (ga K "BadNumber")) (some dd) (spT dd "number" "number") :=
  fnE_tell2 (k := 4) (funD_fun (st := s__law_error) (H.d 27 (d := dd__law_error) rfl)) sc__law_error (H.xis 56 rfl).1 rfl (H.free 2 rfl) rfl rfl fun X a oe W hK hM hP hW hB hS h hr hot tk => tell_miss h (show X.env.scope.names.lookup ("BadManner" : Str) = some .globalImplicit by rw [hS]; rfl) (by rw [hM]; exact H.glo 3 rfl) rfl (by rw [hK]; exact H.kit 71 rfl) (tell_miss h (show X.env.scope.names.lookup ("BadPath" : Str) = some .globalImplicit by rw [hS]; rfl) (by rw [hM]; exact H.glo 7 rfl) rfl (by rw [hK]; exact H.kit 70 rfl) (tell_miss h (show X.env.scope.names.lookup ("BadPlace" : Str) = some .globalImplicit by rw [hS]; rfl) (by rw [hM]; exact H.glo 52 rfl) rfl (by rw [hK]; exact H.kit 69 rfl) (tell_miss h (show X.env.scope.names.lookup ("BadMany" : Str) = some .globalImplicit by rw [hS]; rfl) (by rw [hM]; exact H.glo 50 rfl) rfl (by rw [hK]; exact H.kit 68 rfl) (tell_miss h (show X.env.scope.names.lookup ("BadLink" : Str) = some .globalImplicit by rw [hS]; rfl) (by rw [hM]; exact H.glo 48 rfl) rfl (by rw [hK]; exact H.kit 67 rfl) (tell_miss h (show X.env.scope.names.lookup ("BadKind" : Str) = some .globalImplicit by rw [hS]; rfl) (by rw [hM]; exact H.glo 46 rfl) rfl (by rw [hK]; exact H.kit 66 rfl) (tell_miss h (show X.env.scope.names.lookup ("BadText" : Str) = some .globalImplicit by rw [hS]; rfl) (by rw [hM]; exact H.glo 44 rfl) rfl (by rw [hK]; exact H.kit 65 rfl) (tell_miss h (show X.env.scope.names.lookup ("BadKept" : Str) = some .globalImplicit by rw [hS]; rfl) (by rw [hM]; exact H.glo 42 rfl) rfl (by rw [hK]; exact H.kit 64 rfl) (tell_go h (show FnE X.prog X.w X.K X.mg X.base (L2.CX X.prog X.w) 4 (ga K "_law_other_error") (fdOf K ("_law_other_error", none)) ["_law_e"] (.ref (ga K "BadNumber")) (some dd) (spT dd "number" "number") by rw [hP, hW, hK, hM, hB]; exact t1_BadNumber H dd) hr hot (show X.env.scope.names.lookup ("_law_other_error" : Str) = some .globalImplicit by rw [hS]; rfl) (by rw [hM]; exact H.glo 41 rfl) (by rw [hK]; exact (H.d 28 (d := dd__law_other_error) rfl).kp) (by rw [hK]; exact (funD_fun (st := s__law_other_error) (H.d 28 (d := dd__law_other_error) rfl)).binds (ps := ["_law_e"]) fun _ _ _ _ _ _ us hl => match us, hl with | [_], _ => rfl) tk rfl))))))))
def csl : List (Str × List Str) := [("BadManner", ["manner"]), ("BadPath", ["path"]), ("BadHand", ["index"]), ("BadNumber", ["number"]), ("Bridge", []), ("Board", []), ("Rooms", []), ("Teller", [])]
abbrev Ly (K : PySem.W.Frag) (TP : Addr) : Lay := layOf K csl [(TP, (("law" : Str) ++ (".<locals>." : Str) ++ ("<lambda>" : Str) : Str))]
def tbl (K : PySem.W.Frag) : Addr → Str → Str → Prop := fun D nm f => (D = ga K "BadManner" ∧ nm = "manner" ∧ f = "manner") ∨ (D = ga K "BadPath" ∧ nm = "path" ∧ f = "path") ∨ (D = ga K "BadHand" ∧ nm = "hand" ∧ f = "index") ∨ (D = ga K "BadNumber" ∧ nm = "number" ∧ f = "number")
theorem tbl_ex {K : PySem.W.Frag} {h : Heap} {mg : Str → Option Value} (H : Hd K h mg fcs dfs) (D : Addr) (nm f : Str) (h : tbl K D nm f) : PySem.W.exmOne K (.ref D) (.ref (ga K "PathError")) = some true := by
  rcases h with ⟨rfl, rfl, rfl⟩ | ⟨rfl, rfl, rfl⟩ | ⟨rfl, rfl, rfl⟩ | ⟨rfl, rfl, rfl⟩
  · exact H.exm 75 rfl
  · exact H.exm 76 rfl
  · exact H.exm 77 rfl
  · exact H.exm 78 rfl
theorem tbl_tl {P : Program} {w : World} {K : PySem.W.Frag} {h : Heap} {mg : Str → Option Value} {base : Heap} (H : Hd K h mg fcs dfs) (D : Addr) (nm f : Str) (h : tbl K D nm f) (dd : Addr) : FnE P w K mg base (L2.CX P w) 6 (ga K "_law_error") (fdOf K ("_law_error", none)) ["_law_e"] (.ref D) (some dd) (spT dd nm f) := by
  rcases h with ⟨rfl, rfl, rfl⟩ | ⟨rfl, rfl, rfl⟩ | ⟨rfl, rfl, rfl⟩ | ⟨rfl, rfl, rfl⟩
  · exact (t0_BadManner H dd).mono (by decide)
  · exact (t0_BadPath H dd).mono (by decide)
  · exact (t0_BadHand H dd).mono (by decide)
  · exact (t0_BadNumber H dd).mono (by decide)
theorem trd {P : Program} {w : World} {K : PySem.W.Frag} {h : Heap} {mg : Str → Option Value} {base : Heap} {c TP : Addr} (H : Hd K h mg fcs dfs) (TB : TabB base mg c TP) : TrdOk P w K mg base (Ly K TP) prog "law" "law" (fAd K ("law", none)) (defScope s_law) (.ref c) ["_law_script", "_law_state", "_law_turn", "_law_odd", "_law_wrong", "_law_hands", "_law_index", "_law_right", "_law_found", "_law_due", "_law_manner", "_law_bad", "_law_number", "_law_none"] "_law_tried" :=
  trdOk_of (tbl := tbl K) (stT := s__law_tried) (fdT := fdOf K ("_law_tried", none)) (cdT := (fdOf K ("_law_tried", none)).code) (Ng := ["_law_deed", "_law_e"]) (a := "_law_deed") (e := "_law_e") (cn := "PathError") (gn := "_law_error") (ok := "told") (by decide +kernel) (fun c ds d0 h => match c, ds, h with
      | 0, [d], h => by cases h; exact ⟨[109, 97, 110, 110, 101, 114], "manner", d, rfl, rfl, .inl (⟨rfl, by decide +kernel, rfl⟩), rfl⟩
      | 1, [d], h => by cases h; exact ⟨[112, 97, 116, 104], "path", d, rfl, rfl, .inr (.inl (⟨rfl, by decide +kernel, rfl⟩)), rfl⟩
      | 2, [d], h => by cases h; exact ⟨[104, 97, 110, 100], "index", d, rfl, rfl, .inr (.inr (.inl (⟨rfl, by decide +kernel, rfl⟩))), rfl⟩
      | 3, [d], h => by cases h; exact ⟨[110, 117, 109, 98, 101, 114], "number", d, rfl, rfl, .inr (.inr (.inr (⟨rfl, by decide +kernel, rfl⟩))), rfl⟩
      )
    (by decide +kernel) (by decide +kernel) (H.glo 72 rfl) (H.d 30 (d := dd__law_tried) rfl).kp (funD_funC (H.d 30 (d := dd__law_tried) rfl)) rfl ((funD_fun (st := s__law_tried) (H.d 30 (d := dd__law_tried) rfl)).binds (ps := ["_law_deed"]) fun _ _ _ _ _ _ us hl => match us, hl with | [_], _ => rfl) sc__law_tried rfl rfl (.inl (by decide +kernel)) (by decide +kernel) (by decide +kernel) (by decide +kernel)
    (by decide +kernel) (H.glo 73 rfl) (by decide +kernel) (by decide +kernel) (H.glo 74 rfl) (by decide +kernel) (H.d 27 (d := dd__law_error) rfl).kp ((funD_fun (st := s__law_error) (H.d 27 (d := dd__law_error) rfl)).binds (ps := ["_law_e"]) fun _ _ _ _ _ _ us hl => match us, hl with | [_], _ => rfl) (tbl_ex H) (tbl_tl H) TB (List.mem_singleton.mpr rfl) (fun q hq _ => by rw [List.mem_singleton.mp hq])
theorem si_BadManner : FnScope ["self", "manner"] ["self", "manner"] (defScope s_BadManner_init) := ⟨rfl, rfl, rfl, by decide +kernel, rfl, by decide +kernel, by decide +kernel⟩
theorem si_BadPath : FnScope ["self", "path"] ["self", "path"] (defScope s_BadPath_init) := ⟨rfl, rfl, rfl, by decide +kernel, rfl, by decide +kernel, by decide +kernel⟩
theorem si_BadHand : FnScope ["self", "index"] ["self", "index"] (defScope s_BadHand_init) := ⟨rfl, rfl, rfl, by decide +kernel, rfl, by decide +kernel, by decide +kernel⟩
theorem si_BadNumber : FnScope ["self", "number"] ["self", "number"] (defScope s_BadNumber_init) := ⟨rfl, rfl, rfl, by decide +kernel, rfl, by decide +kernel, by decide +kernel⟩
end Md
set_option Elab.async false
set_option linter.all false
set_option maxRecDepth 100000
set_option maxHeartbeats 0
namespace Md
open PySem PySem.Spec PyProof.Rows L2 L2H XV LamX He
theorem mdl {P : Program} {w : World} {K : PySem.W.Frag} {h : Heap} {mg : Str → Option Value} {base : Heap} {TP : Addr} (H : Hd K h mg fcs dfs) (TT : TrdOk P w K mg base (Ly K TP) prog "law" "law" (fAd K ("law", none)) (defScope s_law) (fdOf K ("law", none)).code ["_law_script", "_law_state", "_law_turn", "_law_odd", "_law_wrong", "_law_hands", "_law_index", "_law_right", "_law_found", "_law_due", "_law_manner", "_law_bad", "_law_number", "_law_none"] "_law_tried") : Mdl P w K mg base (Ly K TP) prog glb where
  bl := fun x hx => ((all_cons (H.free 102 rfl)
    (all_cons (H.free 103 rfl)
    (all_cons (H.free 104 rfl)
    (all_cons (H.free 105 rfl)
    (all_cons (H.free 106 rfl)
    (all_cons (H.free 107 rfl)
    (all_cons (H.free 108 rfl)
    (all_cons (H.free 109 rfl)
    (all_cons (H.free 2 rfl)
    (all_cons (H.free 110 rfl)
    (all_cons (H.free 111 rfl)
    (all_cons (H.free 112 rfl)
    (all_cons (H.free 113 rfl)
    (all_cons (H.free 114 rfl)
    (all_cons (H.free 115 rfl)
    (all_cons (H.free 116 rfl)
    all_nil)))))))))))))))) : ∀ q ∈ glb.bl, mg q = none) x (List.contains_iff_mem.mp hx)
  tys := fun y m hy => ((all_cons ⟨H.free 113 rfl, by decide +kernel, by decide⟩
    (all_cons ⟨H.free 106 rfl, by decide +kernel, by decide⟩
    (all_cons ⟨H.free 114 rfl, by decide +kernel, by decide⟩
    (all_cons ⟨H.free 115 rfl, by decide +kernel, by decide⟩
    (all_cons ⟨H.free 103 rfl, by decide +kernel, by decide⟩
    (all_cons ⟨H.free 116 rfl, by decide +kernel, by decide⟩
    all_nil)))))) : ∀ q ∈ glb.tys, mg q.1 = none ∧ bootBuiltins q.1 = some (.type q.2) ∧ q.1 ≠ "__name__") (y, m) (lookup_mem hy)
  fns := fun x i hx => ((all_cons ⟨_, _, _, (d_is_manner H), H.glo 79 rfl⟩
    (all_cons ⟨_, _, _, (d_is_list H), H.glo 80 rfl⟩
    (all_cons ⟨_, _, _, (d_is_number H), H.glo 81 rfl⟩
    (all_cons ⟨_, _, _, (d_is_rising H), H.glo 82 rfl⟩
    (all_cons ⟨_, _, _, (d_is_path H), H.glo 83 rfl⟩
    (all_cons ⟨_, _, _, (d__is_plain_path H), H.glo 84 rfl⟩
    (all_cons ⟨_, _, _, (d__is_marked_path H), H.glo 85 rfl⟩
    (all_cons ⟨_, _, _, (d__steps H), H.glo 86 rfl⟩
    (all_cons ⟨_, _, _, (d__marks H), H.glo 87 rfl⟩
    (all_cons ⟨_, _, _, (d_check_paths H), H.glo 88 rfl⟩
    (all_cons ⟨_, _, _, (d_telling H), H.glo 89 rfl⟩
    (all_cons ⟨_, _, _, (d_is_safe H), H.glo 90 rfl⟩
    (all_cons ⟨_, _, _, (d_grants H), H.glo 91 rfl⟩
    (all_cons ⟨_, _, _, (d__check_hands H), H.glo 92 rfl⟩
    (all_cons ⟨_, _, _, (d__is_hand H), H.glo 93 rfl⟩
    (all_cons ⟨_, _, _, (d__check_all H), H.glo 94 rfl⟩
    (all_cons ⟨_, _, _, (d__menu_of H), H.glo 95 rfl⟩
    (all_cons ⟨_, _, _, (d__law_fresh H), H.glo 96 rfl⟩
    (all_cons ⟨_, _, _, (d__law_fill H), H.glo 97 rfl⟩
    (all_cons ⟨_, _, _, (d__law_take H), H.glo 98 rfl⟩
    (all_cons ⟨_, _, _, (d__law_one H), H.glo 99 rfl⟩
    (all_cons ⟨_, _, _, (d__law_same H), H.glo 100 rfl⟩
    (all_cons ⟨_, _, _, (d_law H TT), H.glo 101 rfl⟩
    all_nil))))))))))))))))))))))) : ∀ q ∈ glb.fns, ∃ f fd ps, DefOk P w K mg base (Ly K TP) prog glb q.2 f fd ps ∧ mg q.1 = some (.ref f)) (x, i) (lookup_mem hx)
  gks := fun x n hx => ((all_cons (H.tups 117 (ls := [[97, 110, 121], [109, 97, 116, 99, 104, 101, 100], [116, 117, 114, 110, 101, 100]]) rfl rfl)
    (all_cons (H.str 118 rfl rfl)
    (all_cons (H.str 119 rfl rfl)
    (all_cons (H.str 120 rfl rfl)
    (all_cons (H.int 121 rfl rfl)
    (all_cons (H.int 122 rfl rfl)
    all_nil)))))) : ∀ q ∈ glb.gks, ∃ u d v, mg q.1 = some u ∧ RelV v u ∧ prog.gk[q.2]? = some d ∧ ∀ G r, Rep K (Ly K TP) G r d v) (x, n) (lookup_mem hx)
  errs := fun x c hx => ((all_cons (errH (c := 0) (st := s_BadManner_init) H (i := 1) rfl rfl rfl (H.d 23 (d := dd_BadManner_init) rfl) si_BadManner rfl rfl rfl rfl rfl (fun _ _ _ _ _ _ us hl => match us, hl with | [_, _], _ => rfl))
    (all_cons (errH (c := 1) (st := s_BadPath_init) H (i := 6) rfl rfl rfl (H.d 24 (d := dd_BadPath_init) rfl) si_BadPath rfl rfl rfl rfl rfl (fun _ _ _ _ _ _ us hl => match us, hl with | [_, _], _ => rfl))
    (all_cons (errH (c := 2) (st := s_BadHand_init) H (i := 11) rfl rfl rfl (H.d 25 (d := dd_BadHand_init) rfl) si_BadHand rfl rfl rfl rfl rfl (fun _ _ _ _ _ _ us hl => match us, hl with | [_, _], _ => rfl))
    (all_cons (errH (c := 3) (st := s_BadNumber_init) H (i := 57) rfl rfl rfl (H.d 26 (d := dd_BadNumber_init) rfl) si_BadNumber rfl rfl rfl rfl rfl (fun _ _ _ _ _ _ us hl => match us, hl with | [_, _], _ => rfl))
    all_nil)))) : ∀ q ∈ glb.errs, ∃ f fI fd ps, OexC K ((Ly K TP).cls q.2) ∧ (Ly K TP).fld q.2 = [f] ∧ PySem.W.findIn K (.ref ((Ly K TP).cls q.2)) "__init__" = some (some (.ref fI)) ∧ PySem.W.typeIn K (.ref fI) = some (.type "function") ∧ FnOk P w K mg base (L2.CX P w) 1 fI fd ps (spIx ((Ly K TP).cls q.2) f) ∧ Binds K fd ps [] ∧ mg q.1 = some (.ref ((Ly K TP).cls q.2))) (x, c) (lookup_mem hx)
  cls := flds_of (p := prog) (l := [(4, "index"), (4, "start"), (4, "end"), (4, "cover"), (5, "goal"), (5, "whole"), (5, "bridges"), (6, "_moves"), (6, "_same"), (7, "_turned"), (7, "_menu"), (7, "_paths"), (7, "_boards")]) (Q := fun c f => Cls K ((Ly K TP).cls c) ∧ NoAttr K ((Ly K TP).cls c) f) rfl (all_cons ⟨H.cls 123 rfl, H.noat 124 rfl⟩
    (all_cons ⟨H.cls 123 rfl, H.noat 125 rfl⟩
    (all_cons ⟨H.cls 123 rfl, H.noat 126 rfl⟩
    (all_cons ⟨H.cls 123 rfl, H.noat 127 rfl⟩
    (all_cons ⟨H.cls 128 rfl, H.noat 129 rfl⟩
    (all_cons ⟨H.cls 128 rfl, H.noat 130 rfl⟩
    (all_cons ⟨H.cls 128 rfl, H.noat 131 rfl⟩
    (all_cons ⟨H.cls 132 rfl, H.noat 133 rfl⟩
    (all_cons ⟨H.cls 132 rfl, H.noat 134 rfl⟩
    (all_cons ⟨H.cls 135 rfl, H.noat 136 rfl⟩
    (all_cons ⟨H.cls 135 rfl, H.noat 137 rfl⟩
    (all_cons ⟨H.cls 135 rfl, H.noat 138 rfl⟩
    (all_cons ⟨H.cls 135 rfl, H.noat 139 rfl⟩
    all_nil)))))))))))))
  mths := meths_of (p := prog) (l := []) (Q := fun c m i => ∃ f fd ps, DefOk P w K mg base (Ly K TP) prog glb i f fd ps ∧ Cls K ((Ly K TP).cls c) ∧ Meth K ((Ly K TP).cls c) m f) rfl all_nil
  news := fun x c hx => (all_nil : ∀ q ∈ glb.news, ∃ i f fd ps, prog.inits[q.2]? = some (some i) ∧ DefOk P w K mg base (Ly K TP) prog glb i f fd ps ∧ Mk K ((Ly K TP).cls q.2) f ∧ mg q.1 = some (.ref ((Ly K TP).cls q.2))) (x, c) (lookup_mem hx)
  isc := fun x c hx => (all_nil : ∀ q ∈ glb.iscs, IsC K ((Ly K TP).cls q.2) ∧ mg q.1 = some (.ref ((Ly K TP).cls q.2))) (x, c) (lookup_mem hx)
  nec := fun c f _ h => absurd h (by decide)
  itr := fun c f hx => (all_nil : ∀ q ∈ glb.itrs, Cls K ((Ly K TP).cls q.1) ∧ NoAttr K ((Ly K TP).cls q.1) q.2 ∧ ∃ fa fd ps, Meth K ((Ly K TP).cls q.1) "__iter__" fa ∧ FnN P w K mg base (L2.CX P w) 1 fa fd ps (spIter K q.2) ∧ Binds K fd ps []) (c, f) (lookup_memN hx)
  kfns := fun x i hx => nomatch hx
  exs := fun x q hx => nomatch hx
  ex0 := fun x c hx => nomatch hx
  exf := fun c f hx => nomatch hx
  kits := fun y tbl hx => nomatch hx
theorem fin {w : World} {K : PySem.W.Frag} {h : Heap} {mg : Str → Option Value} {fa : Addr} (R : ∀ ns : List Int, ns.length ≤ 63 → ∃ cs, prog.run 12 false 54 [.scr ns] [] = .ok (.bl true) cs) (KX : K.In h) (G : h.Ns mainGlobals mg) (hfa : mg "law" = some (.ref fa)) (c : SaysX [] dfs [] [("law", none)] (fun K => fcs.all (Fc.ok K)) w h K) :
  LamX.LawAtS PySem.Challenge.rw_toldpaths_k80_hands_refused w K (L2.CX PySem.Challenge.rw_toldpaths_k80_hands_refused.prog w) (10 * 12) 63 "_law_script" mg fa h := by
  have H := hd_of KX G c
  have e := hfa.symm.trans (H.glo 101 rfl)
  cases e
  refine law_fin (L := Ly K (tabOf K (codeOf K ("law", none)))) (p := prog) (g := glb) (i := 54) (nm := "law") R c KX (fun s u => ((H.d 22 (d := dd_law) rfl).bindsA (ps := ["_law_script"]) (fun _ _ _ _ _ _ us hl => match us, hl with | [_], _ => rfl)) s [u] rfl) (fun q hq => by rw [List.mem_singleton.mp hq]; exact List.mem_singleton.mpr rfl) fun base h3 => ?_
  have TT := trd (P := PySem.Challenge.rw_toldpaths_k80_hands_refused.prog) (w := w) (base := base) H (h3 (cT K ("law", none)) (List.mem_singleton.mpr rfl))
  have TT : TrdOk PySem.Challenge.rw_toldpaths_k80_hands_refused.prog w K mg base (Ly K (tabOf K (codeOf K ("law", none)))) prog "law" "law" (fAd K ("law", none)) (defScope s_law) (fdOf K ("law", none)).code ["_law_script", "_law_state", "_law_turn", "_law_odd", "_law_wrong", "_law_hands", "_law_index", "_law_right", "_law_found", "_law_due", "_law_manner", "_law_bad", "_law_number", "_law_none"] "_law_tried" := by
    rw [code_ref (st := s_law) (p := ("law", none)) (H.d 22 (d := dd_law) rfl)]
    exact TT
  exact ⟨mdl H TT, (d_law H TT)⟩
end Md
set_option Elab.async false
set_option linter.all false
set_option maxRecDepth 100000
set_option maxHeartbeats 0
namespace HeadT
open PySem PySem.W PySem.Calls PyProof.Rows
abbrev R : OpenRow := OpenLaw.row PySem.Challenge.rw_toldpaths_k80_hands_refused
abbrev qv : Program := view R.prog [102]
def nm0 : List PySem.Str := ["_wall", "MANNERS", "SMALL", "LETTERS", "DIGITS", "is_manner", "is_list", "is_number", "is_rising", "PathError", "BadManner", "BadPath"]
def nm1 : List PySem.Str := ["BadPlace", "BadMany", "BadLink", "BadKind", "BadText", "BadKept", "BadIndex", "BadPlan", "BadAnswers", "BadBook", "BadMachine", "BadNumber"]
def nm2 : List PySem.Str := ["FullDesk", "BadReading", "IsTold", "BadLetter", "BadGroup", "BadFact", "HasStore", "NoStore", "BadThing", "BadMoment", "BadHand", "BadPiece"]
def nm3 : List PySem.Str := ["is_path", "steps", "marks", "reduced", "tree", "_is_some_path", "_is_plain_path", "_is_marked_path", "_steps", "_marks", "_beginnings", "reduced_row"]
def nm4 : List PySem.Str := ["stepped", "Bridge", "Board", "board_of", "hanging", "covered", "_line_board", "_fit", "_is_within", "_tree_board", "_laid", "explored"]
def nm5 : List PySem.Str := ["explored_from", "led", "Rooms", "rows_of_paths", "is_home", "numbered", "_pruned", "Teller", "check_paths", "indices_of", "MOST_HANDS", "MOST_KNOWN"]
def nm6 : List PySem.Str := ["telling", "is_safe", "grants", "_check_hands", "_is_hand", "_check_all", "_menu_of", "_known_by", "_known_together", "_is_safe_by", "_law_fresh", "_law_fill"]
def nm7 : List PySem.Str := ["_law_take", "_law_one", "_law_same", "_law_tried", "_law_error", "_law_other_error", "_law_later_error"]
def names : List PySem.Str := nm0 ++ nm1 ++ nm2 ++ nm3 ++ nm4 ++ nm5 ++ nm6 ++ nm7
def as_ : List Addr := [3, 6, 4, 21, 22, 29, 36, 43, 48, 65, 85, 104, 123, 142, 161, 180, 199, 218, 237, 256, 275, 294, 313, 332, 344, 363, 382, 401, 420, 439, 451, 463, 482, 501, 520, 539, 548, 555, 562, 569] ++
  [576, 583, 588, 593, 598, 605, 612, 619, 626, 643, 669, 680, 687, 694, 701, 708, 713, 718, 725, 732, 737, 744, 822, 833, 840, 847, 852, 893, 904, 909, 914, 921, 926, 933, 938, 945, 950, 955, 962, 967] ++
  [974, 981, 988, 995, 1000, 1007, 1014, 1021, 1028, 1035, 0, 20, 28, 35, 42, 47, 64, 84, 103, 122, 141, 160, 179, 198, 217, 236, 255, 274, 293, 312, 331, 343, 362, 381, 400, 419, 438, 450, 462, 481] ++
  [500, 519, 538, 547, 554, 561, 568, 575, 582, 587, 592, 597, 604, 611, 618, 625, 642, 668, 679, 686, 693, 700, 707, 712, 717, 724, 731, 736, 743, 821, 832, 839, 846, 851, 892, 903, 908, 913, 920, 925] ++
  [932, 937, 944, 949, 954, 961, 966, 973, 980, 987, 994, 999, 1006, 1013, 1020, 1027, 1034, 15, 16, 17, 18, 19, 23, 24, 25, 26, 27, 30, 31, 32, 33, 34, 37, 38, 39, 40, 41, 44, 45, 46] ++
  [62, 63, 66, 82, 83, 101, 102, 120, 121, 139, 140, 158, 159, 177, 178, 196, 197, 215, 216, 234, 235, 253, 254, 272, 273, 291, 292, 310, 311, 329, 330, 342, 360, 361, 379, 380, 398, 399, 417, 418] ++
  [436, 437, 449, 461, 479, 480, 498, 499, 517, 518, 536, 537, 542, 543, 544, 545, 546, 549, 550, 551, 552, 553, 556, 557, 558, 559, 560, 563, 564, 565, 566, 567, 570, 571, 572, 573, 574, 577, 578, 579] ++
  [580, 581, 584, 585, 586, 589, 590, 591, 594, 595, 596, 599, 600, 601, 602, 603, 606, 607, 608, 609, 610, 613, 614, 615, 616, 617, 620, 621, 622, 623, 624, 640, 641, 644, 645, 661, 666, 667, 670, 671] ++
  [674, 675, 676, 677, 678, 681, 682, 683, 684, 685, 688, 689, 690, 691, 692, 695, 696, 697, 698, 699, 702, 703, 704, 705, 706, 709, 710, 711, 714, 715, 716, 719, 720, 721, 722, 723, 726, 727, 728, 729] ++
  [730, 733, 734, 735, 738, 739, 740, 741, 742, 758, 765, 772, 779, 786, 791, 798, 805, 812, 819, 820, 823, 824, 827, 828, 829, 830, 831, 834, 835, 836, 837, 838, 841, 842, 843, 844, 845, 848, 849, 850] ++
  [864, 871, 878, 885, 890, 891, 894, 895, 898, 899, 900, 901, 902, 905, 906, 907, 910, 911, 912, 915, 916, 917, 918, 919, 922, 923, 924, 927, 928, 929, 930, 931, 934, 935, 936, 939, 940, 941, 942, 943] ++
  [946, 947, 948, 951, 952, 953, 956, 957, 958, 959, 960, 963, 964, 965, 968, 969, 970, 971, 972, 975, 976, 977, 978, 979, 982, 983, 984, 985, 986, 989, 990, 991, 992, 993, 996, 997, 998, 1001, 1002, 1003] ++
  [1004, 1005, 1008, 1009, 1010, 1011, 1012, 1015, 1016, 1017, 1018, 1019, 1022, 1023, 1024, 1025, 1026, 1029, 1030, 1031, 1032, 1033, 61, 81, 100, 119, 138, 157, 176, 195, 214, 233, 252, 271, 290, 309, 328, 359, 378, 397] ++
  [416, 435, 478, 497, 516, 535, 639, 660, 665, 757, 764, 771, 778, 785, 790, 797, 804, 811, 818, 863, 870, 877, 884, 889]
abbrev hk : PySem.W.Hook := XV.hookY as_ Md.dfs [("law", none)] (fun K => Md.fcs.all (XV.Fc.ok K))
def ob (s : PySem.W.SharedT) : He.AlT × (Bool × Bool) := (He.obsT [] Md.dfs [] (He.frT (HandSHeadRun.getT s) as_), Md.fcs.all (XV.Fc.ok (He.frT (HandSHeadRun.getT s) as_)), He.tabsB (HandSHeadRun.getT s) [("law", none)] (He.frT (HandSHeadRun.getT s) as_))
theorem ob_eq (s : PySem.W.SharedT) : ob s = hk.obs s.abs := by
  have e : HandSHeadRun.getT s = s.abs.heap.get? := funext (HandSHeadRun.getT_eq s)
  show (_, _, _) = (_, _, _)
  rw [e]
theorem runA (w : World) (os : OsState) : (HandSHeadRun.endF (HandSHeadRun.stepQ (HandSHeadRun.denQ HandSHeadRun.tabQ) R.prog w) 20000 R.prog w os).map (fun s => HandSHeadRun.looksF R.prog (boot_heap w.params) s.abs) = some true := by
  kernel_rfl
theorem runB (w : World) (os : OsState) : (HandSHeadRun.endF (HandSHeadRun.stepQ (HandSHeadRun.denQ HandSHeadRun.tabQ) R.prog w) 20000 R.prog w os).map (fun s => HandSHeadRun.seenQ qv names (importedModules R.prog.main.body) (fun s => xlAt qv [] s && recOk R.toRowW.records s) s.abs) = some (openGood qv names) := by
  kernel_rfl
theorem runC1 (w : World) (os : OsState) : (HandSHeadRun.endF (HandSHeadRun.stepQ (HandSHeadRun.denQ HandSHeadRun.tabQ) R.prog w) 20000 R.prog w os).map (fun s => (ob s).1) = some (hk.val w).1 := by
  kernel_rfl
theorem runC2 (w : World) (os : OsState) : (HandSHeadRun.endF (HandSHeadRun.stepQ (HandSHeadRun.denQ HandSHeadRun.tabQ) R.prog w) 20000 R.prog w os).map (fun s => (ob s).2.1) = some (hk.val w).2.1 := by
  kernel_rfl
theorem runC3 (w : World) (os : OsState) : (HandSHeadRun.endF (HandSHeadRun.stepQ (HandSHeadRun.denQ HandSHeadRun.tabQ) R.prog w) 20000 R.prog w os).map (fun s => (ob s).2.2) = some (hk.val w).2.2 := by
  kernel_rfl
theorem runC (w : World) (os : OsState) : (HandSHeadRun.endF (HandSHeadRun.stepQ (HandSHeadRun.denQ HandSHeadRun.tabQ) R.prog w) 20000 R.prog w os).map ob = some (hk.val w) := by
  have a := runC1 w os
  have b := runC2 w os
  have c := runC3 w os
  revert a b c
  generalize (HandSHeadRun.endF (HandSHeadRun.stepQ (HandSHeadRun.denQ HandSHeadRun.tabQ) R.prog w) 20000 R.prog w os) = x
  intro a b c
  cases x with
  | none => cases a
  | some s => exact congrArg some (Prod.ext (Option.some.inj a) (Prod.ext (Option.some.inj b) (Option.some.inj c)))
theorem run (w : World) : HandSHeadRun.RunEq R qv hk ob 20000 names w := XV.runEq_of (runA w) (runB w) (runC w)
end HeadT
set_option Elab.async false
set_option linter.all false
set_option maxRecDepth 100000
namespace Md
open PySem XV
abbrev stt (xs : List Int) (nth reg : Int) (low : Bool) : C := .lst [.lst (xs.map .int), .int nth, .int reg, .bl low]
theorem run_fn {p : Prog} {k f : Nat} {ds : List D} {cs : List C} {fn : Fn} (h : p.fns[f]? = some fn) (hl : ds.length = fn.np) : p.run (k + 1) false f ds cs = ends (evSs (p.cfg (p.run k)) p.fu fn.body (XV.start fn ds) cs) := by
  unfold Prog.run
  simp only [h]
  rw [if_pos hl]
theorem r_fresh (k : Nat) (ns : List Int) (cs : List C) : prog.run (k + 1) false i__law_fresh [.scr ns] cs = .ok (.ref cs.length) (cs ++ [stt (cutL ns none (some 63)) 0 0 false]) := by
  simp [Prog.run, prog, b__law_fresh, evSs, evS, evE, evTs, evP, XV.start, ends, ofO, slcD, top, LIM]
theorem at_emod {xs : List Int} {n : Int} (h : xs ≠ []) : ∃ x, L2.atI (xs.map D.int) (n % (xs.length : Int)) = some (.int x) := by
  have hl : 0 < xs.length := List.length_pos_iff.mpr h
  have h1 : 0 ≤ n % (xs.length : Int) := Int.emod_nonneg _ (by omega)
  have h2 : n % (xs.length : Int) < xs.length := Int.emod_lt_of_pos _ (by omega)
  obtain ⟨j, hj⟩ : ∃ j : Nat, n % (xs.length : Int) = j := ⟨(n % (xs.length : Int)).toNat, by omega⟩
  rw [hj]
  have hjl : j < xs.length := by omega
  refine ⟨xs[j], ?_⟩
  exact L2.atI_nat (by simp [hjl])

theorem setD_ref {cs : List C} {c : Nat} {ds : List D} {k : Int} {j : Nat} {d : D} (h : cs[c]? = some (.lst ds)) (hj : L2.ixN ds.length k = some j) : setD cs (.ref c) (.int k) d = some (cs.set c (.lst (ds.set j d))) := by
  unfold setD
  simp only [h, hj, Option.map_some]
theorem get_set {cs : List C} {c : Nat} {x y : C} (h : cs[c]? = some x) : (cs.set c y)[c]? = some y := by
  rw [List.getElem?_set_self (List.getElem?_eq_some_iff.mp h).1]

theorem pow18 : (10 : Int) ^ 18 = 1000000000000000000 := by decide
abbrev fenv (c : Nat) (seed : Int) (cells : List Int) (nth : Int) (a b e : SV) : List SV := [.d (.ref c), .d (.int seed), .d (.lst (cells.map .int)), .d (.int nth), a, b, e]
theorem fill_turn (k c : Nat) (xs : List Int) (nth reg seed i p : Int) (cs : List C) (a b e : SV) (hc : cs[c]? = some (stt xs nth reg true)) (hi : 0 ≤ i ∧ i < 1000) (hp : 0 < p ∧ p < 4294967296) (cells : List Int) (n2 : Int) (hr : 0 ≤ reg) :
    ∃ reg' f, 0 ≤ reg' ∧ evSs (prog.cfg (prog.run k)) 100 q0__law_fill (fenv c seed cells n2 (.d (.int i)) (.d (.int p)) e) cs = .nx (fenv c seed cells n2 (.d (.int i)) (.d (.int p)) (.d (.int f))) (cs.set c (stt xs nth reg' true)) := by
  have hm : ∀ z : Int, 0 ≤ z % p ∧ z % p < p := fun z => ⟨Int.emod_nonneg _ (by omega), Int.emod_lt_of_pos _ hp.1⟩
  generalize hz : (seed + 10007 * i * i + 101 * i) * (48271 + 2 * i) = z
  refine ⟨reg * p + (z % p) ^ 5 % p, z % p, ?_, ?_⟩
  · have h1 := (hm ((z % p) ^ 5)).1
    have h2 : 0 ≤ reg * p := Int.mul_nonneg hr (by omega)
    omega
  · have b1 : (z % p).natAbs < 18446744073709551616 := by
      have := hm z
      omega
    have b2 : -18446744073709551616 < 48271 + 2 * i ∧ 48271 + 2 * i < 18446744073709551616 := by omega
    have b3 : -18446744073709551616 < p ∧ p < 18446744073709551616 := by omega
    have b4 : (-18446744073709551616 < i ∧ i < 18446744073709551616) := by omega
    simp [q0__law_fill, evSs, evS, evE, evTs, ofO, top, ixD, L2.atI, L2.ixN, binD, addD, mulD, intD, biD, one1, int1D, asgT, setD, hc, hp.1, b1, b2, b3, b4, hz]

theorem fill_loop (k c : Nat) (xs : List Int) (nth seed : Int) (cells : List Int) (n2 : Int) : ∀ (ps : List (Int × Int)), (∀ q ∈ ps, (0 ≤ q.1 ∧ q.1 < 1000) ∧ 0 < q.2 ∧ q.2 < 4294967296) → ∀ (reg : Int) (a b e : SV) (cs : List C), cs[c]? = some (stt xs nth reg true) → 0 ≤ reg →
    ∃ reg' a' b' e', 0 ≤ reg' ∧ forL (fun env cs => evSs (prog.cfg (prog.run k)) 100 q0__law_fill env cs) (.tup [.nm 4, .nm 5]) (ps.map fun q => .tup [.int q.1, .int q.2]) (fenv c seed cells n2 a b e) cs = .nx (fenv c seed cells n2 a' b' e') (cs.set c (stt xs nth reg' true))
  | [], _, reg, a, b, e, cs, hc, hr => by
    refine ⟨reg, a, b, e, hr, ?_⟩
    have : cs.set c (stt xs nth reg true) = cs := by
      apply List.ext_getElem?
      intro i
      by_cases hi : c = i
      · subst hi; rw [get_set hc, hc]
      · rw [List.getElem?_set_ne hi]
    rw [this]
    rfl
  | (i, p) :: ps, h, reg, a, b, e, cs, hc, hr => by
    obtain ⟨h1, h2⟩ := h (i, p) (by simp)
    obtain ⟨reg1, f, hr1, e1⟩ := fill_turn k c xs nth reg seed i p cs a b e hc h1 h2 cells n2 hr
    obtain ⟨reg2, a', b', e', hr2, e2⟩ := fill_loop k c xs nth seed cells n2 ps (fun q hq => h q (by simp [hq])) reg1 (.d (.int i)) (.d (.int p)) (.d (.int f)) (cs.set c (stt xs nth reg1 true)) (get_set hc) hr1
    refine ⟨reg2, a', b', e', hr2, ?_⟩
    rw [List.map_cons]
    unfold forL
    have ha : asgT (.tup [.nm 4, .nm 5]) (.tup [.int i, .int p]) (fenv c seed cells n2 a b e) = some (fenv c seed cells n2 (.d (.int i)) (.d (.int p)) e) := by simp [asgT, asgTs]
    rw [ha]
    simp only
    rw [e1]
    simp only [Fl.turn_nx]
    rw [e2, List.set_set]

def fillTail : Ss := (.cons (.setIx (.v 0) (.k (.int 1)) (.bin .add (.v 3) (.k (.int 1)))) (.cons (.setIx (.v 0) (.k (.int 3)) (.or (.cmp .GtE (.v 3) (.bi .len (.cons (.v 2) .nil))) (.cmp .Lt (.v 1) (.bin .pow (.k (.int 10)) (.k (.int 18)))))) (.cons (.setIx (.v 0) (.k (.int 2)) (.bin .sub (.v 1) (.bin .pow (.k (.int 10)) (.k (.int 18))))) (.cons (.iff (.ix (.v 0) (.k (.int 3))) (.cons (.setIx (.v 0) (.k (.int 2)) (.k (.int 0))) (.cons (.forr (.enum (.tup (.cons (.k (.int 2147483647)) (.cons (.k (.int 2147483629)) (.cons (.k (.int 2147483587)) (.cons (.k (.int 2147483579)) (.cons (.k (.int 2147483563)) .nil))))))) (.tup [(.nm 4), (.nm 5)]) q0__law_fill) .nil)) .nil) .nil))))
theorem fill_split : ∃ a b c, b__law_fill = .cons a (.cons b (.cons c fillTail)) := ⟨_, _, _, rfl⟩
def fillPs : List (Int × Int) := [(0, 2147483647), (1, 2147483629), (2, 2147483587), (3, 2147483579), (4, 2147483563)]
theorem fill_tail (k c : Nat) (xs : List Int) (nth reg seed : Int) (low : Bool) (cs : List C) (hc : cs[c]? = some (stt xs nth reg low)) (hx : xs.length ≤ 1000) : ∃ reg' low' env', 0 ≤ reg' ∧ evSs (prog.cfg (prog.run k)) 100 fillTail (fenv c seed xs nth .un .un .un) cs = .nx env' (cs.set c (stt xs (nth + 1) reg' low')) := by
  have hq : ∀ q ∈ fillPs, (0 ≤ q.1 ∧ q.1 < 1000) ∧ 0 < q.2 ∧ q.2 < 4294967296 := by decide
  by_cases hlow : (xs.length : Int) ≤ nth ∨ seed < 1000000000000000000
  · obtain ⟨reg', a', b', e', hr, hl⟩ := fill_loop k c xs (nth + 1) seed xs nth fillPs hq 0 .un .un .un (cs.set c (stt xs (nth + 1) 0 true)) (get_set hc) (Int.le_refl _)
    refine ⟨reg', true, fenv c seed xs nth a' b' e', hr, ?_⟩
    rw [List.set_set] at hl
    have hl2 : forL (evSs (prog.cfg (prog.run k)) 100 q0__law_fill) (.tup [.nm 4, .nm 5]) [.tup [.int 0, .int 2147483647], .tup [.int 1, .int 2147483629], .tup [.int 2, .int 2147483587], .tup [.int 3, .int 2147483579], .tup [.int 4, .int 2147483563]] (fenv c seed xs nth .un .un .un) (cs.set c (stt xs (nth + 1) 0 true)) = .nx (fenv c seed xs nth a' b' e') (cs.set c (stt xs (nth + 1) reg' true)) := hl
    by_cases h1 : (xs.length : Int) ≤ nth
    · simp [fillTail, evSs, evS, evI, evE, evTs, ofO, top, ixD, L2.atI, L2.ixN, binD, addD, mulD, intD, biD, one1, lenD, truD, cmpD, setD, hc, get_set hc, List.set_set, h1, lim, LIM, iterD]
      exact congrArg (fun z : Fl => (z.seq fun env' cs' => Fl.nx env' cs').seq fun env' cs' => Fl.nx env' cs') hl2
    · have h2 : seed < 1000000000000000000 := hlow.resolve_left h1
      simp [fillTail, evSs, evS, evI, evE, evTs, ofO, top, ixD, L2.atI, L2.ixN, binD, addD, mulD, intD, biD, one1, lenD, truD, cmpD, setD, hc, get_set hc, List.set_set, h1, h2, lim, LIM, iterD]
      exact congrArg (fun z : Fl => (z.seq fun env' cs' => Fl.nx env' cs').seq fun env' cs' => Fl.nx env' cs') hl2
  · obtain ⟨h1, h2⟩ := not_or.mp hlow
    refine ⟨seed - 1000000000000000000, false, fenv c seed xs nth .un .un .un, by omega, ?_⟩
    simp [fillTail, evSs, evS, evI, evE, evTs, ofO, top, ixD, L2.atI, L2.ixN, binD, addD, mulD, intD, biD, one1, lenD, truD, cmpD, setD, hc, get_set hc, List.set_set, h1, h2, lim, LIM, iterD]

theorem r_fill (k c : Nat) (xs : List Int) (nth reg : Int) (low : Bool) (cs : List C) (hc : cs[c]? = some (stt xs nth reg low)) (hx : xs.length ≤ 1000) : ∃ reg' low', 0 ≤ reg' ∧ prog.run (k + 1) false i__law_fill [.ref c] cs = .ok .non (cs.set c (stt xs (nth + 1) reg' low')) := by
  rw [run_fn (fn := ⟨1, 7, b__law_fill⟩) rfl rfl]
  obtain ⟨seed, hs⟩ : ∃ seed, ∀ rest, evSs (prog.cfg (prog.run k)) 100 b__law_fill (XV.start ⟨1, 7, b__law_fill⟩ [.ref c]) cs = evSs (prog.cfg (prog.run k)) 100 fillTail (fenv c seed xs nth .un .un .un) cs ∨ rest = false := by
    by_cases h0 : xs = []
    · subst h0
      refine ⟨31 * nth + 7, fun _ => .inl ?_⟩
      rw [show b__law_fill = .cons _ (.cons _ (.cons _ fillTail)) from rfl]
      simp [evSs, evS, evE, evTs, evPm, XV.start, ofO, top, ixD, L2.atI, L2.ixN, binD, addD, mulD, intD, biD, one1, lenD, truD, cmpD, asgT, hc]
      rfl
    · obtain ⟨x, hx1⟩ := @at_emod xs nth h0
      have hl : 0 < xs.length := List.length_pos_iff.mpr h0
      have e0 : L2.atI [D.lst (xs.map .int), .int nth, .int reg, .bl low] 0 = some (.lst (xs.map .int)) := rfl
      have e1 : L2.atI [D.lst (xs.map .int), .int nth, .int reg, .bl low] 1 = some (.int nth) := rfl
      have hb : (xs.length : Int) < 1073741824 := by omega
      have hl2 : (0 : Int) < xs.length := by omega
      refine ⟨104729 * (nth / xs.length) + x, fun _ => .inl ?_⟩
      rw [show b__law_fill = .cons _ (.cons _ (.cons _ fillTail)) from rfl]
      simp [evSs, evS, evE, evTs, evPm, XV.start, ofO, top, ixD, e0, e1, hx1, hb, hl2, hl, binD, addD, mulD, intD, biD, one1, lenD, int1D, truD, cmpD, asgT, hc]
      try rfl
  obtain ⟨reg', low', env', hr, e⟩ := fill_tail k c xs nth reg seed low cs hc hx
  refine ⟨reg', low', hr, ?_⟩
  rcases hs true with h | h
  · show ends (evSs _ 100 _ _ _) = _
    rw [h, e]
    rfl
  · cases h

theorem eqD_int {cs : List C} {a b : Int} : eqD cs (.int a) (.int b) = some (decide (a = b)) := by
  unfold eqD
  simp [top, D.py, SeqAt.shaped, PyData.eqv]
  refine ⟨⟨⟨rfl, by simp [PyData.depth]⟩, rfl, by simp [PyData.depth]⟩, ?_⟩
  by_cases h : a = b <;> simp [h]
abbrev tenv (c : Nat) (many laps : Int) (d : SV) : List SV := [.d (.ref c), .d (.int many), .d (.int laps), d]
theorem take_c (k c : Nat) (xs : List Int) (nth reg many laps : Int) (low : Bool) (cs : List C) (d : SV) (hc : cs[c]? = some (stt xs nth reg low)) (hm : 0 < many ∧ many < 536870912) : ∃ t : Bool, ((evE (prog.cfg (prog.run k)) q0__law_take (tenv c many laps d) cs).bind fun x cs1 => ofO (truD cs1 x) cs1) = .ok t cs ∧ (t = true → laps < 64) := by
  have e2 : L2.atI [D.lst (xs.map .int), .int nth, .int reg, .bl low] 2 = some (.int reg) := rfl
  have e3 : L2.atI [D.lst (xs.map .int), .int nth, .int reg, .bl low] 3 = some (.bl low) := rfl
  have b1 : -18446744073709551616 < many ∧ many < 18446744073709551616 := by omega
  by_cases h1 : laps < 64
  · by_cases h2 : reg = 0
    · refine ⟨true, ?_, fun _ => h1⟩
      subst h2
      simp [q0__law_take, evE, ofO, top, ixD, e2, e3, eqD_int, isD00, hc, truD, cmpD, h1]
    · cases low with
      | false =>
        refine ⟨false, ?_, fun z => by cases z⟩
        simp [q0__law_take, evE, ofO, top, ixD, e2, e3, eqD_int, isD00, hc, truD, cmpD, h1, h2]
      | true =>
        refine ⟨decide (reg < many * 4096), ?_, fun _ => h1⟩
        simp [q0__law_take, evE, ofO, top, ixD, e2, e3, eqD_int, isD00, hc, truD, cmpD, h1, h2, binD, mulD, b1]
  · refine ⟨false, ?_, fun z => by cases z⟩
    simp [q0__law_take, evE, ofO, top, cmpD, truD, h1]

theorem take_b (k c : Nat) (xs : List Int) (nth reg many laps : Int) (low : Bool) (cs : List C) (d : SV) (hc : cs[c]? = some (stt xs nth reg low)) (hx : xs.length ≤ 1000) (hm : 0 < many ∧ many < 536870912) :
    ∃ reg' low', 0 ≤ reg' ∧ evSs (prog.cfg (prog.run (k + 1))) 100 q1__law_take (tenv c many laps d) cs = .nx (tenv c many (laps + 1) d) (cs.set c (stt xs (nth + 1) reg' low')) := by
  obtain ⟨r1, l1, hr1, e1⟩ := r_fill k c xs nth reg low cs hc hx
  have hcall : (prog.cfg (prog.run (k + 1))).call i__law_fill [D.ref c] cs = .ok .non (cs.set c (stt xs (nth + 1) r1 l1)) := e1
  have hc1 : (cs.set c (stt xs (nth + 1) r1 l1))[c]? = some (stt xs (nth + 1) r1 l1) := get_set hc
  have e2 : L2.atI [D.lst (xs.map .int), .int (nth + 1), .int r1, .bl l1] 2 = some (.int r1) := rfl
  have e3 : L2.atI [D.lst (xs.map .int), .int (nth + 1), .int r1, .bl l1] 3 = some (.bl l1) := rfl
  have b1 : -18446744073709551616 < many ∧ many < 18446744073709551616 := by omega
  have hmod : 0 ≤ r1 % 4093 ∧ r1 % 4093 < 4093 := ⟨Int.emod_nonneg _ (by omega), Int.emod_lt_of_pos _ (by omega)⟩
  have b2 : -18446744073709551616 < 1 + r1 % 4093 ∧ 1 + r1 % 4093 < 18446744073709551616 := by omega
  by_cases h : l1 = true ∧ r1 < many * 4096
  · obtain ⟨rfl, h⟩ := h
    refine ⟨r1 + many * 4096 * (1 + r1 % 4093), true, ?_, ?_⟩
    · have : 0 ≤ many * 4096 * (1 + r1 % 4093) := Int.mul_nonneg (by omega) (by omega)
      omega
    · simp [q1__law_take, evSs, evS, evE, evTs, ofO, hcall, iopD, top, ixD, e2, e3, hc1, binD, addD, mulD, b1, b2, intD, biD, one1, int1D, truD, cmpD, h, setD, L2.ixN, List.set_set]
  · refine ⟨r1, l1, hr1, ?_⟩
    cases l1 with
    | false => simp [q1__law_take, evSs, evS, evE, evTs, ofO, hcall, iopD, top, ixD, e2, e3, hc1, truD]
    | true =>
      have h2 : ¬ r1 < many * 4096 := fun z => h ⟨rfl, z⟩
      simp [q1__law_take, evSs, evS, evE, evTs, ofO, hcall, iopD, top, ixD, e2, e3, hc1, binD, mulD, b1, truD, cmpD, h2]

theorem set_get {cs : List C} {c : Nat} {x : C} (h : cs[c]? = some x) : cs.set c x = cs := by
  apply List.ext_getElem?
  intro i
  by_cases hi : c = i
  · subst hi; rw [get_set h, h]
  · rw [List.getElem?_set_ne hi]
theorem r_take (k c : Nat) (xs : List Int) (nth reg many : Int) (low : Bool) (cs : List C) (hc : cs[c]? = some (stt xs nth reg low)) (hr : 0 ≤ reg) (hx : xs.length ≤ 1000) (hm : 0 < many ∧ many < 536870912) :
    ∃ nth' reg' low' d, 0 ≤ reg' ∧ 0 ≤ d ∧ d < many ∧ prog.run (k + 2) false i__law_take [.ref c, .int many] cs = .ok (.int d) (cs.set c (stt xs nth' reg' low')) := by
  rw [run_fn (fn := ⟨2, 4, b__law_take⟩) rfl rfl]
  have hw := whl_rule (c := fun env cs => (evE (prog.cfg (prog.run (k + 1))) q0__law_take env cs).bind fun x cs1 => ofO (truD cs1 x) cs1) (b := fun env cs => evSs (prog.cfg (prog.run (k + 1))) 100 q1__law_take env cs)
    (I := fun m env cs' => ∃ laps nth' reg' low', env = tenv c many laps .un ∧ cs' = cs.set c (stt xs nth' reg' low') ∧ 0 ≤ reg' ∧ (m : Int) = 64 - laps)
    (Q := fun fl => ∃ laps nth' reg' low', 0 ≤ reg' ∧ fl = .nx (tenv c many laps .un) (cs.set c (stt xs nth' reg' low')))
    (fun m env cs' ⟨laps, n1, r1, l1, he, hcs, h0, hm1⟩ => by
      subst he hcs
      have h1 := get_set (y := stt xs n1 r1 l1) hc
      obtain ⟨t, e1, ht⟩ := take_c (k + 1) c xs n1 r1 many laps l1 _ .un h1 hm
      refine ⟨t, _, e1, fun _ => ⟨laps, n1, r1, l1, h0, rfl⟩, fun z => ?_⟩
      obtain ⟨r2, l2, h2, e2⟩ := take_b k c xs n1 r1 many laps l1 _ .un h1 hx hm
      have hlt := ht z
      exact ⟨_, _, .inl e2, m - 1, by omega, laps + 1, n1 + 1, r2, l2, rfl, by rw [List.set_set], h2, by omega⟩)
    100 64 (tenv c many 0 .un) cs (by decide) ⟨0, nth, reg, low, rfl, (set_get hc).symm, hr, by omega⟩
  obtain ⟨laps, n1, r1, l1, h0, hw⟩ := hw
  have h1 := get_set (y := stt xs n1 r1 l1) hc
  have e2 : L2.atI [D.lst (xs.map .int), .int n1, .int r1, .bl l1] 2 = some (.int r1) := rfl
  have hb : many < 1073741824 := by omega
  refine ⟨n1, r1 / many, l1, r1 % many, Int.ediv_nonneg h0 (by omega), Int.emod_nonneg _ (by omega), Int.emod_lt_of_pos _ hm.1, ?_⟩
  obtain ⟨t1, e1⟩ : ∃ t1, b__law_take = .cons (.asg (.nm 2) (.k (.int 0))) (.cons (.whl q0__law_take q1__law_take) (.cons (.asg (.nm 3) (.bin .mod (.bi .int (.cons (.ix (.v 0) (.k (.int 2))) .nil)) (.v 1))) (.cons (.setIx (.v 0) (.k (.int 2)) (.bin .fdiv (.ix (.v 0) (.k (.int 2))) (.v 1))) (.cons (.ret (.v 3)) .nil)))) ∧ t1 = true := ⟨true, rfl, rfl⟩
  simp only
  rw [e1.1]
  have hs : XV.start ⟨2, 4, b__law_take⟩ [.ref c, .int many] = [.d (.ref c), .d (.int many), .un, .un] := rfl
  rw [e1.1] at hs
  rw [hs]
  have w2 : evS (prog.cfg (prog.run (k + 1))) 100 (.whl q0__law_take q1__law_take) (tenv c many 0 .un) cs = .nx (tenv c many laps .un) (cs.set c (stt xs n1 r1 l1)) := hw
  have s1 : evS (prog.cfg (prog.run (k + 1))) 100 (.asg (.nm 2) (.k (.int 0))) [.d (.ref c), .d (.int many), .un, .un] cs = .nx (tenv c many 0 .un) cs := by simp [evS, evE, asgT]
  show ends (evSs _ 100 _ _ _) = _
  unfold evSs
  rw [s1, Fl.seq_nx]
  unfold evSs
  rw [w2, Fl.seq_nx]
  simp [evSs, evS, evE, evTs, ofO, asgT, top, ixD, e2, h1, biD, one1, int1D, binD, intD, hm.1, hb, setD, L2.ixN, List.set_set, ends]

theorem lim_ok {α : Type} {n : Nat} {x : α} (h : n ≤ 1000000) : lim n x = some x := if_pos h
theorem r_one (k c : Nat) (xs : List Int) (nth reg : Int) (low : Bool) (cs : List C) (ds : List D) (hc : cs[c]? = some (stt xs nth reg low)) (hr : 0 ≤ reg) (hx : xs.length ≤ 1000) (hd : 0 < ds.length ∧ ds.length < 1000000) :
    ∃ nth' reg' low' x, 0 ≤ reg' ∧ x ∈ ds ∧ prog.run (k + 3) false i__law_one [.ref c, .lst ds] cs = .ok x (cs.set c (stt xs nth' reg' low')) := by
  obtain ⟨n1, r1, l1, d, h0, hd0, hd1, e⟩ := r_take k c xs nth reg ds.length low cs hc hr hx (by omega)
  have hcall : (prog.cfg (prog.run (k + 2))).call i__law_take [D.ref c, D.int ds.length] cs = .ok (.int d) (cs.set c (stt xs n1 r1 l1)) := e
  obtain ⟨j, rfl⟩ : ∃ j : Nat, d = j := ⟨d.toNat, by omega⟩
  have hj : j < ds.length := by omega
  have ha : L2.atI ds (j : Int) = some ds[j] := L2.atI_nat (by simp [hj])
  refine ⟨n1, r1, l1, ds[j], h0, List.getElem_mem hj, ?_⟩
  rw [run_fn (fn := ⟨2, 2, b__law_one⟩) rfl rfl]
  simp [b__law_one, evSs, evS, evE, evTs, XV.start, ofO, biD, one1, lenD, top, hcall, ixD, ha, ends]
end Md
set_option Elab.async false
set_option linter.all false
set_option maxRecDepth 100000
namespace Md
open PySem XV
def DG : List Nat := [48, 49, 50, 51, 52, 53, 54, 55, 56, 57]
def LW : List Nat := [97, 98, 99, 100, 101, 102, 103, 104, 105, 106, 107, 108, 109, 110, 111, 112, 113, 114, 115, 116, 117, 118, 119, 120, 121, 122]
def LT : List Nat := [97, 98, 99, 100, 101, 102, 103, 104, 105, 106, 107, 108, 109, 110, 111, 112, 113, 114, 115, 116, 117, 118, 119, 120, 121, 122, 65, 66, 67, 68, 69, 70, 71, 72, 73, 74, 75, 76, 77, 78, 79, 80, 81, 82, 83, 84, 85, 86, 87, 88, 89, 90]
theorem gk1 (r) : (prog.cfg r).gk g_SMALL = some (.str LW) := rfl
theorem gk2 (r) : (prog.cfg r).gk g_LETTERS = some (.str LT) := rfl
theorem gk3 (r) : (prog.cfg r).gk g_DIGITS = some (.str DG) := rfl
abbrev s1 (c : Nat) : D := .str [c]
def stepsF (x : List Nat) : List Nat := x.filter fun c => !decide (c ∈ DG)
def marksF : List Nat → List (List Nat)
  | [] => [[]]
  | c :: r => if c ∈ DG then (match marksF r with
    | m :: ms => (c :: m) :: ms
    | [] => [[c]]) else [] :: marksF r
def risF (x : List Nat) : Bool := (x.zip (x.drop 1)).all fun p => decide (p.1 < p.2)
def markedF (x : List Nat) : Bool := !(stepsF x).isEmpty && (stepsF x).all (fun c => decide (c ∈ LW)) && (marksF x).all risF
def plainF (x : List Nat) : Bool := !x.isEmpty && x.all fun c => decide (c ∈ LT)

theorem bls_map {α : Type} (f : α → Bool) (l : List α) : D.bls (l.map fun a => D.bl (f a)) = some (l.map f) := by
  induction l with
  | nil => rfl
  | cons a l ih => simp [D.bls, ih]
theorem all_map_id {α : Type} (f : α → Bool) (l : List α) : (l.map f).all id = l.all f := by
  induction l with
  | nil => rfl
  | cons a l ih => simp [ih]
theorem allD_map {α : Type} (f : α → Bool) (l : List α) : allD (.lst (l.map fun a => .bl (f a))) = some (.bl (l.all f)) := by
  show (D.bls (l.map fun a => D.bl (f a))).map _ = _
  rw [bls_map f l]
  simp
theorem comp_if {α : Type} {f : List SV → List C → Out (Option D)} {tg : Tg} {env : List SV} {cs : List C} (i : α → D) (p : α → Bool) (g : α → D) {l : List α} (h : ∀ a ∈ l, ∃ env', asgT tg (i a) env = some env' ∧ f env' cs = .ok (if p a then some (g a) else none) cs) (hl : l.length ≤ 1000000) :
    compL f tg env (l.map i) cs [] = .ok ((l.filter p).map g) cs := by
  suffices z : ∀ acc : List D, acc.length + l.length ≤ 1000000 → compL f tg env (l.map i) cs acc = .ok (acc ++ (l.filter p).map g) cs by simpa using z [] (by simpa using hl)
  clear hl
  induction l with
  | nil => intro acc _; simp [compL]
  | cons a l ih =>
    intro acc hl
    obtain ⟨env', e1, e2⟩ := h a (by simp)
    have ih := ih fun b hb => h b (by simp [hb])
    rw [List.length_cons] at hl
    rw [List.map_cons]
    unfold compL
    rw [e1]
    simp only [e2, Out.bind_ok]
    by_cases hp : p a = true
    · simp only [hp, if_true]
      rw [if_pos (by simp [LIM]; omega), ih (acc ++ [g a]) (by simp; omega), List.filter_cons_of_pos hp]
      simp
    · simp only [hp]
      rw [List.filter_cons_of_neg (by simpa using hp)]
      exact ih acc (by omega)
theorem comp_all {α : Type} {f : List SV → List C → Out (Option D)} {tg : Tg} {env : List SV} {cs : List C} (i : α → D) (g : α → D) {l : List α} (h : ∀ a ∈ l, ∃ env', asgT tg (i a) env = some env' ∧ f env' cs = .ok (some (g a)) cs) (hl : l.length ≤ 1000000) :
    compL f tg env (l.map i) cs [] = .ok (l.map g) cs := by
  have := comp_if (f := f) (tg := tg) (env := env) (cs := cs) i (fun _ => true) g (l := l) (fun a ha => by simpa using h a ha) hl
  rw [List.filter_eq_self.mpr (fun _ _ => rfl)] at this
  exact this
theorem ev_all {P : Cfg} {own : List Nat} {tg : Tg} {it : I} {e : T} {env : List SV} {cs : List C} {α : Type} (i : α → D) (p : α → Bool) (l : List α) (hi : evI P it env cs = .ok (l.map i, []) cs) (hl : l.length ≤ 1000000)
    (h : ∀ a ∈ l, ∃ env', asgT tg (i a) (wipeE env own) = some env' ∧ evE P e env' cs = .ok (.bl (p a)) cs) : evE P (.bi .all (.cons (.comp own tg it .no e) .nil)) env cs = .ok (.bl (l.all p)) cs := by
  have h1 := comp_all (f := fun env' cs' => (evE P e env' cs').bind fun y cs'' => .ok (some y) cs'') (tg := tg) (env := wipeE env own) (cs := cs) i (fun a => .bl (p a)) (l := l) (fun a ha => by
    obtain ⟨env', e1, e2⟩ := h a ha
    exact ⟨env', e1, by simp only [e2, Out.bind_ok]⟩) hl
  simp [evE, evTs, hi, compW_nil, h1, calm, biD, one1, allD_map, ofO]
theorem ev_compI {P : Cfg} {own : List Nat} {tg : Tg} {it : I} {c e : T} {env : List SV} {cs : List C} {α : Type} (i : α → D) (p : α → Bool) (g : α → D) (l : List α) (hi : evI P it env cs = .ok (l.map i, []) cs) (hl : l.length ≤ 1000000)
    (h : ∀ a ∈ l, ∃ env', asgT tg (i a) (wipeE env own) = some env' ∧ evE P c env' cs = .ok (.bl (p a)) cs ∧ (p a = true → evE P e env' cs = .ok (g a) cs)) : evE P (.comp own tg it (.one c) e) env cs = .ok (.lst ((l.filter p).map g)) cs := by
  have h1 := comp_if (f := fun env' cs' => (evE P c env' cs').bind fun x cs2 => (ofO (truD cs2 x) cs2).bind fun k cs2 => if k then (evE P e env' cs2).bind fun y cs'' => .ok (some y) cs'' else .ok none cs2) (tg := tg) (env := wipeE env own) (cs := cs) i p g (l := l) (fun a ha => by
    obtain ⟨env', e1, e2, e3⟩ := h a ha
    refine ⟨env', e1, ?_⟩
    simp only [e2, Out.bind_ok, truD, top, ofO]
    by_cases hp : p a = true
    · simp [hp, e3 hp]
    · simp [hp]) hl
  simp [evE, hi, compW_nil, h1, calm]
theorem cut_drop {α : Type} (x : List α) (n : Nat) : cutL x (some (n : Int)) none = x.drop n := by
  unfold cutL
  rw [show HT.sIx x.length 0 (some (n : Int)) = min n x.length from HT.sIx_nat _ _ _, show HT.sIx x.length x.length none = x.length from rfl]
  by_cases h : n ≤ x.length
  · rw [Nat.min_eq_left h, List.take_of_length_le (by simp)]
  · rw [Nat.min_eq_right (by omega)]
    simp [List.drop_eq_nil_of_le (show x.length ≤ n by omega)]
theorem lt1 (a b : Nat) : [a] < [b] ↔ a < b := by simp [List.cons_lt_cons_iff]
theorem str_map (x : List Nat) (cs : List C) : iterD cs (.str x) = some (x.map s1) := rfl

theorem r__steps (k : Nat) (x : List Nat) (cs : List C) (hx : x.length ≤ 1000) : prog.run (k + 1) false i__steps [.str x] cs = .ok (.lst ((stepsF x).map s1)) cs := by
  rw [run_fn (fn := ⟨1, 2, b__steps⟩) rfl rfl]
  have h : evE (prog.cfg (prog.run k)) q0__steps [.d (.str x), .un] cs = .ok (.lst ((stepsF x).map s1)) cs := ev_compI (P := prog.cfg (prog.run k)) (own := [1]) (tg := .nm 1) (it := .val (.v 0)) (c := .cmp .NotIn (.v 1) (.g g_DIGITS)) (e := .v 1) (env := [.d (.str x), .un]) (cs := cs) s1 (fun c => !decide (c ∈ DG)) s1 x rfl (by omega)
    (fun c _ => ⟨[.d (.str x), .d (s1 c)], rfl, by simp [evE, gk3, ofO, cmpD, inD, top], fun _ => rfl⟩)
  simp only [b__steps, evSs, evS, XV.start, List.map, List.append_eq, List.replicate, List.cons_append, List.nil_append, h, Out.toF_ok, Fl.seq_ret, ends, stepsF]
theorem r_is_rising (k : Nat) (x : List Nat) (cs : List C) (hx : x.length ≤ 1000) : prog.run (k + 1) false i_is_rising [.str x] cs = .ok (.bl (risF x)) cs := by
  rw [run_fn (fn := ⟨1, 3, b_is_rising⟩) rfl rfl]
  have h : evE (prog.cfg (prog.run k)) q1_is_rising [.d (.str x), .un, .un] cs = .ok (.bl (risF x)) cs := ev_all (P := prog.cfg (prog.run k)) (own := [1, 2]) (tg := .tup [.nm 1, .nm 2]) (it := .zip (.v 0) (.slc (.v 0) (.one (.k (.int 1))) .no)) (e := .cmp .Lt (.v 1) (.v 2)) (env := [.d (.str x), .un, .un]) (cs := cs) (fun p : Nat × Nat => D.tup [s1 p.1, s1 p.2]) (fun p : Nat × Nat => decide (p.1 < p.2)) (x.zip (x.drop 1))
    (by
      have e : cutL x (some 1) none = x.drop 1 := cut_drop x 1
      simp only [evI, evE, evP, slcD, top, LIM, show x.length ≤ 1000000 by omega, e, ofO, iterW, iterD, Option.map_some, List.append_nil, Out.bind_ok, if_true, List.getElem?_cons_zero, List.zip, List.map_zipWith, List.zipWith_map]) (by simp; omega)
    (fun p _ => ⟨[.d (.str x), .d (s1 p.1), .d (s1 p.2)], rfl, by simp [evE, ofO, cmpD, lt1]⟩)
  simp only [b_is_rising, evSs, evS, XV.start, List.map, List.append_eq, List.replicate, List.cons_append, List.nil_append, h, Out.toF_ok, Fl.seq_ret, ends, risF]
abbrev ss (l : List (List Nat)) : List D := l.map D.str
def glue (l : List Nat) : List (List Nat) → List (List Nat)
  | [] => [l]
  | m :: ms => (l ++ m) :: ms
theorem marksF_ne (x : List Nat) : marksF x ≠ [] := by
  cases x with
  | nil => simp [marksF]
  | cons c r => 
    unfold marksF
    split
    · split <;> simp
    · simp
theorem glue_nil {l : List (List Nat)} (h : l ≠ []) : glue [] l = l := by
  cases l with
  | nil => exact absurd rfl h
  | cons a l => simp [glue]
theorem glue_dig {l : List Nat} {c : Nat} {r : List Nat} (h : c ∈ DG) : glue l (marksF (c :: r)) = glue (l ++ [c]) (marksF r) := by
  cases hm : marksF r with
  | nil => exact absurd hm (marksF_ne r)
  | cons m ms =>
    have e : marksF (c :: r) = (c :: m) :: ms := by rw [marksF, if_pos h, hm]
    rw [e]
    simp [glue]
theorem glue_step {l : List Nat} {c : Nat} {r : List Nat} (h : c ∉ DG) : glue l (marksF (c :: r)) = l :: marksF r := by
  have e : marksF (c :: r) = [] :: marksF r := by rw [marksF, if_neg h]
  rw [e]
  simp [glue]
theorem ixN_last (n : Nat) : L2.ixN (n + 1) (-1) = some n := by
  unfold L2.ixN
  rw [if_neg (by omega), if_pos (by omega)]
  congr 1
  omega
theorem atI_last {α : Type} (a : List α) (l : α) : L2.atI (a ++ [l]) (-1) = some l := by
  unfold L2.atI
  rw [show (a ++ [l]).length = a.length + 1 by simp, ixN_last]
  simp
theorem marks_loop (k : Nat) (x : List Nat) (cs : List C) : ∀ (r : List Nat) (a : List (List Nat)) (l : List Nat) (sv : SV), a.length + l.length + r.length ≤ 900000 → ∃ sv',
    forL (fun env cs => evSs (prog.cfg (prog.run k)) 100 q0__marks env cs) (.nm 2) (r.map s1) [.d (.str x), .own (ss (a ++ [l])), sv] cs = .nx [.d (.str x), .own (ss (a ++ glue l (marksF r))), sv'] cs
  | [], a, l, sv, _ => ⟨sv, by simp [forL, marksF, glue]⟩
  | c :: r, a, l, sv, hl => by
    rw [List.length_cons] at hl
    rw [List.map_cons]
    unfold forL
    have ha : asgT (.nm 2) (s1 c) [.d (.str x), .own (ss (a ++ [l])), sv] = some [.d (.str x), .own (ss (a ++ [l])), .d (s1 c)] := rfl
    rw [ha]
    simp only
    by_cases h : c ∈ DG
    · obtain ⟨sv', ih⟩ := marks_loop k x cs r a (l ++ [c]) (.d (s1 c)) (by simp; omega)
      refine ⟨sv', ?_⟩
      have e : evSs (prog.cfg (prog.run k)) 100 q0__marks [.d (.str x), .own (ss (a ++ [l])), .d (s1 c)] cs = .nx [.d (.str x), .own (ss (a ++ [l ++ [c]])), .d (s1 c)] cs := by
        have h1 : L2.ixN (List.length (ss (a ++ [l]))) (-1) = some a.length := by rw [show (ss (a ++ [l])).length = a.length + 1 by simp]; exact ixN_last _
        have h2 : L2.atI (ss (a ++ [l])) (-1) = some (.str l) := by
          unfold ss
          rw [List.map_append]
          exact atI_last _ _
        have h3 : (ss (a ++ [l])).set a.length (.str (l ++ [c])) = ss (a ++ [l ++ [c]]) := by simp [ss]
        have h4 : lim (l.length + 1) (D.str (l ++ [c])) = some (.str (l ++ [c])) := lim_ok (by omega)
        simp only [q0__marks, evSs, evS, evE, gk3, ofO, Out.bind_ok, Out.toF_ok, cmpD, inD, top, truD, List.getElem?_cons_succ, List.getElem?_cons_zero, h, decide_true, if_true, h1, h2, iopD, List.length_singleton, h4, h3, Fl.seq_nx, List.set_cons_succ, List.set_cons_zero]
      rw [e, glue_dig h]
      simp only [Fl.turn_nx]
      exact ih
    · obtain ⟨sv', ih⟩ := marks_loop k x cs r (a ++ [l]) [] (.d (s1 c)) (by simp; omega)
      refine ⟨sv', ?_⟩
      have e : evSs (prog.cfg (prog.run k)) 100 q0__marks [.d (.str x), .own (ss (a ++ [l])), .d (s1 c)] cs = .nx [.d (.str x), .own (ss (a ++ [l] ++ [[]])), .d (s1 c)] cs := by
        have h4 : (ss (a ++ [l])).length < LIM := by simp [LIM]; omega
        simp only [q0__marks, evSs, evS, evE, gk3, ofO, Out.bind_ok, Out.toF_ok, cmpD, inD, top, truD, List.getElem?_cons_succ, List.getElem?_cons_zero, h, decide_false, h4, if_true, Fl.seq_nx, List.set_cons_succ, List.set_cons_zero]
        simp [ss]
      rw [e, glue_step h]
      simp only [Fl.turn_nx]
      rw [ih, glue_nil (marksF_ne r), List.append_assoc]
      rfl
theorem r__marks (k : Nat) (x : List Nat) (cs : List C) (hx : x.length ≤ 1000) : prog.run (k + 1) false i__marks [.str x] cs = .ok (.lst (ss (marksF x))) cs := by
  rw [run_fn (fn := ⟨1, 3, b__marks⟩) rfl rfl]
  obtain ⟨sv', h⟩ := marks_loop k x cs x [] [] .un (by simp; omega)
  have e : b__marks = .cons (.set1 1 (.own (.cons (.k (.str [])) .nil))) (.cons (.forr (.val (.v 0)) (.nm 2) q0__marks) (.cons (.frz 1) (.cons (.ret (.v 1)) .nil))) := rfl
  simp only [e]
  have h2 : forL (fun env cs => evSs (prog.cfg (prog.run k)) prog.fu q0__marks env cs) (.nm 2) (x.map s1) [.d (.str x), .own [.str []], .un] cs = .nx [.d (.str x), .own (ss (glue [] (marksF x))), sv'] cs := h
  rw [glue_nil (marksF_ne x)] at h2
  simp [evSs, evS, evE, evI, evTs, evPm, XV.start, iterW, iterD, forW_nil, ofO, LIM, h2, ends]
def okS (x : List Nat) : Bool := x.all fun c => decide (c < 1114112)
theorem shaped_str {x : List Nat} (h : okS x = true) : SeqAt.shaped (.str (mkS x)) = true := by
  have : PyData.strOk (mkS x) = true := by
    unfold PyData.strOk
    show x.toArray.all _ = true
    rw [List.all_toArray]
    exact h
  simp [SeqAt.shaped, PyData.canLay0, this, PyData.depth]
theorem mkS_inj {x y : List Nat} : mkS x = mkS y ↔ x = y := by
  constructor
  · intro h
    have h : (⟨x.toArray⟩ : Str) = ⟨y.toArray⟩ := h
    have h2 : x.toArray = y.toArray := by injection h
    simpa using h2
  · rintro rfl; rfl
theorem eqD_str {cs : List C} {x y : List Nat} (hx : okS x = true) (hy : okS y = true) : eqD cs (.str x) (.str y) = some (decide (x = y)) := by
  unfold eqD
  simp only [top, D.py, shaped_str hx, shaped_str hy, Bool.and_self, if_true, PyData.eqv]
  congr 1
  by_cases h : x = y
  · subst h; simp
  · rw [decide_eq_false h]
    exact beq_eq_false_iff_ne.mpr fun z => h (mkS_inj.mp z)
theorem eqD_bl {cs : List C} {a b : Bool} : eqD cs (.bl a) (.bl b) = some (decide (a = b)) := by
  cases a <;> cases b <;> rfl
theorem eqD_non {cs : List C} : eqD cs .non .non = some true := rfl
theorem depth0 {x : Str} : PyData.depth (.str x) = 0 := by simp [PyData.depth]
theorem shaped_strs {l : List (List Nat)} (h : ∀ x ∈ l, okS x = true) : ∃ ps, D.pys (ss l) = some ps ∧ SeqAt.shaped (.list ps) = true ∧ ps = l.map fun x => PyData.str (mkS x) := by
  refine ⟨l.map fun x => PyData.str (mkS x), ?_, ?_, rfl⟩
  · induction l with
    | nil => rfl
    | cons a l ih => simp [ss, D.pys, D.py, ih fun x hx => h x (by simp [hx])]
  · have h1 : PyData.canLayAll0 (l.map fun x => PyData.str (mkS x)) = true := by
      induction l with
      | nil => rfl
      | cons a l ih =>
        have ha := shaped_str (h a (by simp))
        simp [SeqAt.shaped, PyData.canLay0] at ha
        simp [PyData.canLayAll0, PyData.canLay0, ha.1]
        simpa using ih fun x hx => h x (by simp [hx])
    have h2 : PyData.depth (.list (l.map fun x => PyData.str (mkS x))) ≤ 1 := by
      simp [PyData.depth]
      clear h h1
      induction l with
      | nil => simp [PyData.depthAll]
      | cons a l ih => simp [PyData.depthAll, depth0]; omega
    simp [SeqAt.shaped, PyData.canLay0, h1]
    omega

theorem eqD_nil {cs : List C} {l : List (List Nat)} (h : ∀ x ∈ l, okS x = true) : eqD cs (.lst (ss l)) (.lst []) = some (decide (l = [])) := by
  obtain ⟨ps, h1, h2, h3⟩ := shaped_strs h
  unfold eqD
  have e1 : (D.lst (ss l)).py = some (.list ps) := by simp [D.py, h1]
  have e2 : (D.lst []).py = some (.list []) := rfl
  have e3 : SeqAt.shaped (.list []) = true := by decide
  simp only [top, e1, e2, h2, e3, Bool.and_self, if_true]
  subst h3
  cases l with
  | nil => simp [PyData.eqv, PyData.eqvAll]
  | cons a l => simp [PyData.eqv, PyData.eqvAll]
theorem okS_one {c : Nat} {x : List Nat} (h : okS x = true) (hc : c ∈ x) : okS [c] = true := by
  have := List.all_eq_true.mp h c hc
  simpa [okS] using this
theorem marksF_len (x : List Nat) : (marksF x).length ≤ x.length + 1 := by
  induction x with
  | nil => simp [marksF]
  | cons c r ih =>
    unfold marksF
    split
    · cases h : marksF r with
      | nil => simp
      | cons m ms => rw [h] at ih; simp at ih ⊢; omega
    · simp; omega
theorem marksF_mem {x m : List Nat} (h : m ∈ marksF x) : m.length ≤ x.length ∧ ∀ c ∈ m, c ∈ x ∧ c ∈ DG := by
  induction x generalizing m with
  | nil => simp [marksF] at h; subst h; simp
  | cons c r ih =>
    unfold marksF at h
    split at h
    · rename_i hc
      cases hm : marksF r with
      | nil => exact absurd hm (marksF_ne r)
      | cons a as =>
        rw [hm] at h
        rcases List.mem_cons.mp h with rfl | h
        · have := ih (m := a) (by rw [hm]; simp)
          refine ⟨by simp; omega, fun d hd => ?_⟩
          rcases List.mem_cons.mp hd with rfl | hd
          · exact ⟨by simp, hc⟩
          · exact ⟨by simp [(this.2 d hd).1], (this.2 d hd).2⟩
        · have := ih (m := m) (by rw [hm]; simp [h])
          exact ⟨by simp; omega, fun d hd => ⟨by simp [(this.2 d hd).1], (this.2 d hd).2⟩⟩
    · rcases List.mem_cons.mp h with rfl | h
      · simp
      · have := ih h
        exact ⟨by simp; omega, fun d hd => ⟨by simp [(this.2 d hd).1], (this.2 d hd).2⟩⟩
theorem dg_lt {c : Nat} (h : c ∈ DG) : c < 1114112 := by revert c; decide
theorem evc (p : Prog) (k f : Nat) (ds : List D) (cs : List C) : (p.cfg (p.run k)).call f ds cs = p.run k false f ds cs := rfl
def isStr : D → Bool
  | .str _ => true
  | _ => false
def plainD : D → Bool
  | .str x => plainF x
  | _ => false
def markedD : D → Bool
  | .str x => markedF x
  | _ => false
def thing (d : D) : Prop := (∃ x, d = .str x ∧ okS x = true ∧ x.length ≤ 900) ∨ d = .non ∨ (∃ i, d = .int i) ∨ (∃ b, d = .bl b) ∨ (∃ l, d = .lst l) ∨ (∃ l, d = .tup l) ∨ d = .dct [] []
theorem r__is_plain_path (k : Nat) (d : D) (cs : List C) (h : thing d) : prog.run (k + 1) false i__is_plain_path [d] cs = .ok (.bl (plainD d)) cs := by
  rw [run_fn (fn := ⟨1, 2, b__is_plain_path⟩) rfl rfl]
  rcases h with ⟨x, rfl, hx, hl⟩ | rfl | ⟨i, rfl⟩ | ⟨i, rfl⟩ | ⟨i, rfl⟩ | ⟨i, rfl⟩ | rfl
  · have h1 : evE (prog.cfg (prog.run k)) q1__is_plain_path [.d (.str x), .un] cs = .ok (.bl (x.all fun c => decide (c ∈ LT))) cs := ev_all (P := prog.cfg (prog.run k)) (own := [1]) (tg := .nm 1) (it := .val (.v 0)) (e := .cmp .In (.v 1) (.g g_LETTERS)) (env := [.d (.str x), .un]) (cs := cs) s1 (fun c => decide (c ∈ LT)) x rfl (by omega)
      (fun c _ => ⟨[.d (.str x), .d (s1 c)], rfl, by simp [evE, gk2, ofO, cmpD, inD, top]⟩)
    have h2 : eqD cs (.str x) (.str []) = some (decide (x = [])) := eqD_str hx rfl
    by_cases h0 : x = []
    · subst h0
      simp [b__is_plain_path, evSs, evS, XV.start, evE, ofO, isiD, tyN, tyB, truD, top, cmpD, isD00, h2, ends, plainD, plainF]
    · simp [b__is_plain_path, evSs, evS, XV.start, evE, ofO, isiD, tyN, tyB, truD, top, cmpD, isD00, h2, h0, ends, plainD, plainF, h1]
  all_goals rfl
theorem r__is_marked_path (k : Nat) (d : D) (cs : List C) (h : thing d) : prog.run (k + 2) false i__is_marked_path [d] cs = .ok (.bl (markedD d)) cs := by
  rw [run_fn (fn := ⟨1, 4, b__is_marked_path⟩) rfl rfl]
  rcases h with ⟨x, rfl, hx, hl⟩ | rfl | ⟨i, rfl⟩ | ⟨i, rfl⟩ | ⟨i, rfl⟩ | ⟨i, rfl⟩ | rfl
  · have c1 : (prog.cfg (prog.run (k + 1))).call i__steps [.str x] cs = .ok (.lst ((stepsF x).map s1)) cs := r__steps k x cs (by omega)
    have c2 : (prog.cfg (prog.run (k + 1))).call i__marks [.str x] cs = .ok (.lst (ss (marksF x))) cs := r__marks k x cs (by omega)
    have hls : (stepsF x).length ≤ 900 := Nat.le_trans (List.length_filter_le _ _) hl
    have hlm := marksF_len x
    have h1 : evE (prog.cfg (prog.run (k + 1))) q1__is_marked_path [.d (.str x), .d (.lst ((stepsF x).map s1)), .un, .un] cs = .ok (.bl ((stepsF x).all fun c => decide (c ∈ LW))) cs := ev_all (P := prog.cfg (prog.run (k + 1))) (own := [3]) (tg := .nm 3) (it := .val (.v 1)) (e := .cmp .In (.v 3) (.g g_SMALL)) (env := [.d (.str x), .d (.lst ((stepsF x).map s1)), .un, .un]) (cs := cs) s1 (fun c => decide (c ∈ LW)) (stepsF x) rfl (by omega)
      (fun c _ => ⟨[.d (.str x), .d (.lst ((stepsF x).map s1)), .un, .d (s1 c)], rfl, by simp [evE, gk1, ofO, cmpD, inD, top]⟩)
    have h2 : evE (prog.cfg (prog.run (k + 1))) q3__is_marked_path [.d (.str x), .d (.lst ((stepsF x).map s1)), .un, .un] cs = .ok (.bl ((marksF x).all risF)) cs := ev_all (P := prog.cfg (prog.run (k + 1))) (own := [2]) (tg := .nm 2) (it := .val (.call i__marks (.cons (.v 0) .nil))) (e := .call i_is_rising (.cons (.v 2) .nil)) (env := [.d (.str x), .d (.lst ((stepsF x).map s1)), .un, .un]) (cs := cs) D.str risF (marksF x) (by simp [evI, evE, evTs, c2, iterW, iterD, ofO]) (by omega)
      (fun m hm => ⟨[.d (.str x), .d (.lst ((stepsF x).map s1)), .d (.str m), .un], rfl, by
        have := r_is_rising k m cs (by have := marksF_mem hm; omega)
        simp [evE, evTs, evc, this]⟩)
    have h3 : eqD cs (.lst ((stepsF x).map s1)) (.lst []) = some (decide (stepsF x = [])) := by
      have := eqD_nil (cs := cs) (l := (stepsF x).map fun c => [c]) (fun y hy => by
        obtain ⟨c, hc, rfl⟩ := List.mem_map.mp hy
        exact okS_one hx (List.mem_filter.mp hc).1)
      simpa [ss, Function.comp_def] using this
    have h5 : eqD cs (.lst []) (.lst []) = some true := rfl
    by_cases h0 : stepsF x = []
    · simp [b__is_marked_path, evSs, evS, XV.start, evE, evTs, ofO, isiD, tyN, tyB, truD, top, cmpD, isD00, asgT, c1, h5, h0, ends, markedD, markedF, lim, LIM]
    · by_cases h4 : (stepsF x).all (fun c => decide (c ∈ LW)) = true
      · rw [h4] at h1
        simp [b__is_marked_path, evSs, evS, XV.start, evE, evTs, ofO, isiD, tyN, tyB, truD, top, cmpD, isD00, asgT, c1, h3, h0, ends, markedD, markedF, lim, LIM, h1, h2, h4]
      · rw [Bool.eq_false_iff.mpr h4] at h1
        simp [b__is_marked_path, evSs, evS, XV.start, evE, evTs, ofO, isiD, tyN, tyB, truD, top, cmpD, isD00, asgT, c1, h3, h0, ends, markedD, markedF, lim, LIM, h1, h4]
  all_goals rfl
end Md
set_option Elab.async false
set_option linter.all false
set_option maxRecDepth 100000
namespace Md
open PySem XV
abbrev mAny : List Nat := [97, 110, 121]
abbrev mMat : List Nat := [109, 97, 116, 99, 104, 101, 100]
abbrev mTur : List Nat := [116, 117, 114, 110, 101, 100]
def man (m : List Nat) : Prop := m = mAny ∨ m = mMat ∨ m = mTur
theorem r_is_manner (k : Nat) (m : List Nat) (cs : List C) (h : man m) : prog.run (k + 1) false i_is_manner [.str m] cs = .ok (.bl true) cs := by
  rcases h with rfl | rfl | rfl <;> kernel_rfl
theorem r_is_path (k : Nat) (m : List Nat) (d : D) (cs : List C) (hm : man m) (h : thing d) : prog.run (k + 3) false i_is_path [.str m, d] cs = .ok (.bl (if m = mAny then markedD d else plainD d)) cs := by
  rw [run_fn (fn := ⟨2, 2, b_is_path⟩) rfl rfl]
  have c1 : (prog.cfg (prog.run (k + 2))).call i_is_manner [.str m] cs = .ok (.bl true) cs := r_is_manner (k + 1) m cs hm
  have c2 : (prog.cfg (prog.run (k + 2))).call i__is_marked_path [d] cs = .ok (.bl (markedD d)) cs := r__is_marked_path k d cs h
  have c3 : (prog.cfg (prog.run (k + 2))).call i__is_plain_path [d] cs = .ok (.bl (plainD d)) cs := r__is_plain_path (k + 1) d cs h
  have e1 : eqD cs (.str m) (.str mAny) = some (decide (m = mAny)) := eqD_str (by rcases hm with rfl | rfl | rfl <;> decide) (by decide)
  by_cases ha : m = mAny
  · rw [decide_eq_true ha] at e1
    rw [if_pos ha]
    simp [b_is_path, evSs, evS, evE, evTs, XV.start, ofO, c1, c2, truD, top, cmpD, isD00, e1, ends]
  · rw [decide_eq_false ha] at e1
    rw [if_neg ha]
    simp [b_is_path, evSs, evS, evE, evTs, XV.start, ofO, c1, c3, truD, top, cmpD, isD00, e1, ends]
theorem joinL_nil : ∀ l : List (List Nat), joinL [] l = l.flatten
  | [] => rfl
  | [x] => by simp [joinL]
  | x :: y :: r => by
    have := joinL_nil (y :: r)
    simp [joinL, this]
theorem strs_ss (l : List (List Nat)) : D.strs (ss l) = some l := by
  induction l with
  | nil => rfl
  | cons a l ih =>
    show (D.strs (ss l)).map _ = _
    rw [ih]
    rfl
theorem joinD_nil {l : List (List Nat)} (h : (l.map (·.length)).sum ≤ 1000000) : joinD (.str []) [.lst (ss l)] = some (.str l.flatten) := by
  unfold joinD
  simp only [strs_ss]
  rw [if_pos (by simpa [LIM] using h), joinL_nil]
theorem okS_app {x y : List Nat} : okS (x ++ y) = (okS x && okS y) := by simp [okS]
theorem uppers0 : ∀ c ∈ LW, (Txt.upper (mkS [c])).cps.toList = [c - 32] := by decide +kernel
theorem uppers : ∀ c ∈ LW, str0 Txt.upper (.str [c]) [] = some (.str [c - 32]) := fun c hc => by
  rw [← uppers0 c hc]; rfl
theorem lt_ok : ∀ c ∈ LT, c < 1114112 ∧ (if c < 97 then c + 32 else c) < 1114112 := by decide +kernel
theorem marks_flat (x : List Nat) : (marksF x).flatten = x.filter fun c => decide (c ∈ DG) := by
  induction x with
  | nil => rfl
  | cons c r ih =>
    by_cases h : c ∈ DG
    · rw [List.filter_cons_of_pos (by simpa using h), ← ih, marksF, if_pos h]
      cases hm : marksF r with
      | nil => exact absurd hm (marksF_ne r)
      | cons m ms => simp
    · rw [List.filter_cons_of_neg (by simpa using h), ← ih, marksF, if_neg h]
      simp
theorem marks_sum (x : List Nat) : ((marksF x).map (·.length)).sum ≤ x.length := by
  have h1 : (marksF x).flatten.length = ((marksF x).map (·.length)).sum := by simp [List.length_flatten]
  rw [← h1, marks_flat]
  exact List.length_filter_le _ _
theorem marks_ok {x : List Nat} (h : okS x = true) : ∀ m ∈ marksF x, okS m = true := by
  intro m hm
  simp only [okS, List.all_eq_true]
  intro c hc
  exact decide_eq_true (dg_lt ((marksF_mem hm).2 c hc).2)
theorem cmp_eq {cs : List C} {x y : D} {k : Bool} (h : eqD cs x y = some k) (h0 : (isD00 x && isD00 y) = false) : cmpD .Eq cs x y = some k := by
  unfold cmpD
  rw [h0]
  exact h
theorem rising_pw : ∀ {m : List Nat}, risF m = true ↔ m.Pairwise (· < ·)
  | [] => by simp [risF]
  | [a] => by simp [risF]
  | a :: b :: r => by
    have ih := @rising_pw (b :: r)
    have e : risF (a :: b :: r) = (decide (a < b) && risF (b :: r)) := by simp [risF]
    rw [e, Bool.and_eq_true_iff, ih, show (a :: b :: r).Pairwise (· < ·) ↔ _ from List.pairwise_cons]
    constructor
    · rintro ⟨h1, h2⟩
      have h1 := of_decide_eq_true h1
      refine ⟨fun c hc => ?_, h2⟩
      rcases List.mem_cons.mp hc with rfl | hc
      · exact h1
      · exact Nat.lt_trans h1 ((List.pairwise_cons.mp h2).1 c hc)
    · rintro ⟨h1, h2⟩
      exact ⟨decide_eq_true (h1 b (by simp)), h2⟩
theorem lw_lt : ∀ c ∈ LW, c ∈ LT := by decide +kernel
theorem lt_dg : ∀ c ∈ LT, c ∉ DG := by decide +kernel
end Md
set_option Elab.async false
set_option linter.all false
set_option maxRecDepth 100000
namespace Md
open PySem XV
inductive Sm : Nat → D → Prop
  | non (n : Nat) : Sm n .non
  | bl (n : Nat) (b : Bool) : Sm n (.bl b)
  | int (n : Nat) (i : Int) : Sm n (.int i)
  | str (n : Nat) (x : List Nat) : okS x = true → Sm n (.str x)
  | dct (n : Nat) : Sm n (.dct [] [])
  | tup (n : Nat) (ds : List D) : ds.length ≤ 900000 → (∀ d ∈ ds, Sm n d) → Sm (n + 1) (.tup ds)
  | lst (n : Nat) (ds : List D) : ds.length ≤ 900000 → (∀ d ∈ ds, Sm n d) → Sm (n + 1) (.lst ds)
theorem zip_self (ds : List D) : ds.zipWith (fun x y => D.tup [x, y]) ds = ds.map fun d => .tup [d, d] := by
  induction ds with
  | nil => rfl
  | cons a l ih => simp [ih]
theorem same_seq {k : Nat} {d : D} {ds : List D} {cs : List C} (hd : iterD cs d = some ds) (hl : ds.length ≤ 900000) (nm : String) (ht : ∀ ty : List String, isiD cs d ty = some (.bl (tyB nm ty)))
    (hn : lenD cs d = some (.int ds.length)) (ih : ∀ e ∈ ds, prog.run k false i__law_same [e, e] cs = .ok (.bl true) cs) (h1 : tyB nm ["list", "tuple"] = true) : prog.run (k + 1) false i__law_same [d, d] cs = .ok (.bl true) cs := by
  refine run_ret (fn := ⟨2, 4, b__law_same⟩) rfl rfl ?_
  refine ss_ret (s_ift (e_isi (e_v rfl) (ht _)) (by rw [h1]; rfl) ?_)
  have hne : ∀ b : Bool, cmpD .NotEq cs (.bl b) (.bl b) = some false := fun b => by cases b <;> rfl
  refine ss_nx (s_iff (e_or_f (e_cmp (e_isi (e_v rfl) (ht _)) (e_isi (e_v rfl) (ht _)) (hne _)) rfl (e_cmp (e_isi (e_v rfl) (ht _)) (e_isi (e_v rfl) (ht _)) (hne _))) rfl ss_nil) ?_
  have hall : evE (prog.cfg (prog.run k)) q1__law_same [.d d, .d d, .un, .un] cs = .ok (.bl (ds.all fun _ => true)) cs :=
    ev_all (own := [2, 3]) (tg := .tup [.nm 2, .nm 3]) (it := .zip (.v 0) (.v 1)) (e := .call i__law_same (.cons (.v 2) (.cons (.v 3) .nil))) (fun e => D.tup [e, e]) (fun _ => true) ds
      (by
        have e0 := i_zip (P := prog.cfg (prog.run k)) (env := [.d d, .d d, .un, .un]) (ta := .v 0) (tb := .v 1) (e_v rfl) (e_v rfl) hd hd
        rw [zip_self] at e0
        exact e0) (by omega)
      (fun e he => ⟨[.d d, .d d, .d e, .d e], rfl, e_call (ts_cons (e_v rfl) (ts_cons (e_v rfl) ts_nil)) (ih e he)⟩)
  have hq : cmpD .Eq cs (.int ds.length) (.int ds.length) = some true := cmp_eq (by rw [eqD_int]; simp) rfl
  refine ss_ret (s_ret (e_and_t (e_cmp (e_bi (ts_cons (e_v rfl) ts_nil) hn) (e_bi (ts_cons (e_v rfl) ts_nil) hn) hq) rfl ?_))
  refine Eq.trans hall ?_
  congr 2
  exact List.all_eq_true.mpr fun _ _ => rfl
theorem r_same {n : Nat} {d : D} (cs : List C) (h : Sm n d) : prog.run (n + 1) false i__law_same [d, d] cs = .ok (.bl true) cs := by
  induction h with
  | non n =>
    refine run_ret (fn := ⟨2, 4, b__law_same⟩) rfl rfl ?_
    exact ss_nx (s_iff (e_isi (e_v rfl) rfl) rfl ss_nil) (ss_nx (s_iff (e_isi (e_v rfl) rfl) rfl ss_nil) (ss_ret (s_ret (e_and_t (e_cmp (e_isi (e_v rfl) rfl) e_k rfl) rfl (e_cmp (e_v rfl) (e_v rfl) (cmp_eq rfl rfl))))))
  | str n x h =>
    refine run_ret (fn := ⟨2, 4, b__law_same⟩) rfl rfl ?_
    have e : eqD cs (.str x) (.str x) = some true := by rw [eqD_str h h]; simp
    exact ss_nx (s_iff (e_isi (e_v rfl) rfl) rfl ss_nil) (ss_nx (s_iff (e_isi (e_v rfl) rfl) rfl ss_nil) (ss_ret (s_ret (e_and_t (e_cmp (e_isi (e_v rfl) rfl) e_k rfl) rfl (e_cmp (e_v rfl) (e_v rfl) (cmp_eq e rfl))))))
  | dct n =>
    refine run_ret (fn := ⟨2, 4, b__law_same⟩) rfl rfl ?_
    exact ss_nx (s_iff (e_isi (e_v rfl) rfl) rfl ss_nil) (ss_nx (s_iff (e_isi (e_v rfl) rfl) rfl ss_nil) (ss_ret (s_ret (e_and_t (e_cmp (e_isi (e_v rfl) rfl) e_k rfl) rfl (e_cmp (e_v rfl) (e_v rfl) rfl)))))
  | bl n b =>
    refine run_ret (fn := ⟨2, 4, b__law_same⟩) rfl rfl ?_
    have e : eqD cs (.bl b) (.bl b) = some true := by rw [eqD_bl]; simp
    exact ss_nx (s_iff (e_isi (e_v rfl) rfl) rfl ss_nil) (ss_ret (s_ift (e_isi (e_v rfl) rfl) rfl (ss_ret (s_ret (e_and_t (e_isi (e_v rfl) rfl) rfl (e_and_t (e_cmp (e_isi (e_v rfl) rfl) (e_isi (e_v rfl) rfl) rfl) rfl (e_cmp (e_v rfl) (e_v rfl) (cmp_eq e rfl))))))))
  | int n b =>
    refine run_ret (fn := ⟨2, 4, b__law_same⟩) rfl rfl ?_
    have e : eqD cs (.int b) (.int b) = some true := by rw [eqD_int]; simp
    exact ss_nx (s_iff (e_isi (e_v rfl) rfl) rfl ss_nil) (ss_ret (s_ift (e_isi (e_v rfl) rfl) rfl (ss_ret (s_ret (e_and_t (e_isi (e_v rfl) rfl) rfl (e_and_t (e_cmp (e_isi (e_v rfl) rfl) (e_isi (e_v rfl) rfl) rfl) rfl (e_cmp (e_v rfl) (e_v rfl) (cmp_eq e rfl))))))))
  | tup n ds hl hs ih => exact same_seq (ds := ds) rfl hl "tuple" (fun ty => rfl) rfl (fun e he => ih e he) rfl
  | lst n ds hl hs ih => exact same_seq (ds := ds) rfl hl "list" (fun ty => rfl) rfl (fun e he => ih e he) rfl
end Md
set_option Elab.async false
set_option linter.all false
set_option maxRecDepth 100000
namespace Md
open PySem XV
local macro_rules | `(tactic| right) => `(tactic| first
  | assumption | exact e_k | exact e_v rfl | exact g_opt rfl | exact ts_nil | apply ts_cons | apply ss_any | apply sq_nx | exact ss_nil | apply e_call | apply s_asgO | apply asg_ok | exact asg_exc
  | apply s_if | apply br_t | apply br_f | apply ba_t | exact ba_f | apply bo_f | exact bo_t | apply e_cmp | apply e_notQ | apply e_tup | apply e_lst | exact g_le rfl | exact g_lt rfl | apply s_retO | exact ret_ok | exact ret_exc | exact sq_ret | exact sq_exc | exact sq_cnt | exact sq_brk
  | apply e_bin | apply e_ix | apply e_isi | apply e_bi | apply e_mt | exact g_bl rfl | apply e_an | apply e_orr | apply e_if | apply e_tr | exact tr_ok | apply tr_exc | apply s_set1 | apply s_par | apply s_app | exact s_frz rfl | apply s_forO | apply i_val | apply i_rng1 | apply i_enum | apply i_zip | apply i_rng2
  | apply pm_val | apply pm_own | apply pm_ownE | exact e_pk rfl | exact e_g rfl | apply e_slc | exact p_no | apply p_one | apply e_fld | apply e_meth | apply e_new | apply e_lenM | apply e_neg | apply s_raise | apply s_expr | apply s_aug | apply s_setF | apply e_lstC | apply s_setIx | exact s_pass | exact s_retN | exact s_cnt | exact s_brk
  | apply And.intro)
def Sd (xs : List Int × List C) (cs : List C) : Prop := xs.1.length ≤ 1000 ∧ ∃ nth reg low, cs = stt xs.1 nth reg low :: xs.2 ∧ 0 ≤ reg
theorem D_take {K : Nat} (hK : 2 ≤ K) {xs : List Int × List C} {cs : List C} {many : Int} (h : Sd xs cs) (hm : 0 < many ∧ many < 536870912) : ∃ d cs1, Sd xs cs1 ∧ 0 ≤ d ∧ d < many ∧ prog.run K false i__law_take [.ref 0, .int many] cs = .ok (.int d) cs1 := by
  obtain ⟨k, rfl⟩ : ∃ k, K = k + 2 := ⟨K - 2, by omega⟩
  obtain ⟨hx, nth, reg, low, rfl, hr⟩ := h
  obtain ⟨n1, r1, l1, d, h0, h1, h2, e⟩ := r_take k 0 xs.1 nth reg many low (stt xs.1 nth reg low :: xs.2) rfl hr hx hm
  exact ⟨d, _, ⟨hx, n1, r1, l1, rfl, h0⟩, h1, h2, e⟩
theorem D_one {K : Nat} (hK : 3 ≤ K) {xs : List Int × List C} {cs : List C} {ds : List D} (h : Sd xs cs) (hd : 0 < ds.length ∧ ds.length < 1000000) : ∃ x cs1, Sd xs cs1 ∧ x ∈ ds ∧ prog.run K false i__law_one [.ref 0, .lst ds] cs = .ok x cs1 := by
  obtain ⟨k, rfl⟩ : ∃ k, K = k + 3 := ⟨K - 3, by omega⟩
  obtain ⟨hx, nth, reg, low, rfl, hr⟩ := h
  obtain ⟨n1, r1, l1, x, h0, h1, e⟩ := r_one k 0 xs.1 nth reg low (stt xs.1 nth reg low :: xs.2) ds rfl hr hx hd
  exact ⟨x, _, ⟨hx, n1, r1, l1, rfl, h0⟩, h1, e⟩
end Md
set_option Elab.async false
set_option linter.all false
set_option maxRecDepth 100000
namespace Md
open PySem XV
local macro_rules | `(tactic| right) => `(tactic| first
  | assumption | exact e_k | exact e_v rfl | exact g_opt rfl | exact ts_nil | apply ts_cons | apply ss_any | apply sq_nx | exact ss_nil | apply e_call | apply s_asgO | apply asg_ok | exact asg_exc
  | apply s_if | apply br_t | apply br_f | apply ba_t | exact ba_f | apply bo_f | exact bo_t | apply e_cmp | apply e_notQ | apply e_tup | apply e_lst | exact g_le rfl | exact g_lt rfl | apply s_retO | exact ret_ok | exact ret_exc | exact sq_ret | exact sq_exc | exact sq_cnt | exact sq_brk
  | apply e_bin | apply e_ix | apply e_isi | apply e_bi | apply e_mt | exact g_bl rfl | apply e_an | apply e_orr | apply e_if | apply e_tr | exact tr_ok | apply tr_exc | apply s_set1 | apply s_par | apply s_app | exact s_frz rfl | apply s_forO | apply i_val | apply i_rng1 | apply i_enum | apply i_zip | apply i_rng2
  | apply pm_val | apply pm_own | apply pm_ownE | exact e_pk rfl | exact e_g rfl | apply e_slc | exact p_no | apply p_one | apply e_fld | apply e_meth | apply e_new | apply e_lenM | apply e_neg | apply s_raise | apply s_expr | apply s_aug | apply s_setF | apply e_lstC | apply s_setIx | exact s_pass | exact s_retN | exact s_cnt | exact s_brk
  | apply And.intro)
theorem Sm.up {n : Nat} {x : D} (q : Sm n x) : Sm (n + 1) x := by
  induction q with
  | non n => exact .non _
  | bl n b => exact .bl _ _
  | int n b => exact .int _ _
  | str n x hx => exact .str _ _ hx
  | dct n => exact .dct _
  | tup n ds hl hd ih => exact .tup _ _ hl ih
  | lst n ds hl hd ih => exact .lst _ _ hl ih
theorem Sm.mono {n : Nat} {x : D} (q : Sm n x) : ∀ m : Nat, Sm (n + m) x
  | 0 => q
  | m + 1 => (Sm.mono q m).up
theorem R_same {n K : Nat} (hK : n + 1 ≤ K) {d : D} (cs : List C) (h : Sm n d) : prog.run K false i__law_same [d, d] cs = .ok (.bl true) cs := by
  obtain ⟨k, rfl⟩ : ∃ k, K = n + k + 1 := ⟨K - n - 1, by omega⟩
  exact r_same cs (h.mono k)
theorem tup2 {n : Nat} {x : List Nat} {d : D} (h : okS x = true) (hd : Sm n d) : Sm (n + 1) (.tup [.str x, d]) := .tup _ _ (Nat.le_of_ble_eq_true rfl) fun e he => by
  rcases List.mem_cons.mp he with rfl | he
  · exact .str _ _ h
  · simp at he; subst he; exact hd
theorem chk {K : Nat} {a b : T} {x : D} {n : Nat} {env : List SV} {cs : List C} (h1 : evE (prog.cfg (prog.run K)) a env cs = .ok x cs) (h2 : evE (prog.cfg (prog.run K)) b env cs = .ok x cs) (hs : Sm n x) (hK : n + 1 ≤ K) :
    evS (prog.cfg (prog.run K)) 100 (.iff (.not (.call i__law_same (.cons a (.cons b .nil)))) (.cons (.ret (.k (.bl false))) .nil) .nil) env cs = .nx env cs :=
  s_iff (e_notQ (e_call (ts_cons h1 (ts_cons h2 ts_nil)) (R_same hK cs hs)) rfl rfl) rfl ss_nil
abbrev mans : List D := [.str [97, 110, 121], .str [109, 97, 116, 99, 104, 101, 100], .str [116, 117, 114, 110, 101, 100]]
abbrev bads : List D := [.non, .str [], .int 5, .lst [.str [97, 110, 121]]]
abbrev lastO (m : D) : D := match m with
  | .str [97, 110, 121] => .str [97, 65]
  | _ => .str [97, 49, 98]
abbrev odds (m : D) : List D := [.non, .str [], .str [49], .int 5, .lst [.str [97]], .str [97, 45], lastO m]
abbrev wrongs (o : D) : List D := [.non, .int 5, .str [97, 98], .lst [.str [97], o], .lst [.str [97], .str [97]], .lst [.str [97], .str [98], .str [99], .str [100], .str [101]], .dct [] []]
abbrev handsL (w : D) : List D := [.lst [.lst [.str [97]], w, .non], .lst [.lst [], .lst [], .lst [], .lst [], .lst [], .lst [], .lst []], .int 5, .str [97, 98], .dct [] []]
abbrev nums : List D := [.non, .int (-1), .bl true, .str [49], .lst [.int 0]]
abbrev nones : List D := [.non, .int 5, .str [97, 98], .dct [] []]
abbrev right : D := .lst [.lst [.str [97]], .lst [.str [98]]]
def idx (h : D) : Int := match h with
  | .lst [_, _, _] => 1
  | .lst _ => 6
  | _ => 0
theorem three {n : Nat} {d : D} (hd : Sm n d) : Sm (n + 1) (.lst [d, d, d]) := .lst _ _ (Nat.le_of_ble_eq_true rfl) fun e he => by
  simp at he; subst he; exact hd
theorem A1 {cs : List C} {b h p : D} (hb : b ∈ bads) : prog.run 11 false i_telling [b, h, p] cs = .exc x_BadManner [b] cs := by
  simp only [bads, List.mem_cons, List.not_mem_nil, or_false] at hb
  rcases hb with rfl | rfl | rfl | rfl <;> kernel_rfl
theorem A2 {cs : List C} {b h n x : D} (hb : b ∈ bads) : prog.run 11 false i_is_safe [b, h, n, x] cs = .exc x_BadManner [b] cs := by
  simp only [bads, List.mem_cons, List.not_mem_nil, or_false] at hb
  rcases hb with rfl | rfl | rfl | rfl <;> kernel_rfl
theorem A3 {cs : List C} {b h n x p : D} (hb : b ∈ bads) : prog.run 11 false i_grants [b, h, n, x, p] cs = .exc x_BadManner [b] cs := by
  simp only [bads, List.mem_cons, List.not_mem_nil, or_false] at hb
  rcases hb with rfl | rfl | rfl | rfl <;> kernel_rfl
theorem B1 {cs : List C} {m o w h p : D} (hm : m ∈ mans) (ho : o ∈ odds m) (hw : w ∈ wrongs o) (hh : h ∈ handsL w) : prog.run 11 false i_telling [m, h, p] cs = .exc x_BadHand [.int (idx h)] cs := by
  simp only [handsL, List.mem_cons, List.not_mem_nil, or_false] at hh
  simp only [wrongs, List.mem_cons, List.not_mem_nil, or_false] at hw
  simp only [mans, List.mem_cons, List.not_mem_nil, or_false] at hm
  simp only [odds, List.mem_cons, List.not_mem_nil, or_false] at ho
  rcases hh with rfl | rfl | rfl | rfl | rfl
  · rcases hw with rfl | rfl | rfl | rfl | rfl | rfl | rfl
    case inr.inr.inr.inl => rcases hm with rfl | rfl | rfl <;> rcases ho with rfl | rfl | rfl | rfl | rfl | rfl | rfl <;> kernel_rfl
    all_goals rcases hm with rfl | rfl | rfl <;> kernel_rfl
  all_goals rcases hm with rfl | rfl | rfl <;> kernel_rfl
theorem B2 {cs : List C} {m o w h n x : D} (hm : m ∈ mans) (ho : o ∈ odds m) (hw : w ∈ wrongs o) (hh : h ∈ handsL w) : prog.run 11 false i_is_safe [m, h, n, x] cs = .exc x_BadHand [.int (idx h)] cs := by
  simp only [handsL, List.mem_cons, List.not_mem_nil, or_false] at hh
  simp only [wrongs, List.mem_cons, List.not_mem_nil, or_false] at hw
  simp only [mans, List.mem_cons, List.not_mem_nil, or_false] at hm
  simp only [odds, List.mem_cons, List.not_mem_nil, or_false] at ho
  rcases hh with rfl | rfl | rfl | rfl | rfl
  · rcases hw with rfl | rfl | rfl | rfl | rfl | rfl | rfl
    case inr.inr.inr.inl => rcases hm with rfl | rfl | rfl <;> rcases ho with rfl | rfl | rfl | rfl | rfl | rfl | rfl <;> kernel_rfl
    all_goals rcases hm with rfl | rfl | rfl <;> kernel_rfl
  all_goals rcases hm with rfl | rfl | rfl <;> kernel_rfl
theorem B3 {cs : List C} {m o w h n x p : D} (hm : m ∈ mans) (ho : o ∈ odds m) (hw : w ∈ wrongs o) (hh : h ∈ handsL w) : prog.run 11 false i_grants [m, h, n, x, p] cs = .exc x_BadHand [.int (idx h)] cs := by
  simp only [handsL, List.mem_cons, List.not_mem_nil, or_false] at hh
  simp only [wrongs, List.mem_cons, List.not_mem_nil, or_false] at hw
  simp only [mans, List.mem_cons, List.not_mem_nil, or_false] at hm
  simp only [odds, List.mem_cons, List.not_mem_nil, or_false] at ho
  rcases hh with rfl | rfl | rfl | rfl | rfl
  · rcases hw with rfl | rfl | rfl | rfl | rfl | rfl | rfl
    case inr.inr.inr.inl => rcases hm with rfl | rfl | rfl <;> rcases ho with rfl | rfl | rfl | rfl | rfl | rfl | rfl <;> kernel_rfl
    all_goals rcases hm with rfl | rfl | rfl <;> kernel_rfl
  all_goals rcases hm with rfl | rfl | rfl <;> kernel_rfl
theorem C1 {cs : List C} {m o : D} (hm : m ∈ mans) (ho : o ∈ odds m) : prog.run 11 false i_telling [m, right, o] cs = .exc x_BadPath [o] cs := by
  simp only [mans, List.mem_cons, List.not_mem_nil, or_false] at hm
  simp only [odds, List.mem_cons, List.not_mem_nil, or_false] at ho
  rcases hm with rfl | rfl | rfl <;> rcases ho with rfl | rfl | rfl | rfl | rfl | rfl | rfl <;> kernel_rfl
theorem C4 {cs : List C} {m o : D} (hm : m ∈ mans) (ho : o ∈ odds m) : prog.run 11 false i_grants [m, right, .int 1, .lst [.str [97], o], .non] cs = .exc x_BadPath [o] cs := by
  simp only [mans, List.mem_cons, List.not_mem_nil, or_false] at hm
  simp only [odds, List.mem_cons, List.not_mem_nil, or_false] at ho
  rcases hm with rfl | rfl | rfl <;> rcases ho with rfl | rfl | rfl | rfl | rfl | rfl | rfl <;> kernel_rfl
theorem C5 {cs : List C} {m o : D} (hm : m ∈ mans) (ho : o ∈ odds m) : prog.run 11 false i_grants [m, right, .int 1, .lst [], o] cs = .exc x_BadPath [o] cs := by
  simp only [mans, List.mem_cons, List.not_mem_nil, or_false] at hm
  simp only [odds, List.mem_cons, List.not_mem_nil, or_false] at ho
  rcases hm with rfl | rfl | rfl <;> rcases ho with rfl | rfl | rfl | rfl | rfl | rfl | rfl <;> kernel_rfl
theorem C2 {cs : List C} {m n x : D} (hm : m ∈ mans) (hn : n ∈ nums) : prog.run 11 false i_is_safe [m, right, n, x] cs = .exc x_BadNumber [n] cs := by
  simp only [mans, List.mem_cons, List.not_mem_nil, or_false] at hm
  simp only [nums, List.mem_cons, List.not_mem_nil, or_false] at hn
  rcases hm with rfl | rfl | rfl <;> rcases hn with rfl | rfl | rfl | rfl | rfl <;> kernel_rfl
theorem C3 {cs : List C} {m x p : D} (hm : m ∈ mans) (hx : x ∈ nones) : prog.run 11 false i_grants [m, right, .int 1, x, p] cs = .exc x_BadPath [x] cs := by
  simp only [mans, List.mem_cons, List.not_mem_nil, or_false] at hm
  simp only [nones, List.mem_cons, List.not_mem_nil, or_false] at hx
  rcases hm with rfl | rfl | rfl <;> rcases hx with rfl | rfl | rfl | rfl <;> kernel_rfl
theorem sm_bad : ∀ i ∈ bads, Sm 1 i := by
  intro i h
  simp only [bads, List.mem_cons, List.not_mem_nil, or_false] at h
  rcases h with rfl | rfl | rfl | rfl
  · exact .non _
  · exact .str _ _ rfl
  · exact .int _ _
  · exact .lst _ _ (Nat.le_of_ble_eq_true rfl) fun e he => by simp at he; subst he; exact .str _ _ rfl
theorem sm_num : ∀ i ∈ nums, Sm 1 i := by
  intro i h
  simp only [nums, List.mem_cons, List.not_mem_nil, or_false] at h
  rcases h with rfl | rfl | rfl | rfl | rfl
  · exact .non _
  · exact .int _ _
  · exact .bl _ _
  · exact .str _ _ rfl
  · exact .lst _ _ (Nat.le_of_ble_eq_true rfl) fun e he => by simp at he; subst he; exact .int _ _
theorem sm_none : ∀ i ∈ nones, Sm 1 i := by
  intro i h
  simp only [nones, List.mem_cons, List.not_mem_nil, or_false] at h
  rcases h with rfl | rfl | rfl | rfl
  · exact .non _
  · exact .int _ _
  · exact .str _ _ rfl
  · exact .dct _
theorem sm_odd {m : D} (hm : m ∈ mans) : ∀ i ∈ odds m, Sm 1 i := by
  intro i h
  simp only [odds, List.mem_cons, List.not_mem_nil, or_false] at h
  rcases h with rfl | rfl | rfl | rfl | rfl | rfl | rfl
  · exact .non _
  · exact .str _ _ rfl
  · exact .str _ _ rfl
  · exact .int _ _
  · exact .lst _ _ (Nat.le_of_ble_eq_true rfl) fun e he => by simp at he; subst he; exact .str _ _ rfl
  · exact .str _ _ rfl
  · simp only [mans, List.mem_cons, List.not_mem_nil, or_false] at hm
    rcases hm with rfl | rfl | rfl <;> exact .str _ _ rfl
abbrev w_man : List Nat := [109, 97, 110, 110, 101, 114]
abbrev w_hand : List Nat := [104, 97, 110, 100]
abbrev w_path : List Nat := [112, 97, 116, 104]
abbrev w_num : List Nat := [110, 117, 109, 98, 101, 114]
theorem trp {K : Nat} {t : T} {w : List Nat} {d : D} {env : List SV} {cs : List C} (h : evE (prog.cfg (prog.run K)) t env cs = .ok d cs) :
    evE (prog.cfg (prog.run K)) (.bin .mul (.lst (.cons (.tup (.cons (.k (.str w)) (.cons t .nil))) .nil)) (.k (.int 3))) env cs = .ok (.lst [.tup [.str w, d], .tup [.str w, d], .tup [.str w, d]]) cs :=
  e_bin (e_lst (ts_cons (e_tup (ts_cons e_k (ts_cons h ts_nil)) (g_le rfl)) ts_nil) (g_le rfl)) e_k rfl
theorem st8 {cs : List C} {a0 a2 a8 a9 : SV} {m b o w hs n x : D} (hb : b ∈ bads) : evSs (prog.cfg (prog.run 11)) 100 ((q0_law.drop 8).take 1) [a0, .d (.ref 0), a2, .d o, .d w, .d hs, .d (.int (idx hs)), .d right, a8, a9, .d m, .d b, .d n, .d x] cs = .nx [a0, .d (.ref 0), a2, .d o, .d w, .d hs, .d (.int (idx hs)), .d right, .own [.tup [.str w_man, b]], a9, .d m, .d b, .d n, .d x] cs := by
  simp only [q0_law, Ss.take, Ss.drop]
  exact ss_nx (s_set1 (pm_own (ts_cons (e_tried_exc (d := .tup [.str w_man, b]) (e_call (ts_cons (e_v rfl) (ts_cons (e_v rfl) (ts_cons (e_v rfl) ts_nil))) (A1 hb)) rfl) ts_nil) (g_le rfl)) (g_lt rfl)) ss_nil
theorem st9 {cs : List C} {a0 a2 a9 : SV} {m b o w hs n x : D} (hb : b ∈ bads) : evSs (prog.cfg (prog.run 11)) 100 ((q0_law.drop 9).take 1) [a0, .d (.ref 0), a2, .d o, .d w, .d hs, .d (.int (idx hs)), .d right, .own [.tup [.str w_man, b]], a9, .d m, .d b, .d n, .d x] cs = .nx [a0, .d (.ref 0), a2, .d o, .d w, .d hs, .d (.int (idx hs)), .d right, .own [.tup [.str w_man, b], .tup [.str w_man, b]], a9, .d m, .d b, .d n, .d x] cs := by
  simp only [q0_law, Ss.take, Ss.drop]
  exact ss_nx (s_app rfl (e_tried_exc (d := .tup [.str w_man, b]) (e_call (ts_cons (e_v rfl) (ts_cons (e_v rfl) (ts_cons (e_v rfl) (ts_cons (e_v rfl) ts_nil)))) (A2 hb)) rfl) (g_lt rfl)) ss_nil
theorem st10 {cs : List C} {a0 a2 a9 : SV} {m b o w hs n x : D} (hb : b ∈ bads) : evSs (prog.cfg (prog.run 11)) 100 ((q0_law.drop 10).take 1) [a0, .d (.ref 0), a2, .d o, .d w, .d hs, .d (.int (idx hs)), .d right, .own [.tup [.str w_man, b], .tup [.str w_man, b]], a9, .d m, .d b, .d n, .d x] cs = .nx [a0, .d (.ref 0), a2, .d o, .d w, .d hs, .d (.int (idx hs)), .d right, .own [.tup [.str w_man, b], .tup [.str w_man, b], .tup [.str w_man, b]], a9, .d m, .d b, .d n, .d x] cs := by
  simp only [q0_law, Ss.take, Ss.drop]
  exact ss_nx (s_app rfl (e_tried_exc (d := .tup [.str w_man, b]) (e_call (ts_cons (e_v rfl) (ts_cons (e_v rfl) (ts_cons (e_v rfl) (ts_cons (e_v rfl) (ts_cons (e_v rfl) ts_nil))))) (A3 hb)) rfl) (g_lt rfl)) ss_nil
theorem st11 {cs : List C} {a0 a2 a9 : SV} {m b o w hs n x : D}  : evSs (prog.cfg (prog.run 11)) 100 ((q0_law.drop 11).take 1) [a0, .d (.ref 0), a2, .d o, .d w, .d hs, .d (.int (idx hs)), .d right, .own [.tup [.str w_man, b], .tup [.str w_man, b], .tup [.str w_man, b]], a9, .d m, .d b, .d n, .d x] cs = .nx [a0, .d (.ref 0), a2, .d o, .d w, .d hs, .d (.int (idx hs)), .d right, .d (.lst [.tup [.str w_man, b], .tup [.str w_man, b], .tup [.str w_man, b]]), a9, .d m, .d b, .d n, .d x] cs := by
  simp only [q0_law, Ss.take, Ss.drop]
  exact ss_nx (s_frz rfl) ss_nil
theorem st12 {cs : List C} {a0 a2 a9 : SV} {m b o w hs n x : D} (hb : b ∈ bads) : evSs (prog.cfg (prog.run 11)) 100 ((q0_law.drop 12).take 1) [a0, .d (.ref 0), a2, .d o, .d w, .d hs, .d (.int (idx hs)), .d right, .d (.lst [.tup [.str w_man, b], .tup [.str w_man, b], .tup [.str w_man, b]]), a9, .d m, .d b, .d n, .d x] cs = .nx [a0, .d (.ref 0), a2, .d o, .d w, .d hs, .d (.int (idx hs)), .d right, .d (.lst [.tup [.str w_man, b], .tup [.str w_man, b], .tup [.str w_man, b]]), a9, .d m, .d b, .d n, .d x] cs := by
  simp only [q0_law, Ss.take, Ss.drop]
  exact ss_nx (chk (n := 3) (x := .lst [.tup [.str w_man, b], .tup [.str w_man, b], .tup [.str w_man, b]]) (e_v rfl) (trp (e_v rfl)) (three (tup2 rfl (sm_bad b hb))) (Nat.le_of_ble_eq_true rfl)) ss_nil
theorem st13 {cs : List C} {a0 a2 a9 : SV} {m b o w hs n x : D} (hm : m ∈ mans) (ho : o ∈ odds m) (hw : w ∈ wrongs o) (hh : hs ∈ handsL w) : evSs (prog.cfg (prog.run 11)) 100 ((q0_law.drop 13).take 1) [a0, .d (.ref 0), a2, .d o, .d w, .d hs, .d (.int (idx hs)), .d right, .d (.lst [.tup [.str w_man, b], .tup [.str w_man, b], .tup [.str w_man, b]]), a9, .d m, .d b, .d n, .d x] cs = .nx [a0, .d (.ref 0), a2, .d o, .d w, .d hs, .d (.int (idx hs)), .d right, .own [.tup [.str w_hand, .int (idx hs)]], a9, .d m, .d b, .d n, .d x] cs := by
  simp only [q0_law, Ss.take, Ss.drop]
  exact ss_nx (s_set1 (pm_own (ts_cons (e_tried_exc (d := .tup [.str w_hand, .int (idx hs)]) (e_call (ts_cons (e_v rfl) (ts_cons (e_v rfl) (ts_cons (e_v rfl) ts_nil))) (B1 hm ho hw hh)) rfl) ts_nil) (g_le rfl)) (g_lt rfl)) ss_nil
theorem st14 {cs : List C} {a0 a2 a9 : SV} {m b o w hs n x : D} (hm : m ∈ mans) (ho : o ∈ odds m) (hw : w ∈ wrongs o) (hh : hs ∈ handsL w) : evSs (prog.cfg (prog.run 11)) 100 ((q0_law.drop 14).take 1) [a0, .d (.ref 0), a2, .d o, .d w, .d hs, .d (.int (idx hs)), .d right, .own [.tup [.str w_hand, .int (idx hs)]], a9, .d m, .d b, .d n, .d x] cs = .nx [a0, .d (.ref 0), a2, .d o, .d w, .d hs, .d (.int (idx hs)), .d right, .own [.tup [.str w_hand, .int (idx hs)], .tup [.str w_hand, .int (idx hs)]], a9, .d m, .d b, .d n, .d x] cs := by
  simp only [q0_law, Ss.take, Ss.drop]
  exact ss_nx (s_app rfl (e_tried_exc (d := .tup [.str w_hand, .int (idx hs)]) (e_call (ts_cons (e_v rfl) (ts_cons (e_v rfl) (ts_cons (e_v rfl) (ts_cons (e_v rfl) ts_nil)))) (B2 hm ho hw hh)) rfl) (g_lt rfl)) ss_nil
theorem st15 {cs : List C} {a0 a2 a9 : SV} {m b o w hs n x : D} (hm : m ∈ mans) (ho : o ∈ odds m) (hw : w ∈ wrongs o) (hh : hs ∈ handsL w) : evSs (prog.cfg (prog.run 11)) 100 ((q0_law.drop 15).take 1) [a0, .d (.ref 0), a2, .d o, .d w, .d hs, .d (.int (idx hs)), .d right, .own [.tup [.str w_hand, .int (idx hs)], .tup [.str w_hand, .int (idx hs)]], a9, .d m, .d b, .d n, .d x] cs = .nx [a0, .d (.ref 0), a2, .d o, .d w, .d hs, .d (.int (idx hs)), .d right, .own [.tup [.str w_hand, .int (idx hs)], .tup [.str w_hand, .int (idx hs)], .tup [.str w_hand, .int (idx hs)]], a9, .d m, .d b, .d n, .d x] cs := by
  simp only [q0_law, Ss.take, Ss.drop]
  exact ss_nx (s_app rfl (e_tried_exc (d := .tup [.str w_hand, .int (idx hs)]) (e_call (ts_cons (e_v rfl) (ts_cons (e_v rfl) (ts_cons (e_v rfl) (ts_cons (e_v rfl) (ts_cons (e_v rfl) ts_nil))))) (B3 hm ho hw hh)) rfl) (g_lt rfl)) ss_nil
theorem st16 {cs : List C} {a0 a2 a9 : SV} {m b o w hs n x : D}  : evSs (prog.cfg (prog.run 11)) 100 ((q0_law.drop 16).take 1) [a0, .d (.ref 0), a2, .d o, .d w, .d hs, .d (.int (idx hs)), .d right, .own [.tup [.str w_hand, .int (idx hs)], .tup [.str w_hand, .int (idx hs)], .tup [.str w_hand, .int (idx hs)]], a9, .d m, .d b, .d n, .d x] cs = .nx [a0, .d (.ref 0), a2, .d o, .d w, .d hs, .d (.int (idx hs)), .d right, .d (.lst [.tup [.str w_hand, .int (idx hs)], .tup [.str w_hand, .int (idx hs)], .tup [.str w_hand, .int (idx hs)]]), a9, .d m, .d b, .d n, .d x] cs := by
  simp only [q0_law, Ss.take, Ss.drop]
  exact ss_nx (s_frz rfl) ss_nil
theorem st17 {cs : List C} {a0 a2 a9 : SV} {m b o w hs n x : D}  : evSs (prog.cfg (prog.run 11)) 100 ((q0_law.drop 17).take 1) [a0, .d (.ref 0), a2, .d o, .d w, .d hs, .d (.int (idx hs)), .d right, .d (.lst [.tup [.str w_hand, .int (idx hs)], .tup [.str w_hand, .int (idx hs)], .tup [.str w_hand, .int (idx hs)]]), a9, .d m, .d b, .d n, .d x] cs = .nx [a0, .d (.ref 0), a2, .d o, .d w, .d hs, .d (.int (idx hs)), .d right, .d (.lst [.tup [.str w_hand, .int (idx hs)], .tup [.str w_hand, .int (idx hs)], .tup [.str w_hand, .int (idx hs)]]), a9, .d m, .d b, .d n, .d x] cs := by
  simp only [q0_law, Ss.take, Ss.drop]
  exact ss_nx (chk (n := 2) (x := .lst [.tup [.str w_hand, .int (idx hs)], .tup [.str w_hand, .int (idx hs)], .tup [.str w_hand, .int (idx hs)]]) (e_v rfl) (trp (e_v rfl)) (three (tup2 rfl (.int 0 _))) (Nat.le_of_ble_eq_true rfl)) ss_nil
theorem st18 {cs : List C} {a0 a2 a9 : SV} {m b o w hs n x : D} (hm : m ∈ mans) (ho : o ∈ odds m) : evSs (prog.cfg (prog.run 11)) 100 ((q0_law.drop 18).take 1) [a0, .d (.ref 0), a2, .d o, .d w, .d hs, .d (.int (idx hs)), .d right, .d (.lst [.tup [.str w_hand, .int (idx hs)], .tup [.str w_hand, .int (idx hs)], .tup [.str w_hand, .int (idx hs)]]), a9, .d m, .d b, .d n, .d x] cs = .nx [a0, .d (.ref 0), a2, .d o, .d w, .d hs, .d (.int (idx hs)), .d right, .own [.tup [.str w_path, o]], a9, .d m, .d b, .d n, .d x] cs := by
  simp only [q0_law, Ss.take, Ss.drop]
  exact ss_nx (s_set1 (pm_own (ts_cons (e_tried_exc (d := .tup [.str w_path, o]) (e_call (ts_cons (e_v rfl) (ts_cons (e_v rfl) (ts_cons (e_v rfl) ts_nil))) (C1 hm ho)) rfl) ts_nil) (g_le rfl)) (g_lt rfl)) ss_nil
theorem st19 {cs : List C} {a0 a2 a9 : SV} {m b o w hs n x : D} (hm : m ∈ mans) (hn : n ∈ nums) : evSs (prog.cfg (prog.run 11)) 100 ((q0_law.drop 19).take 1) [a0, .d (.ref 0), a2, .d o, .d w, .d hs, .d (.int (idx hs)), .d right, .own [.tup [.str w_path, o]], a9, .d m, .d b, .d n, .d x] cs = .nx [a0, .d (.ref 0), a2, .d o, .d w, .d hs, .d (.int (idx hs)), .d right, .own [.tup [.str w_path, o], .tup [.str w_num, n]], a9, .d m, .d b, .d n, .d x] cs := by
  simp only [q0_law, Ss.take, Ss.drop]
  exact ss_nx (s_app rfl (e_tried_exc (d := .tup [.str w_num, n]) (e_call (ts_cons (e_v rfl) (ts_cons (e_v rfl) (ts_cons (e_v rfl) (ts_cons (e_v rfl) ts_nil)))) (C2 hm hn)) rfl) (g_lt rfl)) ss_nil
theorem st20 {cs : List C} {a0 a2 a9 : SV} {m b o w hs n x : D} (hm : m ∈ mans) (hx : x ∈ nones) : evSs (prog.cfg (prog.run 11)) 100 ((q0_law.drop 20).take 1) [a0, .d (.ref 0), a2, .d o, .d w, .d hs, .d (.int (idx hs)), .d right, .own [.tup [.str w_path, o], .tup [.str w_num, n]], a9, .d m, .d b, .d n, .d x] cs = .nx [a0, .d (.ref 0), a2, .d o, .d w, .d hs, .d (.int (idx hs)), .d right, .own [.tup [.str w_path, o], .tup [.str w_num, n], .tup [.str w_path, x]], a9, .d m, .d b, .d n, .d x] cs := by
  simp only [q0_law, Ss.take, Ss.drop]
  exact ss_nx (s_app rfl (e_tried_exc (d := .tup [.str w_path, x]) (e_call (ts_cons (e_v rfl) (ts_cons (e_v rfl) (ts_cons e_k (ts_cons (e_v rfl) (ts_cons (e_v rfl) ts_nil))))) (C3 hm hx)) rfl) (g_lt rfl)) ss_nil
theorem st21 {cs : List C} {a0 a2 a9 : SV} {m b o w hs n x : D} (hm : m ∈ mans) (ho : o ∈ odds m) : evSs (prog.cfg (prog.run 11)) 100 ((q0_law.drop 21).take 1) [a0, .d (.ref 0), a2, .d o, .d w, .d hs, .d (.int (idx hs)), .d right, .own [.tup [.str w_path, o], .tup [.str w_num, n], .tup [.str w_path, x]], a9, .d m, .d b, .d n, .d x] cs = .nx [a0, .d (.ref 0), a2, .d o, .d w, .d hs, .d (.int (idx hs)), .d right, .own [.tup [.str w_path, o], .tup [.str w_num, n], .tup [.str w_path, x], .tup [.str w_path, o]], a9, .d m, .d b, .d n, .d x] cs := by
  simp only [q0_law, Ss.take, Ss.drop]
  exact ss_nx (s_app rfl (e_tried_exc (d := .tup [.str w_path, o]) (e_call (ts_cons (e_v rfl) (ts_cons (e_v rfl) (ts_cons e_k (ts_cons (e_lst (ts_cons e_k (ts_cons (e_v rfl) ts_nil)) (g_le rfl)) (ts_cons e_k ts_nil))))) (C4 hm ho)) rfl) (g_lt rfl)) ss_nil
theorem st22 {cs : List C} {a0 a2 a9 : SV} {m b o w hs n x : D} (hm : m ∈ mans) (ho : o ∈ odds m) : evSs (prog.cfg (prog.run 11)) 100 ((q0_law.drop 22).take 1) [a0, .d (.ref 0), a2, .d o, .d w, .d hs, .d (.int (idx hs)), .d right, .own [.tup [.str w_path, o], .tup [.str w_num, n], .tup [.str w_path, x], .tup [.str w_path, o]], a9, .d m, .d b, .d n, .d x] cs = .nx [a0, .d (.ref 0), a2, .d o, .d w, .d hs, .d (.int (idx hs)), .d right, .own [.tup [.str w_path, o], .tup [.str w_num, n], .tup [.str w_path, x], .tup [.str w_path, o], .tup [.str w_path, o]], a9, .d m, .d b, .d n, .d x] cs := by
  simp only [q0_law, Ss.take, Ss.drop]
  exact ss_nx (s_app rfl (e_tried_exc (d := .tup [.str w_path, o]) (e_call (ts_cons (e_v rfl) (ts_cons (e_v rfl) (ts_cons e_k (ts_cons (e_lst ts_nil (g_le rfl)) (ts_cons (e_v rfl) ts_nil))))) (C5 hm ho)) rfl) (g_lt rfl)) ss_nil
theorem st23 {cs : List C} {a0 a2 a9 : SV} {m b o w hs n x : D}  : evSs (prog.cfg (prog.run 11)) 100 ((q0_law.drop 23).take 1) [a0, .d (.ref 0), a2, .d o, .d w, .d hs, .d (.int (idx hs)), .d right, .own [.tup [.str w_path, o], .tup [.str w_num, n], .tup [.str w_path, x], .tup [.str w_path, o], .tup [.str w_path, o]], a9, .d m, .d b, .d n, .d x] cs = .nx [a0, .d (.ref 0), a2, .d o, .d w, .d hs, .d (.int (idx hs)), .d right, .own [.tup [.str w_path, o], .tup [.str w_num, n], .tup [.str w_path, x], .tup [.str w_path, o], .tup [.str w_path, o]], .d (.lst [.tup [.str w_path, o], .tup [.str w_num, n], .tup [.str w_path, x], .tup [.str w_path, o], .tup [.str w_path, o]]), .d m, .d b, .d n, .d x] cs := by
  simp only [q0_law, Ss.take, Ss.drop]
  exact ss_nx (s_asg (e_lst (ts_cons (e_tup (ts_cons e_k (ts_cons (e_v rfl) ts_nil)) (g_le rfl)) (ts_cons (e_tup (ts_cons e_k (ts_cons (e_v rfl) ts_nil)) (g_le rfl)) (ts_cons (e_tup (ts_cons e_k (ts_cons (e_v rfl) ts_nil)) (g_le rfl)) (ts_cons (e_tup (ts_cons e_k (ts_cons (e_v rfl) ts_nil)) (g_le rfl)) (ts_cons (e_tup (ts_cons e_k (ts_cons (e_v rfl) ts_nil)) (g_le rfl)) ts_nil))))) (g_le rfl)) rfl) ss_nil
theorem st24 {cs : List C} {a0 a2 : SV} {m b o w hs n x : D}  : evSs (prog.cfg (prog.run 11)) 100 ((q0_law.drop 24).take 1) [a0, .d (.ref 0), a2, .d o, .d w, .d hs, .d (.int (idx hs)), .d right, .own [.tup [.str w_path, o], .tup [.str w_num, n], .tup [.str w_path, x], .tup [.str w_path, o], .tup [.str w_path, o]], .d (.lst [.tup [.str w_path, o], .tup [.str w_num, n], .tup [.str w_path, x], .tup [.str w_path, o], .tup [.str w_path, o]]), .d m, .d b, .d n, .d x] cs = .nx [a0, .d (.ref 0), a2, .d o, .d w, .d hs, .d (.int (idx hs)), .d right, .d (.lst [.tup [.str w_path, o], .tup [.str w_num, n], .tup [.str w_path, x], .tup [.str w_path, o], .tup [.str w_path, o]]), .d (.lst [.tup [.str w_path, o], .tup [.str w_num, n], .tup [.str w_path, x], .tup [.str w_path, o], .tup [.str w_path, o]]), .d m, .d b, .d n, .d x] cs := by
  simp only [q0_law, Ss.take, Ss.drop]
  exact ss_nx (s_frz rfl) ss_nil
theorem sm5 {m o n x : D} (hm : m ∈ mans) (ho : o ∈ odds m) (hn : n ∈ nums) (hx : x ∈ nones) : Sm 3 (.lst [.tup [.str w_path, o], .tup [.str w_num, n], .tup [.str w_path, x], .tup [.str w_path, o], .tup [.str w_path, o]]) := .lst _ _ (Nat.le_of_ble_eq_true rfl) fun e he => by
  simp only [List.mem_cons, List.not_mem_nil, or_false] at he
  rcases he with rfl | rfl | rfl | rfl | rfl
  · exact tup2 rfl (sm_odd hm o ho)
  · exact tup2 rfl (sm_num n hn)
  · exact tup2 rfl (sm_none x hx)
  · exact tup2 rfl (sm_odd hm o ho)
  · exact tup2 rfl (sm_odd hm o ho)
theorem st25 {cs : List C} {a0 a2 : SV} {m b o w hs n x : D} (hm : m ∈ mans) (ho : o ∈ odds m) (hn : n ∈ nums) (hx : x ∈ nones) : evSs (prog.cfg (prog.run 11)) 100 ((q0_law.drop 25).take 1) [a0, .d (.ref 0), a2, .d o, .d w, .d hs, .d (.int (idx hs)), .d right, .d (.lst [.tup [.str w_path, o], .tup [.str w_num, n], .tup [.str w_path, x], .tup [.str w_path, o], .tup [.str w_path, o]]), .d (.lst [.tup [.str w_path, o], .tup [.str w_num, n], .tup [.str w_path, x], .tup [.str w_path, o], .tup [.str w_path, o]]), .d m, .d b, .d n, .d x] cs = .nx [a0, .d (.ref 0), a2, .d o, .d w, .d hs, .d (.int (idx hs)), .d right, .d (.lst [.tup [.str w_path, o], .tup [.str w_num, n], .tup [.str w_path, x], .tup [.str w_path, o], .tup [.str w_path, o]]), .d (.lst [.tup [.str w_path, o], .tup [.str w_num, n], .tup [.str w_path, x], .tup [.str w_path, o], .tup [.str w_path, o]]), .d m, .d b, .d n, .d x] cs := by
  simp only [q0_law, Ss.take, Ss.drop]
  exact ss_nx (chk (n := 3) (x := .lst [.tup [.str w_path, o], .tup [.str w_num, n], .tup [.str w_path, x], .tup [.str w_path, o], .tup [.str w_path, o]]) (e_v rfl) (e_v rfl) (sm5 hm ho hn hx) (Nat.le_of_ble_eq_true rfl)) ss_nil
theorem turn {xs : List Int × List C} {cs : List C} {a0 a2 a3 a4 a5 a6 a7 a8 a9 a10 a11 a12 a13 : SV} (h : Sd xs cs) : ∃ e cs1, Sd xs cs1 ∧ e.length = 12 ∧
    evSs (prog.cfg (prog.run 11)) 100 q0_law [a0, .d (.ref 0), a2, a3, a4, a5, a6, a7, a8, a9, a10, a11, a12, a13] cs = .nx (a0 :: .d (.ref 0) :: e) cs1 := by
  obtain ⟨m, c1, h1, hm, e1⟩ := D_one (K := 11) (by decide) h (ds := mans) (by decide)
  obtain ⟨b, c2, h2, hb, e2⟩ := D_one (K := 11) (by decide) h1 (ds := bads) (by decide)
  obtain ⟨o, c3, h3, ho, e3⟩ := D_one (K := 11) (by decide) h2 (ds := odds m) (by simp [odds])
  obtain ⟨w, c4, h4, hw, e4⟩ := D_one (K := 11) (by decide) h3 (ds := wrongs o) (by simp [wrongs])
  obtain ⟨hs, c5, h5, hh, e5⟩ := D_one (K := 11) (by decide) h4 (ds := handsL w) (by simp [handsL])
  obtain ⟨n, c6, h6, hn, e6⟩ := D_one (K := 11) (by decide) h5 (ds := nums) (by decide)
  obtain ⟨x, c7, h7, hx, e7⟩ := D_one (K := 11) (by decide) h6 (ds := nones) (by decide)
  have lo : ∀ {env : List SV}, env[10]? = some (.d m) → evE (prog.cfg (prog.run 11)) (.ife (.cmp .Eq (.v 10) (.k (.str [97, 110, 121]))) (.k (.str [97, 65])) (.k (.str [97, 49, 98]))) env c2 = .ok (lastO m) c2 := fun h3 => by
    simp only [mans, List.mem_cons, List.not_mem_nil, or_false] at hm
    rcases hm with rfl | rfl | rfl
    · exact e_ife (k := true) (e_cmp (k := true) (e_v h3) e_k (by kernel_rfl)) rfl e_k
    · exact e_ife (k := false) (e_cmp (k := false) (e_v h3) e_k (by kernel_rfl)) rfl e_k
    · exact e_ife (k := false) (e_cmp (k := false) (e_v h3) e_k (by kernel_rfl)) rfl e_k
  have ix : ∀ {a6 a7 a8 a9 a12 a13 : SV}, evSs (prog.cfg (prog.run 11)) 100 ((q0_law.drop 4).take 2) [a0, .d (.ref 0), a2, .d o, .d w, .d hs, a6, a7, a8, a9, .d m, .d b, a12, a13] c5 = .nx [a0, .d (.ref 0), a2, .d o, .d w, .d hs, .d (.int (idx hs)), a7, a8, a9, .d m, .d b, a12, a13] c5 := fun {a6 a7 a8 a9 a12 a13} => by
    simp only [handsL, List.mem_cons, List.not_mem_nil, or_false] at hh
    rcases hh with rfl | rfl | rfl | rfl | rfl <;> kernel_rfl
  refine ⟨[a2, .d o, .d w, .d hs, .d (.int (idx hs)), .d right, .d (.lst [.tup [.str w_path, o], .tup [.str w_num, n], .tup [.str w_path, x], .tup [.str w_path, o], .tup [.str w_path, o]]), .d (.lst [.tup [.str w_path, o], .tup [.str w_num, n], .tup [.str w_path, x], .tup [.str w_path, o], .tup [.str w_path, o]]), .d m, .d b, .d n, .d x], c7, h7, rfl,
    ss_cut 4 (e1 := [a0, .d (.ref 0), a2, .d o, .d w, .d hs, a6, a7, a8, a9, .d m, .d b, a12, a13]) (c1 := c5) ?_ (ss_cut 2 ix (ss_cut 2 (e1 := [a0, .d (.ref 0), a2, .d o, .d w, .d hs, .d (.int (idx hs)), .d right, a8, a9, .d m, .d b, .d n, .d x]) (c1 := c7) ?_ ?_))⟩
  · simp only [q0_law, Ss.take]
    refine ss_nx (s_asg (e_tup (ts_cons (e_call (ts_cons (e_v rfl) (ts_cons (e_lst (ts_cons e_k (ts_cons e_k (ts_cons e_k ts_nil))) (g_le rfl)) ts_nil)) e1) (ts_cons (e_call (ts_cons (e_v rfl) (ts_cons (e_lst (ts_cons e_k (ts_cons e_k (ts_cons e_k (ts_cons (e_lst (ts_cons e_k ts_nil) (g_le rfl)) ts_nil)))) (g_le rfl)) ts_nil)) e2) ts_nil)) (g_le rfl)) rfl) ?_
    refine ss_nx (s_asg (e_call (ts_cons (e_v rfl) (ts_cons (e_lst (ts_cons e_k (ts_cons e_k (ts_cons e_k (ts_cons e_k (ts_cons (e_lst (ts_cons e_k ts_nil) (g_le rfl)) (ts_cons e_k (ts_cons (lo rfl) ts_nil))))))) (g_le rfl)) ts_nil)) e3) rfl) ?_
    refine ss_nx (s_asg (e_call (ts_cons (e_v rfl) (ts_cons (e_lst (ts_cons e_k (ts_cons e_k (ts_cons e_k (ts_cons (e_lst (ts_cons e_k (ts_cons (e_v rfl) ts_nil)) (g_le rfl)) (ts_cons (e_lst (ts_cons e_k (ts_cons e_k ts_nil)) (g_le rfl)) (ts_cons (e_bi (ts_cons e_k ts_nil) rfl) (ts_cons e_k ts_nil))))))) (g_le rfl)) ts_nil)) e4) rfl) ?_
    exact ss_nx (s_asg (e_call (ts_cons (e_v rfl) (ts_cons (e_lst (ts_cons (e_lst (ts_cons (e_lst (ts_cons e_k ts_nil) (g_le rfl)) (ts_cons (e_v rfl) (ts_cons e_k ts_nil))) (g_le rfl)) (ts_cons (e_bin (e_lst (ts_cons (e_lst ts_nil (g_le rfl)) ts_nil) (g_le rfl)) e_k rfl) (ts_cons e_k (ts_cons e_k (ts_cons e_k ts_nil))))) (g_le rfl)) ts_nil)) e5) rfl) ss_nil
  · simp only [q0_law, Ss.drop, Ss.take]
    exact ss_nx (s_asg (e_tup (ts_cons (e_call (ts_cons (e_v rfl) (ts_cons (e_lst (ts_cons e_k (ts_cons (e_neg e_k) (ts_cons e_k (ts_cons e_k (ts_cons (e_lst (ts_cons e_k ts_nil) (g_le rfl)) ts_nil))))) (g_le rfl)) ts_nil)) e6) (ts_cons (e_call (ts_cons (e_v rfl) (ts_cons (e_lst (ts_cons e_k (ts_cons e_k (ts_cons e_k (ts_cons e_k ts_nil)))) (g_le rfl)) ts_nil)) e7) ts_nil)) (g_le rfl)) rfl) (ss_nx (s_asg (e_lst (ts_cons (e_lst (ts_cons e_k ts_nil) (g_le rfl)) (ts_cons (e_lst (ts_cons e_k ts_nil) (g_le rfl)) ts_nil)) (g_le rfl)) rfl) ss_nil)
  · exact ss_cut 1 (st8 hb) (ss_cut 1 (st9 hb) (ss_cut 1 (st10 hb) (ss_cut 1 st11 (ss_cut 1 (st12 hb) (ss_cut 1 (st13 hm ho hw hh) (ss_cut 1 (st14 hm ho hw hh) (ss_cut 1 (st15 hm ho hw hh) (ss_cut 1 st16 (ss_cut 1 st17 (ss_cut 1 (st18 hm ho) (ss_cut 1 (st19 hm hn) (ss_cut 1 (st20 hm hx) (ss_cut 1 (st21 hm ho) (ss_cut 1 (st22 hm ho) (ss_cut 1 st23 (ss_cut 1 st24 (ss_cut 1 (st25 hm ho hn hx) rfl)))))))))))))))))
theorem sh {e : List SV} (h : e.length = 12) : ∃ a b c d f g i j k l m n, e = [a, b, c, d, f, g, i, j, k, l, m, n] := by
  match e, h with
  | [a, b, c, d, f, g, i, j, k, l, m, n], _ => exact ⟨a, b, c, d, f, g, i, j, k, l, m, n, rfl⟩
theorem law_loop {xs : List Int × List C} {a0 : SV} : ∀ (ds : List D) (cs : List C) (e : List SV), e.length = 12 → Sd xs cs → ∃ e1 cs1, forL (fun env cs => evSs (prog.cfg (prog.run 11)) 100 q0_law env cs) (.nm 2) ds (a0 :: .d (.ref 0) :: e) cs = .nx e1 cs1
  | [], cs, e, _, _ => ⟨_, cs, rfl⟩
  | d :: ds, cs, e, hl, h => by
    obtain ⟨a2, a3, a4, a5, a6, a7, a8, a9, a10, a11, a12, a13, rfl⟩ := sh hl
    obtain ⟨e1, c1, h1, l1, r1⟩ := turn (a0 := a0) (a2 := .d d) (a3 := a3) (a4 := a4) (a5 := a5) (a6 := a6) (a7 := a7) (a8 := a8) (a9 := a9) (a10 := a10) (a11 := a11) (a12 := a12) (a13 := a13) h
    obtain ⟨e2, c2, h2⟩ := law_loop ds c1 e1 l1 h1
    exact ⟨e2, c2, for_nx rfl r1 h2⟩
theorem R : ∀ ns : List Int, ns.length ≤ 63 → ∃ cs, prog.run 12 false i_law [.scr ns] [] = .ok (.bl true) cs := by
  intro ns hn
  have h0 : (prog.cfg (prog.run 11)).call i__law_fresh [.scr ns] [] = .ok (.ref 0) [stt (cutL ns none (some 63)) 0 0 false] := r_fresh 10 ns []
  have hs : Sd (cutL ns none (some 63), []) [stt (cutL ns none (some 63)) 0 0 false] := ⟨by have : (cutL ns none (some 63)).length ≤ ns.length := by { unfold cutL; simp; omega }; show (cutL ns none (some 63)).length ≤ 1000; omega, 0, 0, false, rfl, Int.le_refl _⟩
  obtain ⟨e1, c1, h1⟩ := law_loop ((List.range 5).map fun (k : Nat) => D.int (k : Int)) _ [.un, .un, .un, .un, .un, .un, .un, .un, .un, .un, .un, .un] rfl hs (a0 := .d (.scr ns))
  exact ⟨c1, run_ret (fn := ⟨1, 14, b_law⟩) rfl rfl (ss_nx (s_asg (e_call (ts_cons (e_v rfl) ts_nil) h0) rfl) (ss_nx (s_for (i_rng1 e_k (by decide)) h1) (ss_ret (s_ret e_k))))⟩
end Md
open PySem PySem.W PySem.Calls PyProof.Rows
set_option maxHeartbeats 0 in
theorem PySem.Challenge.cw_toldpaths_k80_hands_refused_holds : PySem.Challenge.rw_toldpaths_k80_hands_refused.Holds := by
  w_on; o_law
  refine HandSHeadRun.head_any (r := OpenLaw.row PySem.Challenge.rw_toldpaths_k80_hands_refused) (q := HeadT.qv) (H := HeadT.hk) (ob := HeadT.ob) (M := 20000) (loose := HeadT.names) (d := HandSHeadRun.topDef (OpenLaw.row PySem.Challenge.rw_toldpaths_k80_hands_refused).prog 102) (kwd := []) HeadT.ob_eq
    (by kernel_rfl) (fun s => by kernel_rfl) HeadT.run (by kernel_rfl) (by kernel_rfl) (by kernel_rfl) (by rfl) (by first | assumption | decide +kernel) (by decide +kernel) ⟨rfl, rfl, rfl, rfl, rfl, by decide +kernel⟩ ?hw ?hc
  case hw => w_witness2
  case hc =>
    refine LamX.walk_ofTsE (l := PySem.Challenge.rw_toldpaths_k80_hands_refused) (n := 63) (k := 10 * 12) (x := "_law_script") (CX := fun w => L2.CX PySem.Challenge.rw_toldpaths_k80_hands_refused.prog w) rfl (by decide) (by kernel_rfl) ⟨rfl, by decide, by decide⟩ ?F (fun _ _ _ _ _ z => XV.cx_no z)
    intro w mg fa h Y G hmg0
    obtain ⟨K, KX, c⟩ := Y
    have hmg : mg ("law" : PySem.Str) = some (.ref fa) := by
      have e : (HandSHeadRun.topDef (OpenLaw.row PySem.Challenge.rw_toldpaths_k80_hands_refused).prog 102).name = ("law" : PySem.Str) := by kernel_rfl
      rw [← e]
      exact hmg0
    exact ⟨K, KX, Md.fin Md.R KX G hmg c⟩
