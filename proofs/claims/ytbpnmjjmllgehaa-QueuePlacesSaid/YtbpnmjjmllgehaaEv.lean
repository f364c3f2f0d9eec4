/- An evaluator of the program's code over a small model of memory: what it answers is what the program does. Definitions. -/
import Derived.Test.YtbpnmjjmllgehaaReg
import Derived.RecoverIn
import Derived.RangeFuncRecord
import Derived.OrdersIn
import Derived.TacticsIn
import Derived.LoopNIn
namespace Go.Proofs.Ytbpnmjjmllgehaa
open Go Go.RowKit
namespace Ev
def getA : Option Addr → Addr
  | some x => x
  | none => ⟨0, 0, none⟩
def isA : Option Addr → Nat
  | some _ => 1
  | none => 0
def spN : Option Nat → Nat
  | some _ => 1
  | none => 0
/-- two places of slices are the same (but for where a slice of nothing lies) -/
def sameA (a b : Option Addr) : List (Nat × Nat) := [(isA a, isA b), ((getA a).block, (getA b).block), ((getA a).off, (getA b).off), (spN (getA a).spot, spN (getA b).spot)]
/-- two places are the same -/
def eqA (a b : Option Addr) : List (Nat × Nat) := ((getA a).spot.getD 0, (getA b).spot.getD 0) :: sameA a b
/-- n elements of k cells each, from a place on -/
structure Row where
  a : Option Addr
  k : Nat
  n : Nat
  g : Nat → Nat → Value
/-- a block that is known: its number, a copy for the hints, what it holds -/
structure Ent where
  tag : Nat
  b : Nat
  lit : Obj
  cur : Obj
  own : Bool
  rw : Bool
  row : Option Row
  cap : Option (Nat × Nat)
structure St where
  M : List Ent
  nt : Nat
/-- numbers and values of which nothing is known -/
abbrev Sup := Nat → Nat × Value
def Sup.tl (r : Sup) : Sup := fun i => r (i + 1)
def Sup.consV (n : Nat) (v : Value) (r : Sup) : Sup
  | 0 => (n, v)
  | i + 1 => r i
def Sup.cons (n : Nat) (r : Sup) : Sup
  | 0 => (n, undef)
  | i + 1 => r i
inductive Tree (R : Type) where
  | leaf (r : R)
  | ite (b : Bool) (t e : Tree R)
  | claim (x y : Nat) (t : Tree R)
  | fail (why : Nat)
  | stop (v1 v2 : Value) (st : St) (r : Sup)
noncomputable def Tree.bind {R S : Type} (t : Tree R) (f : R → Tree S) : Tree S :=
  Tree.rec (motive := fun _ => Tree S) f (fun b _ _ t e => .ite b t e) (fun x y _ t => .claim x y t) (fun n => .fail n) (fun v1 v2 st r => .stop v1 v2 st r) t
/-- what a panic is asked: its value, the memory then -/
abbrev PK := Value → Value → St → Sup → Prop
def noK : PK := fun _ _ _ _ => False
def Tree.good {R : Type} (Q : R → Prop) (t : Tree R) (K : PK := noK) : Prop :=
  match t with
  | .leaf r => Q r
  | .ite b t e => (b = true → t.good Q K) ∧ (b = false → e.good Q K)
  | .claim x y t => x = y ∧ t.good Q K
  | .fail _ => False
  | .stop v1 v2 st r => K v1 v2 st r
/-- a panic is caught -/
noncomputable def Tree.catch {R S : Type} (t : Tree R) (f : R → Tree S) (g : Value → Value → St → Sup → Tree S) : Tree S :=
  Tree.rec (motive := fun _ => Tree S) f (fun b _ _ t e => .ite b t e) (fun x y _ t => .claim x y t) (fun n => .fail n) g t
/-- no panic -/
def Tree.calm {R : Type} : Tree R → Tree R
  | .leaf r => .leaf r
  | .ite b t e => .ite b t.calm e.calm
  | .claim x y t => .claim x y t.calm
  | .fail n => .fail n
  | .stop _ _ _ _ => .fail 78
def nthL : List Value → Nat → Option Value
  | [], _ => none
  | x :: _, 0 => some x
  | _ :: l, i + 1 => nthL l i
def cellAt (o : Obj) (off : Nat) : Option Value :=
  match o with
  | .cells c _ _ => nthL c.toList off
  | _ => none
def find : List Ent → Nat → Option Ent
  | [], _ => none
  | e :: M, t => match Nat.beq e.tag t with
    | true => some e
    | false => find M t
def setE : List Ent → Nat → Obj → Obj → List Ent
  | [], _, _, _ => []
  | e :: M, t, l, c => match Nat.beq e.tag t with
    | true => { e with lit := l, cur := c, row := none } :: M
    | false => e :: setE M t l c
def flatV : Value → Bool
  | .agg _ => false
  | .tuple _ => false
  | _ => true
/-- a store into a cell that is there and not marked -/
def put2 (c : Array Value) (t : TypeId) (lo hi off : Nat) (v : Value) : Option Value → Bool → Option Obj
  | some _, false => some (.cells (c.toList.set off v).toArray t (lo, hi))
  | _, _ => none
def put1 (o : Obj) (off : Nat) (v : Value) : Option Obj :=
  match flatV v, o with
  | true, .cells c t (lo, hi) => put2 c t lo hi off v (nthL c.toList off) (Nat.ble lo off && Nat.ble (off + 1) hi)
  | _, _ => none
def putL (o : Obj) (off : Nat) (v : Value) : Obj :=
  match o with
  | .cells c t f => .cells (c.toList.set off v).toArray t f
  | o => o
/-- the value with nothing known of its numbers -/
def pois : Value → Value
  | .agg cs => .agg (cs.map fun _ => .tuple #[])
  | .tuple vs => .tuple (vs.map fun v => match v with | .agg cs => .agg (cs.map fun _ => .tuple #[]) | _ => .tuple #[])
  | _ => .tuple #[]
abbrev RR (A : Type) := Tree (Option A × A × St × Sup)
abbrev RF (A : Type) := Option (Sem A) → St → Sup → RR A
def sPure {A : Type} (x : A) : RF A := fun s1 st r => .leaf ((match s1 with | some (.pure y) => some y | _ => none), x, st, r)
def sLoad3 {A : Type} (ih : Value → RF A) (k1 : Value → Sem A) (st : St) (r : Sup) : Option Nat → Option Value → Option Value → RR A
  | none, some v, some v1 => ih v (some (k1 v1)) st r
  | _, _, _ => .fail 2
def sLoad2 {A : Type} (a : Addr) (ih : Value → RF A) (off : Nat) (k1 : Value → Sem A) (st : St) (r : Sup) : Option Ent → RR A
  | some e => .claim a.block e.b (sLoad3 ih k1 st r a.spot (cellAt e.cur a.off) (cellAt e.lit off))
  | none => .fail 1
def sLoad {A : Type} (a : Addr) (ih : Value → RF A) : RF A := fun s1 st r => match s1 with
  | some (.load _ a1 k1) => sLoad2 a ih a1.off k1 st r (find st.M a1.block)
  | _ => .fail 3
def sStore3 {A : Type} (ih : RF A) (a1 : Addr) (v1 : Value) (k1 : Sem A) (st : St) (r : Sup) (l : Obj) : Bool → Option Nat → Option Obj → RR A
  | true, none, some c => ih (some k1) ⟨setE st.M a1.block (putL l a1.off v1) c, st.nt⟩ r
  | _, _, _ => .fail 5
def sStore2 {A : Type} (a : Addr) (v : Value) (ih : RF A) (a1 : Addr) (v1 : Value) (k1 : Sem A) (st : St) (r : Sup) : Option Ent → RR A
  | some e => .claim a.block e.b (sStore3 ih a1 v1 k1 st r e.lit e.rw a.spot (put1 e.cur a.off v))
  | none => .fail 4
def sStore {A : Type} (a : Addr) (v : Value) (ih : RF A) : RF A := fun s1 st r => match s1 with
  | some (.store _ a1 v1 k1) => sStore2 a v ih a1 v1 k1 st r (find st.M a1.block)
  | _ => .fail 6
def sNew {A : Type} (o : Obj) (ih : Nat → RF A) : RF A := fun s1 st r => match s1 with
  | some (.new o1 k1) => ih (r 0).1 (some (k1 st.nt)) ⟨⟨st.nt, (r 0).1, o1, o, true, true, none, none⟩ :: st.M, st.nt + 1⟩ r.tl
  | _ => .fail 7
def sShape3 {A : Type} (ih : Option (TypeId × Nat) → RF A) (k1 : Option (TypeId × Nat) → Sem A) (st : St) (r : Sup) : Bool → Obj → Obj → RR A
  | true, .cells c t _, .cells c1 t1 _ => ih (some (t, c.size)) (some (k1 (some (t1, c1.size)))) st r
  | _, _, _ => .fail 9
def sShape2 {A : Type} (b : Nat) (ih : Option (TypeId × Nat) → RF A) (k1 : Option (TypeId × Nat) → Sem A) (st : St) (r : Sup) : Option Ent → RR A
  | some e => .claim b e.b (sShape3 ih k1 st r e.own e.cur e.lit)
  | none => .fail 8
def sShape {A : Type} (b : Nat) (ih : Option (TypeId × Nat) → RF A) : RF A := fun s1 st r => match s1 with
  | some (.shape b1 k1) => sShape2 b ih k1 st r (find st.M b1)
  | _ => .fail 10
def fzF (lo hi off n : Nat) : Nat × Nat := match Nat.beq lo hi with
  | true => (off, off + n)
  | false => (min lo off, max hi (off + n))
def sFreeze3 {A : Type} (off n : Nat) (ih : RF A) (b1 : Nat) (k1 : Sem A) (st : St) (r : Sup) (l : Obj) : Nat → Bool → Option (Nat × Nat) → Obj → RR A
  | _ + 1, true, none, .cells c t (lo, hi) => ih (some k1) ⟨setE st.M b1 l (.cells c t (fzF lo hi off n)), st.nt⟩ r
  | _, _, _, _ => .fail 20
def sFreeze2 {A : Type} (a : Addr) (n : Nat) (ih : RF A) (b1 : Nat) (k1 : Sem A) (st : St) (r : Sup) : Option Ent → RR A
  | some e => .claim a.block e.b (sFreeze3 a.off n ih b1 k1 st r e.lit n e.rw e.cap e.cur)
  | none => .fail 20
def sFreeze {A : Type} (a : Addr) (n : Nat) (ih : RF A) : RF A := fun s1 st r => match s1 with
  | some (.freeze a1 _ k1) => sFreeze2 a n ih a1.block k1 st r (find st.M a1.block)
  | _ => .fail 20
def sFrozen3 {A : Type} (off : Nat) (ih : Bool → RF A) (k1 : Bool → Sem A) (st : St) (r : Sup) : Bool → Obj → RR A
  | true, .cells _ _ (lo, hi) => ih (Nat.ble lo off && Nat.ble (off + 1) hi) (some (k1 (Nat.ble lo off && Nat.ble (off + 1) hi))) st r
  | _, _ => .fail 12
def sFrozen2 {A : Type} (a : Addr) (ih : Bool → RF A) (k1 : Bool → Sem A) (st : St) (r : Sup) : Option Ent → RR A
  | some e => .claim a.block e.b (sFrozen3 a.off ih k1 st r e.own e.cur)
  | none => .fail 11
def sFrozen {A : Type} (a : Addr) (ih : Bool → RF A) : RF A := fun s1 st r => match s1 with
  | some (.frozen a1 k1) => sFrozen2 a ih k1 st r (find st.M a1.block)
  | _ => .fail 13
def sGet3 {A : Type} (ih : Obj → RF A) (k1 : Obj → Sem A) (l : Obj) (st : St) (r : Sup) : Bool → Obj → RR A
  | true, .map es c => ih (.map es c) (some (k1 l)) st r
  | true, .loop x => ih (.loop x) (some (k1 l)) st r
  | true, .deferred x => ih (.deferred x) (some (k1 l)) st r
  | _, _ => .fail 15
def sGet2 {A : Type} (b : Nat) (ih : Obj → RF A) (k1 : Obj → Sem A) (st : St) (r : Sup) : Option Ent → RR A
  | some e => .claim b e.b (sGet3 ih k1 e.lit st r e.own e.cur)
  | none => .fail 14
def sGet {A : Type} (b : Nat) (ih : Obj → RF A) : RF A := fun s1 st r => match s1 with
  | some (.getObj b1 k1) => sGet2 b ih k1 st r (find st.M b1)
  | _ => .fail 16
def sSet3 {A : Type} (o : Obj) (ih : RF A) (b1 : Nat) (o1 : Obj) (k1 : Sem A) (st : St) (r : Sup) : Bool → Obj → RR A
  | true, .map _ _ => ih (some k1) ⟨setE st.M b1 o1 o, st.nt⟩ r
  | true, .loop _ => ih (some k1) ⟨setE st.M b1 o1 o, st.nt⟩ r
  | true, .deferred _ => ih (some k1) ⟨setE st.M b1 o1 o, st.nt⟩ r
  | _, _ => .fail 18
def sSet2 {A : Type} (b : Nat) (o : Obj) (ih : RF A) (b1 : Nat) (o1 : Obj) (k1 : Sem A) (st : St) (r : Sup) : Option Ent → RR A
  | some e => .claim b e.b (sSet3 o ih b1 o1 k1 st r e.rw e.cur)
  | none => .fail 17
def sSet {A : Type} (b : Nat) (o : Obj) (ih : RF A) : RF A := fun s1 st r => match s1 with
  | some (.setObj b1 o1 k1) => sSet2 b o ih b1 o1 k1 st r (find st.M b1)
  | _ => .fail 19
def sChoose2 {A : Type} (ih : Nat → RF A) (s1 : Option (Sem A)) (st : St) (r : Sup) : Bool → RR A
  | true => ih 0 (match s1 with | some (.choose _ k1) => some (k1 0) | _ => none) st r
  | false => ih (r 0).1 (match s1 with | some (.choose q1 k1) => some (k1 (q1.cut 0)) | _ => none) st r.tl
def sChoose {A : Type} (q : Question) (ih : Nat → RF A) : RF A := fun s1 st r => sChoose2 ih s1 st r q.forced
def sProg {A : Type} (P : Program) (ih : Program → RF A) : RF A := fun s1 st r => ih P (match s1 with | some (.program k1) => some (k1 P) | _ => none) st r
def sMark {A : Type} (ih : RF A) : RF A := fun s1 st r => ih (match s1 with | some (.mark _ k1) => some k1 | _ => none) st r
def sFail {A : Type} (n : Nat) : RF A := fun _ _ _ => .fail n
noncomputable def runS (P : Program) {A : Type} (s : Sem A) : RF A :=
  Sem.rec (motive := fun _ => RF A) (fun x => sPure x) (fun _ a _ ih => sLoad a ih) (fun _ a v _ ih => sStore a v ih) (fun o _ ih => sNew o ih) (fun b _ ih => sShape b ih) (fun a n _ ih => sFreeze a n ih) (fun a _ ih => sFrozen a ih)
    (fun b _ ih => sGet b ih) (fun b o _ ih => sSet b o ih) (fun q _ ih => sChoose q ih) (fun _ _ _ => sFail 21) (fun _ ih => sProg P ih) (fun _ _ ih => sMark ih) (fun _ => sFail 22) s
/-- a frame: how many slots, and what was put, the newest first (a hint and the value); its deferred calls -/
structure Fr where
  n : Nat
  l : List (Nat × Value × Value)
  df : List (Deferred × Deferred) := []
/-- what is called: a function, or a round of a range over a function -/
inductive CallT where
  | fn (f : FuncId)
  | rnd (l1 l2 : Nat) (assign body : Code)
def lookB (x ih : Value × Value) : Bool → Value × Value
  | true => x
  | false => ih
def lookS (t : Nat) (ih : Value × Value) : Nat × Value × Value → Value × Value
  | (d, x) => lookB x ih (Nat.beq d t)
noncomputable def lookL (l : List (Nat × Value × Value)) (t : Nat) : Value × Value :=
  List.rec (motive := fun _ => Value × Value) (undef, undef) (fun p _ ih => lookS t ih p) l
noncomputable def evP (fr : Fr) : Operand → Value × Value
  | .tmp t => lookL fr.l t
  | .const v => (v, v)
  | .global g => (.pointer (some ⟨g, 0, none⟩), .pointer (some ⟨g, 0, none⟩))
  | .func f => (.func (.func f) #[] #[], .func (.func f) #[] #[])
noncomputable def ev1 (fr : Fr) (x : Operand) : Value := (evP fr x).1
noncomputable def ev2 (fr : Fr) (x : Operand) : Value := (evP fr x).2
abbrev VR := Value × Value × St × Sup
abbrev CallE := CallT → List Value → List Value → St → Sup → Tree VR
abbrev KE := St → Sup → Tree VR
def litV (v : Value) : Option Next → Value
  | some (.value v1) => v1
  | _ => pois v
def litA (args : Array Value) : Option Next → List Value
  | some (.enter _ a1) => a1.toList
  | _ => args.toList.map pois
def litL : Option Next → Nat
  | some (.round l _ _ _ _) => l
  | _ => 0
def litT (tmps : Array Value) : Option Next → List Value
  | some (.round _ _ t _ _) => t.toList
  | _ => tmps.toList.map pois
def opK2 (call : CallE) (n1 : Option Next) (st : St) (r : Sup) : Next → Tree VR
  | .value v => .leaf (litV v n1, v, st, r)
  | .skip => .leaf (undef, undef, st, r)
  | .enter f args => call (.fn f) (litA args n1) args.toList st r
  | .round l _ tmps assign body => call (.rnd (litL n1) l assign body) (litT tmps n1) tmps.toList st r
  | _ => .fail 30
def opK (call : CallE) : Option Next × Next × St × Sup → Tree VR
  | (n1, n2, st, r) => opK2 call n1 st r n2
noncomputable def slowOp (P : Program) (call : CallE) (o : Oper) (fr : Fr) : KE := fun st r =>
  (runS P (execOp (ev2 fr) o) (some (execOp (ev1 fr) o)) st r).bind (opK call)
def kn : IntKind → Nat
  | .i8 => 0 | .i16 => 1 | .i32 => 2 | .i64 => 3 | .u8 => 4 | .u16 => 5 | .u32 => 6 | .u64 => 7
def arith (k : IntKind) (a b : Int) : BinOp → Option Value
  | .add => some (.int k (k.wrap (a + b)))
  | .sub => some (.int k (k.wrap (a - b)))
  | .mul => some (.int k (k.wrap (a * b)))
  | .eql => some (.bool (a == b))
  | .neq => some (.bool (a != b))
  | .lss => some (.bool (a < b))
  | .leq => some (.bool (a ≤ b))
  | .gtr => some (.bool (a > b))
  | .geq => some (.bool (a ≥ b))
  | .and => some (.int k (k.wrap (BitVec.ofInt k.bits a &&& BitVec.ofInt k.bits b).toNat))
  | .or => some (.int k (k.wrap (BitVec.ofInt k.bits a ||| BitVec.ofInt k.bits b).toNat))
  | .xor => some (.int k (k.wrap (BitVec.ofInt k.bits a ^^^ BitVec.ofInt k.bits b).toNat))
  | _ => none
def litD : Option (Bool × Value) → Value
  | some (false, v) => v
  | _ => undef
def litB2 (d : Option (Bool × Value)) : Option Value → Value
  | some v => v
  | none => litD d
def binK (slow : KE) (v1 : Value) (st : St) (r : Sup) : Option Value → Tree VR
  | some v => .leaf (v1, v, st, r)
  | none => slow st r
/-- an operation that may panic: when it does, and its value else -/
def arithD (k : IntKind) (a b : Int) : BinOp → Option (Bool × Value)
  | .quo => some (decide (b = 0), .int k (k.wrap (a.tdiv b)))
  | .rem => some (decide (b = 0), .int k (a.tmod b))
  | .shl => some (decide (b < 0), .int k (k.wrap (a * 2 ^ min b.toNat k.bits)))
  | .shr => some (decide (b < 0), .int k (a.fdiv (2 ^ min b.toNat k.bits)))
  | _ => none
def shiftB : BinOp → Bool
  | .shl => true
  | .shr => true
  | _ => false
def litB (op : BinOp) : Value → Value → Value
  | .int k a, .int _ b => litB2 (arithD k a b op) (arith k a b op)
  | _, _ => undef
def divB (slow : KE) (v1 v : Value) (st : St) (r : Sup) : Bool → Tree VR
  | true => slow st r
  | false => .leaf (v1, v, st, r)
def divS (slow : KE) (v1 : Value) (st : St) (r : Sup) (bad : Bool) (v : Value) : Value → Tree VR
  | .int _ _ => divB slow v1 v st r bad
  | _ => .ite bad (.fail 70) (.leaf (v1, v, st, r))
def divK (slow : KE) (v1 y1 : Value) (st : St) (r : Sup) : Option (Bool × Value) → Tree VR
  | some (bad, v) => divS slow v1 st r bad v y1
  | none => slow st r
def binE2 (slow : KE) (v1 y1 : Value) (st : St) (r : Sup) (d : Option (Bool × Value)) : Option Value → Tree VR
  | some v => .leaf (v1, v, st, r)
  | none => divK slow v1 y1 st r d
def binE (slow : KE) (op : BinOp) (v1 y1 : Value) (k : IntKind) (a b : Int) (st : St) (r : Sup) : Bool → Tree VR
  | true => binE2 slow v1 y1 st r (arithD k a b op) (arith k a b op)
  | false => slow st r
/-- is it a struct or an array, and how many cells has it -/
def shapeT (P : Program) (t : TypeId) : Option (Bool × Nat) :=
  match P.underlying t, P.info? t with
  | some (.struct _), some i => some (true, i.size)
  | some (.array _ _), some i => some (true, i.size)
  | some _, some i => some (false, i.size)
  | _, _ => none
/-- equality of values of numbers, bools and strings -/
noncomputable def partV (P : Program) (t : TypeId) (cs : Array Value) (off : Nat) : Option Value :=
  match shapeT P t with
  | some (true, n) => some (.agg (cs.extract off (off + n)))
  | some (false, _) => cs[off]?
  | none => none
noncomputable def eqF (P : Program) (go : TypeId → Value → Value → Option Bool) (xs ys : Array Value) : List Field → Option Bool
  | [] => some true
  | f :: fs => match f.name == "_" with
    | true => eqF P go xs ys fs
    | false => match partV P f.type xs f.offset, partV P f.type ys f.offset with
      | some a, some b => match go f.type a b, eqF P go xs ys fs with
        | some p, some q => some (p && q)
        | _, _ => none
      | _, _ => none
noncomputable def eqI (P : Program) (go : TypeId → Value → Value → Option Bool) (e : TypeId) (k : Nat) (xs ys : Array Value) : List Nat → Option Bool
  | [] => some true
  | j :: js => match partV P e xs (j * k), partV P e ys (j * k) with
    | some a, some b => match go e a b, eqI P go e k xs ys js with
      | some p, some q => some (p && q)
      | _, _ => none
    | _, _ => none
noncomputable def eqAr (P : Program) (go : TypeId → Value → Value → Option Bool) (e : TypeId) (n : Nat) (xs ys : Array Value) : Option TypeInfo → Option Bool
  | some _ => eqI P go e (P.cellsOf e) xs ys (List.range n)
  | none => none
noncomputable def eqV (P : Program) : Nat → TypeId → Value → Value → Option Bool
  | 0, _, _, _ => none
  | d + 1, t, x, y => match P.underlying t, x, y with
    | some .bool, .bool a, .bool b => some (a == b)
    | some (.int _), .int k a, .int k' b => match Nat.beq (kn k) (kn k') with
      | true => some (a == b)
      | false => none
    | some .string, .string a, .string b => some (a.toList == b.toList)
    | some (.struct fs), .agg xs, .agg ys => match P.stoodInHeld t with
      | false => eqF P (eqV P d) xs ys fs.toList
      | true => none
    | some (.array n e), .agg xs, .agg ys => eqAr P (eqV P d) e n xs ys (P.info? e)
    | _, _, _ => none
def litEq (v : Bool) : Option Bool → Value
  | some b => .bool (xor (!v) b)
  | none => undef
def eqR (slow : KE) (neg : Bool) (v1 : Value) (st : St) (r : Sup) : Option Bool → Tree VR
  | some b => .leaf (v1, .bool (match neg with | true => !b | false => b), st, r)
  | none => slow st r
noncomputable def eqK (P : Program) (slow : KE) (t : TypeId) (neg : Bool) (x1 y1 x2 y2 : Value) (st : St) (r : Sup) : Bool → Tree VR
  | false => eqR slow neg (litEq (!neg) (eqV P 6 t x1 y1)) st r (eqV P 6 t x2 y2)
  | true => slow st r
noncomputable def eqO (P : Program) (slow : KE) (t : TypeId) (x1 y1 x2 y2 : Value) (st : St) (r : Sup) : BinOp → Tree VR
  | .eql => eqK P slow t false x1 y1 x2 y2 st r (P.eqGuardType P.depth t)
  | .neq => eqK P slow t true x1 y1 x2 y2 st r (P.eqGuardType P.depth t)
  | _ => slow st r
def isNilA : Option Addr → Bool
  | none => true
  | some _ => false
def nilH (neg : Bool) : Value → Value
  | .slice none _ _ => .bool (xor neg true)
  | .slice (some ⟨_, _, none⟩) _ _ => .bool (xor neg false)
  | _ => undef
def nilC (slow : KE) (x1 : Value) (a : Option Addr) (st : St) (r : Sup) : BinOp → Option TypeDesc → Tree VR
  | .eql, some (.slice _) => .leaf (nilH false x1, .bool (isNilA a), st, r)
  | .neq, some (.slice _) => .leaf (nilH true x1, .bool (!isNilA a), st, r)
  | _, _ => slow st r
noncomputable def binV (P : Program) (slow : KE) (op : BinOp) (t : TypeId) (x1 y1 : Value) (st : St) (r : Sup) : Value → Value → Tree VR
  | .int k a, .int k' b => binE slow op (litB op x1 y1) y1 k a b st r (Nat.beq (kn k) (kn k') || shiftB op)
  | .agg xs, .agg ys => eqO P slow t x1 y1 (.agg xs) (.agg ys) st r op
  | .slice a _ _, .slice none _ _ => nilC slow x1 a st r op (P.underlying t)
  | _, _ => slow st r
noncomputable def binP (P : Program) (slow : KE) (op : BinOp) (t : TypeId) (st : St) (r : Sup) : Value × Value → Value × Value → Tree VR
  | (x1, x2), (y1, y2) => binV P slow op t x1 y1 st r x2 y2
/-- a function of the program's own, that is entered -/
def plainF (P : Program) (f : FuncId) : Bool :=
  match P.funcs[f]? with
  | some fn => !(fn.name == "runtime.NumGoroutine") && fn.body.isSome
  | none => false
def takeC (o : Obj) (off : Nat) : Nat → Option (List Value)
  | 0 => some []
  | n + 1 => match cellAt o off, takeC o (off + 1) n with
    | some v, some l => some (v :: l)
    | _, _ => none
/-- numbers that must be the same -/
def clm {R : Type} : List (Nat × Nat) → Tree R → Tree R
  | [], t => t
  | (x, y) :: l, t => .claim x y (clm l t)
/-- what is known of a slice's cells: hints and cells, or an element's cells -/
inductive Ap where
  | cl (l1 l2 : List Value)
  | rw (g : Nat → Nat → Value)
structure ApS where
  n : Nat
  n1 : Nat
  c : Ap
  rm : Option Nat
  ok : List (Nat × Nat)
  na : Bool
structure ApX where
  m : Nat
  m1 : Nat
  c : Ap
  ok : List (Nat × Nat)
def apC (n n1 : Nat) (rm : Option Nat) (ok : List (Nat × Nat)) : Option (List Value) → Option (List Value) → Option ApS
  | some l1, some l2 => some ⟨n, n1, .cl l1 l2, rm, ok, false⟩
  | _, _ => none
def apCap (c : Array Value) (cap k : Nat) : Option (Nat × Nat) → Bool → Option (List (Nat × Nat))
  | some (cp, k'), _ => some [(cap, cp), (k', k)]
  | none, true => some [(c.toList.length, cap * k)]
  | none, false => none
def apSO (tag b n1 n cap k e eb : Nat) (lit : Obj) (cp : Option (Nat × Nat)) : Bool → Option Nat → Option Row → Obj → Option ApS
  | true, none, none, .cells c t (0, 0) => (apCap c cap k cp (Nat.ble cap 9223372036854775807)).bind fun q => apC n n1 (some tag) ((b, eb) :: (n, n1) :: (t, e) :: q) (takeC lit 0 (n1 * k)) (takeC (.cells c t (0, 0)) 0 (n1 * k))
  | true, some _, some R, .cells c t (0, 0) => (apCap c cap k cp false).map fun q => ⟨n, 0, .rw R.g, some tag, (b, eb) :: ((getA R.a).off, 0) :: (R.k, k) :: (R.n, n) :: (t, e) :: q, false⟩
  | _, _, _, _ => none
def apSE (tag b n1 n cap k e : Nat) (sp : Option Nat) : Option Ent → Option ApS
  | some x => apSO tag b n1 n cap k e x.b x.lit x.cap x.rw sp x.row x.cur
  | none => none
def isS : Option Addr → Bool
  | some _ => true
  | none => false
def bN : Bool → Nat
  | true => 1
  | false => 0
/-- a row of the program's own, or nil -/
def adO : Option Nat → Option Addr
  | some b => some ⟨b, 0, none⟩
  | none => none
def capN (a : Option Addr) (c : Nat) : Nat := match a with
  | some _ => c
  | none => 0
def naA (a : Option Addr) (A : Array Value) : Array Value := match a with
  | some _ => A
  | none => #[]
def naE (tag : Nat) (a : Option Addr) (k e n : Nat) (g : Nat → Nat → Value) (c : Nat) (A : Array Value) : Ent := ⟨tag, (getA a).block, .cells #[] e, .cells (naA a A) e, isS a, isS a, some ⟨a, k, n, g⟩, some (c, k)⟩
def apNO (tag n cap k e : Nat) (a : Option Addr) (x : Ent) : Option Row → Option (Nat × Nat) → Obj → Option ApS
  | some R, some (c, k'), .cells _ t (0, 0) => some ⟨n, 0, .rw R.g, some tag, (bN x.rw, bN (isS R.a)) :: (bN x.own, bN (isS R.a)) :: (cap, capN R.a c) :: (k', k) :: (R.k, k) :: (R.n, n) :: (t, e) :: eqA a R.a, true⟩
  | _, _, _ => none
def apNE (tag n cap k e : Nat) (a : Option Addr) : Option Ent → Option ApS
  | some x => apNO tag n cap k e a x x.row x.cap x.cur
  | none => none
def apSV (M : List Ent) (tag : Nat) (sp : Option Nat) (n1 k e : Nat) : Value → Option ApS
  | .slice (some ⟨b, 0, none⟩) n cap => apSE tag b n1 n cap k e sp (find M tag)
  | _ => none
def apNV (M : List Ent) (tag k e : Nat) : Value → Option ApS
  | .slice a n cap => apNE tag n cap k e a (find M tag)
  | _ => none
def apZV : Value → Option ApS
  | .slice none 0 0 => some ⟨0, 0, .cl [] [], none, [], false⟩
  | _ => none
def apSW (M : List Ent) (tag n1 k e : Nat) (v : Value) : Option Nat → Option ApS
  | some 1 => apNV M tag k e v
  | sp => apSV M tag sp n1 k e v
def apSH (M : List Ent) (k e : Nat) (v : Value) : Value → Option ApS
  | .slice none _ _ => apZV v
  | .slice (some ⟨tag, 0, sp⟩) n1 _ => apSW M tag n1 k e v sp
  | _ => none
def apS (M : List Ent) (k e : Nat) (x : Value × Value) : Option ApS := apSH M k e x.2 x.1
def apD (m m1 : Nat) (ok : List (Nat × Nat)) : Option (List Value) → Option (List Value) → Option ApX
  | some l1, some l2 => some ⟨m, m1, .cl l1 l2, ok⟩
  | _, _ => none
def apXR (a : Option Addr) (m k : Nat) : Option Row → Option ApX
  | some R => some ⟨m, 0, .rw R.g, (m, R.n) :: (R.k, k) :: sameA a R.a⟩
  | none => none
def apXC (off1 m1 m k : Nat) (x : Ent) : Option Addr → Option ApX
  | some ⟨b, off, none⟩ => apD m m1 [(b, x.b), (off, off1), (m, m1)] (takeC x.lit off1 (m1 * k)) (takeC x.cur off1 (m1 * k))
  | _ => none
def apXE (off1 m1 : Nat) (a : Option Addr) (m k : Nat) : Option Nat → Option Ent → Option ApX
  | none, some x => apXC off1 m1 m k x a
  | some _, some x => apXR a m k x.row
  | _, none => none
def apX (M : List Ent) (k : Nat) : Value × Value → Option ApX
  | (.slice (some ⟨tag, off1, sp⟩) m1 _, .slice a m _) => apXE off1 m1 a m k sp (find M tag)
  | (.slice none _ _, .slice none 0 _) => some ⟨0, 0, .cl [] [], []⟩
  | _ => none
/-- an element's cells -/
def apF (k : Nat) : Ap → Nat → Nat → Value
  | .cl _ l => fun j c => (nthL l (j * k + c)).getD undef
  | .rw g => g
def apG (k n : Nat) (a b : Ap) : Nat → Nat → Value := match n with
  | 0 => apF k b
  | n' + 1 => fun j c => match Nat.ble (n' + 1) j with
    | true => apF k b (j - (n' + 1)) c
    | false => apF k a j c
def flatR (g : Nat → Nat → Value) (m k : Nat) : Bool := decide (∀ j, j < m → ∀ c, c < k → flatV (g j c) = true)
def flatA (m k : Nat) : Ap → Bool
  | .cl _ l => l.all flatV
  | .rw g => flatR g m k
def dropO (M : List Ent) : Option Nat → List Ent
  | none => M
  | some t => M.filter fun e => !Nat.beq e.tag t
def arV : Value → Array Value
  | .agg c => c
  | _ => #[]
def apNC (n n1 m m1 k e : Nat) (l1 l2 x1 x2 : List Value) (rm : Option Nat) (st : St) (r : Sup) : Bool → Tree VR
  | true => .leaf (.slice (some ⟨st.nt, 0, none⟩) (n1 + m1) 0, .slice (some ⟨(r 0).1, 0, none⟩) (n + m) (r 1).1, ⟨⟨st.nt, (r 0).1, .cells (l1 ++ x1).toArray e, .cells (l2 ++ (x2 ++ (arV (r 0).2).toList)).toArray e, true, true, none, some ((r 1).1, k)⟩ :: dropO st.M rm, st.nt + 1⟩, r.tl.tl)
  | false => .fail 76
def apNR (s : ApS) (x : ApX) (k e : Nat) (st : St) (r : Sup) : Tree VR :=
  .leaf (.slice (some ⟨st.nt, 0, some 0⟩) 0 0, .slice (some ⟨(r 0).1, 0, none⟩) (s.n + x.m) (r 1).1, ⟨⟨st.nt, (r 0).1, .cells #[] e, .cells (arV (r 0).2) e, true, true, some ⟨some ⟨(r 0).1, 0, none⟩, k, s.n + x.m, apG k s.n s.c x.c⟩, some ((r 1).1, k)⟩ :: dropO st.M s.rm, st.nt + 1⟩, r.tl.tl)
def apNew (s : ApS) (x : ApX) (k e bytes : Nat) (st : St) (r : Sup) : Ap → Ap → Tree VR
  | .cl l1 l2, .cl x1 x2 => apNC s.n s.n1 x.m x.m1 k e l1 l2 x1 x2 s.rm st r (Nat.ble ((s.n1 + x.m1) * bytes) 140737488355328 && x2.all flatV)
  | _, _ => .ite (Nat.ble ((s.n + x.m) * bytes) 140737488355328) (.ite (flatA x.m k x.c) (apNR s x k e st r) (.fail 77)) (.fail 76)
def nilS : Value := .slice none 0 0
/-- where a slice lies -/
def obV : Value → Option Nat
  | .slice (some a) _ _ => some a.block
  | _ => none
/-- a slice that is nil or not is made longer by any number: nil or not -/
def apNN (s : ApS) (x : ApX) (k e bytes : Nat) (st : St) (r : Sup) : Tree VR :=
  .ite (Nat.ble ((s.n + x.m) * bytes) 140737488355328) (.ite (flatA x.m k x.c) (.leaf (.slice (some ⟨st.nt, 0, some 1⟩) 0 0, .slice (adO (obV (r 0).2)) (s.n + x.m) (capN (adO (obV (r 0).2)) (r 1).1), ⟨naE st.nt (adO (obV (r 0).2)) k e (s.n + x.m) (apG k s.n s.c x.c) (r 1).1 (arV (r 1).2) :: dropO st.M s.rm, st.nt + 1⟩, r.tl.tl)) (.fail 77)) (.fail 76)
def apRN (s : ApS) (x : ApX) (k e bytes : Nat) (st : St) (r : Sup) : Ap → Nat → Tree VR
  | .cl _ _, 0 => .fail 79
  | .cl _ _, _ + 1 => apNew s x k e bytes st r s.c x.c
  | .rw _, _ => apNN s x k e bytes st r
def apR (s : ApS) (x : ApX) (k e bytes : Nat) (st : St) (r : Sup) : Option Nat → Ap → Nat → Tree VR
  | none, .cl _ _, 0 => .leaf (nilS, nilS, st, r)
  | none, .cl _ _, _ + 1 => apNew s x k e bytes st r s.c x.c
  | none, .rw _, _ => .ite (decide (x.m = 0)) (.leaf (nilS, nilS, st, r)) (apNew s x k e bytes st r s.c x.c)
  | some _, _, _ => apNew s x k e bytes st r s.c x.c
def elemOk (e : TypeId) (i : TypeInfo) : Option Value → Option (TypeId × Nat × Nat)
  | some z => (match Nat.beq z.cells.size i.size && (Nat.ble 1 i.size && Nat.ble 1 i.bytes) with
    | true => some (e, i.size, i.bytes)
    | false => none)
  | none => none
def elemT (P : Program) (t : TypeId) : Option (TypeId × Nat × Nat) :=
  match P.underlying t with
  | some (.slice e) => (match P.info? e with
    | some i => elemOk e i i.zero
    | none => none)
  | _ => none
def apRB (s : ApS) (x : ApX) (k e bytes : Nat) (st : St) (r : Sup) : Bool → Tree VR
  | true => apRN s x k e bytes st r x.c x.m1
  | false => apR s x k e bytes st r s.rm x.c x.m1
def appK (slow : KE) (k e bytes : Nat) (st : St) (r : Sup) : Option ApS → Option ApX → Tree VR
  | some s, some x => clm (s.ok ++ x.ok) (apRB s x k e bytes st r s.na)
  | _, _ => slow st r
def appT (slow : KE) (M : List Ent) (s x : Value × Value) (st : St) (r : Sup) : Bool → Option (TypeId × Nat × Nat) → Tree VR
  | true, some (e, k, bytes) => appK slow k e bytes st r (apS M k e s) (apX M k x)
  | _, _ => slow st r
def zelT (P : Program) (t : TypeId) : Option (TypeId × Array Value × Nat × Nat) :=
  match P.underlying t with
  | some (.slice e) => (match P.info? e with
    | some i => (match i.zero with
      | some z => (match Nat.beq z.cells.size i.size && Nat.ble 1 i.size with
        | true => some (e, z.cells, i.size, i.bytes)
        | false => none)
      | none => none)
    | none => none)
  | _ => none
/-- n zero elements behind nil: append of a make -/
def zrL (z : List Value) : Nat → List Value
  | 0 => []
  | n + 1 => z ++ zrL z n
def zrC (n1 : Nat) (m : Int) (e k bytes : Nat) (z : Array Value) (st : St) (r : Sup) : Bool → Tree VR
  | true => .claim m.toNat n1 (.leaf (.slice (some ⟨st.nt, 0, none⟩) n1 0, .slice (some ⟨(r 0).1, 0, none⟩) n1 (r 1).1, ⟨⟨st.nt, (r 0).1, .cells (zrL z.toList n1).toArray e, .cells (zrL z.toList n1 ++ (arV (r 0).2).toList).toArray e, true, true, none, some ((r 1).1, k)⟩ :: st.M, st.nt + 1⟩, r.tl.tl))
  | false => .fail 88
def zrV (slow : KE) (e k bytes : Nat) (z : Array Value) (st : St) (r : Sup) : Value × Value → Value × Value → Tree VR
  | (.slice none _ _, .slice none 0 0), (.int .i64 (.ofNat n1), .int .i64 m) => zrC n1 m e k bytes z st r (Nat.ble 1 n1 && (Nat.ble (n1 * bytes) 281474976710656 && Nat.ble n1 9223372036854775807))
  | _, _ => slow st r
def intT : Option TypeDesc → Bool
  | some (.int _) => true
  | _ => false
def zrO (slow : KE) (s x : Value × Value) (st : St) (r : Sup) : Bool → Option (TypeId × Array Value × Nat × Nat) → Tree VR
  | true, some (e, z, k, bytes) => zrV slow e k bytes z st r s x
  | _, _ => slow st r
def appI (P : Program) (slow : KE) (s x : Value × Value) (t t' : TypeId) (st : St) (r : Sup) : Bool → Tree VR
  | true => appT slow st.M s x st r true (elemT P t)
  | false => zrO slow s x st r (intT (P.underlying t')) (zelT P t)
noncomputable def appO (P : Program) (slow : KE) (fr : Fr) (st : St) (r : Sup) : List Operand → List TypeId → Tree VR
  | [s, x], [t, t'] => appI P slow (evP fr s) (evP fr x) t t' st r (Nat.beq t t')
  | _, _ => slow st r
def callB1 (slow : KE) (call : CallE) (f : FuncId) (a1 a2 : List Value) (st : St) (r : Sup) : Bool → Tree VR
  | true => call (.fn f) a1 a2 st r
  | false => slow st r
def panV (slow : KE) (st : St) (r : Sup) : Value × Value → Tree VR
  | (v1, .iface t v) => .stop v1 (.iface t v) st r
  | _ => slow st r
noncomputable def panO (slow : KE) (fr : Fr) (st : St) (r : Sup) : List Operand → Tree VR
  | [x] => panV slow st r (evP fr x)
  | _ => slow st r
def lenH : Value → Value
  | .slice (some ⟨_, _, some _⟩) _ _ => undef
  | .slice _ n _ => .int .i64 n
  | _ => undef
def lenV (slow : KE) (st : St) (r : Sup) : Value × Value → Tree VR
  | (x1, .slice _ n _) => .leaf (lenH x1, .int .i64 n, st, r)
  | _ => slow st r
def lenU (slow : KE) (st : St) (r : Sup) (x : Value × Value) : Option TypeDesc → Tree VR
  | some (.slice _) => lenV slow st r x
  | _ => slow st r
noncomputable def lenO (P : Program) (slow : KE) (fr : Fr) (st : St) (r : Sup) : List Operand → List TypeId → Tree VR
  | [x], [t] => lenU slow st r (evP fr x) (P.underlying t)
  | _, _ => slow st r
noncomputable def callO (P : Program) (slow : KE) (call : CallE) (args : Array Operand) (tys : Array TypeId) (fr : Fr) (st : St) (r : Sup) : Callee → Tree VR
  | .value (.func f) => callB1 slow call f (args.toList.map (ev1 fr)) (args.toList.map (ev2 fr)) st r (plainF P f)
  | .builtin .append => appO P slow fr st r args.toList tys.toList
  | .builtin .len => lenO P slow fr st r args.toList tys.toList
  | .builtin .panic => panO slow fr st r args.toList
  | _ => slow st r
def leafP (st : St) (r : Sup) : Value × Value → Tree VR
  | (v1, v2) => .leaf (v1, v2, st, r)
def pickB (x y : Value × Value) (st : St) (r : Sup) : Bool → Tree VR
  | true => leafP st r x
  | false => leafP st r y
def pickS (v : Bool) (x y : Value × Value) (st : St) (r : Sup) : Value → Value → Tree VR
  | .bool a, .bool b => .leaf (undef, .bool (cond v a b), st, r)
  | _, _ => .ite v (leafP st r x) (leafP st r y)
def pickV (slow : KE) (x y : Value × Value) (st : St) (r : Sup) : Value × Value → Tree VR
  | (.bool _, .bool v) => pickB x y st r v
  | (_, .bool v) => pickS v x y st r x.2 y.2
  | _ => slow st r
def unV (slow : KE) (st : St) (r : Sup) : UnOp → Value × Value → Tree VR
  | .not, (.bool a, .bool b) => .leaf (.bool (!a), .bool (!b), st, r)
  | .not, (_, .bool b) => .leaf (undef, .bool (!b), st, r)
  | _, _ => slow st r
def nilV (slow : KE) (st : St) (r : Sup) : Value × Value → Tree VR
  | (x1, .pointer (some a)) => .leaf (x1, .pointer (some a), st, r)
  | _ => slow st r
def loadA (st : St) (r : Sup) : Option (List Value) → Option (List Value) → Tree VR
  | some l1, some l2 => .leaf (.agg l1.toArray, .agg l2.toArray, st, r)
  | _, _ => .fail 62
def loadC (st : St) (r : Sup) : Option Value → Option Value → Tree VR
  | some v1, some v2 => .leaf (v1, v2, st, r)
  | _, _ => .fail 63
def loadS (o1 : Nat) (o2 : Nat) (e : Ent) (st : St) (r : Sup) : Bool × Nat → Tree VR
  | (true, n) => loadA st r (takeC e.lit o1 n) (takeC e.cur o2 n)
  | (false, _) => loadC st r (cellAt e.lit o1) (cellAt e.cur o2)
def loadE (sh : Bool × Nat) (o1 : Nat) (a : Addr) (st : St) (r : Sup) : Option Ent → Tree VR
  | some e => .claim a.block e.b (loadS o1 a.off e st r sh)
  | none => .fail 61
/-- cells of an element of a row -/
def cellsR (R : Row) (j : Nat) : Nat → Nat → List Value
  | _, 0 => []
  | c, n + 1 => R.g j c :: cellsR R j (c + 1) n
def loadRB (c j : Nat) (R : Row) (st : St) (r : Sup) (sh : Bool × Nat) : Bool → Tree VR
  | true => match sh with
    | (true, n) => .leaf (.agg ((cellsR R j c n).map fun _ => undef).toArray, .agg (cellsR R j c n).toArray, st, r)
    | (false, _) => .leaf (pois (R.g j c), R.g j c, st, r)
  | false => .fail 74
def needR : Bool × Nat → Nat
  | (true, n) => n
  | (false, _) => 1
def loadRR (sh : Bool × Nat) (c j b off : Nat) (st : St) (r : Sup) : Option Row → Tree VR
  | some R => .claim b (getA R.a).block (.claim off ((getA R.a).off + (j * R.k + c)) (.ite (Nat.ble (j + 1) R.n) (loadRB c j R st r sh (Nat.ble (c + needR sh) R.k)) (.fail 72)))
  | none => .fail 73
def loadR (sh : Bool × Nat) (c j b off : Nat) (st : St) (r : Sup) : Option Ent → Tree VR
  | some e => loadRR sh c j b off st r e.row
  | none => .fail 61
def loadW (sh : Bool × Nat) (a1 : Addr) (b off : Nat) (st : St) (r : Sup) : Option Nat → Tree VR
  | none => loadE sh a1.off ⟨b, off, none⟩ st r (find st.M a1.block)
  | some j => loadR sh a1.off j b off st r (find st.M a1.block)
def loadV (slow : KE) (st : St) (r : Sup) (sh : Bool × Nat) : Value × Value → Tree VR
  | (.pointer (some a1), .pointer (some ⟨b, off, none⟩)) => loadW sh a1 b off st r a1.spot
  | _ => slow st r
def loadO (slow : KE) (st : St) (r : Sup) (x : Value × Value) : Option (Bool × Nat) → Tree VR
  | some sh => loadV slow st r sh x
  | none => slow st r
/-- the cells of a value, as a new block -/
def boxN (t : TypeId) (st : St) (r : Sup) : Value × Value → Tree VR
  | (v1, v2) => .leaf (.pointer (some ⟨st.nt, 0, none⟩), .pointer (some ⟨(r 0).1, 0, none⟩), ⟨⟨st.nt, (r 0).1, .cells v1.cells t, .cells v2.cells t, true, true, none, none⟩ :: st.M, st.nt + 1⟩, r.tl)
def zeroT (P : Program) (t : TypeId) : Option Value := (P.info? t).bind (·.zero)
def allocO (slow : KE) (t : TypeId) (st : St) (r : Sup) : Option Value → Tree VR
  | some z => boxN t st r (z, z)
  | none => slow st r
def fieldO (P : Program) (s : TypeId) (f : Nat) : Option Nat :=
  match P.underlying s with
  | some (.struct fs) => match fs[f]? with
    | some x => match P.info? x.type with
      | some i => match i.size with
        | 0 => none
        | _ => some x.offset
      | none => none
    | none => none
  | _ => none
def fieldV (slow : KE) (st : St) (r : Sup) (off : Nat) : Value × Value → Tree VR
  | (.pointer (some a1), .pointer (some a)) => .leaf (.pointer (some ⟨a1.block, a1.off + off, a1.spot⟩), .pointer (some (a.add off)), st, r)
  | _ => slow st r
def fieldK (slow : KE) (st : St) (r : Sup) (x : Value × Value) : Option Nat → Tree VR
  | some off => fieldV slow st r off x
  | none => slow st r
/-- an array's length (none: a slice) and how many cells an element has -/
def idxT (P : Program) (t : TypeId) : Option (Option Nat × Nat) :=
  match P.underlying t with
  | some (.slice e) => (match P.info? e with | some i => some (none, i.size) | none => none)
  | some (.array n e) => (match P.info? e with | some i => some (some n, i.size) | none => none)
  | _ => none
def inB (i : Int) (len : Nat) : Bool := decide (0 ≤ i ∧ i < (len : Int))
def idxL (k tag o b off : Nat) (i : Int) (len : Nat) (st : St) (r : Sup) : Tree VR :=
  .ite (inB i len) (.leaf (.pointer (some ⟨tag, o, some i.toNat⟩), .pointer (some ⟨b, off + i.toNat * k, none⟩), st, r)) (.fail 71)
def idxR (k tag o : Nat) (a : Option Addr) (i : Int) (len : Nat) (st : St) (r : Sup) : Bool → Option Row → Tree VR
  | true, some R => clm ((len, R.n) :: (k, R.k) :: sameA a R.a) (idxL k tag o (getA a).block (getA a).off i len st r)
  | _, _ => .fail 75
def idxE (k tag o : Nat) (a : Option Addr) (i : Int) (len : Nat) (st : St) (r : Sup) : Option Ent → Tree VR
  | some e => idxR k tag o a i len st r (Nat.ble 1 k) e.row
  | none => .fail 61
def idxS (slow : KE) (k : Nat) (st : St) (r : Sup) : Value × Value → Value × Value → Tree VR
  | (.slice (some ⟨tag, o, some _⟩) _ _, .slice a len _), (_, .int _ i) => idxE k tag o a i len st r (find st.M tag)
  | _, _ => slow st r
def idxA (slow : KE) (n k : Nat) (st : St) (r : Sup) : Value × Value → Value × Value → Tree VR
  | _, (.int _ _, _) => slow st r
  | (.pointer (some ⟨tag, o, _⟩), .pointer (some ⟨b, off, none⟩)), (_, .int _ i) => idxL k tag o b off i n st r
  | _, _ => slow st r
def idxO (slow : KE) (x i : Value × Value) (st : St) (r : Sup) : Option (Option Nat × Nat) → Tree VR
  | some (none, k) => idxS slow k st r x i
  | some (some n, k) => idxA slow n k st r x i
  | none => slow st r
/-- one of two values -/
def mixI (q : Bool) (k k' : IntKind) (a b : Int) : Bool → Value
  | true => .int k' (cond q a b)
  | false => cond q (.int k a) (.int k' b)
def mixV (q : Bool) : Value → Value → Value
  | .int k a, .int k' b => mixI q k k' a b (Nat.beq (kn k) (kn k'))
  | .bool a, .bool b => .bool (cond q a b)
  | x, y => cond q x y
/-- cell c of element j is another one -/
def upG (g : Nat → Nat → Value) (j c : Nat) (v : Value) : Nat → Nat → Value := fun j' c' => mixV (Nat.beq j' j && Nat.beq c' c) v (g j' c')
def upL (g : Nat → Nat → Value) (j : Nat) : Nat → List Value → (Nat → Nat → Value)
  | _, [] => g
  | c, v :: l => upL (upG g j c v) j (c + 1) l
def upA (A : Array Value) (o : Nat) (vs : List Value) : Array Value := (A.toList.take o ++ vs ++ A.toList.drop (o + vs.length)).toArray
def setR : List Ent → Nat → Obj → Row → List Ent
  | [], _, _, _ => []
  | e :: M, t, c, R => match Nat.beq e.tag t with
    | true => { e with cur := c, row := some R } :: M
    | false => e :: setR M t c R
/-- a store into an element of a row -/
def stRB (tag c j T : Nat) (vs : List Value) (R : Row) (A : Array Value) (st : St) (r : Sup) : Bool → Tree VR
  | true => .leaf (undef, undef, ⟨setR st.M tag (.cells (upA A (j * R.k + c) vs) T) ⟨R.a, R.k, R.n, upL R.g j c vs⟩, st.nt⟩, r)
  | false => .fail 84
def stRO (tag c j b off : Nat) (vs : List Value) (e : Ent) (st : St) (r : Sup) : Option Row → Option (Nat × Nat) → Obj → Tree VR
  | some R, some (_, k'), .cells A T (0, 0) => clm [(bN e.rw, bN (isS R.a)), (bN e.own, bN (isS R.a)), (b, (getA R.a).block), (off, (getA R.a).off + (j * R.k + c)), (k', R.k)] (.ite (Nat.ble (j + 1) R.n) (stRB tag c j T vs R A st r (Nat.ble (c + vs.length) R.k && (Nat.ble 1 vs.length && vs.all flatV))) (.fail 82))
  | _, _, _ => .fail 83
def stRE (tag c j b off : Nat) (vs : List Value) (st : St) (r : Sup) : Option Ent → Tree VR
  | some e => stRO tag c j b off vs e st r e.row e.cap e.cur
  | none => .fail 81
def stRN (tag c j b off : Nat) (vs : List Value) (st : St) (r : Sup) : Bool → Tree VR
  | true => stRE tag c j b off vs st r (find st.M tag)
  | false => .fail 85
def stoS (slow : KE) (tag c b off : Nat) (v : Value) (n : Nat) (st : St) (r : Sup) : Option Nat → Tree VR
  | some j => stRN tag c j b off v.cells.toList st r (Nat.beq v.cells.toList.length n)
  | none => slow st r
def stoV (slow : KE) (v : Value) (n : Nat) (st : St) (r : Sup) : Value × Value → Tree VR
  | (.pointer (some ⟨tag, c, sp⟩), .pointer (some ⟨b, off, none⟩)) => stoS slow tag c b off v n st r sp
  | _ => slow st r
def stoO (slow : KE) (v : Value) (st : St) (r : Sup) (x : Value × Value) : Option (Bool × Nat) → Tree VR
  | some (_, n) => stoV slow v n st r x
  | none => slow st r
/-- a slice of n zeros -/
def mkZ (z : Array Value) : Nat → Nat → Value := fun _ c => (nthL z.toList c).getD undef
def mkB (n : Int) (e k bytes : Nat) (z : Array Value) (st : St) (r : Sup) : Tree VR :=
  .ite (decide (0 ≤ n ∧ bytes * n ≤ 281474976710656 ∧ n ≤ 9223372036854775807)) (.leaf (.slice (some ⟨st.nt, 0, some 0⟩) 0 0, .slice (some ⟨(r 0).1, 0, none⟩) n.toNat n.toNat, ⟨⟨st.nt, (r 0).1, .cells #[] e, .cells (arV (r 0).2) e, true, true, some ⟨some ⟨(r 0).1, 0, none⟩, k, n.toNat, mkZ z⟩, some (n.toNat, k)⟩ :: st.M, st.nt + 1⟩, r.tl)) (.fail 86)
def mkI (slow : KE) (st : St) (r : Sup) (z : TypeId × Array Value × Nat × Nat) : Value × Value → Value × Value → Tree VR
  | (.int _ _, _), _ => slow st r
  | (_, .int k n), (_, .int k' m) => .ite (decide (n = m)) (.ite (Nat.beq (kn k) 3 && Nat.beq (kn k') 3) (mkB n z.1 z.2.2.1 z.2.2.2 z.2.1 st r) (.fail 87)) (.fail 87)
  | _, _ => slow st r
def mkO (slow : KE) (st : St) (r : Sup) (x y : Value × Value) : Option (TypeId × Array Value × Nat × Nat) → Tree VR
  | some z => mkI slow st r z x y
  | none => slow st r
/-- a part of a slice whose elements are known -/
def adC (q : Bool) (a : Option Addr) (o : Nat) : Option Addr := cond q a (a.map fun x => x.add o)
def bdK : Option (Value × Value) → Option (Option Int)
  | none => some none
  | some (_, .int .i64 i) => some (some i)
  | _ => none
/-- the bounds of a part: of the capacity it is known that it is no less than the length, or not -/
def slcQ (len cap : Nat) (l h : Int) : Option (Nat × Nat) → Option Int → Bool
  | none, some m => decide (0 ≤ l ∧ l ≤ h ∧ h ≤ (len : Int) ∧ h ≤ m ∧ m ≤ (cap : Int))
  | none, none => decide (0 ≤ l ∧ l ≤ h ∧ h ≤ (len : Int) ∧ h ≤ (cap : Int))
  | some _, some m => decide (0 ≤ l ∧ l ≤ h ∧ h ≤ m ∧ m ≤ (len : Int))
  | some _, none => decide (0 ≤ l ∧ l ≤ h ∧ h ≤ (len : Int))
def slcC (cap : Nat) : Option (Nat × Nat) → List (Nat × Nat)
  | some (c, _) => [(cap, c)]
  | none => []
def slcR (k : Nat) (a : Option Addr) (len cap : Nat) (l h : Int) (mx : Option Int) (m : Int) (b : Nat) (cp : Option (Nat × Nat)) (R : Row) (st : St) (r : Sup) : Tree VR :=
  clm ((len, R.n) :: (k, R.k) :: (slcC cap cp ++ sameA a R.a)) (.ite (slcQ len cap l h cp mx) (.leaf (.slice (some ⟨st.nt, 0, some 0⟩) 0 0, .slice (adC (decide (m.toNat = l.toNat)) a (l.toNat * k)) (h.toNat - l.toNat) (m.toNat - l.toNat), ⟨⟨st.nt, b, .cells #[] 0, .cells #[] 0, false, false, some ⟨adC (decide (m.toNat = l.toNat)) a (l.toNat * k), k, h.toNat - l.toNat, fun j c => R.g (l.toNat + j) c⟩, some (m.toNat - l.toNat, k)⟩ :: st.M, st.nt + 1⟩, r)) (.fail 101))
def slcE (k : Nat) (a : Option Addr) (len cap : Nat) (l h : Int) (mx : Option Int) (b : Nat) (cp : Option (Nat × Nat)) (st : St) (r : Sup) : Bool → Bool → Option Row → Tree VR
  | false, false, some R => slcR k a len cap l h mx (mx.getD cap) b cp R st r
  | _, _, _ => .fail 102
def slcF (k : Nat) (a : Option Addr) (len cap : Nat) (l h : Int) (mx : Option Int) (st : St) (r : Sup) : Option Ent → Tree VR
  | some e => slcE k a len cap l h mx e.b e.cap st r e.rw e.own e.row
  | none => .fail 103
def slcB (slow : KE) (k tag : Nat) (a : Option Addr) (len cap : Nat) (st : St) (r : Sup) : Option (Option Int) → Option (Option Int) → Option (Option Int) → Tree VR
  | some lo, some (some h), some mx => slcF k a len cap (lo.getD 0) h mx st r (find st.M tag)
  | some lo, some none, some none => slcF k a len cap (lo.getD 0) len none st r (find st.M tag)
  | _, _, _ => slow st r
/-- the first elements of a list of its own -/
def pfxC (k tag n1 h1 : Nat) (b n cap : Nat) (h : Int) (c1 cp : Nat) (e : Ent) (st : St) (r : Sup) : Option (List Value) → Tree VR
  | some _ => clm [(b, e.b), (n, n1), (cap, cp), (h.toNat, h1), (bN (decide (0 ≤ h)), 1)] (match Nat.ble h1 n1 with
    | true => .leaf (.slice (some ⟨tag, 0, none⟩) h1 c1, .slice (some ⟨b, 0, none⟩) h.toNat cap, st, r)
    | false => .fail 104)
  | none => .fail 104
def pfxO (slow : KE) (k tag n1 h1 : Nat) (b n cap : Nat) (h : Int) (c1 : Nat) (e : Ent) (st : St) (r : Sup) : Bool → Option (Nat × Nat) → Option Row → Obj → Tree VR
  | true, some (cp, k'), none, .cells c t (0, 0) => .claim k' k (pfxC k tag n1 h1 b n cap h c1 cp e st r (takeC (.cells c t (0, 0)) 0 (n1 * k)))
  | _, _, _, _ => slow st r
def pfxE (slow : KE) (k tag n1 h1 : Nat) (b n cap : Nat) (h : Int) (c1 : Nat) (st : St) (r : Sup) : Option Ent → Tree VR
  | some e => pfxO slow k tag n1 h1 b n cap h c1 e st r e.rw e.cap e.row e.cur
  | none => slow st r
def pfxH (slow : KE) (k tag n1 c1 : Nat) (b n cap : Nat) (st : St) (r : Sup) : Value × Value → Tree VR
  | (.int .i64 (.ofNat h1), .int .i64 h) => pfxE slow k tag n1 h1 b n cap h c1 st r (find st.M tag)
  | _ => slow st r
def zeroB : Option (Value × Value) → Bool
  | none => true
  | some (.int .i64 (.ofNat 0), .int .i64 (.ofNat 0)) => true
  | _ => false
def pfxV (slow : KE) (k tag n1 c1 : Nat) (hi : Value × Value) (st : St) (r : Sup) : Value → Tree VR
  | .slice (some ⟨b, 0, none⟩) n cap => pfxH slow k tag n1 c1 b n cap st r hi
  | _ => slow st r
def pfxB (slow : KE) (k tag n1 c1 : Nat) (v : Value) (st : St) (r : Sup) : Bool → Option (Value × Value) → Option (Value × Value) → Tree VR
  | true, some hi, none => pfxV slow k tag n1 c1 hi st r v
  | _, _, _ => slow st r
/-- a part of a list of its own -/
def loB : Option (Value × Value) → Option (Nat × Int)
  | none => some (0, 0)
  | some (.int .i64 (.ofNat l1), .int .i64 l) => some (l1, l)
  | _ => none
def hiB : Option (Value × Value) → Option (Nat × Int)
  | some (.int .i64 (.ofNat l1), .int .i64 l) => some (l1, l)
  | _ => none
def prtC (k tag n1 : Nat) (b n cap : Nat) (x y z : Nat × Int) (cp : Nat) (e : Ent) (st : St) (r : Sup) : Option (List Value) → Tree VR
  | some _ => clm [(b, e.b), (n, n1), (cap, cp), (x.2.toNat, x.1), (y.2.toNat, y.1), (z.2.toNat, z.1), (bN (decide (0 ≤ x.2 ∧ 0 ≤ y.2 ∧ 0 ≤ z.2)), 1)] (match Nat.ble x.1 y.1 && Nat.ble y.1 z.1 && Nat.ble z.1 n1 with
    | true => .leaf (.slice (adC (Nat.beq z.1 x.1) (some ⟨tag, 0, none⟩) (x.1 * k)) (y.1 - x.1) (z.1 - x.1), .slice (adC (decide (z.2.toNat = x.2.toNat)) (some ⟨b, 0, none⟩) (x.2.toNat * k)) (y.2.toNat - x.2.toNat) (z.2.toNat - x.2.toNat), st, r)
    | false => .fail 105)
  | none => .fail 105
def prtO (slow : KE) (k tag n1 : Nat) (b n cap : Nat) (x y z : Nat × Int) (e : Ent) (st : St) (r : Sup) : Bool → Option (Nat × Nat) → Option Row → Obj → Tree VR
  | true, some (cp, k'), none, .cells c t (0, 0) => .claim k' k (prtC k tag n1 b n cap x y z cp e st r (takeC (.cells c t (0, 0)) 0 (n1 * k)))
  | _, _, _, _ => slow st r
def prtE (slow : KE) (k tag n1 : Nat) (b n cap : Nat) (x y z : Nat × Int) (st : St) (r : Sup) : Option Ent → Tree VR
  | some e => prtO slow k tag n1 b n cap x y z e st r e.own e.cap e.row e.cur
  | none => slow st r
def prtH (slow : KE) (k tag n1 : Nat) (b n cap : Nat) (st : St) (r : Sup) : Option (Nat × Int) → Option (Nat × Int) → Option (Nat × Int) → Tree VR
  | some x, some y, some z => prtE slow k tag n1 b n cap x y z st r (find st.M tag)
  | _, _, _ => slow st r
def prtV (slow : KE) (k tag n1 : Nat) (lo hi mx : Option (Value × Value)) (st : St) (r : Sup) : Value → Tree VR
  | .slice (some ⟨b, 0, none⟩) n cap => prtH slow k tag n1 b n cap st r (loB lo) (hiB hi) (hiB mx)
  | _ => slow st r
def prtB (slow : KE) (k tag n1 c1 : Nat) (v : Value) (lo hi : Option (Value × Value)) (st : St) (r : Sup) : Option (Value × Value) → Tree VR
  | some mx => prtV slow k tag n1 lo hi (some mx) st r v
  | none => pfxB slow k tag n1 c1 v st r (zeroB lo) hi none
def slcV (slow : KE) (k : Nat) (lo hi mx : Option (Value × Value)) (st : St) (r : Sup) : Value × Value → Tree VR
  | (.slice (some ⟨tag, _, some _⟩) _ _, .slice a len cap) => slcB slow k tag a len cap st r (bdK lo) (bdK hi) (bdK mx)
  | (.slice (some ⟨tag, 0, none⟩) n1 c1, v) => prtB slow k tag n1 c1 v lo hi st r mx
  | _ => slow st r
def slcZ (slow : KE) (k : Nat) (lo hi mx : Option (Value × Value)) (st : St) (r : Sup) (x : Value × Value) : Bool → Tree VR
  | true => slcV slow k lo hi mx st r x
  | false => slow st r
def slcO (slow : KE) (x : Value × Value) (lo hi mx : Option (Value × Value)) (st : St) (r : Sup) : Option (Option Nat × Nat) → Tree VR
  | some (none, k) => slcZ slow k lo hi mx st r x (Nat.ble 1 k)
  | _ => slow st r
/-- the methods that are asked for and are not there -/
def missL (want : Array (String × TypeId)) (got : Array Method) : List (String × TypeId) := want.toList.filter fun (name, sig) => !got.any fun m => m.name == name && m.sig == sig
def taZ (slow : KE) (st : St) (r : Sup) : Option Value → Tree VR
  | some z => .leaf (.tuple #[z, .bool false], .tuple #[z, .bool false], st, r)
  | none => slow st r
def taM (slow : KE) (z : Option Value) (x : Value × Value) (st : St) (r : Sup) : List (String × TypeId) → Tree VR
  | [] => .leaf (.tuple #[x.1, .bool true], .tuple #[x.2, .bool true], st, r)
  | _ => taZ slow st r z
def taI (slow : KE) (z : Option Value) (x : Value × Value) (st : St) (r : Sup) (want : Array (String × TypeId)) : Option TypeInfo → Tree VR
  | some i => taM slow z x st r (missL want i.methods)
  | none => slow st r
noncomputable def taV (P : Program) (slow : KE) (z : Option Value) (x : Value × Value) (st : St) (r : Sup) (want : Array (String × TypeId)) : Value → Tree VR
  | .iface t _ => taI slow z x st r want (P.info? t)
  | _ => slow st r
noncomputable def taU (P : Program) (slow : KE) (z : Option Value) (x : Value × Value) (st : St) (r : Sup) : Option TypeDesc → Tree VR
  | some (.interface want) => taV P slow z x st r want x.2
  | _ => slow st r
noncomputable def taO (P : Program) (slow : KE) (asserted : TypeId) (x : Value × Value) (st : St) (r : Sup) : Bool → Tree VR
  | true => taU P slow (zeroT P asserted) x st r (P.underlying asserted)
  | false => slow st r
noncomputable def fastOp (P : Program) (call : CallE) (slow : KE) (fr : Fr) (st : St) (r : Sup) : Op → Tree VR
  | .move x => leafP st r (evP fr x)
  | .assign x => leafP st r (evP fr x)
  | .pick c x y => pickV slow (evP fr x) (evP fr y) st r (evP fr c)
  | .binOp op t x y _ => binP P slow op t st r (evP fr x) (evP fr y)
  | .unOp op _ x => unV slow st r op (evP fr x)
  | .nilCheck x => nilV slow st r (evP fr x)
  | .load t x => loadO slow st r (evP fr x) (shapeT P t)
  | .box t x => boxN t st r (evP fr x)
  | .alloc t => allocO slow t st r (zeroT P t)
  | .fieldAddr s x f => fieldK slow st r (evP fr x) (fieldO P s f)
  | .indexAddr t x i => idxO slow (evP fr x) (evP fr i) st r (idxT P t)
  | .call c => callO P slow call c.args c.argTypes fr st r c.callee
  | .typeAssert x _ asserted ok => taO P slow asserted (evP fr x) st r ok
  | .panic x => panV slow st r (evP fr x)
  | .store t x y => stoO slow (ev2 fr y) st r (evP fr x) (shapeT P t)
  | .slice t x lo hi mx => slcO slow (evP fr x) (lo.map (evP fr)) (hi.map (evP fr)) (mx.map (evP fr)) st r (idxT P t)
  | .makeSlice t x y => mkO slow st r (evP fr x) (evP fr y) (zelT P t)
  | _ => slow st r
noncomputable def evalOp (P : Program) (call : CallE) (o : Oper) (fr : Fr) (st : St) (r : Sup) : Tree VR :=
  fastOp P call (slowOp P call o fr) fr st r o.op
/-- what is known of a slot from here on -/
abbrev Dec := Option (Nat × Bool)
def setD (fr : Fr) : Dec → Fr
  | none => fr
  | some (d, b) => ⟨fr.n, (d, .bool b, .bool b) :: fr.l, fr.df⟩
def gsD (d : Nat) (want : Bool) : Value × Value → Tree (Dec × Bool)
  | (.bool _, .bool b) => .leaf (none, b == want)
  | (_, .bool b) => .ite b (.leaf (some (d, true), true == want)) (.leaf (some (d, false), false == want))
  | _ => .leaf (none, false)
noncomputable def gsJ (fr : Fr) (want : Bool) : Option Nat → Tree (Dec × Bool)
  | none => .leaf (none, false)
  | some d => gsD d want (lookL fr.l d)
noncomputable def gsO (ops : Array Oper) (fr : Fr) : Option (Nat × Bool) → Tree (Dec × Bool)
  | none => .leaf (none, true)
  | some (j, want) => gsJ fr want ((ops[j]?).bind (·.dst))
noncomputable def gsplit (ops : Array Oper) (o : Oper) (fr : Fr) : Tree (Dec × Bool) := gsO ops fr o.guard
abbrev GR := Dec × VR
def gPair (d : Dec) : VR → Tree GR
  | x => .leaf (d, x)
noncomputable def gRunB (P : Program) (call : CallE) (o : Oper) (fr : Fr) (st : St) (r : Sup) (d : Dec) : Bool → Tree GR
  | true => (evalOp P call o (setD fr d) st r).bind (gPair d)
  | false => .leaf (d, undef, undef, st, r)
noncomputable def gRun (P : Program) (call : CallE) (o : Oper) (fr : Fr) (st : St) (r : Sup) : Dec × Bool → Tree GR
  | (d, b) => gRunB P call o fr st r d b
noncomputable def guarded (P : Program) (call : CallE) (ops : Array Oper) (o : Oper) (fr : Fr) (st : St) (r : Sup) : Tree GR :=
  (gsplit ops o fr).bind (gRun P call o fr st r)
inductive Ex where
  | normal
  | exit (id : Nat)
  | ret
  | pan (v1 v2 : Value)
abbrev CR := Ex × Fr × St × Sup
abbrev OR := CR
def putB (ih : Fr → St → Sup → Tree OR) (fr : Fr) (d : Nat) (v1 v2 : Value) (st : St) (r : Sup) : Bool → Tree OR
  | true => ih ⟨fr.n, (d, v1, v2) :: fr.l, fr.df⟩ st r
  | false => .fail 60
def putF (ih : Fr → St → Sup → Tree OR) (fr : Fr) (v1 v2 : Value) (st : St) (r : Sup) : Option Nat → Tree OR
  | none => ih fr st r
  | some d => putB ih fr d v1 v2 st r (Nat.ble (d + 1) fr.n)
def opsK (d : Option Nat) (fr : Fr) (ih : Fr → St → Sup → Tree OR) : GR → Tree OR
  | (x, v1, v2, st, r) => putF ih (setD fr x) v1 v2 st r d
def opsP (fr : Fr) (v1 v2 : Value) (st : St) (r : Sup) : Tree OR := .leaf (.pan v1 v2, fr, st, r)
/-- a call is deferred -/
def dfK3 (ih : Fr → St → Sup → Tree OR) (d : Option Nat) (fr : Fr) (st : St) (r : Sup) : Option Next → Next → Tree OR
  | some (.defer d1), .defer d2 => putF ih ⟨fr.n, fr.l, (d1, d2) :: fr.df⟩ undef undef st r d
  | _, _ => .fail 31
def dfK2 (ih : Fr → St → Sup → Tree OR) (d : Option Nat) (fr : Fr) : Option Next × Next × St × Sup → Tree OR
  | (n1, n2, st, r) => dfK3 ih d fr st r n1 n2
noncomputable def dfStep (P : Program) (o : Oper) (ih : Fr → St → Sup → Tree OR) (fr : Fr) (st : St) (r : Sup) : Bool → Option (Nat × Bool) → Tree OR
  | true, none => (runS P (execOp (ev2 fr) o) (some (execOp (ev1 fr) o)) st r).bind (dfK2 ih o.dst fr)
  | _, _ => .fail 32
noncomputable def opsGo (P : Program) (call : CallE) (ops : Array Oper) (o : Oper) (ih : Fr → St → Sup → Tree OR) (fr : Fr) (st : St) (r : Sup) : Tree OR :=
  (guarded P call ops o fr st r).catch (opsK o.dst fr ih) (opsP fr)
noncomputable def opsStep (P : Program) (call : CallE) (dk : Bool) (ops : Array Oper) (o : Oper) (ih : Fr → St → Sup → Tree OR) (fr : Fr) (st : St) (r : Sup) : Tree OR :=
  match o.op with
  | .defer _ => dfStep P o ih fr st r dk o.guard
  | _ => opsGo P call ops o ih fr st r
def opsEnd (fr : Fr) (st : St) (r : Sup) : Tree OR := .leaf (.normal, fr, st, r)
noncomputable def evalOps (P : Program) (call : CallE) (dk : Bool) (ops : Array Oper) (l : List Oper) : Fr → St → Sup → Tree OR :=
  List.rec (motive := fun _ => Fr → St → Sup → Tree OR) opsEnd (fun o _ ih => opsStep P call dk ops o ih) l
abbrev EC := Fr → St → Sup → Tree CR
abbrev SumF := List Value → List Value → St → Sup → Tree VR
abbrev Sum := FuncId → Option SumF
abbrev RsR := List Value × List Value × St × Sup
def rsCons (v : Value × Value) : RsR → Tree RsR
  | (l1, l2, st, r) => .leaf (v.1 :: l1, v.2 :: l2, st, r)
noncomputable def rsPut (ih : St → Sup → Tree RsR) : VR → Tree RsR
  | (v1, v2, st, r) => (ih st r).bind (rsCons (v1, v2))
noncomputable def rsCell (P : Program) (t : TypeId) (ih : St → Sup → Tree RsR) (x : Value × Value) (st : St) (r : Sup) : Tree RsR :=
  (loadO (fun _ _ => .fail 64) st r x (shapeT P t)).bind (rsPut ih)
noncomputable def rsOne (P : Program) (fr : Fr) (ih : St → Sup → Tree RsR) : ResultVar → St → Sup → Tree RsR
  | .tmp t => fun st r => (ih st r).bind (rsCons (lookL fr.l t))
  | .cell a t => rsCell P t ih (lookL fr.l a)
noncomputable def rsAll (P : Program) (fr : Fr) (l : List ResultVar) : St → Sup → Tree RsR :=
  List.rec (motive := fun _ => St → Sup → Tree RsR) (fun st r => .leaf ([], [], st, r)) (fun x _ ih => rsOne P fr ih x) l
def mkRes : List Value → Value
  | [v] => v
  | l => .tuple l.toArray
def resK : RsR → Tree VR
  | (l1, l2, st, r) => .leaf (mkRes l1, mkRes l2, st, r)
/-- the slots at the start -/
def args0 : Nat → List Value → List Value → List (Nat × Value × Value)
  | i, x :: l, y :: m => (i, x, y) :: args0 (i + 1) l m
  | _, _, _ => []
noncomputable def resR (P : Program) (fn : Func) (fr : Fr) (st : St) (r : Sup) : Tree VR := (rsAll P fr fn.results.toList st r).bind resK
/-- a panic that a frame leaves with: its value; is it recovered -/
abbrev PM := Option (Value × Value × Bool)
abbrev DR := Ex × Fr × PM × St × Sup
abbrev ED := Fr → PM → St → Sup → Tree DR
def dEnd (x : Ex) : ED := fun fr m st r => .leaf (x, fr, m, st, r)
def dFail (n : Nat) : ED := fun _ _ _ _ => .fail n
def dSeqK (b : ED) : DR → Tree DR
  | (.normal, fr, m, st, r) => b fr m st r
  | x => .leaf x
noncomputable def dSeq (a b : ED) : ED := fun fr m st r => (a fr m st r).bind (dSeqK b)
def dCondK (a b : ED) (fr : Fr) (m : PM) (st : St) (r : Sup) : Value × Value → Tree DR
  | (.bool _, .bool true) => a fr m st r
  | (.bool _, .bool false) => b fr m st r
  | _ => .fail 34
noncomputable def dCond (c : Operand) (a b : ED) : ED := fun fr m st r => dCondK a b fr m st r (evP fr c)
def dPutB (ih : ED) (fr : Fr) (m : PM) (d : Nat) (v1 v2 : Value) (st : St) (r : Sup) : Bool → Tree DR
  | true => ih ⟨fr.n, (d, v1, v2) :: fr.l, fr.df⟩ m st r
  | false => .fail 60
def dPut (ih : ED) (fr : Fr) (m : PM) (v1 v2 : Value) (st : St) (r : Sup) : Option Nat → Tree DR
  | none => ih fr m st r
  | some d => dPutB ih fr m d v1 v2 st r (Nat.ble (d + 1) fr.n)
def dRec (ih : ED) (d : Option Nat) (fr : Fr) (st : St) (r : Sup) : PM → Tree DR
  | some (v1, v2, false) => dPut ih fr (some (v1, v2, true)) v1 v2 st r d
  | m => dPut ih fr m .nilIface .nilIface st r d
def dOpK2 (ih : ED) (d : Option Nat) (fr : Fr) (m : PM) (n1 : Option Next) (st : St) (r : Sup) : Next → Tree DR
  | .value v => dPut ih fr m (litV v n1) v st r d
  | .skip => dPut ih fr m undef undef st r d
  | .recover => dRec ih d fr st r m
  | _ => .fail 35
def dOpK (ih : ED) (d : Option Nat) (fr : Fr) (m : PM) : Option Next × Next × St × Sup → Tree DR
  | (n1, n2, st, r) => dOpK2 ih d fr m n1 st r n2
noncomputable def dOpB (P : Program) (o : Oper) (ih : ED) (fr : Fr) (m : PM) (st : St) (r : Sup) : Dec × Bool → Tree DR
  | (none, true) => (runS P (execOp (ev2 fr) o) (some (execOp (ev1 fr) o)) st r).bind (dOpK ih o.dst fr m)
  | (none, false) => dPut ih fr m undef undef st r o.dst
  | _ => .fail 36
noncomputable def dOp (P : Program) (ops : Array Oper) (o : Oper) (ih : ED) : ED := fun fr m st r => (gsplit ops o fr).bind (dOpB P o ih fr m st r)
noncomputable def dOps (P : Program) (ops : Array Oper) (l : List Oper) : ED :=
  List.rec (motive := fun _ => ED) (dEnd .normal) (fun o _ ih => dOp P ops o ih) l
noncomputable def dRegion (P : Program) (ops : Array Oper) : Bool → ED
  | false => dOps P ops ops.toList
  | true => dFail 37
/-- the code of a function that is entered as a deferred call and may recover -/
noncomputable def codeD (P : Program) (c : Code) : ED :=
  Code.rec (motive := fun _ => ED) (dEnd .normal) (fun _ ops d => dRegion P ops d) (fun _ _ a b => dSeq a b) (fun c _ _ a b => dCond c a b) (fun _ _ _ => dFail 38) (fun _ _ => dFail 38)
    (fun _ _ _ _ _ _ => dFail 38) (fun _ => dFail 38) (fun _ _ => dFail 38) (fun _ => dEnd .normal) (fun _ => dFail 38) (dEnd .ret) (fun _ => dFail 38) c
abbrev LR := PM × St × Sup
def dRetR (_fr : Fr) (m : PM) (st : St) (r : Sup) : List ResultVar → List (Deferred × Deferred) → Tree LR
  | [], [] => .leaf (m, st, r)
  | _, _ => .fail 39
def dRet (fn : Func) : DR → Tree LR
  | (.normal, fr, m, st, r) => dRetR fr m st r fn.results.toList fr.df
  | (.ret, fr, m, st, r) => dRetR fr m st r fn.results.toList fr.df
  | _ => .fail 39
noncomputable def dCallL (P : Program) (fn : Func) (a1 a2 : List Value) (c : Code) (m : PM) (st : St) (r : Sup) : Bool → Tree LR
  | true => (codeD P c ⟨fn.ntmps, args0 0 a1 a2, []⟩ m st r).bind (dRet fn)
  | false => .fail 44
noncomputable def dCallB (P : Program) (fn : Func) (a1 a2 : List Value) (m : PM) (st : St) (r : Sup) : Option Code → Tree LR
  | none => .fail 42
  | some c => dCallL P fn a1 a2 c m st r (Nat.ble a2.length fn.ntmps && Nat.beq a1.length a2.length)
noncomputable def dCallF (P : Program) (a1 a2 : List Value) (m : PM) (st : St) (r : Sup) : Option Func → Tree LR
  | none => .fail 41
  | some fn => dCallB P fn a1 a2 m st r fn.body
def settleM : PM → PM
  | some (_, _, true) => none
  | m => m
/-- how a frame leaves, with deferred calls yet to come -/
abbrev EV := PM → St → Sup → Tree VR
def lvK (ih : EV) : LR → Tree VR
  | (m, st, r) => ih (settleM m) st r
noncomputable def lvF (P : Program) (ih : EV) (f : FuncId) (a1 a2 : List Value) (m : PM) (st : St) (r : Sup) : Bool → Tree VR
  | true => (dCallF P a1 a2 m st r P.funcs[f]?).bind (lvK ih)
  | false => .fail 46
def lvC2 (ih : EV) (m : PM) (st : St) (r : Sup) : List Deferred → Tree VR
  | [] => ih m st r
  | _ => .fail 47
def lvC (ih : EV) (m : PM) : Option (List Deferred) × List Deferred × St × Sup → Tree VR
  | (_, l, st, r) => lvC2 ih m st r l
noncomputable def lvD (P : Program) (ih : EV) (m : PM) (st : St) (r : Sup) : Deferred × Deferred → Tree VR
  | (⟨.collected t, _⟩, ⟨.collected b, _⟩) => (runS P (Instr.takeDeferred b) (some (Instr.takeDeferred t)) st r).bind (lvC ih m)
  | (⟨.fn _ c1, a1⟩, ⟨.fn (.func f) c2, a2⟩) => lvF P ih f (a1.toList ++ c1.toList) (a2.toList ++ c2.toList) m st r (plainF P f)
  | _ => .fail 48
noncomputable def lvEnd (P : Program) (fn : Func) (fr : Fr) : EV := fun m st r => match m with
  | none => resR P fn fr st r
  | some (v1, v2, false) => .stop v1 v2 st r
  | _ => .fail 49
noncomputable def leaveF (P : Program) (fn : Func) (fr : Fr) (l : List (Deferred × Deferred)) : EV :=
  List.rec (motive := fun _ => EV) (lvEnd P fn fr) (fun d _ ih => fun m st r => lvD P ih m st r d) l
noncomputable def retK (P : Program) (fn : Func) : CR → Tree VR
  | (.exit _, _) => .fail 43
  | (.pan v1 v2, fr, st, r) => leaveF P fn fr fr.df (some (v1, v2, false)) st r
  | (_, fr, st, r) => leaveF P fn fr fr.df none st r
def callL (ec : Code → EC) (fn : Func) (a1 a2 : List Value) (c : Code) (st : St) (r : Sup) : Bool → Tree CR
  | true => ec c ⟨fn.ntmps, args0 0 a1 a2, []⟩ st r
  | false => .fail 44
noncomputable def callB (P : Program) (ec : Code → EC) (fn : Func) (a1 a2 : List Value) (st : St) (r : Sup) : Option Code → Tree VR
  | none => .fail 42
  | some c => (callL ec fn a1 a2 c st r (Nat.ble a2.length fn.ntmps && Nat.beq a1.length a2.length)).bind (retK P fn)
noncomputable def callF (P : Program) (ec : Code → EC) (a1 a2 : List Value) (st : St) (r : Sup) : Option Func → Tree VR
  | none => .fail 41
  | some fn => callB P ec fn a1 a2 st r fn.body
noncomputable def callG (P : Program) (ec : Code → EC) (f : FuncId) (a1 a2 : List Value) (st : St) (r : Sup) : Option SumF → Tree VR
  | some s => s a1 a2 st r
  | none => callF P ec a1 a2 st r P.funcs[f]?
abbrev Rd := Option (Nat × Nat)
/-- a round: the assignments, the body, how it is left -/
def rdEndK (n : Option Value × Value × St × Sup) : Tree VR := match n with
  | (some v1, v, st, r) => .leaf (v1, v, st, r)
  | (none, v, st, r) => .leaf (pois v, v, st, r)
noncomputable def rdEnd (P : Program) (l1 l2 : Nat) (j : Option Code) (st : St) (r : Sup) : Tree VR :=
  (runS P (Instr.endRound l2 j) (some (Instr.endRound l1 j)) st r).bind rdEndK
noncomputable def rdOut (P : Program) (l1 l2 : Nat) : CR → Tree VR
  | (.normal, _, st, r) => rdEnd P l1 l2 none st r
  | (.ret, _, st, r) => rdEnd P l1 l2 (some .ret) st r
  | (.exit id, _, st, r) => rdEnd P l1 l2 (some (.exit id)) st r
  | _ => .fail 65
def rdBegK (e : EC) (fr : Fr) : Option Unit × Unit × St × Sup → Tree CR
  | (_, _, st, r) => e fr st r
noncomputable def rdBeg (P : Program) (l1 l2 : Nat) (e : EC) : CR → Tree CR
  | (.normal, fr, st, r) => (runS P (Instr.beginRound l2) (some (Instr.beginRound l1)) st r).bind (rdBegK e fr)
  | _ => .fail 66
noncomputable def rdB (P : Program) (l1 l2 : Nat) (ea eb : EC) (a1 a2 : List Value) (st : St) (r : Sup) : Bool → Tree VR
  | true => ((ea ⟨a2.length, args0 0 a1 a2, []⟩ st r).bind (rdBeg P l1 l2 eb)).bind (rdOut P l1 l2)
  | false => .fail 67
noncomputable def callE (P : Program) (G : Sum) (ec : Rd → Code → EC) : CallE := fun t a1 a2 st r => match t with
  | .fn f => callG P (ec none) f a1 a2 st r (G f)
  | .rnd l1 l2 assign body => rdB P l1 l2 (ec (some (l1, l2)) assign) (ec (some (l1, l2)) body) a1 a2 st r (Nat.beq a1.length a2.length)
def cEnd (x : Ex) : EC := fun fr st r => .leaf (x, fr, st, r)
def seqK (b : EC) : CR → Tree CR
  | (.normal, fr, st, r) => b fr st r
  | x => .leaf x
noncomputable def cSeq (a b : EC) : EC := fun fr st r => (a fr st r).bind (seqK b)
def condB (a b : EC) (fr : Fr) (st : St) (r : Sup) : Bool → Tree CR
  | true => a fr st r
  | false => b fr st r
def decC (v : Bool) : Operand → Dec
  | .tmp t => some (t, v)
  | _ => none
def condK (c : Operand) (a b : EC) (fr : Fr) (st : St) (r : Sup) : Value × Value → Tree CR
  | (.bool _, .bool v) => condB a b fr st r v
  | (_, .bool v) => .ite v (a (setD fr (decC true c)) st r) (b (setD fr (decC false c)) st r)
  | _ => .fail 51
noncomputable def cCond (c : Operand) (a b : EC) : EC := fun fr st r => condK c a b fr st r (evP fr c)
def blockB (id' : Nat) (y : Fr × St × Sup) : Bool → Tree CR
  | true => .leaf (.normal, y)
  | false => .leaf (.exit id', y)
def blockK (id : Nat) : CR → Tree CR
  | (.exit id', y) => blockB id' y (Nat.beq id' id)
  | x => .leaf x
noncomputable def cBlock (id : Nat) (a : EC) : EC := fun fr st r => (a fr st r).bind (blockK id)
/-- the slots' values, from t on -/
noncomputable def tmpsF (fr : Fr) (h : Bool) : Nat → Nat → List Value
  | 0, _ => []
  | n + 1, t => (match h with | true => (lookL fr.l t).1 | false => (lookL fr.l t).2) :: tmpsF fr h n (t + 1)
def newE (o1 o : Obj) (st : St) (r : Sup) : St := ⟨⟨st.nt, (r 0).1, o1, o, true, true, none, none⟩ :: st.M, st.nt + 1⟩
def rfJump (fr : Fr) (st : St) (r : Sup) : Option Code → Tree CR
  | none => .leaf (.normal, fr, st, r)
  | some .ret => .leaf (.ret, fr, st, r)
  | some (.exit id) => .leaf (.exit id, fr, st, r)
  | _ => .fail 68
def rfEndK (fr : Fr) : Option (Option Code) × Option Code × St × Sup → Tree CR
  | (_, j, st, r) => rfJump fr st r j
noncomputable def rfEnd (P : Program) (l1 l2 : Nat) (fr : Fr) : VR → Tree CR
  | (_, _, st, r) => (runS P (Instr.endLoop l2) (some (Instr.endLoop l1)) st r).bind (rfEndK fr)
def rfP (fr : Fr) (v1 v2 : Value) (st : St) (r : Sup) : Tree CR := .leaf (.pan v1 v2, fr, st, r)
noncomputable def rfCall2 (P : Program) (call : CallE) (l1 l2 : Nat) (fr : Fr) (n1 : Option Next) (st : St) (r : Sup) : Next → Tree CR
  | .enter f args => (call (.fn f) (litA args n1) args.toList st r).catch (rfEnd P l1 l2 fr) (rfP fr)
  | _ => .fail 69
noncomputable def rfCall (P : Program) (call : CallE) (l1 l2 : Nat) (fr : Fr) : Option Next × Next × St × Sup → Tree CR
  | (n1, n2, st, r) => rfCall2 P call l1 l2 fr n1 st r n2
/-- the one call of a range over a function -/
def rfSem (v : Value) (l : Nat) : Sem Next := do
  let d ← Deferred.ofValue v #[.func (.yield l) #[] #[]]
  invoke d.target d.args
noncomputable def rfGo (P : Program) (call : CallE) (l1 l2 : Nat) (fr : Fr) (st : St) (r : Sup) : Value × Value → Tree CR
  | (v1, v2) => (runS P (rfSem v2 l2) (some (rfSem v1 l1)) st r).bind (rfCall P call l1 l2 fr)
noncomputable def rfLoop (P : Program) (call : CallE) (g : Operand) (ps : Array Tmp) (assign body : Code) (fr fr' : Fr) (d1 d2 : Nat) (st : St) (r : Sup) : Tree CR :=
  rfGo P call st.nt (r.tl 0).1 fr' (newE (.loop { state := .ready, pending := none, fn := 0, tmps := (tmpsF fr true fr.n 0).toArray, params := ps, assign, body, defers := d1 }) (.loop { state := .ready, pending := none, fn := (r 0).1, tmps := (tmpsF fr false fr.n 0).toArray, params := ps, assign, body, defers := d2 }) st r.tl) r.tl.tl (evP fr g)
noncomputable def rfIn2 (P : Program) (call : CallE) (g : Operand) (ps : Array Tmp) (assign body : Code) (fr : Fr) : Option Loop × Loop × St × Sup → Tree CR
  | (some x1, x2, st, r) => rfLoop P call g ps assign body fr fr x1.defers x2.defers st r
  | (none, _, _, _) => .fail 79
noncomputable def rfIn (P : Program) (call : CallE) (g : Operand) (ps : Array Tmp) (assign body : Code) : Rd → EC
  | none => fun fr st r => rfLoop P call g ps assign body fr ⟨fr.n, fr.l, (⟨.collected st.nt, #[]⟩, ⟨.collected (r 0).1, #[]⟩) :: fr.df⟩ st.nt (r 0).1 (newE (.deferred (some [])) (.deferred (some [])) st r) r.tl
  | some (l1, l2) => fun fr st r => (runS P (Instr.getLoop l2) (some (Instr.getLoop l1)) st r).bind (rfIn2 P call g ps assign body fr)
def regK : OR → Tree CR
  | x => .leaf x
/-- what an operation waits for -/
def depL (o : Oper) : List Nat := o.after.toList.filterMap fun e => match Region.binds .any e with
  | true => some e.on
  | false => none
def roE (e : Ent) : Ent := { e with rw := false }
def addB (C : List Ent) (e : Ent) : Option Ent → List Ent
  | none => e :: C
  | some _ => C
def addE (C : List Ent) (e : Ent) : List Ent := addB C e (find C e.tag)
def unionE : List Ent → List Ent → List Ent
  | [], C => C
  | e :: l, C => unionE l (addE C e)
def depE (C : List (List Ent)) : List Nat → List Ent
  | [] => []
  | j :: l => unionE (C.getD j []) (depE C l)
def rwB (e : Ent) : Bool := e.rw
/-- of the region's operations that are done: the frame, what each one has made known (its own and what it waits for), what each one has made -/
structure HS where
  fr : Fr
  C : List (List Ent)
  W : List (List Ent)
  Y : List (List Ent)
  D : List Nat
  pan : Option (Value × Value)
def subSup (n i : Nat) (r : Sup) : Sup := fun j => r (j * (n + 1) + i)
/-- the block that a store of the region alone may touch: the one that its slot pointed to before -/
def xTag2 : Value → Option Nat
  | .pointer (some a) => some a.block
  | _ => none
/-- the operation of the region that makes the variable of that slot -/
def allocAt (d : Nat) : List Oper → Nat → Option Nat
  | [], _ => none
  | o :: l, k => match o.op, o.dst with
    | .alloc _, some e => (match Nat.beq e d with | true => some k | false => allocAt d l (k + 1))
    | _, _ => allocAt d l (k + 1)
/-- a store into a variable that the region makes: which operation makes it -/
def srcOf (ops : Array Oper) (o : Oper) : Option Nat :=
  match o.op with
  | .store _ (.tmp d) _ => allocAt d ops.toList 0
  | _ => none
/-- where the slots of a region are guessed to point (hints alone), and where its tail begins -/
structure PX where
  fr : Fr
  n : Nat
def firstL {R : Type} : Tree R → Option R
  | .leaf r => some r
  | .ite _ t e => match firstL t with
    | some x => some x
    | none => firstL e
  | .claim _ _ t => firstL t
  | .fail _ => none
  | .stop _ _ _ _ => none
def rz : Sup := fun _ => (0, undef)
def noCall : CallE := fun _ _ _ _ _ => .fail 0
def probeV (fr : Fr) : Option VR → Option Nat → Fr
  | some (v1, v2, _, _), some d => ⟨fr.n, (d, v1, v2) :: fr.l, fr.df⟩
  | _, _ => fr
noncomputable def probe1 (P : Program) (o : Oper) (ih : Fr → Fr) (fr : Fr) (st : St) (r : Sup) : Fr := match o.op with
  | .store _ _ _ => ih fr
  | .call _ => ih fr
  | _ => ih (probeV fr (firstL (evalOp P noCall o fr st r)) o.dst)
noncomputable def probe (P : Program) (st : St) (r : Sup) (l : List Oper) : Fr → Fr :=
  List.rec (motive := fun _ => Fr → Fr) (fun fr => fr) (fun o _ ih fr => probe1 P o ih fr st r) l
noncomputable def xTag1 (frx : PX) (o : Oper) : Option Nat → Option Nat
  | some _ => none
  | none => match o.op with
    | .store _ (.tmp s) _ => xTag2 (lookL frx.fr.l s).1
    | _ => none
noncomputable def xTag (ops : Array Oper) (frx : PX) (o : Oper) : Option Nat := xTag1 frx o (srcOf ops o)
def srcs (ops : Array Oper) : List Oper → List Nat
  | [] => []
  | o :: l => (srcOf ops o).toList ++ srcs ops l
noncomputable def xTags (ops : Array Oper) (frx : PX) : List Oper → List Nat
  | [] => []
  | o :: l => (xTag ops frx o).toList ++ xTags ops frx l
def hasT : List Nat → Nat → Bool
  | [], _ => false
  | x :: l, t => match Nat.beq x t with
    | true => true
    | false => hasT l t
/-- without the blocks of those tags -/
def dropT (X : List Nat) : List Ent → List Ent
  | [] => []
  | e :: M => match hasT X e.tag with
    | true => dropT X M
    | false => e :: dropT X M
def xEnt (M : List Ent) : Option Nat → List Ent
  | none => []
  | some t => (find M t).toList
def yEnt (h : HS) : Option Nat → List Ent
  | none => []
  | some k => h.Y.getD k []
def visB (l : List Ent) : Bool → List Ent
  | true => l.map roE
  | false => []
/-- blocks that are written by operations that wait for this one -/
noncomputable def visX (ops : Array Oper) (frx : PX) (M : List Ent) (i : Nat) : List Oper → List Ent
  | [] => []
  | o :: l => visB (xEnt M (xTag ops frx o)) (hasT (depL o) i) ++ visX ops frx M i l
noncomputable def hsSt (ops : Array Oper) (frx : PX) (st : St) (X : List Nat) (i : Nat) (o : Oper) (x : Option Nat) (h : HS) : St := ⟨xEnt st.M x ++ (yEnt h (srcOf ops o) ++ (depE h.C (depL o) ++ (visX ops frx st.M i (ops.toList.take frx.n) ++ (dropT X st.M).map roE))), st.nt + 1000 * (i + 1)⟩
def hideIf (l : List Ent) : Bool → List Ent
  | true => []
  | false => l
def hsPut2 (o : Oper) (cl : Bool) (h : HS) (M : List Ent) (fr : Fr) : HS :=
  ⟨fr, h.C ++ [hideIf ((M.filter rwB).map roE) cl ++ depE h.C (depL o)], h.W ++ [hideIf (M.filter rwB) cl], h.Y ++ [hideIf (M.filter rwB) (!cl)], h.D, h.pan⟩
def hsPutB (o : Oper) (cl : Bool) (h : HS) (fr : Fr) (d : Nat) (v1 v2 : Value) (M : List Ent) : Bool → Tree HS
  | true => .leaf (hsPut2 o cl h M ⟨fr.n, (d, v1, v2) :: fr.l, fr.df⟩)
  | false => .fail 60
def hsPut (o : Oper) (cl : Bool) (h : HS) (fr : Fr) (v1 v2 : Value) (M : List Ent) : Option Nat → Tree HS
  | none => .leaf (hsPut2 o cl h M fr)
  | some d => hsPutB o cl h fr d v1 v2 M (Nat.ble (d + 1) fr.n)
def hsK (o : Oper) (cl : Bool) (h : HS) : GR → Tree HS
  | (x, v1, v2, st, _) => hsPut o cl h (setD h.fr x) v1 v2 st.M o.dst
/-- an operation that is not done, for it panics or waits for one that does -/
def markD (i : Nat) (p : Option (Value × Value)) (h : HS) : Tree HS := .leaf ⟨h.fr, h.C, h.W, h.Y, i :: h.D, p⟩
noncomputable def hsDead (o : Oper) (cl : Bool) (h : HS) (i : Nat) (p : Option (Value × Value)) : Option (Nat × Bool) → Tree HS
  | none => (hsPut o cl h h.fr undef undef [] o.dst).bind (markD i p)
  | some _ => .fail 78
noncomputable def hsPanP (o : Oper) (cl : Bool) (h : HS) (i : Nat) (v1 v2 : Value) : Option (Value × Value) → Tree HS
  | none => hsDead o cl h i (some (v1, v2)) o.guard
  | some _ => .fail 78
noncomputable def hsPan (o : Oper) (cl : Bool) (h : HS) (i : Nat) (v1 v2 : Value) (_ : St) (_ : Sup) : Tree HS := hsPanP o cl h i v1 v2 h.pan
def anyT (D : List Nat) : List Nat → Bool
  | [] => false
  | x :: l => match hasT D x with
    | true => true
    | false => anyT D l
noncomputable def headB (P : Program) (call : CallE) (ops : Array Oper) (st : St) (frx : PX) (X CL : List Nat) (i : Nat) (o : Oper) (h : HS) (r : Sup) : Bool → Tree HS
  | true => hsDead o (hasT CL i) h i h.pan o.guard
  | false => (guarded P call ops o h.fr (hsSt ops frx st X i o (xTag ops frx o) h) r).catch (hsK o (hasT CL i) h) (hsPan o (hasT CL i) h i)
noncomputable def headOp (P : Program) (call : CallE) (ops : Array Oper) (st : St) (frx : PX) (_fr0 : Fr) (X CL : List Nat) (i : Nat) (o : Oper) (h : HS) (r : Sup) : Tree HS :=
  headB P call ops st frx X CL i o h r (anyT h.D (depL o))
noncomputable def headE (P : Program) (call : CallE) (ops : Array Oper) (n : Nat) (st : St) (frx : PX) (fr0 : Fr) (X CL : List Nat) (r : Sup) (l : List Oper) : Nat → HS → Tree HS :=
  List.rec (motive := fun _ => Nat → HS → Tree HS) (fun _ h => .leaf h) (fun o _ ih i h => (headOp P call ops st frx fr0 X CL i o h (subSup n i r)).bind (ih (i + 1))) l
def dstL (ops : Array Oper) : Nat → List Nat
  | 0 => []
  | k + 1 => match (ops[k]?).bind (·.dst) with
    | some d => d :: dstL ops k
    | none => dstL ops k
def junkS : List Nat → Sup → List (Nat × Value × Value)
  | [], _ => []
  | t :: js, r => (t, undef, (r 0).2) :: junkS js r.tl
noncomputable def tailB (P : Program) (call : CallE) (dk : Bool) (ops : Array Oper) (n : Nat) (st : St) (X : List Nat) (fr0 : Fr) (r : Sup) (h : HS) : List Nat → Option (Value × Value) → Tree OR
  | [], _ => evalOps P call dk ops (ops.toList.drop n) h.fr ⟨h.W.flatten ++ dropT X st.M, st.nt + 1000 * (n + 1)⟩ r
  | _ :: _, some (v1, v2) => .leaf (.pan v1 v2, ⟨fr0.n, junkS (dstL ops n) r ++ fr0.l, fr0.df⟩, ⟨dropT X st.M, st.nt + 1000 * (n + 1)⟩, fun i => r (i + (dstL ops n).length))
  | _ :: _, none => .fail 78
noncomputable def tailK (P : Program) (call : CallE) (dk : Bool) (ops : Array Oper) (n : Nat) (st : St) (X : List Nat) (fr0 : Fr) (r : Sup) (h : HS) : Tree OR := tailB P call dk ops n st X fr0 r h h.D h.pan
/-- each of those tags is there, once, and may be written -/
def xOkB (M : List Ent) : List Nat → Bool
  | [] => true
  | x :: l => (match find M x with | some e => e.rw | none => false) && !hasT l x && xOkB M l
def chainN (ops : Array Oper) : Nat → Nat
  | 0 => 0
  | t + 1 => match t, Region.waitsFor .any ops (t + 1) t with
    | _, true => chainN ops t
    | _, false => t + 1
def sinkN (ops : Array Oper) (t : Nat) : Nat → Nat
  | 0 => t
  | k + 1 => match Region.sinkB .any ops t with
    | true => t
    | false => sinkN ops (t + 1) k
def splitN (ops : Array Oper) : Nat := match ops.size with
  | 0 => 0
  | m + 1 => sinkN ops (chainN ops m) (m + 1 - chainN ops m)
def nodupT : List Nat → Bool
  | [] => true
  | x :: l => !hasT l x && nodupT l
def ltT (n : Nat) : List Nat → Bool
  | [] => true
  | x :: l => Nat.ble (x + 1) n && ltT n l
noncomputable def drawX (P : Program) (call : CallE) (dk : Bool) (ops : Array Oper) (n : Nat) (frx : PX) (fr : Fr) (st : St) (r : Sup) (X CL : List Nat) : Bool → Tree CR
  | true => ((headE P call ops n st frx fr X CL r (ops.toList.take n) 0 ⟨fr, [], [], [], [], none⟩).calm.bind (tailK P call dk ops n st X fr (subSup n n r))).bind regK
  | false => .fail 58
noncomputable def drawK (P : Program) (call : CallE) (dk : Bool) (ops : Array Oper) (n : Nat) (frx : PX) (fr : Fr) (st : St) (r : Sup) (X CL : List Nat) : Tree CR :=
  drawX P call dk ops n frx fr st r X CL (xOkB st.M X && (nodupT CL && ltT n CL))
noncomputable def drawB (P : Program) (call : CallE) (dk : Bool) (ops : Array Oper) (n : Nat) : Bool → EC
  | true => fun fr st r => drawK P call dk ops n ⟨probe P st rz (ops.toList.take n) fr, n⟩ fr st r (xTags ops ⟨probe P st rz (ops.toList.take n) fr, n⟩ (ops.toList.take n)) (srcs ops (ops.toList.take n))
  | false => fun _ _ _ => .fail 57
noncomputable def cRegion (P : Program) (call : CallE) (dk : Bool) (ops : Array Oper) : Bool → EC
  | false => fun fr st r => (evalOps P call dk ops ops.toList fr st r).bind regK
  | true => drawB P call dk ops (splitN ops) (P.follows .mixedOrders && Reg.checkB ops (splitN ops) [])
def cFail (n : Nat) : EC := fun _ _ _ => .fail n
def dkOf : Rd → Bool
  | none => true
  | some _ => false
noncomputable def codeS (P : Program) (G : Sum) (ec : Rd → Code → EC) (rd : Rd) (c : Code) : EC :=
  Code.casesOn (motive := fun _ => EC) c (cEnd .normal) (fun _ ops d => cRegion P (callE P G ec) (dkOf rd) ops d) (fun a b => cSeq (ec rd a) (ec rd b)) (fun c a b => cCond c (ec rd a) (ec rd b)) (fun id a => cBlock id (ec rd a)) (fun a => cSeq (ec rd a) (ec rd (.loop a)))
    (fun g ps a b => rfIn P (callE P G ec) g ps a b rd) (fun id => cEnd (.exit id)) (fun _ => cFail 53) (fun _ => cEnd .normal) (fun _ => cFail 54) (cEnd .ret) (fun _ => cFail 55)
noncomputable def evalR (P : Program) (G : Sum) (n : Nat) : Rd → Code → EC :=
  Nat.rec (motive := fun _ => Rd → Code → EC) (fun _ _ => cFail 50) (fun _ ec => codeS P G ec) n
noncomputable def evalC (P : Program) (G : Sum) (n : Nat) (c : Code) : EC := evalR P G n none c
end Ev
end Go.Proofs.Ytbpnmjjmllgehaa
