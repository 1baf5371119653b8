import PyProof.Rows.All
import Wide.All
import OpenK.AllK
import Wide.FinOn
import Lean
import PyProof.EqAt
import PyProof.EqKinds
import PyProof.TupleCall
import PyProof.NeKinds
import PyProof.SumWalk
import PyProof.Rows.SortShellK
import PyProof.Rows.SortReads
import PyProof.Rows.SortWalk
import PyProof.ConsumeWalk
import PyProof.WalkInts
import PyProof.ListRange
import PySem.Challenge.RW_evenwear_k11_refused_at_the_disk
set_option Elab.async false
set_option linter.all false
section HDS
lay_quick PySem.W.openEnds
namespace Ev
open PySem PySem.W PySem.Calls PyProof.Rows
def pick : List Bool -> List Stmt -> List Stmt
 | true :: bs, s :: ss => s :: pick bs ss
 | false :: bs, _ :: ss => pick bs ss
 | _, _ => []
def Qf (p : Program) : Program := { p with main := { p.main with body := pick [false, true, true, true, true, true, true, true, false, true, true, true, true, true, true, true, true, true, true, true, true, true, false, true, true, true, true, true, true, false, true, true, true, true, true, true, true, true, true] p.main.body } }
def tt (_ : Params -> Frag) : Bool := true
noncomputable abbrev twT := PySem.W.Fast.tw14364793385576792824
noncomputable abbrev twS := PySem.W.Fast.tw4187177175401517315
noncomputable abbrev twI := PySem.W.Fast.tw5923862056798008813
noncomputable abbrev twE := PySem.W.Fast.tw15552708684749139287
def xt (q : Program) (s : Shared) : Bool := xlAt q [] s && recOk [] s
theorem both {α β γ : Type} {o : Option α} {f : α -> β} {g : α -> γ} {b : β} {c : γ} (h1 : o.map f = some b) (h2 : o.map g = some c) : o.map (fun s => (f s, g s)) = some (b, c) := by
 cases o with
 | none => cases h1
 | some a => cases h1; cases h2; rfl
theorem head {r : OpenRow} {p p' : Program} {K K' : Params -> Frag} {as : List Addr} {N : Nat} {d : DefRec} {kwd : List (Str × Expr)}
   (e : ∀ P, as = (K P).map (·.1)) (hr : r.prog = p) (hR : r.records = []) (hp : p = p') (hK : K = K')
   (h3 : ∀ w, (twE twT p' w N).map (fun s => twS (Qf p') [] (twI p'.main.body) (xt (Qf p')) true s) = some (openGood (Qf p') []))
   (h2 : ∀ w, (twE twT p' w N).map (fun s => as.map s.heap.get?) = some ((K' w.params).map fun p => some p.2))
   (hdef : defOf (Qf p) r.name = some (d, kwd)) (hpd : p.theDef r.name = some (d.params, d.body, d.scope)) (hk : kwWritten? d.params.kwonlyargs d.params.kw_defaults = some kwd) (hwr : (!r.writes || r.records.isEmpty) = true)
   (k1 : r.wellSaid = true) (ok : (chainsOk (Qf p) && opensWell p && (frees r.toRowW && r.within.isEmpty)) = true) (hb : p.bare) (hw : r.toRowW.promised)
   (hc : WalkO (Qf p) [] (XL (Qf p) []) (InK K) r.toRowW d kwd fun f vs => PySem.call f vs) : r.Holds := by
 subst hr hp hK
 have left : LeftO r.prog (Qf r.prog) [] (xt (Qf r.prog)) (fun s => as.map s.heap.get?) (fun w => (K w.params).map fun p => some p.2) N := fun w => by
   have h := both (h3 w) (h2 w)
   unfold twE twT twS twI at h
   rewrite [<- PySem.W.Fast.te15552708684749139287, <- PySem.W.Fast.te4187177175401517315, <- PySem.W.Fast.te5923862056798008813, <- PySem.W.Fast.te14364793385576792824] at h
   exact h
 exact holds_open left (InK.of e) InK.keeps (fun s e => xl_of s (Bool.and_eq_true_iff.mp e).1) XL.keeps hdef hpd hk
   (fun s e => hR ▸ recFacts_of (Bool.and_eq_true_iff.mp e).2) hwr k1 ok hb hw hc
end Ev
open PySem PySem.W PySem.Calls PyProof.Rows
set_option maxRecDepth 100000
set_option maxHeartbeats 0
lay_quick PySem.Challenge.pw_evenwear_k11_refused_at_the_disk
theorem Ev.topSeen : ∀ w, (Ev.twE Ev.twT PySem.W.Fast.tw13509851811235601155 w 6426).map (fun s => Ev.twS (Ev.Qf PySem.W.Fast.tw13509851811235601155) [] (Ev.twI PySem.W.Fast.tw13509851811235601155.main.body) (Ev.xt (Ev.Qf PySem.W.Fast.tw13509851811235601155)) true s) = some (openGood (Ev.Qf PySem.W.Fast.tw13509851811235601155) []) := fun w => by kernel_rfl
set_option hygiene false in
local macro_rules
 | `(tactic| o_head ($_f $k $a $e)) => `(tactic| (
     have hTT : Ev.tt $k = true := by k_qdec
     clear hTT
     apply Ev.head (p := PySem.Challenge.pw_evenwear_k11_refused_at_the_disk) (K := $k) (as := $a) $e rfl rfl PySem.W.Fast.te13509851811235601155 PySem.W.Fast.te6277534273549453485 Ev.topSeen (fun w => by kernel_rfl) (by rfl) (by rfl) (by rfl) (by rfl) (by first | assumption | decide +kernel) (by decide +kernel) ⟨rfl, rfl, rfl, rfl, rfl, by decide +kernel⟩))
 | `(tactic| o_head ($_f $k $a $e $_t)) => `(tactic| (
     have hTT : Ev.tt $k = true := by k_qdec
     clear hTT
     apply Ev.head (p := PySem.Challenge.pw_evenwear_k11_refused_at_the_disk) (K := $k) (as := $a) $e rfl rfl PySem.W.Fast.te13509851811235601155 PySem.W.Fast.te6277534273549453485 Ev.topSeen (fun w => by kernel_rfl) (by rfl) (by rfl) (by rfl) (by rfl) (by first | assumption | decide +kernel) (by decide +kernel) ⟨rfl, rfl, rfl, rfl, rfl, by decide +kernel⟩))
open_top Ev.hd for PySem.Challenge.rw_evenwear_k11_refused_at_the_disk
end HDS
set_option Elab.async false
set_option linter.all false
set_option maxRecDepth 100000
namespace L2
open PySem PySem.Spec PyProof.Rows
def isStar : Expr -> Bool
 | .Starred _ _ => true
 | _ => false
theorem zQq {e : Expr} {es : List Expr} {env : Env} (h : isStar e = false) : starEach (e :: es) env = (false, eval e env) :: starEach es env := by
 cases e <;> first | rfl | cases h
theorem zQx {pos : Pos} {env : Env} : ∀ {es : List Expr}, (es.all fun e => !isStar e) = true -> (backTo pos (starEach es env)).any (·.1) = false
 | [], _ => rfl
 | e :: es, h => by
   rw [List.all_cons, Bool.and_eq_true] at h
   rw [zQq (by simpa using h.1)]
   show (false || (backTo pos (starEach es env)).any (·.1)) = false
   rw [zQx h.2]
   rfl
abbrev Key := Sum Int Str
def keyIs : Key -> Value -> Bool
 | .inl k, v => Value.isInt k v
 | .inr x, v => Value.isStrOf x v
def keyH (w : World) : Key -> Int
 | .inl k => hashInt k
 | .inr x => hashStr w x
theorem zJj : ∀ {k : Key} {v : Value}, keyIs k v = true -> (∃ i t, k = Sum.inl i /\ v = Value.int i t) \/ (∃ x t, k = Sum.inr x /\ v = Value.str x t)
 | .inl i, v, h => by
   obtain ⟨t, e⟩ := Value.isInt_shape (k := i) (v := v) h
   exact .inl ⟨i, t, rfl, e⟩
 | .inr x, v, h => by
   obtain ⟨t, e⟩ := Value.isStrOf_shape (x := x) (v := v) h
   exact .inr ⟨x, t, rfl, e⟩
theorem keyIs_int (i : Int) (t : Tok) : keyIs (.inl i) (.int i t) = true := by simp [keyIs, Value.isInt]
theorem keyIs_str (x : Str) (t : Tok) : keyIs (.inr x) (.str x t) = true := by simp [keyIs, Value.isStrOf]
theorem key_ll (a b : Int) : decide ((Sum.inl a : Key) = Sum.inl b) = (a == b) := by
 by_cases e : a = b
 . subst e; simp
 . have h : ¬ (Sum.inl a : Key) = Sum.inl b := fun q => e (Sum.inl.inj q)
   rw [decide_eq_false h]
   exact (beq_eq_false_iff_ne.mpr e).symm
theorem key_rr (a b : Str) : decide ((Sum.inr a : Key) = Sum.inr b) = decide (a = b) := by
 by_cases e : a = b
 . subst e; simp
 . have h : ¬ (Sum.inr a : Key) = Sum.inr b := fun q => e (Sum.inr.inj q)
   rw [decide_eq_false h, decide_eq_false e]
theorem key_lr (a : Int) (b : Str) : decide ((Sum.inl a : Key) = Sum.inr b) = false := decide_eq_false (fun q => nomatch q)
theorem key_rl (a : Str) (b : Int) : decide ((Sum.inr a : Key) = Sum.inl b) = false := decide_eq_false (fun q => nomatch q)
def mixKind (prog : Program) (w : World) : PySem.KeyKind prog w Key where
 is := keyIs
 hash := keyH w
 inj := fun v a b ha hb => by
   rcases zJj ha with ⟨i, t, rfl, rfl⟩ | ⟨x, t, rfl, rfl⟩
   . rcases zJj hb with ⟨j, u, rfl, e⟩ | ⟨y, u, rfl, e⟩
     . injection e with e1 _; rw [e1]
     . exact nomatch e
   . rcases zJj hb with ⟨j, u, rfl, e⟩ | ⟨y, u, rfl, e⟩
     . exact nomatch e
     . injection e with e1 _; rw [e1]
 byValue := fun k v h => by
   rcases zJj h with ⟨i, t, rfl, rfl⟩ | ⟨x, t, rfl, rfl⟩ <;> rfl
 pyHash := fun hv h => by
   rcases zJj hv with ⟨i, t, rfl, rfl⟩ | ⟨x, t, rfl, rfl⟩
   . exact wpAny_pyHash_int h
   . exact wpAny_pyHash_str h
 eqBool := fun hu hv h => by
   rcases zJj hu with ⟨i, t, rfl, rfl⟩ | ⟨x, t, rfl, rfl⟩
   . rcases zJj hv with ⟨j, u, rfl, rfl⟩ | ⟨y, u, rfl, rfl⟩
     . rw [key_ll] at h; exact wpAny_eqBool_int h
     . rw [key_lr] at h; exact SeqAt.EqAt.int_str i t y u _ _ _ _ h
   . rcases zJj hv with ⟨j, u, rfl, rfl⟩ | ⟨y, u, rfl, rfl⟩
     . rw [key_rl] at h; exact SeqAt.EqAt.str_int x t j u _ _ _ _ h
     . rw [key_rr] at h; exact wpAny_eqBool_str h
 «strs» := fun k x t v h => by
   rcases zJj h with ⟨i, u, rfl, e⟩ | ⟨y, u, rfl, e⟩
   . exact nomatch e
   . injection e with e1 _
     subst e1
     cases v <;> rfl
theorem mixKind_int (prog : Program) (w : World) (i : Int) (t : Tok) : (mixKind prog w).is (.inl i) (.int i t) = true := keyIs_int i t
theorem mixKind_str (prog : Program) (w : World) (x : Str) (t : Tok) : (mixKind prog w).is (.inr x) (.str x t) = true := keyIs_str x t
inductive V where
 | non | bl (b : Bool) | int (i : Int) | str (x : Str) | byt (b : Array UInt8) | flt (b : UInt64) | ref (a : Addr) | ty (n : String)
 deriving DecidableEq
def RelV : V -> Value -> Prop
 | .non, u => u = Value.none
 | .bl b, u => u = Value.bool b
 | .int i, u => ∃ t, u = Value.int i t
 | .str x, u => ∃ t, u = Value.str x t
 | .byt b, u => ∃ t, u = Value.bytes b t
 | .flt b, u => ∃ t, u = Value.float b t
 | .ref a, u => u = Value.ref a
 | .ty n, u => u = Value.type n
abbrev Vals : List V -> List Value -> Prop := Paired RelV
theorem Vals.length {xs : List V} {us : List Value} (r : Vals xs us) : xs.length = us.length := Paired.length r
theorem Vals.get : ∀ {xs : List V} {us : List Value} {i : Nat} {x : V}, Vals xs us -> xs[i]? = some x -> ∃ u, us[i]? = some u /\ RelV x u
 | _, _, _, _, .nil, e => by simp at e
 | _, _, 0, _, .cons r _, e => by simp at e; subst e; exact ⟨_, rfl, r⟩
 | _, _, i + 1, x, .cons _ t, e => by
   obtain ⟨u, h1, h2⟩ := Vals.get (i := i) (x := x) t (by simpa using e)
   exact ⟨u, by simpa using h1, h2⟩
theorem Vals.set {x : V} {u : Value} (r : RelV x u) : ∀ {xs : List V} {us : List Value} (i : Nat), Vals xs us -> Vals (xs.set i x) (us.set i u)
 | _, _, _, .nil => .nil
 | _, _, 0, .cons _ t => .cons r t
 | _, _, i + 1, .cons q t => .cons q (Vals.set r i t)
theorem Vals.append : ∀ {xs ys : List V} {us ws : List Value}, Vals xs us -> Vals ys ws -> Vals (xs ++ ys) (us ++ ws)
 | _, _, _, _, .nil, s => s
 | _, _, _, _, .cons r t, s => .cons r (Vals.append t s)
theorem Vals.take : ∀ {xs : List V} {us : List Value} (n : Nat), Vals xs us -> Vals (xs.take n) (us.take n)
 | _, _, 0, _ => .nil
 | _, _, _ + 1, .nil => .nil
 | _, _, n + 1, .cons r t => .cons r (Vals.take n t)
theorem Vals.drop : ∀ {xs : List V} {us : List Value} (n : Nat), Vals xs us -> Vals (xs.drop n) (us.drop n)
 | _, _, 0, r => r
 | _, _, _ + 1, .nil => .nil
 | _, _, n + 1, .cons _ t => Vals.drop n t
theorem Vals.none_of : ∀ {xs : List V} {us : List Value} {i : Nat}, Vals xs us -> xs[i]? = none -> us[i]? = none := fun {xs us i} r e => by
 have h1 := r.length
 have h2 : xs.length <= i := List.getElem?_eq_none_iff.mp e
 exact List.getElem?_eq_none_iff.mpr (by omega)
def RelO : Option V -> Option Value -> Prop
 | some v, some u => RelV v u
 | none, none => True
 | _, _ => False
def KV {κ : Type} : List (κ × V) -> List (κ × Value) -> Prop := Paired fun (p : κ × V) (q : κ × Value) => p.1 = q.1 /\ RelV p.2 q.2
def kV : Key -> V
 | .inl i => .int i
 | .inr x => .str x
inductive HO where
 /-- a list -/
 | lst (xs : List V)
 /-- a tuple (never changes) -/
 | tup (xs : List V)
 /-- a dict whose keys are ints and texts; one whose keys are tuples of ints and texts (the empty one is both) -/
 | dK (kvs : List (Key × V)) | dT (kvs : List (List Key × V))
 /-- a set of ints: its members, its size -/
 | set (S : Int -> Bool) (n : Nat)
 /-- an instance of the class at C, its dict at dx, its attributes -/
 | ins (C dx : Addr) (fs : List (Str × V))
 /-- the dict of the instance at x -/
 | own (x : Addr)
 /-- the dict of an exception -/
 | xd (fs : List (Str × V))
 /-- a bound method, f of x -/
 | met (f x : Addr)
 /-- a range object lo, lo + 1, .. below hi -/
 | rng (lo hi : Int)
 /-- a thing that is known to the object (the script; a dict while a loop walks it): read, never written while it is so -/
 | frz (o : Obj) (u : HO)
 /-- a code object's table -/
 | tbl (ps : Array Value)
 /-- any other thing, by what is true of its one object (a def of one's own: SetO a S n := HO.ext fun h => ..) -/
 | ext (φ : Heap -> Prop)
abbrev Hp := Addr -> Option HO
def upd (H : Hp) (a : Addr) (o : HO) : Hp := fun b => if b = a then some o else H b
theorem zQz {H : Hp} {a : Addr} {o : HO} : upd H a o a = some o := by unfold upd; rw [if_pos rfl]
theorem zQv {H : Hp} {a b : Addr} {o : HO} (h : b ≠ a) : upd H a o b = H b := by unfold upd; rw [if_neg h]
theorem yKw {H : Hp} {a : Addr} {o u : HO} : upd (upd H a o) a u = upd H a u := by
 funext b; unfold upd; split <;> rfl
theorem xQk {H : Hp} {a b : Addr} {o u : HO} (h : H a = some o) (h' : H b = some u) (d : o ≠ u) : a ≠ b := by
 intro e; subst e; rw [h] at h'; exact d (Option.some.inj h')
theorem zWv {H : Hp} {a b : Addr} {o : HO} (h : H a = some o) (h' : H b = none) : a ≠ b := by
 intro e; subst e; rw [h] at h'; cases h'
section
variable (P : Program) (w : World)
def ObjOk (H : Hp) (h : Heap) (a : Addr) : HO -> Prop
 | .lst xs => xs.length <= sizeLine /\ ∃ (its : List Value) (n : Nat), Vals xs its /\ h.get? a = some { cls := .type "list", data := .seq its.toArray n }
 | .tup xs => xs.length <= sizeLine /\ ∃ its : List Value, Vals xs its /\ IsTup h a its.toArray
 | .dK kvs => kvs.length <= sizeLine /\ (a == sysModules) = false /\ ∃ vs, KV kvs vs /\ h.DictOf (mixKind P w) a vs
 | .dT kvs => kvs.length <= sizeLine /\ (a == sysModules) = false /\ ∃ xs : List (List Key × Addr × Value),
     Paired (fun (p : List Key × V) (q : List Key × Addr × Value) => p.1 = q.1 /\ H q.2.1 = some (.tup (p.1.map kV)) /\ RelV p.2 q.2.2) kvs xs /\
     ∃ o es ep, h.get? a = some o /\ o.ExactDict /\ o.data = .dict es ep /\ es.toList = xs.map (entryOfKey (tupleKind (mixKind P w))) /\ (xs.map (·.1)).Nodup
 | .set S n => h.SetOf (intKind P w) a S n
 | .ins C dx fs => H dx = some (.own a) /\ fs.length <= 1000 /\ dx ≠ a /\ h.get? a = some (PySem.W.instObj C dx) /\
     ∃ mA, h.Ns1 dx mA /\ (∀ f, RelO (fs.lookup f) (mA f)) /\ PySem.Within mA (fs.map (·.1))
 | .own _ => ∃ o, h.get? a = some o
 | .xd fs => ∃ mA, h.Ns1 a mA /\ ∀ f, RelO (fs.lookup f) (mA f)
 | .rng lo hi => ∃ t u v, h.get? a = some { cls := .type "range", data := .fields #[.int lo t, .int hi u, .int 1 v] }
 | .frz o u => h.get? a = some o /\ ObjOk H h a u
 | .tbl ps => h.get? a = some { cls := .none, data := .fields ps }
 | .met f x => h.get? a = some (PySem.W.methodObj (.ref f) (.ref x))
 | .ext φ => φ h /\ (∃ o, h.get? a = some o) /\ ∀ h1 h2 : Heap, φ h1 -> (∀ o, h1.get? a = some o -> h2.get? a = some o) -> φ h2
def HOk (H : Hp) (h : Heap) : Prop := ∀ a o, H a = some o -> ObjOk P w H h a o
end
section
variable {P : Program} {w : World} {H H' : Hp} {h h' : Heap} {a : Addr} {o : HO}
theorem ObjOk.lt (x : ObjOk P w H h a o) : a < h.objs.size := by
 cases o with
 | lst xs => obtain ⟨_, _, _, _, e⟩ := x; exact Heap.lt_size e
 | tup xs => obtain ⟨_, _, _, p⟩ := x; exact p.lt
 | dK kvs => obtain ⟨_, _, _, _, o, _, _, e, _⟩ := x; exact Heap.lt_size e
 | dT kvs => obtain ⟨_, _, _, _, o, _, _, e, _⟩ := x; exact Heap.lt_size e
 | set S n => obtain ⟨o, _, _, _, e, _⟩ := x; exact Heap.lt_size e
 | ins C dx fs => obtain ⟨_, _, _, e, _⟩ := x; exact Heap.lt_size e
 | own y => obtain ⟨_, e⟩ := x; exact Heap.lt_size e
 | xd fs => obtain ⟨_, ⟨_, _, _, e, _⟩, _⟩ := x; exact Heap.lt_size e
 | rng lo hi => obtain ⟨_, _, _, e⟩ := x; exact Heap.lt_size e
 | frz ob u => obtain ⟨e, _⟩ := x; exact Heap.lt_size e
 | tbl ps => exact Heap.lt_size (show h.get? a = some _ from x)
 | met f y => exact Heap.lt_size (show h.get? a = some _ from x)
 | ext φ => obtain ⟨_, ⟨_, e⟩, _⟩ := x; exact Heap.lt_size e
theorem Paired.mapP {α β : Type} {F G : α -> β -> Prop} : ∀ {l₁ : List α} {l₂ : List β}, Paired F l₁ l₂ -> (∀ a b, F a b -> G a b) -> Paired G l₁ l₂
 | _, _, .nil, _ => .nil
 | _, _, .cons r t, f => .cons (f _ _ r) (Paired.mapP t f)
theorem ObjOk.stay (x : ObjOk P w H h a o) (k : ∀ b u, (b = a \/ H b = some (.own a)) -> h.get? b = some u -> h'.get? b = some u)
   (ho : ∀ b, H b = some (.own a) -> H' b = some (.own a)) (ht : ∀ b xs, H b = some (.tup xs) -> H' b = some (.tup xs)) : ObjOk P w H' h' a o := by
 induction o with
 | lst xs => obtain ⟨z, its, n, r, e⟩ := x; exact ⟨z, its, n, r, k _ _ (.inl rfl) e⟩
 | tup xs => obtain ⟨z, its, r, ob, e, c⟩ := x; exact ⟨z, its, r, ob, k _ _ (.inl rfl) e, c⟩
 | dK kvs => obtain ⟨z, y, vs, r, ob, es, ep, e, c⟩ := x; exact ⟨z, y, vs, r, ob, es, ep, k _ _ (.inl rfl) e, c⟩
 | dT kvs =>
   obtain ⟨z, y, xs, r, ob, es, ep, e, c⟩ := x
   exact ⟨z, y, xs, Paired.mapP r fun p q z => ⟨z.1, ht _ _ z.2.1, z.2.2⟩, ob, es, ep, k _ _ (.inl rfl) e, c⟩
 | set S n => obtain ⟨ob, es, ep, t, e, c⟩ := x; exact ⟨ob, es, ep, t, k _ _ (.inl rfl) e, c⟩
 | ins C dx fs =>
   obtain ⟨d, z, ne, e, mA, ⟨od, es, ep, e2, c⟩, r⟩ := x
   exact ⟨ho _ d, z, ne, k _ _ (.inl rfl) e, mA, ⟨od, es, ep, k _ _ (.inr d) e2, c⟩, r⟩
 | own y => obtain ⟨ob, e⟩ := x; exact ⟨ob, k _ _ (.inl rfl) e⟩
 | xd fs => obtain ⟨mA, ⟨od, es, ep, e, c⟩, r⟩ := x; exact ⟨mA, ⟨od, es, ep, k _ _ (.inl rfl) e, c⟩, r⟩
 | rng lo hi => obtain ⟨t, u, v, e⟩ := x; exact ⟨t, u, v, k _ _ (.inl rfl) e⟩
 | frz ob u ih => obtain ⟨e, q⟩ := x; exact ⟨k _ _ (.inl rfl) e, ih q⟩
 | tbl ps =>
   have e : h.get? a = some { cls := .none, data := .fields ps } := x
   show h'.get? a = some { cls := .none, data := .fields ps }
   exact k a _ (.inl rfl) e
 | met f y =>
   have e : h.get? a = some (PySem.W.methodObj (.ref f) (.ref y)) := x
   show h'.get? a = some (PySem.W.methodObj (.ref f) (.ref y))
   exact k a _ (.inl rfl) e
 | ext φ => obtain ⟨p, ⟨o, e⟩, st⟩ := x; exact ⟨st _ _ p fun o q => k _ _ (.inl rfl) q, ⟨o, k _ _ (.inl rfl) e⟩, st⟩
theorem HOk.lt (x : HOk P w H h) (e : H a = some o) : a < h.objs.size := (x a o e).lt
theorem HOk.fresh (x : HOk P w H h) (e : h.objs.size <= a) : H a = none := by
 cases q : H a with
 | none => rfl
 | some u => exact absurd (Nat.lt_of_lt_of_le (x.lt q) e) (Nat.lt_irrefl _)
theorem HOk.kept (x : HOk P w H h) (k : ∀ b u, h.get? b = some u -> h'.get? b = some u) : HOk P w H h' := fun a o e =>
 (x a o e).stay (fun b u _ q => k b u q) (fun _ q => q) fun _ _ q => q
theorem HOk.laid (x : HOk P w H h) (k : ∀ b u, h.get? b = some u -> h'.get? b = some u) (hp : h.objs.size <= a) (new : ObjOk P w (upd H a o) h' a o) : HOk P w (upd H a o) h' := fun b u e => by
 have hn := x.fresh hp
 by_cases hb : b = a
 . subst hb; rw [zQz] at e; cases e; exact new
 . rw [zQv hb] at e
   exact (x b u e).stay (fun c v _ q => k c v q) (fun c q => by rw [zQv (zWv q hn)]; exact q) fun c xs q => by rw [zQv (zWv q hn)]; exact q
end
def Rd (H : Hp) (a : Addr) (u : HO) : Prop := H a = some u \/ ∃ o, H a = some (.frz o u)
theorem Rd.of {H : Hp} {a : Addr} {u : HO} (h : H a = some u) : Rd H a u := .inl h
theorem Rd.ok {P : Program} {w : World} {H : Hp} {h : Heap} {a : Addr} {u : HO} (r : Rd H a u) (x : HOk P w H h) : ObjOk P w H h a u := by
 rcases r with r | ⟨o, r⟩
 . exact x a u r
 . obtain ⟨_, q⟩ := x a _ r
   exact q
def Mut : Option HO -> Prop
 | some (.lst _) => True
 | some (.dK _) => True
 | some (.dT _) => True
 | some (.set _ _) => True
 | some (.ins _ _ _) => True
 | some (.ext _) => True
 | _ => False
section
variable {P : Program} {w : World} {H : Hp} {h h' : Heap} {x e : Addr} {o' : HO}
theorem HOk.write (ok : HOk P w H h) (mu : Mut (H x)) (he : e = x \/ H e = some (.own x)) (k : ∀ b u, b ≠ e -> h.get? b = some u -> h'.get? b = some u) (heo : ∃ u, h'.get? e = some u)
   (new : ObjOk P w (upd H x o') h' x o') : HOk P w (upd H x o') h' := fun b u q => by
 have nown : ∀ c y, H c = some (.own y) -> c ≠ x := fun c y r z => by subst z; rw [r] at mu; exact mu
 have ntup : ∀ c xs, H c = some (.tup xs) -> c ≠ x := fun c xs r z => by subst z; rw [r] at mu; exact mu
 by_cases hb : b = x
 . subst hb; rw [zQz] at q; cases q; exact new
 . rw [zQv hb] at q
   by_cases hbe : b = e
   . have q' : H b = some (.own x) := by
       rcases he with z | z
       . exact absurd (hbe.trans z) hb
       . rw [hbe]; exact z
     rw [q] at q'; cases q'
     obtain ⟨v, hv⟩ := heo
     exact ⟨v, by rw [hbe]; exact hv⟩
   . refine (ok b u q).stay (fun c v hc r => k c v ?_ r) (fun c r => by rw [zQv (nown c b r)]; exact r) fun c xs r => by rw [zQv (ntup c xs r)]; exact r
     rcases hc with rfl | hc
     . exact hbe
     . rintro rfl
       rcases he with z | z
       . exact nown c b hc z
       . rw [hc] at z; cases z; exact hb rfl
end
structure Un (fs ex : List Addr) (H H' : Hp) (h h' : Heap) : Prop where
 keep : ∀ b o, h.get? b = some o -> H b = none -> b ∉ fs -> b ∉ ex -> h'.get? b = some o
 slot : ∀ b o, h.get? b = some o -> H b = none -> b ∈ fs -> b ∉ ex -> ∃ sl, h'.get? b = some { o with slots := sl }
 free : ∀ b o, h.get? b = some o -> H b = none -> b ∉ ex -> H' b = none
 there : ∀ b o, h.get? b = some o -> b ∉ ex -> ∃ o', h'.get? b = some o'
 tups : ∀ b xs, H b = some (.tup xs) -> H' b = some (.tup xs)
 frzs : ∀ b o u, H b = some (.frz o u) -> H' b = some (.frz o u)
 tbls : ∀ b ps, H b = some (.tbl ps) -> ∃ more, H' b = some (.tbl (ps ++ more))
section
variable {fs fs' ex ex' : List Addr} {H H1 H2 : Hp} {h h1 h2 h' : Heap} {a x e : Addr} {o : HO}
theorem Un.any (u : Un fs ex H H1 h h1) {b : Addr} {ob : Obj} (q : h.get? b = some ob) (n : H b = none) (hx : b ∉ ex) : ∃ sl, h1.get? b = some { ob with slots := sl } := by
 by_cases hb : b ∈ fs
 . exact u.slot b ob q n hb hx
 . exact ⟨ob.slots, u.keep b ob q n hb hx⟩
theorem Un.trans (a : Un fs ex H H1 h h1) (b : Un fs ex H1 H2 h1 h2) : Un fs ex H H2 h h2 where
 keep := fun c ob q n hc hx => b.keep c ob (a.keep c ob q n hc hx) (a.free c ob q n hx) hc hx
 slot := fun c ob q n hc hx => by
   obtain ⟨sl, e1⟩ := a.slot c ob q n hc hx
   obtain ⟨sl', e2⟩ := b.slot c _ e1 (a.free c ob q n hx) hc hx
   exact ⟨sl', e2⟩
 free := fun c ob q n hx => by
   obtain ⟨o', e1⟩ := a.there c ob q hx
   exact b.free c o' e1 (a.free c ob q n hx) hx
 there := fun c ob q hx => by
   obtain ⟨o', e1⟩ := a.there c ob q hx
   exact b.there c o' e1 hx
 tups := fun c xs q => b.tups c xs (a.tups c xs q)
 frzs := fun c ob xs q => b.frzs c ob xs (a.frzs c ob xs q)
 tbls := fun c ps q => by
   obtain ⟨m1, e1⟩ := a.tbls c ps q
   obtain ⟨m2, e2⟩ := b.tbls c _ e1
   exact ⟨m1 ++ m2, by rw [e2, Array.append_assoc]⟩
theorem Un.kept (k : ∀ b u, h.get? b = some u -> h'.get? b = some u) : Un fs ex H H h h' :=
 ⟨fun b ob q _ _ _ => k b ob q, fun b ob q _ _ _ => ⟨ob.slots, k b ob q⟩, fun _ _ _ n _ => n, fun b ob q _ => ⟨ob, k b ob q⟩, fun _ _ q => q, fun _ _ _ q => q, fun _ ps q => ⟨#[], by rw [q]; simp⟩⟩
theorem Un.refl : Un fs ex H H h h := Un.kept fun _ _ q => q
theorem Un.laid (k : ∀ b u, h.get? b = some u -> h'.get? b = some u) (hp : h.objs.size <= a) (hn : H a = none) : Un fs ex H (upd H a o) h h' where
 keep := fun b u q _ _ _ => k b u q
 slot := fun b u q _ _ _ => ⟨u.slots, k b u q⟩
 free := fun b u q n _ => by rw [zQv (Nat.ne_of_lt (Nat.lt_of_lt_of_le (Heap.lt_size q) hp))]; exact n
 there := fun b u q _ => ⟨u, k b u q⟩
 tups := fun b xs q => by rw [zQv (zWv q hn)]; exact q
 frzs := fun b u xs q => by rw [zQv (zWv q hn)]; exact q
 tbls := fun b ps q => ⟨#[], by rw [zQv (zWv q hn), q]; simp⟩
theorem Un.write (mu : Mut (H x)) (he : e = x \/ H e = some (.own x)) (k : ∀ b u, b ≠ e -> h.get? b = some u -> h'.get? b = some u) (heo : ∃ u, h'.get? e = some u) : Un fs ex H (upd H x o) h h' := by
 have hx : ∀ b, H b = none -> b ≠ x := fun b n z => by subst z; rw [n] at mu; exact mu
 have hb : ∀ b, H b = none -> b ≠ e := fun b n z => by
   subst z
   rcases he with r | r
   . exact hx b n r
   . rw [n] at r; cases r
 have hm : ∀ b u, H b = some u -> ¬ Mut (some u) -> b ≠ x := fun b u q nm z => by subst z; rw [q] at mu; exact nm mu
 refine ⟨fun b u q n _ _ => k b u (hb b n) q, fun b u q n _ _ => ⟨u.slots, k b u (hb b n) q⟩, fun b u q n _ => by rw [zQv (hx b n)]; exact n, fun b u q _ => ?_,
   fun b xs q => by rw [zQv (hm b _ q fun z => z)]; exact q, fun b u xs q => by rw [zQv (hm b _ q fun z => z)]; exact q, fun b ps q => ⟨#[], by rw [zQv (hm b _ q fun z => z), q]; simp⟩⟩
 by_cases hbe : b = e
 . subst hbe; exact heo
 . exact ⟨u, k b u hbe q⟩
theorem Un.mono (u : Un fs ex H H1 h h1) (hs : ∀ b ∈ fs, b ∈ fs') (hx : ∀ b ∈ ex, b ∈ ex') : Un fs' ex' H H1 h h1 :=
 ⟨fun b ob q n hb he => u.keep b ob q n (fun z => hb (hs b z)) fun z => he (hx b z), fun _ _ q n _ he => u.any q n fun z => he (hx _ z), fun b ob q n he => u.free b ob q n fun z => he (hx b z), fun b ob q he => u.there b ob q fun z => he (hx b z), u.tups, u.frzs, u.tbls⟩
end
def trk (h : Heap) (H : Hp) : List Addr := (List.range h.objs.size).filter fun a => (H a).isSome
def hidT (h : Heap) (H : Hp) : Heap := PySem.W.hideAll h (trk h H)
theorem hidT_size (h : Heap) (H : Hp) : (hidT h H).objs.size = h.objs.size := PySem.W.hideAll_size _ _
theorem hidT_get {h : Heap} {H : Hp} {b : Addr} {o : Obj} (e : h.get? b = some o) (n : H b = none) : (hidT h H).get? b = some o :=
 PySem.W.hideAll_get _ e fun hm => by
   have q : (H b).isSome = true := (List.mem_filter.mp hm).2
   rw [n] at q; simp at q
theorem of_hidT {h : Heap} {H : Hp} {b : Addr} {o : Obj} (e : (hidT h H).get? b = some o) : h.get? b = some o /\ H b = none := by
 have e' : h.get? b = some o := PySem.W.of_hideAll (trk h H) e
 refine ⟨e', ?_⟩
 cases q : H b with
 | none => rfl
 | some x =>
   have hm : b ∈ trk h H := List.mem_filter.mpr ⟨List.mem_range.mpr (Heap.lt_size e'), by simp [q]⟩
   have z : (hidT h H).get? b = none := PySem.W.hideAll_none (trk h H) hm
   rw [z] at e; cases e
def allNews (g h : Heap) (L : Addr) : List (Addr × Obj) := (List.range h.objs.size).filterMap fun a => if a = L \/ (g.get? a).isSome = true then none else (h.get? a).map fun o => (a, o)
def rest (g h : Heap) (L d : Addr) : List (Addr × Obj) := (allNews g h L).filter fun p => decide (p.1 ≠ d)
structure Mod (K : PySem.W.Frag) (mg : Str -> Option Value) (base : Heap) : Prop where
 kin : K.In base
 glob : base.Ns mainGlobals mg
 blt : ∃ mb, base.Ns builtinsNs mb /\ ∀ x : Str, x ≠ "__name__" -> mb x = bootBuiltins x
 nolimit : base.NoLimit
structure Cx where
 prog : Program
 w : World
 K : PySem.W.Frag
 mg : Str -> Option Value
 base : Heap
 A : Around
 N : List Str
 s₀ : Shared
 H₀ : Hp
 env : Env
 outer : List Env
 stack : List Env
 ex : List Addr
 fn : Str -> Bool
 calm : Bool
 pn : List (Addr × Obj)
 xe : Value -> Shared -> Prop
def frs (l : List Env) : List Addr := l.filterMap (·.frame)
abbrev Cx.fs (X : Cx) : List Addr := frs X.outer
def Vis (sc : Scope) (x : Str) : Prop := sc.names.lookup x = some .local \/ sc.names.lookup x = some .cell \/ sc.names.lookup x = some .free
def Loc (sc : Scope) (x : Str) : Prop := sc.names.lookup x = some .local \/ sc.names.lookup x = some .cell
def Look (env : Env) (h : Heap) (m : Str -> Option Value) (x : Str) (u : Value) : Prop :=
 (env.kindOf x = some .local /\ m x = some u) \/ ((env.kindOf x = some .cell \/ env.kindOf x = some .free) /\ ∃ c, env.cells.lookup x = some c /\ h.IsCell c (some u))
structure Cx.Ok (X : Cx) : Prop where
 mod : Mod X.K X.mg X.base
 kind : X.env.scope.kind = .function
 glob : X.env.globals = mainGlobals
 blt : X.env.builtins = builtinsNs
 above : X.s₀.heap.objs.size <= X.env.locals
 inj : ∀ x y c, X.env.cells.lookup x = some c -> X.env.cells.lookup y = some c -> x = y
 has : ∀ x, (X.env.kindOf x = some .cell \/ X.env.kindOf x = some .free) -> ∃ c, X.env.cells.lookup x = some c
 cab : ∀ x c, X.fn x = true -> X.env.cells.lookup x = some c -> X.s₀.heap.objs.size <= c
 hd : X.calm = true -> X.A.handled = none
 frames : X.A.frames = some X.stack
 stk : X.stack = X.outer \/ (X.stack = X.env :: X.outer /\ X.env.frame = some X.env.locals)
 exf : ∀ b ∈ X.ex, b ≠ X.env.locals /\ ∀ x c, X.env.cells.lookup x = some c -> c ≠ b
 bs : ∀ b o, X.base.get? b = some o -> X.s₀.heap.get? b = some o /\ X.H₀ b = none
 bsz : X.base.objs.size <= X.s₀.heap.objs.size
 noex : ∀ b o, X.base.get? b = some o -> b ∉ X.ex
 exfs : ∀ b ∈ X.ex, b ∉ X.fs
 funs : X.s₀.heap.FunFrames X.base X.outer
 frf : ∀ b ∈ X.fs, X.H₀ b = none
structure Inv (X : Cx) (pins : List (Addr × Obj)) (σ : List (Option V)) (H : Hp) (s : Shared) : Prop where
 ok : X.Ok
 os : s.os = X.s₀.os
 bare : AllBare s.gens
 base : Un X.fs X.ex X.H₀ H X.s₀.heap s.heap
 loc : ∃ m, s.heap.Ns X.env.locals m /\ ∀ (i : Nat) (x : Str) (v : V), X.N[i]? = some x -> σ[i]? = some (some v) -> Vis X.env.scope x -> ∃ u, RelV v u /\ Look X.env s.heap m x u
 cell : ∀ x c, X.env.cells.lookup x = some c -> ∃ v, s.heap.IsCell c v
 free : H X.env.locals = none
 freeC : ∀ x c, X.env.cells.lookup x = some c -> H c = none
 pin : ∀ p ∈ X.pn ++ pins, s.heap.get? p.1 = some p.2 /\ H p.1 = none /\ p.1 ≠ X.env.locals /\ p.1 ∉ X.fs /\ ∀ v, p.2.data ≠ .cell v
 hok : HOk X.prog X.w H s.heap
 len : σ.length = X.N.length
section
variable {X : Cx} {pins : List (Addr × Obj)} {σ : List (Option V)} {H H' : Hp} {s : Shared} {h' : Heap}
theorem Cx.Ok.nofr (ok : X.Ok) {b : Addr} {o : Obj} (e : X.base.get? b = some o) : b ∉ X.fs := fun hb => by
 have := (ok.funs.mem hb).1
 rw [e] at this; cases this
theorem Inv.bs (I : Inv X pins σ H s) : ∀ b o, X.base.get? b = some o -> s.heap.get? b = some o /\ H b = none := fun b o e =>
 ⟨I.base.keep b o (I.ok.bs b o e).1 (I.ok.bs b o e).2 (I.ok.nofr e) (I.ok.noex b o e), I.base.free b o (I.ok.bs b o e).1 (I.ok.bs b o e).2 (I.ok.noex b o e)⟩
theorem Inv.bk (I : Inv X pins σ H s) : ∀ b o, X.base.get? b = some o -> s.heap.get? b = some o := fun b o e => (I.bs b o e).1
theorem Inv.mod (I : Inv X pins σ H s) : Mod X.K X.mg X.base := I.ok.mod
theorem Inv.kIn (I : Inv X pins σ H s) : X.K.In s.heap := I.ok.mod.kin.keeps I.bk
theorem Inv.nolimit (I : Inv X pins σ H s) : s.heap.NoLimit := I.ok.mod.nolimit.keeps I.bk
theorem Inv.fr (I : Inv X pins σ H s) : ∃ m, Fr X.base X.env.locals s.heap m :=
 let ⟨m, hn, _⟩ := I.loc
 ⟨m, hn, I.bk, Nat.le_trans I.ok.bsz I.ok.above⟩
theorem Inv.lt (I : Inv X pins σ H s) : X.env.locals < s.heap.objs.size := let ⟨_, hn, _⟩ := I.loc; hn.lt
theorem Inv.sz (I : Inv X pins σ H s) : X.s₀.heap.objs.size <= s.heap.objs.size := Nat.le_trans I.ok.above (Nat.le_of_lt I.lt)
theorem Inv.nofs (I : Inv X pins σ H s) {a : Addr} (h : s.heap.objs.size <= a) : a ∉ X.fs := fun hb => by
 obtain ⟨_, o, ho, _⟩ := I.ok.funs.mem hb
 exact absurd (Nat.lt_of_lt_of_le (Heap.lt_size ho) (Nat.le_trans I.sz h)) (Nat.lt_irrefl _)
theorem Inv.cne (I : Inv X pins σ H s) : ∀ x c, X.env.cells.lookup x = some c -> c ≠ X.env.locals := fun x c e z => by
 obtain ⟨v, o, ho, hd⟩ := I.cell x c e
 obtain ⟨m, ⟨o', es, ep, ho', hd', _⟩, _⟩ := I.loc
 rw [z, ho'] at ho; cases ho; rw [hd'] at hd; cases hd
theorem Inv.funs (I : Inv X pins σ H s) : s.heap.FunFrames X.base X.outer := by
 have all : ∀ (l : List Env), (∀ b ∈ frs l, b ∈ X.fs) -> X.s₀.heap.FunFrames X.base l -> s.heap.FunFrames X.base l := by
   intro l
   induction l with
   | nil => intro _ _; trivial
   | cons env r ih =>
     intro hs hl
     obtain ⟨hk, ⟨L, o, hf, hn, ho, hd⟩, hr⟩ := hl
     have hL : L ∈ X.fs := hs L (by unfold frs; rw [List.filterMap_cons, hf]; exact List.mem_cons_self)
     obtain ⟨sl, e⟩ := I.base.slot L o ho (I.ok.frf L hL) hL fun z => I.ok.exfs L z hL
     exact ⟨hk, ⟨L, _, hf, hn, e, hd⟩, ih (fun b hb => hs b (by unfold frs; rw [List.filterMap_cons, hf]; exact List.mem_cons_of_mem _ hb)) hr⟩
 exact all X.outer (fun _ hb => hb) I.ok.funs
theorem Inv.stack (I : Inv X pins σ H s) : s.heap.FunFrames X.base X.stack := by
 rcases I.ok.stk with e | ⟨e, hf⟩
 . rw [e]; exact I.funs
 . rw [e]
   obtain ⟨m, hn, _⟩ := I.loc
   refine .cons (by rw [I.ok.kind]; decide) hf hn ?_ I.funs
   exact Heap.get?_none_of_le (Nat.le_trans I.ok.bsz I.ok.above)
theorem Inv.stkSub (I : Inv X pins σ H s) : ∀ b ∈ frs X.stack, b ∈ X.env.locals :: X.fs := fun b hb => by
 rcases I.ok.stk with e | ⟨e, hf⟩
 . rw [e] at hb; exact List.mem_cons_of_mem _ hb
 . rw [e] at hb
   unfold frs at hb
   rw [List.filterMap_cons, hf] at hb
   exact hb
theorem Inv.stkFree (I : Inv X pins σ H s) : ∀ b ∈ frs X.stack, H b = none := fun b hb => by
 rcases List.mem_cons.mp (I.stkSub b hb) with e | hb
 . rw [e]; exact I.free
 . obtain ⟨_, o, ho, _⟩ := I.ok.funs.mem hb
   exact I.base.free b o ho (I.ok.frf b hb) fun z => I.ok.exfs b z hb
theorem Inv.step {g' : Array GenState} {t' : Nat} {d' : Drawn} {ch : List Addr} (I : Inv X pins σ H s)
   (hch : ∀ b ∈ ch, (b ∈ X.ex \/ X.s₀.heap.objs.size <= b) /\ b ≠ X.env.locals /\ (∀ x c, X.env.cells.lookup x = some c -> c ≠ b) /\ ∀ p ∈ X.pn ++ pins, p.1 ≠ b)
   (keep : ∀ b o, b ≠ X.env.locals -> b ∉ X.fs -> b ∉ ch -> s.heap.get? b = some o -> H b = none -> h'.get? b = some o)
   (slot : ∀ b o, b ≠ X.env.locals -> b ∈ X.fs -> b ∉ ch -> s.heap.get? b = some o -> H b = none -> ∃ sl, h'.get? b = some { o with slots := sl }) (free : ∀ b o, b ∉ ch -> s.heap.get? b = some o -> H b = none -> H' b = none)
   (there : ∀ b o, b ∉ ch -> s.heap.get? b = some o -> ∃ o', h'.get? b = some o')
   (tups : ∀ b xs, H b = some (.tup xs) -> H' b = some (.tup xs)) (frzs : ∀ b o u, H b = some (.frz o u) -> H' b = some (.frz o u)) (tbls : ∀ b ps, H b = some (.tbl ps) -> ∃ more, H' b = some (.tbl (ps ++ more)))
   (ns : ∀ m, s.heap.Ns X.env.locals m -> h'.Ns X.env.locals m) (hok : HOk X.prog X.w H' h') (hg : AllBare g') :
   Inv X pins σ H' { s with heap := h', gens := g', drawn := d', toks := t' } := by
 have neL : ∀ b o, X.s₀.heap.get? b = some o -> b ≠ X.env.locals := fun b o e => Nat.ne_of_lt (Nat.lt_of_lt_of_le (Heap.lt_size e) I.ok.above)
 have neC : ∀ b o, X.s₀.heap.get? b = some o -> b ∉ X.ex -> b ∉ ch := fun b o e hx hb => by
   rcases (hch b hb).1 with z | z
   . exact hx z
   . exact absurd (Nat.lt_of_lt_of_le (Heap.lt_size e) z) (Nat.lt_irrefl _)
 have cellK : ∀ x c, X.env.cells.lookup x = some c -> ∀ v, s.heap.IsCell c v -> h'.IsCell c v := fun x c e v ⟨o, ho, hd⟩ => by
   have nch : c ∉ ch := fun z => (hch c z).2.2.1 x c e rfl
   by_cases hc : c ∈ X.fs
   . obtain ⟨sl, q⟩ := slot c o (I.cne x c e) hc nch ho (I.freeC x c e)
     exact ⟨_, q, hd⟩
   . exact ⟨o, keep c o (I.cne x c e) hc nch ho (I.freeC x c e), hd⟩
 refine ⟨I.ok, I.os, hg, ⟨fun b o e n hb hx => ?_, fun b o e n hb hx => ?_, fun b o e n hx => ?_, fun b o e hx => ?_, fun b xs e => tups b xs (I.base.tups b xs e), fun b o xs e => frzs b o xs (I.base.frzs b o xs e), fun b ps e => ?_⟩, ?_, fun x c e => ?_, ?_, fun x c e => ?_, fun p hp => ?_, hok, I.len⟩
 . exact keep b o (neL b o e) hb (neC b o e hx) (I.base.keep b o e n hb hx) (I.base.free b o e n hx)
 . obtain ⟨sl, e1⟩ := I.base.slot b o e n hb hx
   obtain ⟨sl', e2⟩ := slot b _ (neL b o e) hb (neC b o e hx) e1 (I.base.free b o e n hx)
   exact ⟨sl', e2⟩
 . obtain ⟨o', e1⟩ := I.base.there b o e hx
   exact free b o' (neC b o e hx) e1 (I.base.free b o e n hx)
 . obtain ⟨o', e1⟩ := I.base.there b o e hx
   exact there b o' (neC b o e hx) e1
 . obtain ⟨m1, e1⟩ := I.base.tbls b ps e
   obtain ⟨m2, e2⟩ := tbls b _ e1
   exact ⟨m1 ++ m2, by rw [e2, Array.append_assoc]⟩
 . obtain ⟨m, hn, hl⟩ := I.loc
   refine ⟨m, ns m hn, fun i x v e1 e2 e3 => ?_⟩
   obtain ⟨u, r, l⟩ := hl i x v e1 e2 e3
   refine ⟨u, r, ?_⟩
   rcases l with l | ⟨k, c, e, z⟩
   . exact .inl l
   . exact .inr ⟨k, c, e, cellK x c e _ z⟩
 . obtain ⟨v, z⟩ := I.cell x c e
   exact ⟨v, cellK x c e v z⟩
 . obtain ⟨m, ⟨o, _, _, ho, _⟩, _⟩ := I.loc
   exact free _ o (fun z => (hch _ z).2.1 rfl) ho I.free
 . obtain ⟨v, o, ho, hd⟩ := I.cell x c e
   exact free c o (fun z => (hch c z).2.2.1 x c e rfl) ho (I.freeC x c e)
 . obtain ⟨e, n, ne, nf, d⟩ := I.pin p hp
   have nch : p.1 ∉ ch := fun z => (hch p.1 z).2.2.2 p hp rfl
   exact ⟨keep p.1 p.2 ne nf nch e n, free p.1 p.2 nch e n, ne, nf, d⟩
theorem Inv.un {t' : Nat} (I : Inv X pins σ H s) (u : Un X.fs [] H H' s.heap h') (hok : HOk X.prog X.w H' h') : Inv X pins σ H' { s with heap := h', toks := t' } := by
 obtain ⟨m, ⟨o, es, ep, ho, r⟩, _⟩ := id I.loc
 obtain ⟨sl, hL⟩ := u.any ho I.free (by simp)
 exact I.step (g' := s.gens) (d' := s.drawn) (ch := []) (fun _ z => nomatch z) (fun b o _ hb _ e n => u.keep b o e n hb (by simp)) (fun b o _ hb _ e n => u.slot b o e n hb (by simp)) (fun b o _ e n => u.free b o e n (by simp)) (fun b o _ e => u.there b o e (by simp)) u.tups u.frzs u.tbls (fun m' hm => by
   obtain ⟨o', es', ep', ho', r'⟩ := hm
   rw [ho] at ho'; cases ho'
   exact ⟨_, es', ep', hL, r'⟩) hok I.bare
theorem Inv.call {g' : Array GenState} {t' : Nat} {d' : Drawn} {ch : List Addr} (I : Inv X pins σ H s) (u : Un (frs X.stack) ch H H' s.heap h') (hok : HOk X.prog X.w H' h') (hg : AllBare g')
   (hch : ∀ b ∈ ch, (b ∈ X.ex \/ X.s₀.heap.objs.size <= b) /\ b ≠ X.env.locals /\ (∀ x c, X.env.cells.lookup x = some c -> c ≠ b) /\ ∀ p ∈ X.pn ++ pins, p.1 ≠ b) :
   Inv X pins σ H' { s with heap := h', gens := g', drawn := d', toks := t' } := by
 obtain ⟨m, ⟨o, es, ep, ho, r⟩, _⟩ := id I.loc
 obtain ⟨sl, hL⟩ := u.any ho I.free fun z => (hch _ z).2.1 rfl
 exact I.step (ch := ch) hch (fun b o hL hb hc e n => u.keep b o e n (fun z => (List.mem_cons.mp (I.stkSub b z)).elim hL hb) hc) (fun b o _ _ hc e n => u.any e n hc) (fun b o hc e n => u.free b o e n hc) (fun b o hc e => u.there b o e hc) u.tups u.frzs u.tbls (fun m' hm => by
   obtain ⟨o', es', ep', ho', r'⟩ := hm
   rw [ho] at ho'; cases ho'
   exact ⟨_, es', ep', hL, r'⟩) hok hg
theorem Inv.turned {t' : Nat} {it : Addr} (I : Inv X pins σ H s) (k : ∀ b o, b ≠ it -> s.heap.get? b = some o -> h'.get? b = some o) (hn : H it = none) (hL : it ≠ X.env.locals)
   (h1 : it ∈ X.ex \/ X.s₀.heap.objs.size <= it) (h2 : ∀ x c, X.env.cells.lookup x = some c -> c ≠ it) (h3 : ∀ p ∈ X.pn ++ pins, p.1 ≠ it) : Inv X pins σ H { s with heap := h', toks := t' } := by
 have nit : ∀ b u, H b = some u -> b ≠ it := fun b u e z => by rw [z, hn] at e; cases e
 refine I.step (g' := s.gens) (d' := s.drawn) (ch := [it]) (fun b hb => ?_) (fun b o _ _ hc e _ => k b o (fun z => hc (by simp [z])) e) (fun b o _ _ hc e _ => ⟨o.slots, k b o (fun z => hc (by simp [z])) e⟩) (fun _ _ _ _ n => n)
   (fun b o hc e => ⟨o, k b o (fun z => hc (by simp [z])) e⟩) (fun _ _ e => e) (fun _ _ _ e => e) (fun b ps e => ⟨#[], by rw [e]; simp⟩) (fun m hm => ?_) (fun b u e => ?_) I.bare
 . have e : b = it := by simpa using hb
   subst e
   exact ⟨h1, hL, h2, h3⟩
 . obtain ⟨o, es, ep, ho, r⟩ := hm
   exact ⟨o, es, ep, k _ o (Ne.symm hL) ho, r⟩
 . refine (I.hok b u e).stay (fun c v hc q => k c v ?_ q) (fun _ q => q) fun _ _ q => q
   rcases hc with z | z
   . rw [z]; exact nit b u e
   . exact nit c _ z
theorem Inv.tok (I : Inv X pins σ H s) (t : Nat) : Inv X pins σ H { s with toks := t } := I.un (h' := s.heap) (t' := t) Un.refl I.hok
theorem Inv.kept {t' : Nat} (I : Inv X pins σ H s) (k : ∀ b u, s.heap.get? b = some u -> h'.get? b = some u) : Inv X pins σ H { s with heap := h', toks := t' } := I.un (Un.kept k) (I.hok.kept k)
theorem Inv.laid {a : Addr} {o : HO} {t' : Nat} (I : Inv X pins σ H s) (k : ∀ b u, s.heap.get? b = some u -> h'.get? b = some u) (hp : s.heap.objs.size <= a) (new : ObjOk X.prog X.w (upd H a o) h' a o) :
   Inv X pins σ (upd H a o) { s with heap := h', toks := t' } := I.un (Un.laid k hp (I.hok.fresh hp)) (I.hok.laid k hp new)
theorem Inv.write {x e : Addr} {o : HO} {t' : Nat} (I : Inv X pins σ H s) (mu : Mut (H x)) (he : e = x \/ H e = some (.own x)) (k : ∀ b u, b ≠ e -> s.heap.get? b = some u -> h'.get? b = some u) (heo : ∃ u, h'.get? e = some u)
   (new : ObjOk X.prog X.w (upd H x o) h' x o) : Inv X pins σ (upd H x o) { s with heap := h', toks := t' } := I.un (Un.write mu he k heo) (I.hok.write mu he k heo new)
theorem Inv.pins_of {pins' : List (Addr × Obj)} (I : Inv X pins σ H s) (h : ∀ p ∈ pins', s.heap.get? p.1 = some p.2 /\ H p.1 = none /\ p.1 ≠ X.env.locals /\ p.1 ∉ X.fs /\ ∀ v, p.2.data ≠ .cell v) : Inv X pins' σ H s :=
 ⟨I.ok, I.os, I.bare, I.base, I.loc, I.cell, I.free, I.freeC, fun p hp => (List.mem_append.mp hp).elim (fun z => I.pin p (List.mem_append_left _ z)) (h p), I.hok, I.len⟩
theorem nodup_ix {N : List Str} (hN : N.Nodup) {i j : Nat} {x : Str} (a : N[i]? = some x) (b : N[j]? = some x) : i = j := by
 obtain ⟨h1, e1⟩ := List.getElem?_eq_some_iff.mp a
 obtain ⟨h2, e2⟩ := List.getElem?_eq_some_iff.mp b
 exact (List.getElem_inj hN).mp (e1.trans e2.symm)
theorem store_ok2 {M : Model} {A : Around} {E : Value -> Shared -> Prop} {i : Nat} {x : Str} {v : V} {u : Value} {Q : Unit -> Shared -> Prop} (I : Inv X pins σ H s) (hN : X.N.Nodup) (hi : X.N[i]? = some x) (hx : Loc X.env.scope x) (r : RelV v u)
   (h : ∀ s', Inv X pins (σ.set i (some v)) H s' -> (∃ a, Heap.SameBut a s.heap s'.heap /\ (a = X.env.locals \/ X.env.cells.lookup x = some a)) -> Q () s') (hf : X.fn x = true \/ X.env.scope.names.lookup x = some .local := by first | exact .inl rfl | exact .inr rfl | assumption) : wpAny M A (storeName X.env x u) Q E s := by
 obtain ⟨m, hn, hl⟩ := id I.loc
 have hcls : (X.env.scope.kind == .class || (X.env.scope.kind == .module && X.env.locals != X.env.globals)) = false := by rw [I.ok.kind]; rfl
 have hiσ : i < σ.length := by rw [I.len]; exact (List.getElem?_eq_some_iff.mp hi).1
 have cne := I.cne
 have tracked : ∀ {a : Addr} {h' : Heap}, (∃ o, s.heap.get? a = some o /\ H a = none) -> Heap.SameBut a s.heap h' -> HOk X.prog X.w H h' := fun {a h'} ha hs b ob e => by
   obtain ⟨_, _, hfree⟩ := ha
   refine (I.hok b ob e).stay (fun c w' hc q => (hs.2 c ?_).trans q) (fun _ q => q) fun _ _ q => q
   rintro rfl
   rcases hc with rfl | hc
   . rw [hfree] at e; cases e
   . rw [hfree] at hc; cases hc
 rcases hx with hk | hk
 . refine wpAny_storeName_local hk hn (fun h' hn' hs => ?_) hcls
   obtain ⟨oL, _, _, hoL, _⟩ := id hn
   refine h _ ⟨I.ok, I.os, I.bare, ⟨fun b o e n hb hx => ?_, fun b o e n hb hx => ?_, I.base.free, fun b o e hx => ?_, I.base.tups, I.base.frzs, I.base.tbls⟩, ⟨_, hn', fun j y v' e1 e2 e3 => ?_⟩, fun y c e => ?_, I.free, I.freeC, fun p hp => ?_, tracked ⟨oL, hoL, I.free⟩ hs, by simpa using I.len⟩ ⟨_, hs, .inl rfl⟩
   . exact (hs.2 b (Nat.ne_of_lt (Nat.lt_of_lt_of_le (Heap.lt_size e) I.ok.above))).trans (I.base.keep b o e n hb hx)
   . obtain ⟨sl, e1⟩ := I.base.slot b o e n hb hx
     exact ⟨sl, (hs.2 b (Nat.ne_of_lt (Nat.lt_of_lt_of_le (Heap.lt_size e) I.ok.above))).trans e1⟩
   . obtain ⟨o', e1⟩ := I.base.there b o e hx
     exact ⟨o', (hs.2 b (Nat.ne_of_lt (Nat.lt_of_lt_of_le (Heap.lt_size e) I.ok.above))).trans e1⟩
   . by_cases hj : j = i
     . subst hj
       rw [hi] at e1; cases e1
       rw [List.getElem?_set_self hiσ] at e2
       cases e2
       exact ⟨u, r, .inl ⟨hk, by simp⟩⟩
     . rw [List.getElem?_set_ne (Ne.symm hj)] at e2
       obtain ⟨u', r', q⟩ := hl j y v' e1 e2 e3
       refine ⟨u', r', ?_⟩
       rcases q with ⟨k, e⟩ | ⟨k, c, e, z⟩
       . refine .inl ⟨k, ?_⟩
         have : y ≠ x := fun e => hj (nodup_ix hN e1 (e ▸ hi))
         simp [this, e]
       . exact .inr ⟨k, c, e, z.sameBut hs (cne y c e)⟩
   . obtain ⟨w', z⟩ := I.cell y c e
     exact ⟨w', z.sameBut hs (cne y c e)⟩
   . obtain ⟨e, n, ne, nf, d⟩ := I.pin p hp
     exact ⟨(hs.2 p.1 ne).trans e, n, ne, nf, d⟩
 . have hfn : X.fn x = true := by
     rcases hf with z | z
     . exact z
     . rw [z] at hk; cases hk
   obtain ⟨c, hc⟩ := I.ok.has x (.inl hk)
   obtain ⟨w', z⟩ := I.cell x c hc
   refine wpAny_storeName_cell I.ok.kind hk hc z (fun h' hc' hs => ?_)
   obtain ⟨oc, hoc, hocd⟩ := id z
   refine h { s with heap := h' } ⟨I.ok, I.os, I.bare, ⟨fun b o e n hb hx => ?_, fun b o e n hb hx => ?_, I.base.free, fun b o e hx => ?_, I.base.tups, I.base.frzs, I.base.tbls⟩, ⟨m, hn.sameBut hs (Ne.symm (cne x c hc)), fun j y v' e1 e2 e3 => ?_⟩, fun y c' e => ?_, I.free, I.freeC, fun p hp => ?_, tracked ⟨oc, hoc, I.freeC x c hc⟩ hs, by simpa using I.len⟩ ⟨c, hs, .inr hc⟩
   . exact (hs.2 b (Nat.ne_of_lt (Nat.lt_of_lt_of_le (Heap.lt_size e) (I.ok.cab x c hfn hc)))).trans (I.base.keep b o e n hb hx)
   . obtain ⟨sl, e1⟩ := I.base.slot b o e n hb hx
     exact ⟨sl, (hs.2 b (Nat.ne_of_lt (Nat.lt_of_lt_of_le (Heap.lt_size e) (I.ok.cab x c hfn hc)))).trans e1⟩
   . obtain ⟨o', e1⟩ := I.base.there b o e hx
     exact ⟨o', (hs.2 b (Nat.ne_of_lt (Nat.lt_of_lt_of_le (Heap.lt_size e) (I.ok.cab x c hfn hc)))).trans e1⟩
   . by_cases hj : j = i
     . subst hj
       rw [hi] at e1; cases e1
       rw [List.getElem?_set_self hiσ] at e2
       cases e2
       exact ⟨u, r, .inr ⟨.inl hk, c, hc, hc'⟩⟩
     . rw [List.getElem?_set_ne (Ne.symm hj)] at e2
       obtain ⟨u', r', q⟩ := hl j y v' e1 e2 e3
       refine ⟨u', r', ?_⟩
       rcases q with q | ⟨k, c', e, z'⟩
       . exact .inl q
       . refine .inr ⟨k, c', e, z'.sameBut hs ?_⟩
         rintro rfl
         exact hj (nodup_ix hN e1 (I.ok.inj _ _ _ e hc ▸ hi))
   . by_cases hcc : c' = c
     . subst hcc; exact ⟨_, hc'⟩
     . obtain ⟨w2, z2⟩ := I.cell y c' e
       exact ⟨w2, z2.sameBut hs hcc⟩
   . obtain ⟨e, n, ne, nf, d⟩ := I.pin p hp
     refine ⟨(hs.2 p.1 ?_).trans e, n, ne, nf, d⟩
     intro q
     rw [q, hoc] at e
     have q' : oc = p.2 := Option.some.inj e
     exact d w' (by rw [<- q']; exact hocd)
theorem xWx {M : Model} {A : Around} {E : Value -> Shared -> Prop} {i : Nat} {x : Str} {v : V} {u : Value} {Q : Unit -> Shared -> Prop} (I : Inv X pins σ H s) (hN : X.N.Nodup) (hi : X.N[i]? = some x) (hx : Loc X.env.scope x) (r : RelV v u)
   (h : ∀ s', Inv X pins (σ.set i (some v)) H s' -> Q () s') (hf : X.fn x = true \/ X.env.scope.names.lookup x = some .local := by first | exact .inl rfl | exact .inr rfl | assumption) : wpAny M A (storeName X.env x u) Q E s :=
 store_ok2 I hN hi hx r (fun s' I' _ => h s' I') hf
theorem Inv.call' {s' : Shared} {ch : List Addr} (I : Inv X pins σ H s) (ho : s'.os = s.os) (u : Un (frs X.stack) ch H H' s.heap s'.heap) (hok : HOk X.prog X.w H' s'.heap) (hg : AllBare s'.gens)
   (hch : ∀ b ∈ ch, (b ∈ X.ex \/ X.s₀.heap.objs.size <= b) /\ b ≠ X.env.locals /\ (∀ x c, X.env.cells.lookup x = some c -> c ≠ b) /\ ∀ p ∈ X.pn ++ pins, p.1 ≠ b) : Inv X pins σ H' s' := by
 obtain ⟨h', g', d', t', o'⟩ := s'
 have e : o' = s.os := ho
 subst e
 exact I.call (g' := g') (t' := t') (d' := d') u hok hg hch
end
abbrev XK := Value -> Option Addr -> Hp -> Prop
abbrev St := List (Option V)
abbrev VK := V -> Hp -> Prop
abbrev TE := St -> Hp -> VK -> Prop
abbrev TT := St -> Hp -> (Bool -> Hp -> Prop) -> Prop
abbrev TA := St -> Hp -> (List V -> Hp -> Prop) -> Prop
structure Ends where
 nx : St -> Hp -> Prop
 rt : VK
 bk : St -> Hp -> Prop := fun _ _ => False
 ct : St -> Hp -> Prop := fun _ _ => False
abbrev TS := Ends -> St -> Hp -> Prop
def EP (X : Cx) (pins : List (Addr × Obj)) (σ : St) (Q : VK) (u : Value) (s' : Shared) : Prop := ∃ v H', Inv X pins σ H' s' /\ RelV v u /\ Q v H'
def TP (X : Cx) (pins : List (Addr × Obj)) (σ : St) (Q : Bool -> Hp -> Prop) (b : Bool) (s' : Shared) : Prop := ∃ H', Inv X pins σ H' s' /\ Q b H'
def AP (X : Cx) (pins : List (Addr × Obj)) (σ : St) (Q : List V -> Hp -> Prop) (us : List Value) (s' : Shared) : Prop := ∃ vs H', Inv X pins σ H' s' /\ Vals vs us /\ Q vs H'
def SP (X : Cx) (pins : List (Addr × Obj)) (D : Ends) (f : Flow) (s' : Shared) : Prop :=
 match f with
 | .next => ∃ σ' H', Inv X pins σ' H' s' /\ D.nx σ' H'
 | .brk => ∃ σ' H', Inv X pins σ' H' s' /\ D.bk σ' H'
 | .cont => ∃ σ' H', Inv X pins σ' H' s' /\ D.ct σ' H'
 | .ret u => ∃ v σ' H', Inv X pins σ' H' s' /\ RelV v u /\ D.rt v H'
def PE (X : Cx) (e : Expr) (t : TE) : Prop :=
 ∀ (pins : List (Addr × Obj)) (s : Shared) (σ : St) (H : Hp) (Q : VK), Inv X pins σ H s -> t σ H Q -> wpAny (model X.prog X.w) X.A (eval e X.env) (EP X pins σ Q) X.xe s
def PT (X : Cx) (e : Expr) (t : TT) : Prop :=
 ∀ (pins : List (Addr × Obj)) (s : Shared) (σ : St) (H : Hp) (Q : Bool -> Hp -> Prop), Inv X pins σ H s -> t σ H Q -> wpAny (model X.prog X.w) X.A (isTrue e X.env (eval e X.env)) (TP X pins σ Q) X.xe s
def PW (X : Cx) (e : Expr) (t : TT) : Prop :=
 ∀ (whole : Sem Value) (pins : List (Addr × Obj)) (s : Shared) (σ : St) (H : Hp) (Q : Bool -> Hp -> Prop), Inv X pins σ H s -> t σ H Q -> wpAny (model X.prog X.w) X.A (isTrue e X.env whole) (TP X pins σ Q) X.xe s
theorem PW.pt {X : Cx} {e : Expr} {t : TT} (h : PW X e t) : PT X e t := h _
def PA (X : Cx) (es : List Expr) (t : TA) : Prop :=
 ∀ (pos : Pos) (pins : List (Addr × Obj)) (s : Shared) (σ : St) (H : Hp) (Q : List V -> Hp -> Prop), Inv X pins σ H s -> t σ H Q -> wpAny (model X.prog X.w) X.A (spliced (backTo pos (starEach es X.env))) (AP X pins σ Q) X.xe s
def PS (X : Cx) (st : Stmt) (t : TS) : Prop :=
 ∀ (pins : List (Addr × Obj)) (s : Shared) (σ : St) (H : Hp) (D : Ends), Inv X pins σ H s -> t D σ H -> wpAny (model X.prog X.w) X.A (exec st X.env) (SP X pins D) X.xe s
def PSs (X : Cx) (st : List Stmt) (t : TS) : Prop :=
 ∀ (pins : List (Addr × Obj)) (s : Shared) (σ : St) (H : Hp) (D : Ends), Inv X pins σ H s -> t D σ H -> wpAny (model X.prog X.w) X.A (execs st X.env) (SP X pins D) X.xe s
theorem thn {α : Type} {t : Sem α} {Q Q' : α -> Shared -> Prop} {M : Model} {A : Around} {E : Value -> Shared -> Prop} {s : Shared} (h : wpAny M A t Q E s) (hQ : ∀ a s, Q a s -> Q' a s) : wpAny M A t Q' E s := wpAny_mono h hQ fun _ _ x => x
section
variable {X : Cx}
theorem bin {a b : Expr} {ta tb : TE} (ha : PE X a ta) (hb : PE X b tb) {pins : List (Addr × Obj)} {s : Shared} {σ : St} {H : Hp} {R : V -> V -> Hp -> Prop} (I : Inv X pins σ H s) (h : ta σ H fun x H1 => tb σ H1 fun y H2 => R x y H2)
   {α : Type} {Q : α -> Shared -> Prop} {f : Value -> Value -> Sem α}
   (hf : ∀ v u s2 x y H2, Inv X pins σ H2 s2 -> RelV x v -> RelV y u -> R x y H2 -> wpAny (model X.prog X.w) X.A (f v u) Q X.xe s2) :
   wpAny (model X.prog X.w) X.A (eval a X.env) (fun v s₁ => wpAny (model X.prog X.w) X.A (eval b X.env) (fun u s₂ => wpAny (model X.prog X.w) X.A (f v u) Q X.xe s₂) X.xe s₁) X.xe s := by
 refine thn (ha pins s σ H _ I h) fun v s1 ⟨x, H1, I1, r1, q1⟩ => ?_
 refine thn (hb pins s1 σ H1 _ I1 q1) fun u s2 ⟨y, H2, I2, r2, q2⟩ => ?_
 exact hf v u s2 x y H2 I2 r1 r2 q2
def tVar (i : Nat) : TE := fun σ H Q => ∃ v, σ[i]? = some (some v) /\ Q v H
def tC (v : V) : TE := fun _ H Q => Q v H
theorem pe_var {i : Nat} {x : Str} {pos : Pos} (hN : X.N[i]? = some x) (hv : Vis X.env.scope x) (hd : (x == ("__debug__" : Str)) = false := by decide) (hcd : (x == ("__classdict__" : Str)) = false := by decide) : PE X (.Name x pos) (tVar i) := by
 intro pins s σ H Q I h
 obtain ⟨v, e, h⟩ := h
 obtain ⟨m, hn, hl⟩ := I.loc
 obtain ⟨u, r, l⟩ := hl i x v hN e hv
 have fin : EP X pins σ Q u s := ⟨v, H, I, r, h⟩
 rcases l with ⟨hk, hm⟩ | ⟨hk, c, hc, hcell⟩
 . exact wpAny_Name (wpAny_loadName_local I.ok.kind hk hn hm fin) hd
 . rcases hk with hk | hk
   . exact wpAny_Name (wpAny_loadName_cell I.ok.kind hk hc hcell fin) hd
   . exact wpAny_Name (wpAny_loadName_free I.ok.kind hk hc hcell fin hcd) hd
theorem zWx {i j pos} : PE X (.Constant (.int i) j pos) (tC (.int i)) := fun _ _ _ H _ I h => wpAny_Constant_int ⟨.int i, H, I.tok _, ⟨_, rfl⟩, h⟩
theorem xQz {b j pos} : PE X (.Constant (.bool b) j pos) (tC (.bl b)) := fun _ _ _ H _ I h => Constant_bool ⟨.bl b, H, I, rfl, h⟩
theorem pe_non {j pos} : PE X (.Constant .none j pos) (tC .non) := fun _ _ _ H _ I h => Constant_none ⟨.non, H, I, rfl, h⟩
theorem zKw {x j pos} : PE X (.Constant (.str x) j pos) (tC (.str x)) := fun _ _ _ H _ I h => Calls.Constant_str ⟨.str x, H, I.tok _, ⟨_, rfl⟩, h⟩
def Gl (X : Cx) (x : Str) : Prop := X.env.kindOf x = some .globalImplicit
theorem xWq {E : Value -> Shared -> Prop} {pins : List (Addr × Obj)} {s : Shared} {σ : St} {H : Hp} {x : Str} {u : Value} {pos : Pos} {Q : Value -> Shared -> Prop} (I : Inv X pins σ H s) (hg : Gl X x) (hm : X.mg x = some u) (h : Q u s)
   (hd : (x == ("__debug__" : Str)) = false := by decide) : wpAny (model X.prog X.w) X.A (eval (.Name x pos) X.env) Q E s :=
 Calls.Name_function_global I.ok.kind hg (Calls.loadGlobal_global (by rw [I.ok.glob]; exact I.mod.glob.keeps I.bk) hm h) hd
theorem ld_blt {E : Value -> Shared -> Prop} {pins : List (Addr × Obj)} {s : Shared} {σ : St} {H : Hp} {x : Str} {u : Value} {pos : Pos} {Q : Value -> Shared -> Prop} (I : Inv X pins σ H s) (hg : Gl X x) (hm : X.mg x = none) (hv : bootBuiltins x = some u) (h : Q u s)
   (hn : x ≠ "__name__" := by decide) (hd : (x == ("__debug__" : Str)) = false := by decide) : wpAny (model X.prog X.w) X.A (eval (.Name x pos) X.env) Q E s := by
 obtain ⟨mb, h1, h2⟩ := I.mod.blt
 exact Calls.Name_function_global I.ok.kind hg (Calls.loadGlobal_builtin (by rw [I.ok.glob]; exact I.mod.glob.keeps I.bk) hm (by rw [I.ok.blt]; exact h1.keeps I.bk) ((h2 x hn).trans hv) h) hd
theorem yKz {x : Str} {v : V} {u : Value} {pos : Pos} (hg : Gl X x) (hm : X.mg x = some u) (r : RelV v u) (hd : (x == ("__debug__" : Str)) = false := by decide) : PE X (.Name x pos) (tC v) :=
 fun _ _ _ H _ I h => xWq I hg hm ⟨v, H, I, r, h⟩ hd
theorem pe_bltn {x : Str} {v : V} {u : Value} {pos : Pos} (hg : Gl X x) (hm : X.mg x = none) (hv : bootBuiltins x = some u) (r : RelV v u) (hn : x ≠ "__name__" := by decide) (hd : (x == ("__debug__" : Str)) = false := by decide) : PE X (.Name x pos) (tC v) :=
 fun _ _ _ H _ I h => ld_blt I hg hm hv ⟨v, H, I, r, h⟩ hn hd
variable {a b : Expr} {ta tb : TE} {pos : Pos}
def PC (X : Cx) (op : CmpOp) (a b : Expr) (t : TE) : Prop :=
 ∀ (pins : List (Addr × Obj)) (s : Shared) (σ : St) (H : Hp) (Q : VK), Inv X pins σ H s -> t σ H Q ->
   wpAny (model X.prog X.w) X.A (eval a X.env) (fun v s₁ => wpAny (model X.prog X.w) X.A (eval b X.env) (fun u s₂ => wpAny (model X.prog X.w) X.A (compareOp op v u) (EP X pins σ Q) X.xe s₂) X.xe s₁) X.xe s
theorem nobehind (b : Expr) {op : CmpOp} (h : op ≠ .In) (h2 : op ≠ .NotIn) : behindInMarks op b = false := by
 have e1 : (op == CmpOp.In) = false := by cases op <;> first | rfl | exact absurd rfl h
 have e2 : (op == CmpOp.NotIn) = false := by cases op <;> first | rfl | exact absurd rfl h2
 cases b <;> simp [behindInMarks, e1, e2]
def tIsN (ta : TE) : TE := fun σ H Q => ta σ H fun x H1 => Q (.bl (decide (x = .non))) H1
def tNotN (ta : TE) : TE := fun σ H Q => ta σ H fun x H1 => Q (.bl (!decide (x = .non))) H1
theorem RelV.none_iff {x : V} {v : Value} (r : RelV x v) : (v == Value.none) = decide (x = .non) := by
 cases x with
 | non => cases r; rfl
 | bl _ => cases r; rfl
 | int _ => obtain ⟨t, rfl⟩ := r; rfl
 | str _ => obtain ⟨t, rfl⟩ := r; rfl
 | byt _ => obtain ⟨t, rfl⟩ := r; rfl
 | flt _ => obtain ⟨t, rfl⟩ := r; rfl
 | ref _ => cases r; rfl
 | ty _ => cases r; rfl
theorem pc_isN {j pos'} (ha : PE X a ta) : PC X .Is a (.Constant .none j pos') (tIsN ta) := by
 intro pins s σ H Q I h
 refine thn (ha pins s σ H _ I h) fun v s1 ⟨x, H1, I1, r1, q1⟩ => ?_
 exact Constant_none (is_none_gen ⟨.bl _, H1, I1, by rw [r1.none_iff]; rfl, q1⟩)
theorem pc_notN {j pos'} (ha : PE X a ta) : PC X .IsNot a (.Constant .none j pos') (tNotN ta) := by
 intro pins s σ H Q I h
 refine thn (ha pins s σ H _ I h) fun v s1 ⟨x, H1, I1, r1, q1⟩ => ?_
 exact Constant_none (isnot_none_gen ⟨.bl _, H1, I1, by rw [r1.none_iff]; rfl, q1⟩)
def tB (t : TE) : TT := fun σ H Q => t σ H fun x H1 => ∃ c, x = .bl c /\ Q c H1
theorem pe_cmp {op : CmpOp} {t : TE} (h : PC X op a b t) (h1 : behindInMarks op b = false := by first | exact nobehind _ (by decide) (by decide) | rfl) : PE X (.Compare a [op] [b] pos) t := fun pins s σ H Q I hw => wpAny_Compare1 (h pins s σ H Q I hw) h1
theorem pt_cmp {op : CmpOp} {t : TE} (h : PC X op a b t) (h1 : behindInMarks op b = false := by first | exact nobehind _ (by decide) (by decide) | rfl) : PT X (.Compare a [op] [b] pos) (tB t) := by
 intro pins s σ H Q I hw
 refine wpAny_isTrue_Compare1 (thn (h pins s σ H _ I hw) fun v s1 h1 => thn h1 fun u s2 h2 => thn h2 fun c s3 ⟨x, H1, I1, r1, q1⟩ => ?_) h1
 obtain ⟨d, rfl, q⟩ := q1
 cases r1
 exact wpAny_truthy_bool ⟨H1, I1, q⟩
theorem yZv {e : Expr} {t : TE} (h : PE X e t) (he : ∀ whole, isTrue e X.env whole = (do let v <- whole; standAt e.pos; holding [v] (truthy v)) := by intro _; rfl) : PT X e (tB t) := by
 intro pins s σ H Q I hw
 refine isTrue_plain (thn (h pins s σ H _ I hw) fun v s1 ⟨x, H1, I1, r1, q1⟩ => ?_) (he _)
 obtain ⟨d, rfl, q⟩ := q1
 cases r1
 exact wpAny_truthy_bool ⟨H1, I1, q⟩
variable {tA tB' : TT} {rest : List Expr}
def tAnd (t u : TT) : TT := fun σ H Q => t σ H fun c H1 => if c = true then u σ H1 Q else Q false H1
def tOr (t u : TT) : TT := fun σ H Q => t σ H fun c H1 => if c = true then Q true H1 else u σ H1 Q
def tNot (t : TT) : TT := fun σ H Q => t σ H fun c H1 => Q (!c) H1
theorem pw_and1 (ha : PT X a tA) : PW X (.BoolOp .And [a] pos) tA := by
 intro wh pins s σ H Q I h
 refine isTrue_and (thn (ha pins s σ H Q I h) fun c s1 e => ?_)
 cases c with
 | true => exact isTrue_and_nil e
 | false => exact e
theorem pw_or1 (ha : PT X a tA) : PW X (.BoolOp .Or [a] pos) tA := by
 intro wh pins s σ H Q I h
 refine isTrue_or (thn (ha pins s σ H Q I h) fun c s1 e => ?_)
 cases c with
 | false => exact isTrue_or_nil e
 | true => exact e
theorem pw_and (ha : PT X a tA) (hb : PW X (.BoolOp .And (b :: rest) pos) tB') : PW X (.BoolOp .And (a :: b :: rest) pos) (tAnd tA tB') := by
 intro wh pins s σ H Q I h
 refine isTrue_and (thn (ha pins s σ H _ I h) fun c s1 ⟨H1, I1, q1⟩ => ?_)
 cases c with
 | true => exact hb wh pins s1 σ H1 Q I1 q1
 | false => exact ⟨H1, I1, q1⟩
theorem pw_or (ha : PT X a tA) (hb : PW X (.BoolOp .Or (b :: rest) pos) tB') : PW X (.BoolOp .Or (a :: b :: rest) pos) (tOr tA tB') := by
 intro wh pins s σ H Q I h
 refine isTrue_or (thn (ha pins s σ H _ I h) fun c s1 ⟨H1, I1, q1⟩ => ?_)
 cases c with
 | true => exact ⟨H1, I1, q1⟩
 | false => exact hb wh pins s1 σ H1 Q I1 q1
theorem yJq (ha : PT X a tA) : PT X (.UnaryOp .Not a pos) (tNot tA) := by
 intro pins s σ H Q I h
 exact isTrue_not (ha pins s σ H (fun c H1 => Q (!c) H1) I h)
def tIf (t : TT) (ta tb : TE) : TE := fun σ H Q => t σ H fun c H1 => if c = true then ta σ H1 Q else tb σ H1 Q
theorem xKw {c : Expr} (hc : PT X c tA) (ha : PE X a ta) (hb : PE X b tb) : PE X (.IfExp c a b pos) (tIf tA ta tb) := by
 intro pins s σ H Q I h
 refine wpAny_IfExp (thn (hc pins s σ H _ I h) fun d s1 ⟨H1, I1, q1⟩ => ?_)
 cases d with
 | true => exact ha pins s1 σ H1 Q I1 q1
 | false => exact hb pins s1 σ H1 Q I1 q1
end
def SqL (K : PySem.W.Frag) (H : Hp) (a : Addr) (xs : List V) : Prop :=
 Rd H a (.lst xs) \/
   ∃ (o : Obj) (its : Array Value) (n : Nat), K.lookup a = some o /\ o.cls = .type "list" /\ o.dict = none /\ o.data = .seq its n /\ its.size <= sizeLine /\ Vals xs its.toList
def SqT (K : PySem.W.Frag) (H : Hp) (a : Addr) (xs : List V) : Prop :=
 Rd H a (.tup xs) \/
   ∃ (o : Obj) (its : Array Value) (n : Nat), K.lookup a = some o /\ o.cls = .type "tuple" /\ o.data = .seq its n /\ its.size <= sizeLine /\ Vals xs its.toList
def absV : Value -> Option V
 | .none => some .non
 | .bool b => some (.bl b)
 | .int i _ => some (.int i)
 | .str x _ => some (.str x)
 | .bytes b _ => some (.byt b)
 | .float b _ => some (.flt b)
 | .ref a => some (.ref a)
 | .type n => some (.ty n)
 | _ => none
theorem RelV.abs {x : V} {u : Value} (r : RelV x u) : absV u = some x := by
 cases x with
 | non => cases r; rfl
 | bl _ => cases r; rfl
 | int _ => obtain ⟨t, rfl⟩ := r; rfl
 | str _ => obtain ⟨t, rfl⟩ := r; rfl
 | byt _ => obtain ⟨t, rfl⟩ := r; rfl
 | flt _ => obtain ⟨t, rfl⟩ := r; rfl
 | ref _ => cases r; rfl
 | ty _ => cases r; rfl
theorem RelV.inj {x y : V} {u : Value} (r : RelV x u) (q : RelV y u) : x = y := Option.some.inj (r.abs.symm.trans q.abs)
theorem Vals.inj : ∀ {xs ys : List V} {us : List Value}, Vals xs us -> Vals ys us -> xs = ys
 | _, _, _, .nil, .nil => rfl
 | _, _, _, .cons r t, .cons r' t' => by rw [r.inj r', Vals.inj t t']
section
variable {X : Cx} {pins : List (Addr × Obj)} {σ : St} {H : Hp} {s : Shared} {a : Addr} {xs ys : List V}
theorem SqL.of {K : PySem.W.Frag} (h : H a = some (.lst xs)) : SqL K H a xs := .inl (.inl h)
theorem SqT.of {K : PySem.W.Frag} (h : H a = some (.tup xs)) : SqT K H a xs := .inl (.inl h)
theorem Inv.list (I : Inv X pins σ H s) (h : SqL X.K H a xs) : ∃ its : List Value, Vals xs its /\ PlainL s.heap a its.toArray /\ xs.length <= sizeLine := by
 rcases h with h | ⟨o, its, n, hk, hc, hd, hs, hz, r⟩
 . obtain ⟨z, its, n, r, e⟩ := h.ok I.hok
   exact ⟨its, r, ⟨_, n, e, rfl, rfl, rfl⟩, z⟩
 . refine ⟨its.toList, r, ⟨o, n, I.kIn a o hk, hc, hd, by simpa using hs⟩, ?_⟩
   have e := r.length
   simp only [Array.length_toList] at e
   omega
theorem Inv.tuple (I : Inv X pins σ H s) (h : SqT X.K H a xs) : ∃ its : List Value, Vals xs its /\ IsTup s.heap a its.toArray /\ xs.length <= sizeLine := by
 rcases h with h | ⟨o, its, n, hk, hc, hs, hz, r⟩
 . obtain ⟨z, its, r, p⟩ := h.ok I.hok
   exact ⟨its, r, p, z⟩
 . refine ⟨its.toList, r, ⟨o, I.kIn a o hk, hc, n, by simpa using hs⟩, ?_⟩
   have e := r.length
   simp only [Array.length_toList] at e
   omega
theorem Inv.list_inj (I : Inv X pins σ H s) (h : SqL X.K H a xs) (h' : SqL X.K H a ys) : xs = ys := by
 obtain ⟨its, r, ⟨o, n, e, _, _, d⟩, _⟩ := I.list h
 obtain ⟨its', r', ⟨o', n', e', _, _, d'⟩, _⟩ := I.list h'
 rw [e] at e'; cases e'
 rw [d] at d'
 injection d' with d1 _
 have : its = its' := by simpa using congrArg Array.toList d1
 subst this
 exact r.inj r'
end
abbrev Cx.wish (X : Cx) (E : Value -> Shared -> Prop) : Cx := { X with xe := E }
abbrev Cx.nox (X : Cx) : Cx := X.wish fun _ _ => False
theorem Cx.Ok.wish {X : Cx} (ok : X.Ok) (E : Value -> Shared -> Prop) : (X.wish E).Ok :=
 ⟨ok.mod, ok.kind, ok.glob, ok.blt, ok.above, ok.inj, ok.has, ok.cab, ok.hd, ok.frames, ok.stk, ok.exf, ok.bs, ok.bsz, ok.noex, ok.exfs, ok.funs, ok.frf⟩
theorem Cx.Ok.unwish {X : Cx} {E : Value -> Shared -> Prop} (ok : (X.wish E).Ok) : X.Ok :=
 ⟨ok.mod, ok.kind, ok.glob, ok.blt, ok.above, ok.inj, ok.has, ok.cab, ok.hd, ok.frames, ok.stk, ok.exf, ok.bs, ok.bsz, ok.noex, ok.exfs, ok.funs, ok.frf⟩
section
variable {X : Cx} {pins : List (Addr × Obj)} {σ : St} {H : Hp} {s : Shared} {E : Value -> Shared -> Prop}
theorem Inv.wish (I : Inv X pins σ H s) (E : Value -> Shared -> Prop) : Inv (X.wish E) pins σ H s := ⟨I.ok.wish E, I.os, I.bare, I.base, I.loc, I.cell, I.free, I.freeC, I.pin, I.hok, I.len⟩
theorem Inv.unwish (I : Inv (X.wish E) pins σ H s) : Inv X pins σ H s := ⟨I.ok.unwish, I.os, I.bare, I.base, I.loc, I.cell, I.free, I.freeC, I.pin, I.hok, I.len⟩
theorem SP.unwish {D : Ends} {f : Flow} {s' : Shared} (h : SP (X.wish E) pins D f s') : SP X pins D f s' := by
 cases f with
 | next => obtain ⟨σ', H', I, q⟩ := h; exact ⟨σ', H', I.unwish, q⟩
 | brk => obtain ⟨σ', H', I, q⟩ := h; exact ⟨σ', H', I.unwish, q⟩
 | cont => obtain ⟨σ', H', I, q⟩ := h; exact ⟨σ', H', I.unwish, q⟩
 | ret u => obtain ⟨v, σ', H', I, r, q⟩ := h; exact ⟨v, σ', H', I.unwish, r, q⟩
theorem PE.nox {e : Expr} {t : TE} (h : PE X.nox e t) : PE X e t := fun pins s σ H Q I hw =>
 wpAny_mono (h pins s σ H Q (I.wish _) hw) (fun _ _ ⟨v, H', I', r, q⟩ => ⟨v, H', I'.unwish, r, q⟩) fun _ _ z => False.elim z
theorem PT.nox {e : Expr} {t : TT} (h : PT X.nox e t) : PT X e t := fun pins s σ H Q I hw =>
 wpAny_mono (h pins s σ H Q (I.wish _) hw) (fun _ _ ⟨H', I', q⟩ => ⟨H', I'.unwish, q⟩) fun _ _ z => False.elim z
theorem PSs.nox {st : List Stmt} {t : TS} (h : PSs X.nox st t) : PSs X st t := fun pins s σ H D I hw =>
 wpAny_mono (h pins s σ H D (I.wish _) hw) (fun _ _ q => q.unwish) fun _ _ z => False.elim z
end
section
variable {X : Cx} {st : Stmt} {rest : List Stmt} {t u : TS} {e : Expr} {te : TE} {pos : Pos}
def tNext : TS := fun D σ H => D.nx σ H
def tSeq (t u : TS) : TS := fun D σ H => t { D with nx := u D } σ H
theorem zZw : PSs X [] tNext := fun _ _ σ H _ I h => wpAny_execs_nil ⟨σ, H, I, h⟩
theorem zQj (h1 : PS X st t) (h2 : PSs X rest u) : PSs X (st :: rest) (tSeq t u) := by
 intro pins s σ H D I h
 refine wpAny_execs_cons (thn (h1 pins s σ H { D with nx := u D } I h) fun f s1 q => ?_)
 cases f with
 | next =>
   obtain ⟨σ', H', I', q⟩ := q
   exact h2 pins s1 σ' H' D I' q
 | ret v => exact q
 | brk => exact q
 | cont => exact q
theorem zWq (h1 : PS X st t) : PSs X [st] t := by
 intro pins s σ H D I h
 refine wpAny_execs_cons (thn (h1 pins s σ H D I h) fun f s1 q => ?_)
 cases f with
 | next => exact wpAny_execs_nil q
 | ret v => exact q
 | brk => exact q
 | cont => exact q
theorem Inv.quiet {pins : List (Addr × Obj)} {σ : St} {H : Hp} {s : Shared} (I : Inv X pins σ H s) : interactive X.env = false := by simp [interactive, I.ok.kind]
def tDrop (te : TE) : TS := fun D σ H => te σ H fun _ H1 => D.nx σ H1
theorem zJv (he : PE X e te) (hs : swapsWith e none pos.line X.env = pure false := by rfl) : PS X (.Expr e pos) (tDrop te) := by
 intro pins s σ H D I h
 exact wpAny_Expr_any (thn (he pins s σ H _ I h) fun v s1 ⟨x, H1, I1, r1, q1⟩ => ⟨σ, H1, I1, q1⟩) I.quiet hs
def tRet (te : TE) : TS := fun D σ H => te σ H D.rt
theorem zZz (he : PE X e te) : PS X (.Return (some e) pos) (tRet te) := by
 intro pins s σ H D I h
 exact wpAny_Return_some (thn (he pins s σ H _ I h) fun v s1 ⟨x, H1, I1, r1, q1⟩ => ⟨x, σ, H1, I1, r1, q1⟩)
def tRetN : TS := fun D _ H => D.rt .non H
theorem ps_retN : PS X (.Return none pos) tRetN := fun _ _ σ H _ I h => wpAny_Return_none ⟨.non, σ, H, I, rfl, h⟩
def tIfS (c : TT) (t u : TS) : TS := fun D σ H => c σ H fun b H1 => if b = true then t D σ H1 else u D σ H1
theorem yQz {c : Expr} {a b : List Stmt} {tc : TT} (hc : PT X c tc) (ha : PSs X a t) (hb : PSs X b u) : PS X (.If c a b pos) (tIfS tc t u) := by
 intro pins s σ H D I h
 refine wpAny_If (thn (hc pins s σ H _ I h) fun d s1 ⟨H1, I1, q1⟩ => ?_)
 cases d with
 | true => exact ha pins s1 σ H1 D I1 q1
 | false => exact hb pins s1 σ H1 D I1 q1
end
abbrev TG := V -> St -> Hp -> (St -> Hp -> Prop) -> Prop
def PG (X : Cx) (target : Expr) (t : TG) : Prop :=
 ∀ (pins : List (Addr × Obj)) (s : Shared) (σ : St) (H : Hp) (v : V) (u : Value) (Q : St -> Hp -> Prop), Inv X pins σ H s -> RelV v u -> t v σ H Q ->
   wpAny (model X.prog X.w) X.A (assign target X.env u) (fun _ s' => ∃ σ' H', Inv X pins σ' H' s' /\ Q σ' H') X.xe s
abbrev TSet := V -> V -> V -> Hp -> (Hp -> Prop) -> Prop
def PSet (X : Cx) (t : TSet) : Prop :=
 ∀ (pins : List (Addr × Obj)) (s : Shared) (σ : St) (H : Hp) (o i v : V) (ov iv u : Value) (Q : Hp -> Prop), Inv X pins σ H s -> RelV o ov -> RelV i iv -> RelV v u -> t o i v H Q ->
   wpAny (model X.prog X.w) X.A (setItem ov iv u) (fun _ s' => ∃ H', Inv X pins σ H' s' /\ Q H') X.xe s
section
variable {X : Cx} {pos : Pos}
def gName (i : Nat) : TG := fun v σ H Q => Q (σ.set i (some v)) H
theorem yWj {i : Nat} {x : Str} (hN : X.N.Nodup) (hi : X.N[i]? = some x) (hx : Loc X.env.scope x) (hf : X.fn x = true \/ X.env.scope.names.lookup x = some .local := by first | exact .inl rfl | exact .inr rfl | assumption) : PG X (.Name x pos) (gName i) := by
 intro pins s σ H v u Q I r h
 exact wpAny_assign_Name (xWx I hN hi hx r (fun s' I' => ⟨_, H, I', h⟩) hf)
def gSub (to ti : TE) (t : TSet) : TG := fun v σ H Q => to σ H fun o H1 => ti σ H1 fun i H2 => t o i v H2 fun H3 => Q σ H3
theorem pg_sub {o i : Expr} {to ti : TE} {t : TSet} (ho : PE X o to) (hi : PE X i ti) (hs : PSet X t)
   (ha : ∀ v, assign (.Subscript o i pos) X.env v = (do
     let ov <- holding [v] (eval o X.env)
     let iv <- holding [v, ov] (eval i X.env)
     standAt pos
     holding [v, ov, iv] (setItem ov iv v)
     release [v, ov, iv] []) := by intro _; rfl) : PG X (.Subscript o i pos) (gSub to ti t) := by
 intro pins s σ H v u Q I r h
 rw [ha]
 refine wpAny_bind (wpAny_holding (thn (ho pins s σ H _ I h) fun ov s1 ⟨x, H1, I1, r1, q1⟩ => ?_))
 refine wpAny_bind (wpAny_holding (thn (hi pins s1 σ H1 _ I1 q1) fun iv s2 ⟨y, H2, I2, r2, q2⟩ => ?_))
 refine wpAny_bind (wpAny_standAt (wpAny_bind (wpAny_holding (thn (hs pins s2 σ H2 x y v ov iv u _ I2 r1 r2 r q2) fun _ s3 ⟨H3, I3, q3⟩ => ?_))))
 exact wpAny_release ⟨σ, H3, I3, q3⟩
def tAsg (te : TE) (g : TG) : TS := fun D σ H => te σ H fun x H1 => g x σ H1 D.nx
theorem ps_asg {tg e : Expr} {te : TE} {g : TG} (he : PE X e te) (hg : PG X tg g) (hs : swapsWithSole [tg] e pos.line X.env = pure false := by rfl) (hw : swappedStores [tg] e X.env = pure none := by rfl)
   (h1 : (assignEach [tg] X.env).map (·.2) = [assign tg X.env] := by rfl) : PS X (.Assign [tg] e pos) (tAsg te g) := by
 intro pins s σ H D I h
 refine wpAny_Assign_stores (thn (he pins s σ H _ I h) fun v s1 ⟨x, H1, I1, r1, q1⟩ => ?_) hs hw
 rw [h1]
 exact thn (hg pins s1 σ H1 x v _ I1 r1 q1) fun _ s2 q => q
theorem zJw {i : Nat} {x : Str} {e : Expr} {te : TE} {pos' : Pos} (hN : X.N.Nodup) (hi : X.N[i]? = some x) (hx : Loc X.env.scope x) (he : PE X e te) (hs : swapsWith e (some (.Name x pos')) pos.line X.env = pure false := by rfl) (hf : X.fn x = true \/ X.env.scope.names.lookup x = some .local := by first | exact .inl rfl | exact .inr rfl | assumption) :
   PS X (.Assign [.Name x pos'] e pos) (tAsg te (gName i)) := by
 intro pins s σ H D I h
 refine wpAny_Assign_Name (thn (he pins s σ H _ I h) fun v s1 ⟨y, H1, I1, r1, q1⟩ => ?_) hs
 exact xWx I1 hN hi hx r1 (fun s2 I2 => ⟨_, H1, I2, q1⟩) hf
end
section
variable {X : Cx} {pos : Pos}
def tWhile (c : TT) (tb : TS) : TS := fun D σ H => ∃ W : Nat -> St -> Hp -> Prop, (∃ m, W m σ H) /\ ∀ m σ H, W m σ H ->
 c σ H fun b H1 => if b = true then ∃ N : St -> Hp -> Prop, (∀ σ' H', N σ' H' -> ∃ m', m' < m /\ W m' σ' H') /\ tb { D with nx := N, ct := N, bk := D.nx } σ H1 else D.nx σ H1
theorem ps_while {c : Expr} {body : List Stmt} {tc : TT} {tb : TS} (hp : PassesOwn (model X.prog X.w) X.A X.env X.xe) (hc : PT X c tc) (hb : PSs X body tb) : PS X (.While c body [] pos) (tWhile tc tb) := by
 intro pins s σ H D I h
 obtain ⟨W, ⟨m0, w0⟩, turn⟩ := h
 refine wpAny_While (codeAny_whileLoop (fun n s' => ∃ σ' H', Inv X pins σ' H' s' /\ W n σ' H') ?_ m0 ⟨σ, H, I, w0⟩)
 rintro n s1 ⟨σ1, H1, I1, w1⟩
 refine wpAny_passesOwn hp (thn (hc pins s1 σ1 H1 _ I1 (turn n σ1 H1 w1)) fun b s2 ⟨H2, I2, q2⟩ => ?_)
 cases b with
 | true =>
   obtain ⟨N, hN, q2⟩ := q2
   rw [if_pos rfl]
   refine wpAny_passesOwn hp (thn (hb pins s2 σ1 H2 _ I2 q2) fun f s3 q3 => ?_)
   cases f with
   | next =>
     obtain ⟨σ3, H3, I3, n3⟩ := q3
     obtain ⟨m', hm, w3⟩ := hN σ3 H3 n3
     exact ⟨m', hm, σ3, H3, I3, w3⟩
   | cont =>
     obtain ⟨σ3, H3, I3, n3⟩ := q3
     obtain ⟨m', hm, w3⟩ := hN σ3 H3 n3
     exact ⟨m', hm, σ3, H3, I3, w3⟩
   | brk => exact q3
   | ret v => exact q3
 | false =>
   rw [if_neg Bool.false_ne_true]
   exact wpAny_execs_nil ⟨σ1, H2, I2, q2⟩
end
structure It where
 go : Nat -> Hp -> Prop
 yld : Nat -> Hp -> V -> Hp -> Prop
 stop : Nat -> Hp -> Prop
def FpOk (X : Cx) (pins : List (Addr × Obj)) (H : Hp) (b : Addr) : Prop :=
 H b = none /\ b ≠ X.env.locals /\ b ∉ X.fs /\ (b ∈ X.ex \/ X.s₀.heap.objs.size <= b) /\ (∀ x c, X.env.cells.lookup x = some c -> c ≠ b) /\ ∀ p ∈ X.pn ++ pins, p.1 ≠ b
theorem Inv.fpOk {X : Cx} {pins : List (Addr × Obj)} {σ : St} {H H' : Hp} {s : Shared} {b : Addr} (I : Inv X pins σ H s) (hb : s.heap.objs.size <= b) (hn : H' b = none) : FpOk X pins H' b := by
 refine ⟨hn, Nat.ne_of_gt (Nat.lt_of_lt_of_le I.lt hb), I.nofs hb, .inr (Nat.le_trans I.sz hb), fun x c e z => ?_, fun p hp z => ?_⟩
 . obtain ⟨v, q⟩ := I.cell x c e
   exact absurd (Nat.lt_of_lt_of_le q.lt (by rw [z]; exact hb)) (Nat.lt_irrefl _)
 . exact absurd (Nat.lt_of_lt_of_le (Heap.lt_size (I.pin p hp).1) (by rw [z]; exact hb)) (Nat.lt_irrefl _)
structure Turn (P : Program) (w : World) (K : PySem.W.Frag) (tg : Expr) (J : It) (fp : List Addr) (it : Addr) (tn : Nat -> Heap -> Prop) : Prop where
 mem : it ∈ fp
 obj : ∀ i h, tn i h -> ∀ b ∈ fp, ∃ o, h.get? b = some o /\ ∀ v, o.data ≠ .cell v
 keep : ∀ i h h', tn i h -> (∀ b ∈ fp, ∀ o, h.get? b = some o -> h'.get? b = some o) -> tn i h'
 item : ∀ (X : Cx), X.prog = P -> X.w = w -> X.K = K -> X.calm = true -> ∀ (i : Nat) (pins : List (Addr × Obj)) (s : Shared) (σ : St) (H : Hp) (E : Value -> Shared -> Prop), Inv X pins σ H s -> (∀ b ∈ fp, FpOk X pins H b) -> tn i s.heap -> J.go i H ->
   wpAny (model P w) X.A (pyNext (.ref it)) (fun r s1 => ∃ u, r = some u /\
     wpAny (model P w) X.A (letOwnedTupleGo tg (.ref it) u) (fun _ s2 => ∃ x H', Inv X pins σ H' s2 /\ RelV x u /\ J.yld i H x H' /\ tn (i + 1) s2.heap /\ ∀ b ∈ fp, H' b = none) E s1) E s
 done : ∀ (X : Cx), X.prog = P -> X.w = w -> X.K = K -> X.calm = true -> ∀ (i : Nat) (pins : List (Addr × Obj)) (s : Shared) (σ : St) (H : Hp) (E : Value -> Shared -> Prop), Inv X pins σ H s -> (∀ b ∈ fp, FpOk X pins H b) -> tn i s.heap -> J.stop i H ->
   wpAny (model P w) X.A (pyNext (.ref it)) (fun r s1 => r = none /\ Inv X pins σ H s1) E s
 self : ∀ (A : Around) (i : Nat) (s : Shared) (Q : Value -> Shared -> Prop) (E : Value -> Shared -> Prop), tn i s.heap -> Q (.ref it) s -> wpAny (model P w) A (pyIter (.ref it)) Q E s
abbrev TI := St -> Hp -> (It -> Hp -> Prop) -> Prop
def PIE (X : Cx) (pins : List (Addr × Obj)) (σ : St) (tg : Expr) (R : It -> Hp -> Prop) (itv : Value) (s2 : Shared) : Prop :=
 ∃ (it : Addr) (fp : List Addr) (tn : Nat -> Heap -> Prop) (J : It) (H' : Hp), itv = .ref it /\ Inv X pins σ H' s2 /\ Turn X.prog X.w X.K tg J fp it tn /\ tn 0 s2.heap /\ (∀ b ∈ fp, FpOk X pins H' b) /\ R J H'
def PI (X : Cx) (tg iter : Expr) (wi : TI) : Prop :=
 ∀ (pins : List (Addr × Obj)) (s : Shared) (σ : St) (H : Hp) (R : It -> Hp -> Prop), Inv X pins σ H s -> wi σ H R ->
   wpAny (model X.prog X.w) X.A (eval iter X.env) (fun v s1 => wpAny (model X.prog X.w) X.A (pyIter v) (PIE X pins σ tg R) X.xe s1) X.xe s
theorem go_of {M : Model} {A : Around} {E : Value -> Shared -> Prop} {s : Shared} {tg : Expr} {it : Addr} {u : Value} {o : Obj} {n : String} {vs : Array Value} {Q : Unit -> Shared -> Prop} (ho : s.heap.get? it = some o) (hc : o.cls = .type n) (hd : o.data = .fields vs)
   (hn : ["enumerate", "zip", "dict_itemiterator", "dict_reverseitemiterator", "odict_iterator", "itertools.zip_longest", "itertools.pairwise"].contains n = false) (hQ : Q () s) : wpAny M A (letOwnedTupleGo tg (.ref it) u) Q E s := by
 unfold letOwnedTupleGo
 cases tg <;> first
   | exact wpAny_pure hQ
   | (cases u <;> first
       | exact wpAny_pure hQ
       | (refine wpAny_bind (wpAny_load ho ?_)
          rw [hc, hd]
          show wpAny M A (if (["enumerate", "zip", "dict_itemiterator", "dict_reverseitemiterator", "odict_iterator", "itertools.zip_longest", "itertools.pairwise"].contains n && vs[0]? == some (rawInt _)) = true then _ else _) Q E s
          rw [if_neg (by intro h; rw [hn, Bool.false_and] at h; cases h)]
          exact wpAny_pure hQ))
def Itl (K : PySem.W.Frag) (a : Addr) : It :=
 ⟨fun i H => ∃ xs x, SqL K H a xs /\ xs[i]? = some x, fun i H x H' => H' = H /\ ∀ xs, SqL K H a xs -> xs[i]? = some x, fun i H => ∃ xs, SqL K H a xs /\ xs.length <= i⟩
def Itr (lo : Int) (n : Nat) : It := ⟨fun i _ => i < n, fun i H x H' => H' = H /\ x = .int (lo + i), fun i _ => n <= i⟩
theorem xWw {P : Program} {w : World} {K : PySem.W.Frag} {tg : Expr} (a it : Addr) : Turn P w K tg (Itl K a) [it] it (fun i h => h.IsListIter it a i) where
 mem := by simp
 obj := fun i h st b hb => by
   have e : b = it := by simpa using hb
   subst e
   obtain ⟨o, e, c, d⟩ := st
   exact ⟨o, e, fun v z => by rw [d] at z; cases z⟩
 keep := fun i h h' st k => st.at fun o e => k it (by simp) o e
 item := by
   intro X hP hw hK hc i pins s σ H E I hf st hg
   subst hP hw hK
   obtain ⟨xs, x, hq, hx⟩ := hg
   obtain ⟨its, rv, p, hz⟩ := I.list hq
   obtain ⟨u, hu, ru⟩ := rv.get hx
   obtain ⟨f0, f1, f2, f3, f4, f5⟩ := hf it (by simp)
   refine wpAny_pyNext_list_item st p.isList (x := u) (by simpa using hu) fun h' st' sb => ?_
   have I1 : Inv X pins σ H { s with heap := h' } := I.turned (t' := s.toks) (fun b o hb e => (sb.2 b hb).trans e) f0 f1 f3 f4 f5
   obtain ⟨o, e, c, d⟩ := id st'
   exact ⟨u, rfl, go_of (s := { s with heap := h' }) e c d (by decide) ⟨x, H, I1, ru, ⟨rfl, fun ys hy => by rw [I.list_inj hy hq]; exact hx⟩, st', fun b hb => (hf b hb).1⟩⟩
 done := by
   intro X hP hw hK hc i pins s σ H E I hf st hg
   subst hP hw hK
   obtain ⟨xs, hq, hx⟩ := hg
   obtain ⟨its, rv, p, hz⟩ := I.list hq
   obtain ⟨f0, f1, f2, f3, f4, f5⟩ := hf it (by simp)
   have hl := rv.length
   exact wpAny_pyNext_list_end (I.ok.hd hc) st p.isList (by simp; omega) fun h' eb => ⟨rfl, I.turned (t' := s.toks) (fun b o hb e => eb b o hb e) f0 f1 f3 f4 f5⟩
 self := fun _ _ _ _ _ st h => wpAny_pyIter_listiter st h
theorem turn_range {P : Program} {w : World} {K : PySem.W.Frag} {tg : Expr} (it : Addr) (lo : Int) (n : Nat) : Turn P w K tg (Itr lo n) [it] it (fun i h => IsRangeIter h it (lo + (i : Nat) * 1) ((n : Int) - (i : Nat)) 1) where
 mem := by simp
 obj := fun i h st b hb => by
   have e : b = it := by simpa using hb
   subst e
   exact ⟨_, st, fun v z => by
     have z' : Data.fields _ = Data.cell v := z
     cases z'⟩
 keep := fun i h h' st k => k it (by simp) _ st
 item := by
   intro X hP hw hK hc i pins s σ H E I hf st hg
   subst hP hw hK
   obtain ⟨f0, f1, f2, f3, f4, f5⟩ := hf it (by simp)
   have W := Walks.range (prog := X.prog) (w := X.w) (I.ok.hd hc) it lo 1 n
   refine W.item i s _ _ hg st fun v h' tk hv st' kk => ?_
   obtain ⟨t, rfl⟩ := hv
   have I1 : Inv X pins σ H { s with heap := h', toks := tk } := I.turned (fun b o hb e => kk b o (by simpa using hb) e) f0 f1 f3 f4 f5
   refine ⟨_, rfl, go_of (s := { s with heap := h', toks := tk }) (n := "range_iterator") st' rfl rfl (by decide) ⟨.int (lo + i), H, I1, ⟨t, ?_⟩, ⟨rfl, rfl⟩, st', fun b hb => (hf b hb).1⟩⟩
   rw [Int.mul_one]
 done := by
   intro X hP hw hK hc i pins s σ H E I hf st hg
   subst hP hw hK
   obtain ⟨f0, f1, f2, f3, f4, f5⟩ := hf it (by simp)
   exact wpAny_pyNext_range_end (I.ok.hd hc) st (by have : n <= i := hg; omega) fun h' eb => ⟨rfl, I.turned (t' := s.toks) (fun b o hb e => eb b o hb e) f0 f1 f3 f4 f5⟩
 self := fun _ _ _ _ _ st h => wpAny_pyIter_rangeiter st h
section
variable {X : Cx} {tg : Expr}
def iList (K : PySem.W.Frag) (tl : TE) : TI := fun σ H R => tl σ H fun x H1 => ∃ a, x = .ref a /\ (∃ xs, SqL K H1 a xs) /\ R (Itl K a) H1
theorem yKx {l : Expr} {tl : TE} (hl : PE X l tl) : PI X tg l (iList X.K tl) := by
 intro pins s σ H R I h
 refine thn (hl pins s σ H _ I h) fun v s1 ⟨x, H1, I1, r1, q1⟩ => ?_
 obtain ⟨a, e, ⟨xs, hq⟩, q⟩ := q1
 subst e
 cases r1
 obtain ⟨its, rv, p, hz⟩ := I1.list hq
 refine wpAny_pyIter_list p.isList ?_
 refine ⟨s1.heap.objs.size, [s1.heap.objs.size], _, _, H1, rfl, I1.kept (t' := s1.toks) fun b o e => Heap.get?_push_of_some _ e, xWw a _, ⟨_, Heap.get?_push_size _ rfl, rfl, rfl⟩, fun b hb => ?_, q⟩
 have e : b = s1.heap.objs.size := by simpa using hb
 subst e
 exact I1.fpOk (Nat.le_refl _) (I1.hok.fresh (Nat.le_refl _))
theorem range_it {pins : List (Addr × Obj)} {σ : St} {H : Hp} {s : Shared} {R : It -> Hp -> Prop} {E : Value -> Shared -> Prop} {lo hi : Int} {t u v : Tok} {tk : Nat} (I : Inv X pins σ H s) (h1 : -(2 ^ 62) <= lo) (h2 : lo < 2 ^ 62) (h3 : -(2 ^ 62) <= hi) (h4 : hi < 2 ^ 62)
   (q : R (Itr lo (hi - lo).toNat) H) : wpAny (model X.prog X.w) X.A (pyIter (.ref s.heap.objs.size)) (PIE X pins σ tg R) E { s with heap := s.heap.push { cls := .type "range", data := .fields #[.int lo t, .int hi u, .int 1 v] }, toks := tk } := by
 refine wpAny_pyIter_range (IsRange.new ..) (small_one h1 h2 h3 h4) ?_
 have I1 : Inv X pins σ H { s with heap := s.heap.push { cls := .type "range", data := .fields #[.int lo t, .int hi u, .int 1 v] }, toks := tk } := I.kept fun b o e => Heap.get?_push_of_some _ e
 refine ⟨(s.heap.push { cls := .type "range", data := .fields #[.int lo t, .int hi u, .int 1 v] }).objs.size, [(s.heap.push { cls := .type "range", data := .fields #[.int lo t, .int hi u, .int 1 v] }).objs.size], _, _, H, rfl,
   I1.kept (t' := tk) fun b o e => Heap.get?_push_of_some _ e, turn_range _ lo (hi - lo).toNat, ?_, fun b hb => ?_, q⟩
 . have e1 : lo + ((0 : Nat) : Int) * 1 = lo := by simp
   have e2 : (((hi - lo).toNat : Nat) : Int) - ((0 : Nat) : Int) = Builtin.Range.rangeSize lo hi 1 := by rw [rangeSize_one]; split <;> omega
   show IsRangeIter _ _ (lo + ((0 : Nat) : Int) * 1) ((((hi - lo).toNat : Nat) : Int) - ((0 : Nat) : Int)) 1
   rw [e1, e2]
   exact Heap.get?_push_size _ rfl
 . have e : b = (s.heap.push { cls := .type "range", data := .fields #[.int lo t, .int hi u, .int 1 v] }).objs.size := by simpa using hb
   subst e
   exact I1.fpOk (Nat.le_refl _) (I1.hok.fresh (Nat.le_refl _))
def iRng1 (ta : TA) : TI := fun σ H R => ta σ H fun vs H1 => ∃ j : Int, vs = [.int j] /\ -(2 ^ 62) <= j /\ j < 2 ^ 62 /\ R (Itr 0 j.toNat) H1
theorem zJx {a : Expr} {ta : TA} {p pos : Pos} (hg : Gl X "range") (hm : X.mg "range" = none) (ha : PA X [a] ta) (hs : starEach [a] X.env = [(false, eval a X.env)] := by exact zQq rfl) : PI X tg (.Call (.Name "range" p) [a] [] pos) (iRng1 ta) := by
 intro pins s σ H R I h
 refine Call_ (ld_blt I hg hm boot_range (PyProof.Rows.callWith_type1 (thn (ha pos pins s σ H _ I h) fun us s1 ⟨vs, H1, I1, r1, q1⟩ => ?_) hs rfl))
 obtain ⟨j, e, q1, q2, q⟩ := q1
 subst e
 cases r1 with
 | cons r rr =>
   cases rr
   obtain ⟨t, rfl⟩ := r
   exact call_range_1 (range_it I1 (by omega) (by omega) q1 q2 (by simpa using q))
def tFor (wi : TI) (g : TG) (tb : TS) : TS := fun D σ H => wi σ H fun J H1 => ∃ W : Nat -> Nat -> St -> Hp -> Prop, (∃ m, W 0 m σ H1) /\ ∀ i m σ H, W i m σ H ->
 (J.stop i H /\ D.nx σ H) \/ (J.go i H /\ ∃ N : St -> Hp -> Prop, (∀ σ' H', N σ' H' -> ∃ m', m' < m /\ W (i + 1) m' σ' H') /\ ∀ x H', J.yld i H x H' -> g x σ H' fun σ2 H2 => tb { D with nx := N, ct := N, bk := D.nx } σ2 H2)
def pinsAt (fp : List Addr) (h : Heap) : List (Addr × Obj) := fp.filterMap fun b => (h.get? b).map fun o => (b, o)
theorem yWk {fp : List Addr} {h : Heap} {b : Addr} {o : Obj} (hb : b ∈ fp) (e : h.get? b = some o) : (b, o) ∈ pinsAt fp h := List.mem_filterMap.mpr ⟨b, hb, by rw [e]; rfl⟩
theorem of_pinsAt {fp : List Addr} {h : Heap} {p : Addr × Obj} (hp : p ∈ pinsAt fp h) : p.1 ∈ fp /\ h.get? p.1 = some p.2 := by
 obtain ⟨b, hb, e⟩ := List.mem_filterMap.mp hp
 cases q : h.get? b with
 | none => rw [q] at e; cases e
 | some o =>
   rw [q] at e
   have e' : (b, o) = p := Option.some.inj e
   subst e'
   exact ⟨hb, q⟩
theorem Inv.pinned {pins : List (Addr × Obj)} {σ : St} {H : Hp} {s : Shared} {fp : List Addr} (I : Inv X pins σ H s) (hf : ∀ b ∈ fp, FpOk X pins H b) (ho : ∀ b ∈ fp, ∃ o, s.heap.get? b = some o /\ ∀ v, o.data ≠ .cell v) : Inv X (pins ++ pinsAt fp s.heap) σ H s :=
 I.pins_of fun p hp => (List.mem_append.mp hp).elim (fun z => I.pin p (List.mem_append_right _ z)) fun z => by
   obtain ⟨hb, e⟩ := of_pinsAt z
   obtain ⟨f0, f1, f2, _⟩ := hf p.1 hb
   obtain ⟨o, e', d⟩ := ho p.1 hb
   rw [e] at e'; cases e'
   exact ⟨e, f0, f1, f2, d⟩
theorem Inv.unpinned {pins pl : List (Addr × Obj)} {σ : St} {H : Hp} {s : Shared} (I : Inv X (pins ++ pl) σ H s) : Inv X pins σ H s := I.pins_of fun p hp => I.pin p (List.mem_append_right _ (List.mem_append_left _ hp))
theorem yJv {iter : Expr} {body : List Stmt} {wi : TI} {g : TG} {tb : TS} {pos : Pos} (hp : PassesOwn (model X.prog X.w) X.A X.env X.xe) (hc : X.calm = true) (hi : PI X tg iter wi) (hg : PG X tg g) (hb : PSs X body tb)
   (hs : ∀ x, foldedSetIterable iter X.env x = pure x := by intro _; rfl) : PS X (.For tg iter body [] pos) (tFor wi g tb) := by
 intro pins s σ H D I h
 refine wpAny_For (thn (hi pins s σ H _ I h) fun v s1 h1 => thn h1 fun itv s2 h2 => ?_) hs
 obtain ⟨it, fp, tn, J, H2, e, I2, T, st2, f2, W, ⟨m0, w0⟩, turn⟩ := h2
 subst e
 have stat : ∀ {H' : Hp}, (∀ b ∈ fp, H' b = none) -> ∀ b ∈ fp, FpOk X pins H' b := fun hn b hb => ⟨hn b hb, (f2 b hb).2⟩
 refine codeAny_forLoop_any (fun n s' => ∃ i σ' H', Inv X pins σ' H' s' /\ tn i s'.heap /\ (∀ b ∈ fp, H' b = none) /\ W i n σ' H') ?_ m0 ⟨0, σ, H2, I2, st2, fun b hb => (f2 b hb).1, w0⟩
 rintro n s3 ⟨i, σ3, H3, I3, st3, fr3, w3⟩
 rcases turn i n σ3 H3 w3 with ⟨stop, qn⟩ | ⟨go, N, hN, step⟩
 . refine wpAny_passesOwn hp (thn (T.done X rfl rfl rfl hc i pins s3 σ3 H3 X.xe I3 (stat fr3) st3 stop) fun r s4 ⟨hr, I4⟩ => ?_)
   subst hr
   exact wpAny_execs_nil ⟨σ3, H3, I4, qn⟩
 . refine wpAny_passesOwn hp (thn (T.item X rfl rfl rfl hc i pins s3 σ3 H3 X.xe I3 (stat fr3) st3 go) fun r s4 ⟨u, hr, h4⟩ => ?_)
   subst hr
   refine wpAny_passesOwn hp (thn h4 fun _ s5 ⟨x, H5, I5, r5, y5, st5, fr5⟩ => ?_)
   have I5' := I5.pinned (stat fr5) (T.obj _ _ st5)
   refine wpAny_passesOwn hp (thn (hg _ s5 σ3 H5 x u _ I5' r5 (step x H5 y5)) fun _ s6 ⟨σ6, H6, I6, q6⟩ => ?_)
   refine wpAny_passesOwn hp (thn (hb _ s6 σ6 H6 _ I6 q6) fun f s7 q7 => ?_)
   have again : ∀ {σ7 : St} {H7 : Hp}, Inv X (pins ++ pinsAt fp s5.heap) σ7 H7 s7 -> N σ7 H7 -> ∃ m, m < n /\ ∃ i σ' H', Inv X pins σ' H' s7 /\ tn i s7.heap /\ (∀ b ∈ fp, H' b = none) /\ W i m σ' H' := fun {σ7 H7} I7 n7 => by
     obtain ⟨m', hm, w7⟩ := hN σ7 H7 n7
     refine ⟨m', hm, i + 1, σ7, H7, I7.unpinned, T.keep _ _ _ st5 fun b hb o e => (I7.pin (b, o) (List.mem_append_right _ (List.mem_append_right _ (yWk hb e)))).1, fun b hb => ?_, w7⟩
     obtain ⟨o, e, d⟩ := T.obj _ _ st5 b hb
     exact (I7.pin (b, o) (List.mem_append_right _ (List.mem_append_right _ (yWk hb e)))).2.1
   cases f with
   | next => obtain ⟨σ7, H7, I7, n7⟩ := q7; exact again I7 n7
   | cont => obtain ⟨σ7, H7, I7, n7⟩ := q7; exact again I7 n7
   | brk => obtain ⟨σ7, H7, I7, q7⟩ := q7; exact ⟨σ7, H7, I7.unpinned, q7⟩
   | ret v => obtain ⟨x7, σ7, H7, I7, r7, q7⟩ := q7; exact ⟨x7, σ7, H7, I7.unpinned, r7, q7⟩
end
theorem xWj {K : PySem.W.Frag} {a : Addr} {xs : List V} {g : TG} {tb : TS} {D : Ends} {σ : St} {H : Hp} (Pv : Nat -> St -> Hp -> Prop) (h0 : Pv 0 σ H) (hl : ∀ i σ H, i <= xs.length -> Pv i σ H -> SqL K H a xs)
   (hs : ∀ i x σ H, xs[i]? = some x -> Pv i σ H -> g x σ H fun σ2 H2 => tb { D with nx := Pv (i + 1), ct := Pv (i + 1), bk := D.nx } σ2 H2) (hd : ∀ σ H, Pv xs.length σ H -> D.nx σ H) :
   ∃ W : Nat -> Nat -> St -> Hp -> Prop, (∃ m, W 0 m σ H) /\ ∀ i m σ H, W i m σ H ->
     ((Itl K a).stop i H /\ D.nx σ H) \/ ((Itl K a).go i H /\ ∃ N : St -> Hp -> Prop, (∀ σ' H', N σ' H' -> ∃ m', m' < m /\ W (i + 1) m' σ' H') /\ ∀ x H', (Itl K a).yld i H x H' -> g x σ H' fun σ2 H2 => tb { D with nx := N, ct := N, bk := D.nx } σ2 H2) := by
 refine ⟨fun i m σ H => m = xs.length - i /\ i <= xs.length /\ Pv i σ H, ⟨xs.length, by simp, Nat.zero_le _, h0⟩, ?_⟩
 rintro i m σ H ⟨rfl, hi, p⟩
 have q := hl i σ H hi p
 by_cases hlt : i < xs.length
 . refine .inr ⟨⟨xs, xs[i], q, by simp [hlt]⟩, Pv (i + 1), fun σ' H' p' => ⟨xs.length - (i + 1), by omega, rfl, hlt, p'⟩, fun x H' y => ?_⟩
   obtain ⟨e, y⟩ := y
   subst e
   exact hs i x σ _ (y xs q) p
 . have e : i = xs.length := by omega
   subst e
   exact .inl ⟨⟨xs, q, Nat.le_refl _⟩, hd σ H p⟩
theorem yZw {lo : Int} {n : Nat} {g : TG} {tb : TS} {D : Ends} {σ : St} {H : Hp} (Pv : Nat -> St -> Hp -> Prop) (h0 : Pv 0 σ H)
   (hs : ∀ i σ H, i < n -> Pv i σ H -> g (.int (lo + i)) σ H fun σ2 H2 => tb { D with nx := Pv (i + 1), ct := Pv (i + 1), bk := D.nx } σ2 H2) (hd : ∀ σ H, Pv n σ H -> D.nx σ H) :
   ∃ W : Nat -> Nat -> St -> Hp -> Prop, (∃ m, W 0 m σ H) /\ ∀ i m σ H, W i m σ H ->
     ((Itr lo n).stop i H /\ D.nx σ H) \/ ((Itr lo n).go i H /\ ∃ N : St -> Hp -> Prop, (∀ σ' H', N σ' H' -> ∃ m', m' < m /\ W (i + 1) m' σ' H') /\ ∀ x H', (Itr lo n).yld i H x H' -> g x σ H' fun σ2 H2 => tb { D with nx := N, ct := N, bk := D.nx } σ2 H2) := by
 refine ⟨fun i m σ H => m = n - i /\ i <= n /\ Pv i σ H, ⟨n, by simp, Nat.zero_le _, h0⟩, ?_⟩
 rintro i m σ H ⟨rfl, hi, p⟩
 by_cases hlt : i < n
 . refine .inr ⟨hlt, Pv (i + 1), fun σ' H' p' => ⟨n - (i + 1), by omega, rfl, hlt, p'⟩, fun x H' y => ?_⟩
   obtain ⟨e, y⟩ := y
   subst e y
   exact hs i σ _ hlt p
 . have e : i = n := by omega
   subst e
   exact .inl ⟨Nat.le_refl _, hd σ H p⟩
abbrev R2 := V -> V -> Hp -> VK -> Prop
def OpR (X : Cx) (f : Value -> Value -> Sem Value) (r : R2) : Prop :=
 ∀ (pins : List (Addr × Obj)) (s : Shared) (σ : St) (H : Hp) (x y : V) (v u : Value) (Q : VK), Inv X pins σ H s -> RelV x v -> RelV y u -> r x y H Q ->
   wpAny (model X.prog X.w) X.A (f v u) (EP X pins σ Q) X.xe s
def UnR (X : Cx) (f : Value -> Sem Value) (r : V -> Hp -> VK -> Prop) : Prop :=
 ∀ (pins : List (Addr × Obj)) (s : Shared) (σ : St) (H : Hp) (x : V) (v : Value) (Q : VK), Inv X pins σ H s -> RelV x v -> r x H Q ->
   wpAny (model X.prog X.w) X.A (f v) (EP X pins σ Q) X.xe s
def CallR (X : Cx) (f : Value) (r : List V -> Hp -> VK -> Prop) : Prop :=
 ∀ (pins : List (Addr × Obj)) (s : Shared) (σ : St) (H : Hp) (xs : List V) (us : List Value) (Q : VK), Inv X pins σ H s -> Vals xs us -> r xs H Q ->
   wpAny (model X.prog X.w) X.A (call f us) (EP X pins σ Q) X.xe s
def TruR (X : Cx) (r : V -> Hp -> (Bool -> Hp -> Prop) -> Prop) : Prop :=
 ∀ (pins : List (Addr × Obj)) (s : Shared) (σ : St) (H : Hp) (x : V) (v : Value) (Q : Bool -> Hp -> Prop), Inv X pins σ H s -> RelV x v -> r x H Q ->
   wpAny (model X.prog X.w) X.A (truthy v) (TP X pins σ Q) X.xe s
def tOp (r : R2) (ta tb : TE) : TE := fun σ H Q => ta σ H fun x H1 => tb σ H1 fun y H2 => r x y H2 Q
def tUn (r : V -> Hp -> VK -> Prop) (ta : TE) : TE := fun σ H Q => ta σ H fun x H1 => r x H1 Q
def rI (C : Int -> Int -> Prop) (g : Int -> Int -> V) : R2 := fun x y H Q => ∃ i j, x = .int i /\ y = .int j /\ C i j /\ Q (g i j) H
def rI0 (g : Int -> Int -> V) : R2 := fun x y H Q => ∃ i j, x = .int i /\ y = .int j /\ Q (g i j) H
def rU (g : Int -> V) : V -> Hp -> VK -> Prop := fun x H Q => ∃ i, x = .int i /\ Q (g i) H
section
variable {X : Cx} {a b c : Expr} {ta tb tc : TE} {pos : Pos}
theorem binT (ha : PE X a ta) (hb : PE X b tb) {pins : List (Addr × Obj)} {s : Shared} {σ : St} {H : Hp} {R : V -> V -> Hp -> Prop} (I : Inv X pins σ H s)
   (h : ta σ H fun x H1 => tb σ H1 fun y H2 => R x y H2) {Q : Value -> Shared -> Prop} {f : Value -> Value -> Sem Value}
   (hf : ∀ v u s2 x y H2, Inv X pins σ H2 s2 -> RelV x v -> RelV y u -> R x y H2 -> wpAny (model X.prog X.w) X.A (f v u) Q X.xe s2) :
   wpAny (model X.prog X.w) X.A (eval a X.env) (fun v s₁ => wpAny (model X.prog X.w) X.A (eval b X.env) (fun u s₂ => wpAny (model X.prog X.w) X.A (f v u) Q X.xe s₂) X.xe s₁) X.xe s := by
 refine thn (ha pins s σ H _ I h) fun v s1 ⟨x, H1, I1, r1, q1⟩ => ?_
 refine thn (hb pins s1 σ H1 _ I1 q1) fun u s2 ⟨y, H2, I2, r2, q2⟩ => ?_
 exact hf v u s2 x y H2 I2 r1 r2 q2
theorem zZx {op : Operator} {r : R2} (ho : OpR X (binaryOp op) r) (ha : PE X a ta) (hb : PE X b tb) : PE X (.BinOp a op b pos) (tOp r ta tb) := by
 intro pins s σ H Q I h
 exact wpAny_BinOp (binT ha hb I h fun v u s2 x y H2 I2 rx ry q => ho pins s2 σ H2 x y v u Q I2 rx ry q)
theorem pe_un {op : UnaryOp} {r : V -> Hp -> VK -> Prop} (ho : UnR X (unaryOp op) r) (ha : PE X a ta) : PE X (.UnaryOp op a pos) (tUn r ta) := by
 intro pins s σ H Q I h
 exact UnaryOp_ (thn (ha pins s σ H _ I h) fun v s1 ⟨x, H1, I1, r1, q1⟩ => ho pins s1 σ H1 x v Q I1 r1 q1)
theorem opI {f : Value -> Value -> Sem Value} {C : Int -> Int -> Prop} {g : Int -> Int -> Int}
   (rule : ∀ (i j : Int) (t u : Tok) (s : Shared) (Q : Value -> Shared -> Prop) (E : Value -> Shared -> Prop), C i j -> Q (.int (g i j) s.toks) { s with toks := s.toks + 1 } -> wpAny (model X.prog X.w) X.A (f (.int i t) (.int j u)) Q E s) :
   OpR X f (rI C fun i j => .int (g i j)) := by
 intro pins s σ H x y v u Q I rx ry h
 obtain ⟨i, j, rfl, rfl, hc, q⟩ := h
 obtain ⟨t, rfl⟩ := rx
 obtain ⟨t', rfl⟩ := ry
 exact rule i j t t' s _ _ hc ⟨.int (g i j), H, I.tok _, ⟨_, rfl⟩, q⟩
theorem opI0 {f : Value -> Value -> Sem Value} {g : Int -> Int -> Int}
   (rule : ∀ (i j : Int) (t u : Tok) (s : Shared) (Q : Value -> Shared -> Prop) (E : Value -> Shared -> Prop), Q (.int (g i j) s.toks) { s with toks := s.toks + 1 } -> wpAny (model X.prog X.w) X.A (f (.int i t) (.int j u)) Q E s) :
   OpR X f (rI0 fun i j => .int (g i j)) := by
 intro pins s σ H x y v u Q I rx ry h
 obtain ⟨i, j, rfl, rfl, q⟩ := h
 obtain ⟨t, rfl⟩ := rx
 obtain ⟨t', rfl⟩ := ry
 exact rule i j t t' s _ _ ⟨.int (g i j), H, I.tok _, ⟨_, rfl⟩, q⟩
theorem opB0 {f : Value -> Value -> Sem Value} {g : Int -> Int -> Bool}
   (rule : ∀ (i j : Int) (t u : Tok) (s : Shared) (Q : Value -> Shared -> Prop) (E : Value -> Shared -> Prop), Q (.bool (g i j)) s -> wpAny (model X.prog X.w) X.A (f (.int i t) (.int j u)) Q E s) :
   OpR X f (rI0 fun i j => .bl (g i j)) := by
 intro pins s σ H x y v u Q I rx ry h
 obtain ⟨i, j, rfl, rfl, q⟩ := h
 obtain ⟨t, rfl⟩ := rx
 obtain ⟨t', rfl⟩ := ry
 exact rule i j t t' s _ _ ⟨.bl (g i j), H, I, rfl, q⟩
def CDiv (i j : Int) : Prop := 0 < j /\ j < 1073741824
def CPow (i j : Int) : Prop := 0 <= j /\ j <= 1000000 /\ i.natAbs < 2 ^ 64
def CMul (i j : Int) : Prop := (-(2 ^ 64) < i /\ i < 2 ^ 64) \/ (-(2 ^ 64) < j /\ j < 2 ^ 64)
theorem CMul.ok {i j : Int} (h : CMul i j) : IntMulOk i j := by
 rcases h with ⟨h1, h2⟩ | ⟨h1, h2⟩
 . exact .of_left (intBits_le_64 h1 h2)
 . exact .of_right (intBits_le_64 h1 h2)
theorem yJw : OpR X (binaryOp .Add) (rI0 fun i j => .int (i + j)) := opI0 fun _ _ _ _ _ _ _ q => add_int q
theorem op_sub : OpR X (binaryOp .Sub) (rI0 fun i j => .int (i - j)) := opI0 fun _ _ _ _ _ _ _ q => sub_int q
theorem op_mul : OpR X (binaryOp .Mult) (rI CMul fun i j => .int (i * j)) := opI fun _ _ _ _ _ _ _ hc q => mul_int q hc.ok
theorem yZz : OpR X (binaryOp .FloorDiv) (rI CDiv fun i j => .int (i / j)) := opI fun i j _ _ _ _ _ hc q => by
 have h1 : (0 : Int) < j := hc.1
 have h2 : j < 1073741824 := hc.2
 exact floordiv_int (by omega) (by rw [Int.fdiv_eq_ediv_of_nonneg i (by omega)]; exact q) (.inl (PyProof.noPylong_small (by omega)))
theorem yWw : OpR X (binaryOp .Mod) (rI (fun _ j => 0 < j) fun i j => .int (i % j)) := opI fun i j _ _ _ _ _ hc q => by
 have h1 : (0 : Int) < j := hc
 exact mod_int' (by omega) (by rw [Int.fmod_eq_emod_of_nonneg i (by omega)]; exact q)
theorem op_pow : OpR X (binaryOp .Pow) (rI CPow fun i j => .int (i ^ j.toNat)) := opI fun _ _ _ _ _ _ _ hc q => pow_int_small hc.1 hc.2.1 hc.2.2 q
theorem unI {f : Value -> Sem Value} {g : Int -> Int}
   (rule : ∀ (i : Int) (t : Tok) (s : Shared) (Q : Value -> Shared -> Prop) (E : Value -> Shared -> Prop), Q (.int (g i) s.toks) { s with toks := s.toks + 1 } -> wpAny (model X.prog X.w) X.A (f (.int i t)) Q E s) :
   UnR X f (rU fun i => .int (g i)) := by
 intro pins s σ H x v Q I rx h
 obtain ⟨i, rfl, q⟩ := h
 obtain ⟨t, rfl⟩ := rx
 exact rule i t s _ _ ⟨.int (g i), H, I.tok _, ⟨_, rfl⟩, q⟩
theorem un_neg : UnR X (unaryOp .USub) (rU fun i => .int (-i)) := unI fun _ _ _ _ _ q => neg_int q
end
def scal : V -> V -> Bool
 | .non, .non => true | .non, .int _ => true | .int _, .non => true | .non, .bl _ => true | .bl _, .non => true | .non, .str _ => true | .str _, .non => true
 | .int _, .int _ => true | .bl _, .bl _ => true | .str _, .str _ => true | .byt _, .byt _ => true
 | .int _, .str _ => true | .str _, .int _ => true | .bl _, .str _ => true | .str _, .bl _ => true
 | _, _ => false
def rEq : R2 := fun x y H Q => scal x y = true /\ Q (.bl (decide (x = y))) H
def rNe : R2 := fun x y H Q => scal x y = true /\ Q (.bl (!decide (x = y))) H
theorem dec_int {i j : Int} : decide (V.int i = V.int j) = (i == j) := by
 rw [Bool.eq_iff_iff]
 simp
theorem dec_bl {i j : Bool} : decide (V.bl i = V.bl j) = (i == j) := by
 rw [Bool.eq_iff_iff]
 simp
theorem dec_str {i j : Str} : decide (V.str i = V.str j) = (i == j) := by
 rw [Bool.eq_iff_iff]
 simp
theorem dec_byt {i j : Array UInt8} : decide (V.byt i = V.byt j) = (i.toList == j.toList) := by
 rw [Bool.eq_iff_iff]
 cases i
 cases j
 simp
section
variable {X : Cx} {a b c : Expr} {ta tb tc : TE} {pos : Pos}
theorem zJq {pins : List (Addr × Obj)} {σ : St} {H : Hp} {s : Shared} {Q : VK} {k k' : Bool} (I : Inv X pins σ H s) (q : Q (.bl k) H) (e : k = k') : EP X pins σ Q (.bool k') s := by
 subst e
 exact ⟨.bl k, H, I, rfl, q⟩
theorem op_eq : OpR X (compareOp .Eq) rEq := by
 intro pins s σ H x y v u Q I rx ry h
 obtain ⟨hs, q⟩ := h
 cases x with
 | non =>
   cases rx
   cases y with
   | non => cases ry; exact PySem.EqNone.eq_none_none (zJq I q (by simp))
   | bl j => cases ry; exact PySem.EqNone.eq_none_bool (zJq I q (by simp))
   | int j => obtain ⟨t', rfl⟩ := ry; exact PySem.EqNone.eq_none_int (zJq I q (by simp))
   | str j => obtain ⟨t', rfl⟩ := ry; exact PySem.EqNone.eq_none_str (zJq I q (by simp))
   | _ => exact absurd (show false = true from hs) Bool.false_ne_true
 | bl i =>
   cases rx
   cases y with
   | non => cases ry; exact PySem.EqNone.eq_bool_none (zJq I q (by simp))
   | bl j => cases ry; exact eq_bool (zJq I q dec_bl)
   | str j => obtain ⟨t', rfl⟩ := ry; exact PySem.EqMixed.eq_bool_str (zJq I q (by simp))
   | _ => exact absurd (show false = true from hs) Bool.false_ne_true
 | int i =>
   obtain ⟨t, rfl⟩ := rx
   cases y with
   | non => cases ry; exact PySem.EqNone.eq_int_none (zJq I q (by simp))
   | int j => obtain ⟨t', rfl⟩ := ry; exact eq_int (zJq I q dec_int)
   | str j => obtain ⟨t', rfl⟩ := ry; exact PySem.EqMixed.eq_int_str (zJq I q (by simp))
   | _ => exact absurd (show false = true from hs) Bool.false_ne_true
 | str i =>
   obtain ⟨t, rfl⟩ := rx
   cases y with
   | non => cases ry; exact PySem.EqNone.eq_str_none (zJq I q (by simp))
   | bl j => cases ry; exact PySem.EqMixed.eq_str_bool (zJq I q (by simp))
   | int j => obtain ⟨t', rfl⟩ := ry; exact PySem.EqMixed.eq_str_int (zJq I q (by simp))
   | str j => obtain ⟨t', rfl⟩ := ry; exact eq_str (zJq I q dec_str)
   | _ => exact absurd (show false = true from hs) Bool.false_ne_true
 | byt i =>
   obtain ⟨t, rfl⟩ := rx
   cases y with
   | byt j => obtain ⟨t', rfl⟩ := ry; exact PySem.W.eq_bytes (zJq I q dec_byt)
   | _ => exact absurd (show false = true from hs) Bool.false_ne_true
 | _ => cases y <;> exact absurd (show false = true from hs) Bool.false_ne_true
theorem op_ne : OpR X (compareOp .NotEq) rNe := by
 intro pins s σ H x y v u Q I rx ry h
 obtain ⟨hs, q⟩ := h
 cases x with
 | non =>
   cases rx
   cases y with
   | non => cases ry; exact PySem.EqNone.ne_none_none (zJq I q (by simp))
   | bl j => cases ry; exact PySem.EqNone.ne_none_bool (zJq I q (by simp))
   | int j => obtain ⟨t', rfl⟩ := ry; exact PySem.EqNone.ne_none_int (zJq I q (by simp))
   | str j => obtain ⟨t', rfl⟩ := ry; exact PySem.EqNone.ne_none_str (zJq I q (by simp))
   | _ => exact absurd (show false = true from hs) Bool.false_ne_true
 | bl i =>
   cases rx
   cases y with
   | non => cases ry; exact PySem.EqNone.ne_bool_none (zJq I q (by simp))
   | bl j => cases ry; exact ne_bool (zJq I q (congrArg not dec_bl))
   | str j => obtain ⟨t', rfl⟩ := ry; exact PySem.EqMixed.ne_bool_str (zJq I q (by simp))
   | _ => exact absurd (show false = true from hs) Bool.false_ne_true
 | int i =>
   obtain ⟨t, rfl⟩ := rx
   cases y with
   | non => cases ry; exact PySem.EqNone.ne_int_none (zJq I q (by simp))
   | int j => obtain ⟨t', rfl⟩ := ry; exact ne_int (zJq I q (congrArg not dec_int))
   | str j => obtain ⟨t', rfl⟩ := ry; exact PySem.EqMixed.ne_int_str (zJq I q (by simp))
   | _ => exact absurd (show false = true from hs) Bool.false_ne_true
 | str i =>
   obtain ⟨t, rfl⟩ := rx
   cases y with
   | non => cases ry; exact PySem.EqNone.ne_str_none (zJq I q (by simp))
   | bl j => cases ry; exact PySem.EqMixed.ne_str_bool (zJq I q (by simp))
   | int j => obtain ⟨t', rfl⟩ := ry; exact PySem.EqMixed.ne_str_int (zJq I q (by simp))
   | str j => obtain ⟨t', rfl⟩ := ry; exact ne_str (zJq I q (congrArg not dec_str))
   | _ => exact absurd (show false = true from hs) Bool.false_ne_true
 | byt i =>
   obtain ⟨t, rfl⟩ := rx
   cases y with
   | byt j => obtain ⟨t', rfl⟩ := ry; exact PySem.W.ne_bytes (zJq I q (congrArg not dec_byt))
   | _ => exact absurd (show false = true from hs) Bool.false_ne_true
 | _ => cases y <;> exact absurd (show false = true from hs) Bool.false_ne_true
theorem op_lt : OpR X (compareOp .Lt) (rI0 fun i j => .bl (decide (i < j))) := opB0 fun _ _ _ _ _ _ _ q => lt_int q
theorem xJz : OpR X (compareOp .LtE) (rI0 fun i j => .bl (decide (i <= j))) := opB0 fun _ _ _ _ _ _ _ q => le_int q
theorem OpR.or {f : Value -> Value -> Sem Value} {r r' : R2} (h : OpR X f r) (h' : OpR X f r') : OpR X f (fun x y H Q => r x y H Q \/ r' x y H Q) := by
 intro pins s σ H x y v u Q I rx ry q
 rcases q with q | q
 . exact h pins s σ H x y v u Q I rx ry q
 . exact h' pins s σ H x y v u Q I rx ry q
theorem nomark (b : Expr) {op : CmpOp} (h : op ≠ .In := by decide) (h2 : op ≠ .NotIn := by decide) : behindInMarks op b = false := by
 have e1 : (op == CmpOp.In) = false := by cases op <;> first | rfl | exact absurd rfl h
 have e2 : (op == CmpOp.NotIn) = false := by cases op <;> first | rfl | exact absurd rfl h2
 cases b <;> simp [behindInMarks, e1, e2]
def tTest (t : TE) : TT := fun σ H Q => t σ H fun x H' => ∃ k, x = .bl k /\ Q k H'
theorem yQj {op : CmpOp} {r : R2} (ho : OpR X (compareOp op) r) (ha : PE X a ta) (hb : PE X b tb) (hm : behindInMarks op b = false) : PT X (.Compare a [op] [b] pos) (tTest (tOp r ta tb)) := by
 intro pins s σ H Q I h
 refine wpAny_isTrue_Compare1 (thn (ha pins s σ H _ I h) fun v s1 ⟨x, H1, I1, r1, q1⟩ => thn (hb pins s1 σ H1 _ I1 q1) fun u s2 ⟨y, H2, I2, r2, q2⟩ =>
   thn (ho pins s2 σ H2 x y v u _ I2 r1 r2 q2) fun c s3 ⟨z, H3, I3, r3, k, e, q3⟩ => ?_) hm
 subst e
 cases r3
 exact wpAny_truthy_bool ⟨H3, I3, q3⟩
def tChain (r r' : R2) (ta tb tc : TE) : TE := fun σ H Q => ta σ H fun x H1 => tb σ H1 fun y H2 => r x y H2 fun z H3 => ∃ k, z = .bl k /\
 (if k = true then tc σ H3 fun w' H4 => r' y w' H4 Q else Q (.bl false) H3)
theorem yJz {op op' : CmpOp} {r r' : R2} (ho : OpR X (compareOp op) r) (ho' : OpR X (compareOp op') r') (ha : PE X a ta) (hb : PE X b tb) (hc : PE X c tc)
   (hm : lastMarks [op, op'] [b, c] = false := by with_unfolding_all rfl) : PT X (.Compare a [op, op'] [b, c] pos) (tTest (tChain r r' ta tb tc)) := by
 intro pins s σ H Q I h
 refine isTrue_chain (thn (ha pins s σ H _ I h) fun v s1 ⟨x, H1, I1, r1, q1⟩ => test_link (thn (hb pins s1 σ H1 _ I1 q1) fun u s2 ⟨y, H2, I2, r2, q2⟩ =>
   thn (ho pins s2 σ H2 x y v u _ I2 r1 r2 q2) fun d s3 ⟨z, H3, I3, r3, k, e, q3⟩ => ?_)) hm
 subst e
 cases r3
 refine wpAny_truthy_bool ?_
 cases k with
 | false =>
   obtain ⟨k', e', q'⟩ := q3
   cases e'
   exact ite_ff ⟨H3, I3, q'⟩
 | true =>
   refine ite_tt (test_last (thn (hc pins s3 σ H3 _ I3 q3) fun w' s4 ⟨z', H4, I4, r4, q4⟩ => thn (ho' pins s4 σ H4 y z' u w' _ I4 r2 r4 q4) fun d' s5 ⟨z2, H5, I5, r5, k2, e2, q5⟩ => ?_))
   subst e2
   cases r5
   exact wpAny_truthy_bool ⟨H5, I5, q5⟩
def TruV (K : PySem.W.Frag) (x : V) (H : Hp) (k : Bool) : Prop :=
 match x with
 | .non => k = false
 | .bl b => k = b
 | .int i => k = (i != 0)
 | .str y => y.length <= sizeLine /\ k = ((y.length : Int) != 0)
 | .byt y => y.size <= sizeLine /\ k = ((y.size : Int) != 0)
 | .ref p => (∃ xs, SqL K H p xs /\ k = !xs.isEmpty) \/ (∃ xs, SqT K H p xs /\ k = !xs.isEmpty) \/ ∃ kvs, H p = some (.dK kvs) /\ k = !kvs.isEmpty
 | _ => False
theorem isEmpty_kv {κ : Type} {kvs : List (κ × V)} {vs : List (κ × Value)} (r : KV kvs vs) : (!vs.isEmpty) = !kvs.isEmpty := by
 cases r <;> rfl
theorem isEmpty_of {xs : List V} {its : List Value} (r : Vals xs its) : (!its.toArray.isEmpty) = !xs.isEmpty := by
 cases r <;> simp
theorem line63 : (sizeLine : Nat) < 2 ^ 63 := by rw [sizeLine_eq]; decide
theorem tru_ok : TruR X (fun x H Q => ∃ k, TruV X.K x H k /\ Q k H) := by
 intro pins s σ H x v Q I rx h
 obtain ⟨k, e, q⟩ := h
 have hl := line63
 have hs : sizeLine = 16777216 := sizeLine_eq
 cases x with
 | non =>
   cases rx
   have e' : k = false := e
   subst e'
   exact truthy_none ⟨H, I, q⟩
 | bl b =>
   cases rx
   have e' : k = b := e
   subst e'
   exact wpAny_truthy_bool ⟨H, I, q⟩
 | int i =>
   obtain ⟨t, rfl⟩ := rx
   have e' : k = (i != 0) := e
   subst e'
   exact PySem.P.truthy_int ⟨H, I, q⟩
 | str y =>
   obtain ⟨t, rfl⟩ := rx
   obtain ⟨hy, e'⟩ : y.length <= sizeLine /\ k = ((y.length : Int) != 0) := e
   subst e'
   exact PySem.P.truthy_str (by omega) ⟨H, I.tok _, q⟩
 | byt y =>
   obtain ⟨t, rfl⟩ := rx
   obtain ⟨hy, e'⟩ : y.size <= sizeLine /\ k = ((y.size : Int) != 0) := e
   subst e'
   exact PySem.W.truthy_bytes (by omega) ⟨H, I.tok _, q⟩
 | ref p =>
   cases rx
   have e' : (∃ xs, SqL X.K H p xs /\ k = !xs.isEmpty) \/ (∃ xs, SqT X.K H p xs /\ k = !xs.isEmpty) \/ ∃ kvs, H p = some (.dK kvs) /\ k = !kvs.isEmpty := e
   rcases e' with ⟨xs, hx, e'⟩ | ⟨xs, hx, e'⟩ | ⟨kvs, hx, e'⟩
   . subst e'
     obtain ⟨its, r, pl, hz⟩ := I.list hx
     have hlen := r.length
     exact wpAny_truthy_list pl.isList (by simp only [List.size_toArray]; omega) ⟨H, I.tok _, by rw [isEmpty_of r]; exact q⟩
   . subst e'
     obtain ⟨its, r, pl, hz⟩ := I.tuple hx
     have hlen := r.length
     exact truthy_tuple pl (by simp only [List.size_toArray]; omega) ⟨H, I.tok _, by rw [isEmpty_of r]; exact q⟩
   . subst e'
     obtain ⟨hz, hS, vs, r, m⟩ : kvs.length <= sizeLine /\ (p == sysModules) = false /\ ∃ vs, KV kvs vs /\ s.heap.DictOf (mixKind X.prog X.w) p vs := I.hok p _ hx
     have hlen : kvs.length = vs.length := Paired.length r
     exact wpAny_truthy_dict hS m (by omega) ⟨H, I.tok _, by rw [isEmpty_kv r]; exact q⟩
 | _ => exact (show False from e).elim
theorem pt_truth (ha : PE X a ta) (he : ∀ whole, isTrue a X.env whole = (do let v <- whole; standAt a.pos; holding [v] (truthy v))) :
   PT X a (fun σ H Q => ta σ H fun x H' => ∃ k, TruV X.K x H' k /\ Q k H') := by
 intro pins s σ H Q I h
 exact isTrue_plain (thn (ha pins s σ H _ I h) fun v s1 ⟨x, H1, I1, r1, q1⟩ => tru_ok pins s1 σ H1 x v Q I1 r1 q1) (he _)
theorem vals1 {x : V} {us : List Value} (r : Vals [x] us) : ∃ u, us = [u] /\ RelV x u := by
 cases r with
 | cons r1 r2 => cases r2; exact ⟨_, rfl, r1⟩
theorem vals2 {x y : V} {us : List Value} (r : Vals [x, y] us) : ∃ u w', us = [u, w'] /\ RelV x u /\ RelV y w' := by
 cases r with
 | cons r1 r2 =>
   cases r2 with
   | cons r3 r4 => cases r4; exact ⟨_, _, rfl, r1, r3⟩
theorem call_max2 (hc : X.calm = true) : CallR X (.builtin "max") (fun xs H Q => ∃ i j, xs = [.int i, .int j] /\ Q (.int (if j > i then j else i)) H) := by
 intro pins s σ H xs us Q I r h
 obtain ⟨i, j, rfl, q⟩ := h
 obtain ⟨u, w', rfl, ⟨t, rfl⟩, ⟨t', rfl⟩⟩ := vals2 r
 refine max_two_ints (I.ok.hd hc) fun h' tk k => ⟨_, H, I.kept k, ?_, q⟩
 by_cases hj : j > i
 . rw [if_pos hj, if_pos hj]; exact ⟨_, rfl⟩
 . rw [if_neg hj, if_neg hj]; exact ⟨_, rfl⟩
theorem call_min2 (hc : X.calm = true) : CallR X (.builtin "min") (fun xs H Q => ∃ i j, xs = [.int i, .int j] /\ Q (.int (if j < i then j else i)) H) := by
 intro pins s σ H xs us Q I r h
 obtain ⟨i, j, rfl, q⟩ := h
 obtain ⟨u, w', rfl, ⟨t, rfl⟩, ⟨t', rfl⟩⟩ := vals2 r
 refine min_two_ints (I.ok.hd hc) fun h' tk k => ⟨_, H, I.kept k, ?_, q⟩
 by_cases hj : j < i
 . rw [if_pos hj, if_pos hj]; exact ⟨_, rfl⟩
 . rw [if_neg hj, if_neg hj]; exact ⟨_, rfl⟩
theorem call_int1 : CallR X (.type "int") (fun xs H Q => (∃ i, xs = [.int i] /\ Q (.int i) H) \/ ∃ k, xs = [.bl k] /\ Q (.int (if k then 1 else 0)) H) := by
 intro pins s σ H xs us Q I r h
 rcases h with ⟨i, rfl, q⟩ | ⟨k, rfl, q⟩
 . obtain ⟨u, rfl, t, rfl⟩ := vals1 r
   exact call_int_int ⟨.int i, H, I, ⟨_, rfl⟩, q⟩
 . obtain ⟨u, rfl, r1⟩ := vals1 r
   cases r1
   exact call_int_bool ⟨.int (if k then 1 else 0), H, I.tok _, ⟨_, rfl⟩, q⟩
end
structure ObjM (h : Heap) (x dx C : Addr) (mA : Str -> Option Value) : Prop where
 obj : h.get? x = some (PySem.W.instObj C dx)
 ns : h.Ns1 dx mA
 ne : dx ≠ x
theorem lookIn_ns {h : Heap} {dx : Addr} {mA : Str -> Option Value} (n : h.Ns1 dx mA) : ∃ od, h.get? dx = some od /\ ∀ name, PySem.W.lookIn name od = some (mA name) := by
 obtain ⟨o, es, ep, ho, hd, hk, _, hm⟩ := n
 refine ⟨o, ho, fun name => ?_⟩
 have e := hm name
 unfold nsFind findBy at e
 rw [<- Array.find?_toList] at e
 unfold PySem.W.lookIn
 rw [hd]
 dsimp only
 split
 . rename_i y q
   rw [q] at e
   exact congrArg some e
 . rename_i q
   rw [q] at e
   have a : es.toList.any (·.refKey) = false := by
     rw [List.any_eq_false]
     intro y hy
     obtain ⟨z, t, hkey⟩ := hk y (Array.mem_toList_iff.mp hy)
     simp [DictEntry.refKey, hkey]
   have a' : ¬ es.toList.any (·.refKey) = true := by rw [a]; exact Bool.false_ne_true
   rw [if_neg a']
   exact congrArg some e
theorem ObjM.look {h : Heap} {x dx C : Addr} {mA : Str -> Option Value} (I : ObjM h x dx C mA) : ∃ od, PySem.W.InstAt h x (PySem.W.instObj C dx) C (some od) /\ ∀ name, PySem.W.lookIn name od = some (mA name) :=
 let ⟨od, ho, hl⟩ := lookIn_ns I.ns
 ⟨od, ⟨I.obj, rfl, rfl, ho⟩, hl⟩
section
variable {prog : Program} {w : World} {A : Around} {E : Value -> Shared -> Prop} {s : Shared} {K : PySem.W.Frag} {x dx C f : Addr} {mA : Str -> Option Value} {name : Str} {v : Value}
theorem get_map {expr : Bool} {Q : Value -> Shared -> Prop} (X : K.In s.heap) (I : ObjM s.heap x dx C mA) (hg : PySem.W.plainGet K C name = true) (hh : PySem.W.hasDictIn K C = true)
   (ha : PySem.W.findIn K (.ref C) name = some none) (hv : mA name = some v) (hv' : PySem.W.handedIn v = true) (h : Q v { s with toks := s.toks + 1 }) :
   wpAny (model prog w) A (getAttr (.ref x) name expr) Q E s := by
 obtain ⟨od, J, hl⟩ := I.look
 exact PySem.W.get_value X J (PySem.W.plainGet_of hg).1 (PySem.W.findObj_own hh ha rfl (by rw [hl, hv])) hv' h
theorem get_meth {pl : Sem Bool} {Q : Value × List Value -> Shared -> Prop} (X : K.In s.heap) (I : ObjM s.heap x dx C mA) (hg : PySem.W.plainGet K C name = true)
   (hf : PySem.W.findIn K (.ref C) name = some (some (.ref f))) (ht : PySem.W.isFn K (.ref f) = true) (hv : mA name = none) (h : Q (.ref f, [.ref x]) s) :
   wpAny (model prog w) A (getMethod (.ref x) name pl) Q E s := by
 obtain ⟨od, J, hl⟩ := I.look
 exact PySem.W.method_fn X J (PySem.W.plainGet_of hg).1 (PySem.W.plainGet_of hg).2 hf (beq_iff_eq.mp ht) (by show (PySem.W.lookIn name od).map (·.isSome) = some false; rw [hl, hv]; rfl) h
theorem set_map {ns : List Str} {Q : Unit -> Shared -> Prop} (X : K.In s.heap) (I : ObjM s.heap x dx C mA)
   (hs : PySem.W.findIn K (.ref C) "__setattr__" = some (some (.builtin "object.__setattr__"))) (hp : PySem.W.plainOver K C = true) (ht : PySem.W.takerIn K C name = some none) (hh : PySem.W.hasDictIn K C = true)
   (hw : PySem.Within mA ns) (hsz : ns.length <= sizeLine)
   (h : ∀ h', ObjM h' x dx C (fun y => if y = name then some v else mA y) -> Heap.SameBut dx s.heap h' -> Q () { s with heap := h', toks := s.toks + 2 }) :
   wpAny (model prog w) A (setAttr (.ref x) name v) Q E s := by
 obtain ⟨od, J, hl⟩ := I.look
 refine PySem.W.set_plain X J hs (PySem.W.osa_open (s := { s with toks := s.toks + 1 }) (r := none) X J hp ht fun b => ?_)
 obtain ⟨cd, hc, hd'⟩ := PySem.W.any_some hh
 have hx : s.heap.get? x = some ⟨.ref C, some dx, .plain, #[]⟩ := I.obj
 refine wpAny_bind (wpAny_pure (wpAny_bind (wpAny_bind (wpAny_loadPart hx (wpAny_bind (PySem.W.Looks.here (s := { s with toks := s.toks + 1 }) (PySem.W.looks_clsIn X hc) ?_))))))
 rw [hd']
 refine wpAny_pure (a := some dx) (wpAny_bind (wpAny_pure (wpAny_bind ?_)))
 refine wpAny_nsSet1 (s := { s with toks := s.toks + 1 }) I.ns fun h' hn2 hs2 => ?_
 obtain ⟨oD, esD, epD, hoD, hdD, hcD⟩ := hn2.count (PySem.Within.cons name v hw)
 refine wpAny_bind (wpAny_lookBehind hoD (by rw [hdD]; exact pastItsLine_dict (Nat.le_trans hcD (by rw [List.length_cons]; omega))) ?_)
 exact wpAny_pure (h _ ⟨(hs2.2 _ (Ne.symm I.ne)).trans I.obj, hn2, I.ne⟩ hs2)
theorem make_map {R : Result -> Shared -> Prop} {vs : List Value} {kw : List (Str × Value)} (X : K.In s.heap) (hm : PySem.W.makesIn K C = true)
   (hi : PySem.W.findIn K (.ref C) "__init__" = some (some (.ref f))) (hf : PySem.W.typeIn K (.ref f) = some (.type "function"))
   (h : codeAny (model prog w) (A.under (.builtin "type.__call__" ⟨.ref C :: vs, kw⟩)) (.call (.ref f) ⟨.ref (s.heap.objs.size + 1) :: vs, kw⟩) (PySem.W.InitBack (s.heap.objs.size + 1) R)
     { s with heap := (s.heap.push PySem.W.emptyDict).push (PySem.W.instObj C s.heap.objs.size) }) :
   codeAny (model prog w) A (.call (.ref C) ⟨vs, kw⟩) R s := by
 obtain ⟨hh, g, d, t, os⟩ := s
 exact PySem.W.make_core (PySem.W.makes_of X hm) (PySem.W.looks_findIn X hi) (fun self => PySem.W.bind_fn X self hf) (.inl rfl) h
end
def putF (f : Str) (v : V) : List (Str × V) -> List (Str × V)
 | [] => [(f, v)]
 | (g, x) :: r => if g = f then (g, v) :: r else (g, x) :: putF f v r
theorem wQz (f g : Str) (v : V) : ∀ fs : List (Str × V), (putF f v fs).lookup g = if g = f then some v else fs.lookup g
 | [] => by
   show List.lookup g [(f, v)] = _
   by_cases h : g = f
   . have hb : (g == f) = true := beq_iff_eq.mpr h
     simp only [List.lookup, hb, if_pos h]
   . have hb : (g == f) = false := beq_eq_false_iff_ne.mpr h
     simp only [List.lookup, hb, if_neg h]
 | (k, x) :: r => by
   have ih := wQz f g v r
   rw [show putF f v ((k, x) :: r) = (if k = f then (k, v) :: r else (k, x) :: putF f v r) from rfl]
   by_cases hk : k = f
   . rw [if_pos hk]
     by_cases h : g = k
     . have hb : (g == k) = true := beq_iff_eq.mpr h
       simp only [List.lookup, hb, if_pos (h.trans hk)]
     . have hb : (g == k) = false := beq_eq_false_iff_ne.mpr h
       simp only [List.lookup, hb, if_neg (fun e : g = f => h (e.trans hk.symm))]
   . rw [if_neg hk]
     by_cases h : g = k
     . have hb : (g == k) = true := beq_iff_eq.mpr h
       simp only [List.lookup, hb, if_neg (fun e : g = f => hk (h.symm.trans e))]
     . have hb : (g == k) = false := beq_eq_false_iff_ne.mpr h
       simp only [List.lookup, hb]
       exact ih
theorem wQk (f : Str) (v : V) : ∀ fs : List (Str × V), f ∈ (putF f v fs).map (·.1) /\ ∀ g, g ∈ fs.map (·.1) -> g ∈ (putF f v fs).map (·.1)
 | [] => ⟨by simp [putF], fun g h => by simp at h⟩
 | (k, x) :: r => by
   obtain ⟨i1, i2⟩ := wQk f v r
   rw [show putF f v ((k, x) :: r) = (if k = f then (k, v) :: r else (k, x) :: putF f v r) from rfl]
   by_cases hk : k = f
   . rw [if_pos hk]
     subst hk
     exact ⟨by simp, fun g h => by simpa using h⟩
   . rw [if_neg hk]
     refine ⟨?_, fun g h => ?_⟩
     . rw [List.map_cons]
       exact List.mem_cons_of_mem _ i1
     . rw [List.map_cons] at h ⊢
       rcases List.mem_cons.mp h with e | e
       . exact List.mem_cons.mpr (.inl e)
       . exact List.mem_cons_of_mem _ (i2 g e)
theorem wQj (f : Str) (v : V) : ∀ fs : List (Str × V), (putF f v fs).length <= fs.length + 1
 | [] => by simp [putF]
 | (k, x) :: r => by
   have ih := wQj f v r
   rw [show putF f v ((k, x) :: r) = (if k = f then (k, v) :: r else (k, x) :: putF f v r) from rfl]
   by_cases hk : k = f
   . rw [if_pos hk, List.length_cons, List.length_cons]; omega
   . rw [if_neg hk, List.length_cons, List.length_cons]; omega
theorem RelO.some_of {v : V} {o : Option Value} (r : RelO (some v) o) : ∃ u, o = some u /\ RelV v u := by
 cases o with
 | none => exact (show False from r).elim
 | some u => exact ⟨u, rfl, r⟩
theorem RelO.none_of {o : Option Value} (r : RelO none o) : o = none := by
 cases o with
 | none => rfl
 | some u => exact (show False from r).elim
theorem handed_of {v : V} {u : Value} (r : RelV v u) : PySem.W.handedIn u = true := by
 cases v with
 | non => cases (show u = Value.none from r); rfl
 | bl b => cases (show u = Value.bool b from r); rfl
 | int i => obtain ⟨t, e⟩ := (show ∃ t, u = Value.int i t from r); cases e; rfl
 | str x => obtain ⟨t, e⟩ := (show ∃ t, u = Value.str x t from r); cases e; rfl
 | byt b => obtain ⟨t, e⟩ := (show ∃ t, u = Value.bytes b t from r); cases e; rfl
 | flt b => obtain ⟨t, e⟩ := (show ∃ t, u = Value.float b t from r); cases e; rfl
 | ref a => cases (show u = Value.ref a from r); rfl
 | ty n => cases (show u = Value.type n from r); rfl
section
variable {P : Program} {w : World} {H H' : Hp} {h h' : Heap} {a C dx : Addr} {fs fs' : List (Str × V)}
theorem ins_get (hok : HOk P w H h) (e : H a = some (.ins C dx fs)) : ∃ mA, ObjM h a dx C mA /\ (∀ f, RelO (fs.lookup f) (mA f)) /\ PySem.Within mA (fs.map (·.1)) /\ fs.length <= 1000 /\ H dx = some (.own a) := by
 obtain ⟨d, z, ne, ob, mA, n, r, q⟩ := (show ObjOk P w H h a (.ins C dx fs) from hok a _ e)
 exact ⟨mA, ⟨ob, n, ne⟩, r, q, z, d⟩
end
structure Cls (K : PySem.W.Frag) (C : Addr) : Prop where
 pg : PySem.W.plainGet K C Str.empty = true
 hd : PySem.W.hasDictIn K C = true
 po : PySem.W.plainOver K C = true
 sa : PySem.W.findIn K (.ref C) "__setattr__" = some (some (.builtin "object.__setattr__"))
theorem Cls.get {K : PySem.W.Frag} {C : Addr} (c : Cls K C) (f : Str) : PySem.W.plainGet K C f = true := c.pg
def NoAttr (K : PySem.W.Frag) (C : Addr) (f : Str) : Prop := PySem.W.findIn K (.ref C) f = some none
theorem NoAttr.taker {K : PySem.W.Frag} {C : Addr} {f : Str} (n : NoAttr K C f) : PySem.W.takerIn K C f = some none := by
 unfold PySem.W.takerIn
 rw [show PySem.W.findIn K (.ref C) f = some none from n]
 rfl
structure Con (K : PySem.W.Frag) (C : Addr) (f : Str) (v : V) (u : Value) : Prop where
 at_ : PySem.W.findIn K (.ref C) f = some (some u)
 rel : RelV v u
 get : PySem.W.specialIn K u "__get__" = some none
 cp : PySem.W.copiedNames.contains f = false
structure Meth (K : PySem.W.Frag) (C : Addr) (m : Str) (f : Addr) : Prop where
 at_ : PySem.W.findIn K (.ref C) m = some (some (.ref f))
 fn : PySem.W.isFn K (.ref f) = true
 kp : PySem.W.keepIn K (.ref f) = true
section
variable {X : Cx} {pins : List (Addr × Obj)} {σ : St} {H : Hp} {s : Shared} {a C dx : Addr} {fs : List (Str × V)} {f : Str} {v : V} {A : Around} {E : Value -> Shared -> Prop}
theorem getattr_ok {b : Bool} {Q : Value -> Shared -> Prop} (I : Inv X pins σ H s) (e : H a = some (.ins C dx fs)) (c : Cls X.K C) (n : NoAttr X.K C f) (l : fs.lookup f = some v)
   (h : ∀ u s', Inv X pins σ H s' -> RelV v u -> Q u s') : wpAny (model X.prog X.w) A (getAttr (.ref a) f b) Q E s := by
 obtain ⟨mA, O, r, _, _, _⟩ := ins_get I.hok e
 obtain ⟨u, hu, ru⟩ := RelO.some_of (v := v) (o := mA f) (by rw [<- l]; exact r f)
 exact get_map I.kIn O (c.get f) c.hd n hu (handed_of ru) (h u _ (I.tok _) ru)
theorem xZv {m : Str} {g : Addr} {pl : Sem Bool} {Q : Value × List Value -> Shared -> Prop} (I : Inv X pins σ H s) (e : H a = some (.ins C dx fs)) (c : Cls X.K C) (k : Meth X.K C m g) (l : fs.lookup m = none)
   (h : Q (.ref g, [.ref a]) s) : wpAny (model X.prog X.w) A (getMethod (.ref a) m pl) Q E s := by
 obtain ⟨mA, O, r, _, _, _⟩ := ins_get I.hok e
 have hn : mA m = none := RelO.none_of (by rw [<- l]; exact r m)
 exact get_meth I.kIn O (c.get m) k.at_ k.fn hn h
theorem setattr_ok {y : V} {u : Value} {Q : Unit -> Shared -> Prop} (I : Inv X pins σ H s) (e : H a = some (.ins C dx fs)) (c : Cls X.K C) (n : NoAttr X.K C f) (hl : fs.length < 1000) (ry : RelV y u)
   (h : ∀ s', Inv X pins σ (upd H a (.ins C dx (putF f y fs))) s' -> Q () s') : wpAny (model X.prog X.w) A (setAttr (.ref a) f u) Q E s := by
 obtain ⟨mA, O, r, wi, _, ho⟩ := ins_get I.hok e
 have hz : (fs.map (·.1)).length <= sizeLine := by rw [List.length_map, sizeLine_eq]; omega
 refine set_map I.kIn O c.sa c.po n.taker c.hd wi hz fun h' O' sb => h _ ?_
 have hd : ∃ o, h'.get? dx = some o := let ⟨o, _, _, e', _⟩ := O'.ns; ⟨o, e'⟩
 refine I.write (x := a) (e := dx) (by rw [e]; exact True.intro) (.inr ho) (fun b q hb z => (sb.2 b hb).trans z) hd ?_
 refine ⟨by rw [zQv O.ne]; exact ho, ?_, O.ne, O'.obj, _, O'.ns, fun g => ?_, fun g hg => ?_⟩
 . have := wQj f y fs; omega
 . show RelO ((putF f y fs).lookup g) (if g = f then some u else mA g)
   rw [wQz]
   by_cases q : g = f
   . rw [if_pos q, if_pos q]; exact ry
   . rw [if_neg q, if_neg q]; exact r g
 . by_cases q : g = f
   . rw [q]; exact (wQk f y fs).1
   . refine (wQk f y fs).2 g (wi g fun z => hg ?_)
     show (if g = f then some u else mA g) = none
     rw [if_neg q]; exact z
theorem Inv.made (I : Inv X pins σ H s) : Inv X pins σ (upd (upd H s.heap.objs.size (.own (s.heap.objs.size + 1))) (s.heap.objs.size + 1) (.ins C s.heap.objs.size []))
   { s with heap := (s.heap.push PySem.W.emptyDict).push (PySem.W.instObj C s.heap.objs.size) } := by
 have e1 : (s.heap.push PySem.W.emptyDict).get? s.heap.objs.size = some PySem.W.emptyDict := Heap.get?_push_size s.heap rfl
 have e2 : ((s.heap.push PySem.W.emptyDict).push (PySem.W.instObj C s.heap.objs.size)).get? (s.heap.objs.size + 1) = some (PySem.W.instObj C s.heap.objs.size) := by
   have := Heap.get?_push_size (s.heap.push PySem.W.emptyDict) (o := PySem.W.instObj C s.heap.objs.size) rfl
   rwa [Heap.size_push] at this
 have e3 : (s.heap.push PySem.W.emptyDict).Ns s.heap.objs.size (fun _ => none) := ⟨PySem.W.emptyDict, #[], _, e1, rfl, (fun e he => absurd he (by simp)), fun _ => rfl⟩
 have I1 := I.laid (a := s.heap.objs.size) (o := .own (s.heap.objs.size + 1)) (h' := s.heap.push PySem.W.emptyDict) (t' := s.toks) (fun b u q => Heap.get?_push_of_some _ q) (Nat.le_refl _) ⟨_, e1⟩
 refine I1.laid (a := s.heap.objs.size + 1) (o := .ins C s.heap.objs.size []) (t' := s.toks) (fun b u q => Heap.get?_push_of_some _ q) (Nat.le_of_eq (Heap.size_push _ _)) ?_
 have ne : s.heap.objs.size ≠ s.heap.objs.size + 1 := Nat.ne_of_lt (Nat.lt_succ_self _)
 refine ⟨by rw [zQv ne, zQz], Nat.zero_le _, ne, e2, fun _ => none, (Heap.Ns1.of_empty e3).at fun o q => Heap.get?_push_of_some _ q, fun _ => True.intro, fun y hy => absurd rfl hy⟩
theorem attr_of {prog : Program} {w : World} {env : Env} {e : Expr} {f : Str} {pos : Pos} {s : Shared} {Q : Value -> Shared -> Prop} (hb : attributeBase e f env (eval e env) = eval e env)
   (h : wpAny (model prog w) A (eval e env) (fun o s₁ => wpAny (model prog w) A (getAttr o f true) Q E s₁) E s) : wpAny (model prog w) A (eval (.Attribute e f pos) env) Q E s :=
 Attribute_any_ h (by rw [arm_eval_Attribute, hb])
end
def tFld (K : PySem.W.Frag) (ta : TE) (f : Str) : TE := fun σ H Q => ta σ H fun x H1 => ∃ a C dx fs v, x = .ref a /\ H1 a = some (.ins C dx fs) /\ Cls K C /\ NoAttr K C f /\ fs.lookup f = some v /\ Q v H1
def sFld (K : PySem.W.Frag) (ta tv : TE) (f : Str) : TS := fun D σ H => tv σ H fun y H1 => ta σ H1 fun x H2 => ∃ a C dx fs, x = .ref a /\ H2 a = some (.ins C dx fs) /\ Cls K C /\ NoAttr K C f /\ fs.length < 1000 /\
 D.nx σ (upd H2 a (.ins C dx (putF f y fs)))
section
variable {X : Cx} {o e value : Expr} {f : Str} {pos pos' tpos : Pos} {ta tv : TE}
theorem zZq (he : PE X e ta) (hb : attributeBase e f X.env (eval e X.env) = eval e X.env) : PE X (.Attribute e f pos) (tFld X.K ta f) := by
 intro pins s σ H Q I h
 refine attr_of hb (thn (he pins s σ H _ I h) fun u s1 ⟨x, H1, I1, rx, a, C, dx, fs, v, ex, ea, c, n, l, q⟩ => ?_)
 subst ex
 obtain rfl : u = Value.ref a := rx
 exact getattr_ok I1 ea c n l fun u' s2 I2 ru => ⟨v, H1, I2, ru, q⟩
theorem zKj (ha : PE X o ta) (hv : PE X value tv) (hs : swapsWith value (some (.Attribute o f pos')) pos.line X.env = pure false) : PS X (.Assign [.Attribute o f pos'] value pos) (sFld X.K ta tv f) := by
 intro pins s σ H D I h
 refine plainObj_wpAny_Assign_Attribute (thn (hv pins s σ H _ I h) fun u s1 ⟨y, H1, I1, ry, q⟩ => thn (ha pins s1 σ H1 _ I1 q) fun ov s2 ⟨x, H2, I2, rx, a, C, dx, fs, ex, ea, c, n, l, q2⟩ => ?_) hs
 subst ex
 obtain rfl : ov = Value.ref a := rx
 exact setattr_ok I2 ea c n l ry fun s3 I3 => ⟨σ, _, I3, q2⟩
theorem methcall_of {pl : Sem Bool} {m : Str} {apos : Pos} {args : List Expr} {pins : List (Addr × Obj)} {s : Shared} {σ : St} {H : Hp} {Q : Value -> Shared -> Prop} {te : TE} (he : PE X e te) (I : Inv X pins σ H s)
   (h : te σ H fun x H1 => ∃ a C dx fs g, x = .ref a /\ H1 a = some (.ins C dx fs) /\ Cls X.K C /\ Meth X.K C m g /\ fs.lookup m = none /\
     ∀ s1, Inv X pins σ H1 s1 -> wpAny (model X.prog X.w) X.A (callWith pos (.ref g) [.ref a] (backTo pos (starEach args X.env)) (backToKw pos (keywordEach [] X.env))) Q X.xe s1)
   (ht : eval (.Call (.Attribute e m apos) args [] pos) X.env = (do
     let ov <- eval e X.env
     standAt apos.atName
     let (f, first) <- holding [ov] (getMethod ov m pl)
     callWith pos f first (backTo pos (starEach args X.env)) (backToKw pos (keywordEach [] X.env)))) :
   wpAny (model X.prog X.w) X.A (eval (.Call (.Attribute e m apos) args [] pos) X.env) Q X.xe s := by
 refine PySem.W.methodCall_KW (pl := pl) (thn (he pins s σ H _ I h) fun u s1 ⟨x, H1, I1, rx, a, C, dx, fs, g, ex, ea, c, k, l, q⟩ => ?_) ht
 subst ex
 obtain rfl : u = Value.ref a := rx
 exact xZv I1 ea c k l (q s1 I1)
end
section
variable {X : Cx} {pins : List (Addr × Obj)} {σ : St} {H : Hp} {s : Shared} {A : Around} {E : Value -> Shared -> Prop} {Q : Value -> Shared -> Prop} {c : Value} {b : Bool}
inductive TyOf (K : PySem.W.Frag) (H : Hp) : V -> Value -> Prop where
 | non : TyOf K H .non (.type "NoneType")
 | bl (x : Bool) : TyOf K H (.bl x) (.type "bool")
 | int (i : Int) : TyOf K H (.int i) (.type "int")
 | str (x : Str) : TyOf K H (.str x) (.type "str")
 | flt (x : UInt64) : TyOf K H (.flt x) (.type "float")
 | lst {a : Addr} {xs : List V} (e : H a = some (.lst xs)) : TyOf K H (.ref a) (.type "list")
 | frz {a : Addr} {o : Obj} {xs : List V} (e : H a = some (.frz o (.lst xs))) : TyOf K H (.ref a) (.type "list")
 | tup {a : Addr} {xs : List V} (e : H a = some (.tup xs)) : TyOf K H (.ref a) (.type "tuple")
 | dK {a : Addr} {kvs : List (Key × V)} (e : H a = some (.dK kvs)) : TyOf K H (.ref a) (.type "dict")
 | dT {a : Addr} {kvs : List (List Key × V)} (e : H a = some (.dT kvs)) : TyOf K H (.ref a) (.type "dict")
 | ins {a C dx : Addr} {fs : List (Str × V)} (e : H a = some (.ins C dx fs)) (cl : Cls K C) (ha : PySem.W.findIn K (.ref C) "__class__" = some (some (.builtin "object.__class__")))
     (hn : PySem.W.specialIn K (.builtin "object.__class__") "__get__" = some (some (.builtin "getset_descriptor.__get__"))) (htk : PySem.W.takesIn K (.builtin "object.__class__") = some true)
     (hm : PySem.W.mroIn K C (.type "object") = some true) : TyOf K H (.ref a) (.ref C)
theorem isinst_ok {x : V} {u t : Value} (I : Inv X pins σ H s) (rx : RelV x u) (ty : TyOf X.K H x t) (e : PySem.W.kitOne X.K t c = some b) (h : ∀ tk, Q (.bool b) { s with toks := tk }) :
   wpAny (model X.prog X.w) A (call (.builtin "isinstance") [u, c]) Q E s := by
 cases ty with
 | non => cases (show u = Value.none from rx); exact PySem.W.kia_one PySem.W.kitx_none I.kIn True.intro e (fun z => nomatch z) h
 | bl y => cases (show u = Value.bool y from rx); exact PySem.W.kia_one PySem.W.kitx_bool I.kIn True.intro e (fun z => nomatch z) h
 | int i => obtain ⟨t, q⟩ := (show ∃ t, u = Value.int i t from rx); cases q; exact PySem.W.kia_one PySem.W.kitx_int I.kIn True.intro e (fun z => nomatch z) h
 | str y => obtain ⟨t, q⟩ := (show ∃ t, u = Value.str y t from rx); cases q; exact PySem.W.kia_one PySem.W.kitx_str I.kIn True.intro e (fun z => nomatch z) h
 | flt y => obtain ⟨t, q⟩ := (show ∃ t, u = Value.float y t from rx); cases q; exact PySem.W.kia_one PySem.W.kitx_float I.kIn True.intro e (fun z => nomatch z) h
 | @lst a xs ea =>
   cases (show u = Value.ref a from rx)
   obtain ⟨_, _, n, _, h1⟩ := (show ObjOk X.prog X.w H s.heap a (.lst xs) from I.hok a _ ea)
   exact PySem.W.kia_one PySem.W.kitx_list I.kIn ⟨_, h1, rfl⟩ e (fun z => nomatch z) h
 | @frz a ob xs ea =>
   cases (show u = Value.ref a from rx)
   obtain ⟨_, _, _, n, _, h1⟩ := (show ObjOk X.prog X.w H s.heap a (.frz ob (.lst xs)) from I.hok a _ ea)
   exact PySem.W.kia_one PySem.W.kitx_list I.kIn ⟨_, h1, rfl⟩ e (fun z => nomatch z) h
 | @tup a xs ea =>
   cases (show u = Value.ref a from rx)
   obtain ⟨_, _, _, p⟩ := (show ObjOk X.prog X.w H s.heap a (.tup xs) from I.hok a _ ea)
   obtain ⟨o, h1, h2, _⟩ := p
   exact PySem.W.kia_one PySem.W.kitx_tuple I.kIn ⟨o, h1, h2⟩ e (fun z => nomatch z) h
 | @dK a kvs ea =>
   cases (show u = Value.ref a from rx)
   obtain ⟨_, _, vs, _, p⟩ := (show ObjOk X.prog X.w H s.heap a (.dK kvs) from I.hok a _ ea)
   obtain ⟨o, es, ep, h1, h2, _⟩ := p
   exact PySem.W.kia_one PySem.W.kitx_dict I.kIn ⟨o, h1, h2.1⟩ e (fun z => nomatch z) h
 | @dT a kvs ea =>
   cases (show u = Value.ref a from rx)
   obtain ⟨_, _, xs, _, o, es, ep, h1, h2, _⟩ := (show ObjOk X.prog X.w H s.heap a (.dT kvs) from I.hok a _ ea)
   exact PySem.W.kia_one PySem.W.kitx_dict I.kIn ⟨o, h1, h2.1⟩ e (fun z => nomatch z) h
 | @ins a C dx fs ea cl ha hn htk hm =>
   cases (show u = Value.ref a from rx)
   obtain ⟨mA, O, _⟩ := ins_get I.hok ea
   obtain ⟨od, J, _⟩ := O.look
   exact PySem.W.kia_one (PySem.W.kitx_own (cl.get _) cl.hd ha hn htk hm) I.kIn J e (fun z => nomatch z) h
end
structure Room (k : Nat) (A : Around) : Prop where
 hd : 50 <= k -> A.handled = none
 dp : A.depth + 3 * k + 5 < recursionLimit
 un : A.units + 16 * k + 200 < cLine
theorem Room.mono {j k : Nat} {A : Around} (r : Room k A) (h : j <= k) : Room j A := ⟨fun z => r.hd (Nat.le_trans z h), by have := r.dp; omega, by have := r.un; omega⟩
theorem Room.deeper {k : Nat} {A : Around} (r : Room (k + 1) A) (env : Env) : Room k (A.deeper env) :=
 ⟨fun z => r.hd (Nat.le_succ_of_le z), by have := r.dp; show A.depth + 1 + 3 * k + 5 < _; omega, by have := r.un; show A.units + 3 + 16 * k + 200 < _; omega⟩
theorem Room.in1 {k : Nat} {A : Around} (r : Room (k + 1) A) : Room k A.in1 :=
 ⟨fun z => r.hd (Nat.le_succ_of_le z), by have := r.dp; show A.depth + 3 * k + 5 < _; omega, by have := r.un; show A.units + 1 + 16 * k + 200 < _; omega⟩
theorem make_depth {A : Around} {C : Addr} {us : List Value} {kw : List (Str × Value)} : (A.under (.builtin "type.__call__" ⟨.ref C :: us, kw⟩)).depth = A.depth + 1 := by
 first | rfl | simp [Around.under, Code.weight, Code.isCreation, Code.isGuard, Code.isCaller, Code.frames, Code.isFrame, guardIds]
theorem make_units {A : Around} {C : Addr} {us : List Value} {kw : List (Str × Value)} : (A.under (.builtin "type.__call__" ⟨.ref C :: us, kw⟩)).units = A.units + 1 := by
 first | rfl | simp [Around.under, Code.cUnits, Code.frames, Code.isFrame]
theorem Room.make {k : Nat} {A : Around} (r : Room (k + 1) A) (C : Addr) (us : List Value) (kw : List (Str × Value)) : Room k (A.under (.builtin "type.__call__" ⟨.ref C :: us, kw⟩)) :=
 ⟨fun z => r.hd (Nat.le_succ_of_le z), by have := r.dp; rw [make_depth]; omega, by have := r.un; rw [make_units]; omega⟩
theorem Room.depth {k : Nat} {A : Around} (r : Room k A) : A.depth < recursionLimit := by have := r.dp; omega
theorem Room.units {k : Nat} {A : Around} (r : Room k A) : A.units + 64 < cLine := by have := r.un; omega
theorem Room.units0 {k : Nat} {A : Around} (r : Room k A) : A.units < cLine := by have := r.un; omega
def tNil : TA := fun _ H Q => Q [] H
def tCons (ta : TE) (tr : TA) : TA := fun σ H Q => ta σ H fun x H1 => tr σ H1 fun xs H2 => Q (x :: xs) H2
section
variable {X : Cx} {e : Expr} {es : List Expr} {te : TE} {t : TA} {pos : Pos}
theorem zQk : PA X [] tNil := fun _ _ _ _ H Q I h => Calls.spliced_nil ⟨[], H, I, .nil, h⟩
theorem zQw (ha : PE X e te) (hr : PA X es t) (hs : starEach (e :: es) X.env = (false, eval e X.env) :: starEach es X.env := by exact zQq rfl) : PA X (e :: es) (tCons te t) := by
 intro pos pins s σ H Q I h
 rw [hs]
 show wpAny _ _ (spliced ((false, eval e X.env) :: backTo pos (starEach es X.env))) _ _ s
 refine Calls.spliced_cons (thn (ha pins s σ H _ I h) fun u s1 ⟨x, H1, I1, r1, q1⟩ => ?_)
 exact thn (hr pos pins s1 σ H1 _ I1 q1) fun us s2 ⟨xs, H2, I2, r2, q2⟩ => ⟨x :: xs, H2, I2, .cons r1 r2, q2⟩
def tTup (t : TA) : TE := fun σ H Q => t σ H fun xs H1 => xs.length <= sizeLine /\ ∀ p, H1 p = none -> Q (.ref p) (upd H1 p (.tup xs))
def tLst (t : TA) : TE := fun σ H Q => t σ H fun xs H1 => xs.length <= sizeLine /\ ∀ p, H1 p = none -> Q (.ref p) (upd H1 p (.lst xs))
theorem xJx {x1} (h : PA X es t) : PE X (.Tuple es x1 pos) (tTup t) := by
 intro pins s σ H Q I hq
 refine wpAny_Tuple_spliced (thn (h pos pins s σ H _ I hq) fun us s1 ⟨xs, H1, I1, r, z, q⟩ => ⟨by rw [<- r.length]; exact z, ?_⟩)
 have hf : H1 s1.heap.objs.size = none := I1.hok.fresh (Nat.le_refl _)
 refine ⟨.ref s1.heap.objs.size, upd H1 s1.heap.objs.size (.tup xs), I1.laid (t' := s1.toks) (fun b u e => Heap.get?_push_of_some _ e) (Nat.le_refl _) ?_, rfl, q _ hf⟩
 exact ⟨z, us, r, ⟨_, Heap.get?_push_size _ rfl, rfl, _, rfl⟩⟩
theorem yWq (h : PA X es t) : PE X (.List es pos) (tLst t) := by
 intro pins s σ H Q I hq
 refine wpAny_List_spliced (thn (h pos pins s σ H _ I hq) fun us s1 ⟨xs, H1, I1, r, z, q⟩ => ⟨by rw [<- r.length]; exact z, ?_⟩)
 have hf : H1 s1.heap.objs.size = none := I1.hok.fresh (Nat.le_refl _)
 refine ⟨.ref s1.heap.objs.size, upd H1 s1.heap.objs.size (.lst xs), I1.laid (t' := s1.toks) (fun b u e => Heap.get?_push_of_some _ e) (Nat.le_refl _) ?_, rfl, q _ hf⟩
 exact ⟨z, us, 0, r, Heap.get?_push_size _ rfl⟩
end
abbrev Sp := List V -> Hp -> VK -> XK -> Prop
abbrev CXT := List Env -> Hp -> Shared -> XK -> Value -> Shared -> Prop
structure Env0 (P : Program) (w : World) (K : PySem.W.Frag) (mg : Str -> Option Value) (base : Heap) (A : Around) (outer : List Env) (s : Shared) (H : Hp) : Prop where
 frames : A.frames = some outer
 mod : Mod K mg base
 bs : ∀ b o, base.get? b = some o -> s.heap.get? b = some o /\ H b = none
 bsz : base.objs.size <= s.heap.objs.size
 funs : s.heap.FunFrames base outer
 frf : ∀ b ∈ frs outer, H b = none
 hok : HOk P w H s.heap
 bare : AllBare s.gens
def CE (outer : List Env) (P : Program) (w : World) (H : Hp) (s : Shared) (Q : VK) (u : Value) (s' : Shared) : Prop :=
 ∃ v H', s'.os = s.os /\ AllBare s'.gens /\ Un (frs outer) [] H H' s.heap s'.heap /\ HOk P w H' s'.heap /\ RelV v u /\ Q v H'
def CR (CX : CXT) (outer : List Env) (P : Program) (w : World) (H : Hp) (s : Shared) (Q : VK) (E : XK) (r : Result) (s' : Shared) : Prop :=
 match r with
 | .ok (.ret u) => CE outer P w H s Q u s'
 | .ok _ => False
 | .error e => CX outer H s E e s'
structure FnOk (P : Program) (w : World) (K : PySem.W.Frag) (mg : Str -> Option Value) (base : Heap) (CX : CXT) (k : Nat) (f : Addr) (fd : FuncData) (ps : List Str) (sp : Sp) : Prop where
 len : ∀ vs H Q E, sp vs H Q E -> vs.length = ps.length
 run : ∀ (A : Around) (outer : List Env) (s : Shared) (H : Hp) (args : Args) (us : List Value) (vs : List V) (Q : VK) (E : XK), Room k A -> Env0 P w K mg base A outer s H -> BindsTo s fd args (ps.zip us) -> Vals vs us -> sp vs H Q E ->
   codeAny (model P w) A (.call (.ref f) args) (CR CX outer P w H s Q E) s
theorem FnOk.mono {P : Program} {w : World} {K : PySem.W.Frag} {mg : Str -> Option Value} {base : Heap} {CX : CXT} {j k : Nat} {f : Addr} {fd : FuncData} {ps : List Str} {sp : Sp} (F : FnOk P w K mg base CX j f fd ps sp) (h : j <= k) :
   FnOk P w K mg base CX k f fd ps sp := ⟨F.len, fun A outer s H args us vs Q E hr => F.run A outer s H args us vs Q E (hr.mono h)⟩
theorem FnOk.imp {P : Program} {w : World} {K : PySem.W.Frag} {mg : Str -> Option Value} {base : Heap} {CX : CXT} {k : Nat} {f : Addr} {fd : FuncData} {ps : List Str} {sp sp' : Sp} (F : FnOk P w K mg base CX k f fd ps sp)
   (h : ∀ vs H Q E, sp' vs H Q E -> sp vs H Q E) : FnOk P w K mg base CX k f fd ps sp' :=
 ⟨fun vs H Q E q => F.len vs H Q E (h _ _ _ _ q), fun A outer s H args us vs Q E hr he hb hv hs => F.run A outer s H args us vs Q E hr he hb hv (h _ _ _ _ hs)⟩
theorem Env0.make {P : Program} {w : World} {K : PySem.W.Frag} {mg : Str -> Option Value} {base : Heap} {A : Around} {outer : List Env} {s : Shared} {H : Hp} (e : Env0 P w K mg base A outer s H) (C : Addr) (us : List Value) (kw : List (Str × Value)) :
   Env0 P w K mg base (A.under (.builtin "type.__call__" ⟨.ref C :: us, kw⟩)) outer s H := ⟨by first | exact e.frames | (simpa [Around.under, Code.envs, Code.isFrame, pushEnvs] using e.frames), e.mod, e.bs, e.bsz, e.funs, e.frf, e.hok, e.bare⟩
theorem Env0.in1 {P : Program} {w : World} {K : PySem.W.Frag} {mg : Str -> Option Value} {base : Heap} {A : Around} {outer : List Env} {s : Shared} {H : Hp} (e : Env0 P w K mg base A outer s H) :
   Env0 P w K mg base A.in1 outer s H := ⟨e.frames, e.mod, e.bs, e.bsz, e.funs, e.frf, e.hok, e.bare⟩
section
variable {X : Cx} {pins : List (Addr × Obj)} {σ : St} {H : Hp} {s s' : Shared}
theorem Inv.env0 (I : Inv X pins σ H s) : Env0 X.prog X.w X.K X.mg X.base X.A X.stack s H :=
 ⟨I.ok.frames, I.ok.mod, I.bs, Nat.le_trans I.ok.bsz I.sz, I.stack, I.stkFree, I.hok, I.bare⟩
theorem Inv.after {Q : VK} {u : Value} (I : Inv X pins σ H s) (h : CE X.stack X.prog X.w H s Q u s') : EP X pins σ Q u s' := by
 obtain ⟨v, H', os, bare, un, hok, r, q⟩ := h
 obtain ⟨hh, g, d, t, os'⟩ := s'
 obtain rfl : os' = s.os := os
 exact ⟨v, H', I.call (h' := hh) (g' := g) (d' := d) (t' := t) (ch := []) un hok bare (fun b z => absurd z (by simp)), r, q⟩
end
def tCall (sp : Sp) (dvs : List V) (E : XK) (t : TA) : TE := fun σ H Q => t σ H fun vs H1 => sp (vs ++ dvs) H1 Q E
def tMeth (C : Addr) (m : Str) (sp : Sp) (dvs : List V) (E : XK) (ta : TE) (t : TA) : TE := fun σ H Q => ta σ H fun x H1 => ∃ a dx fs, x = .ref a /\ H1 a = some (.ins C dx fs) /\ fs.lookup m = none /\
 t σ H1 fun vs H2 => sp (x :: (vs ++ dvs)) H2 Q E
def tMake (C : Addr) (sp : Sp) (dvs : List V) (E : XK) (t : TA) : TE := fun σ H Q => t σ H fun vs H1 => ∀ x dx, H1 x = none -> H1 dx = none -> dx ≠ x ->
 sp (.ref x :: (vs ++ dvs)) (upd (upd H1 dx (.own x)) x (.ins C dx [])) (fun v H2 => v = .non /\ Q (.ref x) H2) E
def Binds (K : PySem.W.Frag) (fd : FuncData) (ps : List Str) (ds : List Value) : Prop :=
 ∀ (s : Shared) (us : List Value), K.In s.heap -> (us ++ ds).length = ps.length -> BindsTo s fd ⟨us, []⟩ (ps.zip (us ++ ds))
theorem Binds.all {K : PySem.W.Frag} {fd : FuncData} {ps : List Str} (h : ∀ us : List Value, us.length = ps.length -> bindArgs fd ⟨us, []⟩ = pure (ps.zip us)) : Binds K fd ps [] := fun s us _ hl => by
 rw [List.append_nil] at hl ⊢
 exact .of_eq (h us hl)
def Passes (CX : CXT) (X : Cx) (E : XK) : Prop := ∀ (pins : List (Addr × Obj)) (σ : St) (H : Hp) (s : Shared) (e : Value) (s' : Shared), Inv X pins σ H s -> CX X.stack H s E e s' -> X.xe e s'
section
variable {X : Cx} {CX : CXT} {k : Nat} {f C : Addr} {fd : FuncData} {ps : List Str} {sp : Sp} {dvs : List V} {ds : List Value} {E : XK} {x m : Str} {p pos apos : Pos} {e o : Expr} {es : List Expr} {ta : TE} {t : TA}
theorem run_fn {pins : List (Addr × Obj)} {σ : St} {H : Hp} {s : Shared} {Q : VK} {us : List Value} {vs : List V} (F : FnOk X.prog X.w X.K X.mg X.base CX k f fd ps sp) (hr : Room k X.A) (hb : Binds X.K fd ps ds) (hd : Vals dvs ds) (hx : Passes CX X E)
   (I : Inv X pins σ H s) (r : Vals vs us) (h : sp (vs ++ dvs) H Q E) : wpAny (model X.prog X.w) X.A (call (.ref f) us) (EP X pins σ Q) X.xe s := by
 have r2 : Vals (vs ++ dvs) (us ++ ds) := r.append hd
 have hl : (us ++ ds).length = ps.length := by rw [<- r2.length]; exact F.len _ _ _ _ h
 refine wpAny_call (codeAny_mono (F.run X.A X.stack s H ⟨us, []⟩ (us ++ ds) (vs ++ dvs) Q E hr I.env0 (hb s us I.kIn hl) r2 h) fun r s' hq => ?_)
 cases r with
 | error e => exact hx pins σ H s e s' I hq
 | ok fl =>
   cases fl with
   | ret u => exact I.after hq
   | next => exact False.elim hq
   | brk => exact False.elim hq
   | cont => exact False.elim hq
theorem pe_call (F : FnOk X.prog X.w X.K X.mg X.base CX k f fd ps sp) (hr : Room k X.A) (hg : Gl X x) (hm : X.mg x = some (.ref f)) (hk : PySem.W.keepIn X.K (.ref f) = true) (hb : Binds X.K fd ps ds) (hd : Vals dvs ds) (hx : Passes CX X E)
   (ha : PA X (e :: es) t) (hdb : (x == ("__debug__" : Str)) = false := by decide) (he : starEach (e :: es) X.env = (false, eval e X.env) :: starEach es X.env := by exact zQq rfl) (hpl : (backTo pos (starEach es X.env)).any (·.1) = false := by exact zQx rfl) :
   PE X (.Call (.Name x p) (e :: es) [] pos) (tCall sp dvs E t) := by
 intro pins s σ H Q I h
 refine wpAny_Call_Name_kw (xWq I hg hm ?_ hdb)
 refine PySem.W.callWith_K (h₀ := X.base) I.ok.mod.kin hk (thn (ha pos pins s σ H _ I h) fun us s1 ⟨vs, H1, I1, r, q⟩ => ⟨I1.kIn, ?_⟩) he hpl
 exact run_fn F hr hb hd hx I1 r q
theorem pe_meth {pl : Sem Bool} (he : PE X o ta) (c : Cls X.K C) (hm : Meth X.K C m f) (F : FnOk X.prog X.w X.K X.mg X.base CX k f fd ps sp) (hr : Room k X.A) (hb : Binds X.K fd ps ds) (hd : Vals dvs ds) (hx : Passes CX X E) (ha : PA X (e :: es) t)
   (hst : starEach (e :: es) X.env = (false, eval e X.env) :: starEach es X.env := by exact zQq rfl) (hpl : (backTo pos (starEach es X.env)).any (·.1) = false := by exact zQx rfl)
   (ht : eval (.Call (.Attribute o m apos) (e :: es) [] pos) X.env = (do
     let ov <- eval o X.env
     standAt apos.atName
     let (f, first) <- holding [ov] (getMethod ov m pl)
     callWith pos f first (backTo pos (starEach (e :: es) X.env)) (backToKw pos (keywordEach [] X.env))) := by rfl) :
   PE X (.Call (.Attribute o m apos) (e :: es) [] pos) (tMeth C m sp dvs E ta t) := by
 intro pins s σ H Q I h
 refine PySem.W.methodCall_KW (pl := pl) (thn (he pins s σ H _ I h) fun u s1 ⟨x, H1, I1, rx, a, dx, fs, ex, ea, l, q⟩ => ?_) ht
 subst ex
 obtain rfl : u = Value.ref a := rx
 refine xZv I1 ea c hm l ?_
 refine PySem.W.callWith_K (first := [.ref a]) (h₀ := X.base) I.ok.mod.kin hm.kp (thn (ha pos pins s1 σ H1 _ I1 q) fun us s2 ⟨vs, H2, I2, r, q2⟩ => ⟨I2.kIn, ?_⟩) hst hpl
 exact run_fn (us := .ref a :: us) (vs := .ref a :: vs) F hr hb hd hx I2 (.cons rfl r) q2
theorem pe_meth0 {pl : Sem Bool} (he : PE X o ta) (c : Cls X.K C) (hm : Meth X.K C m f) (F : FnOk X.prog X.w X.K X.mg X.base CX k f fd ps sp) (hr : Room k X.A) (hb : Binds X.K fd ps ds) (hd : Vals dvs ds) (hx : Passes CX X E)
   (ht : eval (.Call (.Attribute o m apos) [] [] pos) X.env = (do
     let ov <- eval o X.env
     standAt apos.atName
     let (f, first) <- holding [ov] (getMethod ov m pl)
     callWith pos f first (backTo pos (starEach [] X.env)) (backToKw pos (keywordEach [] X.env))) := by rfl) :
   PE X (.Call (.Attribute o m apos) [] [] pos) (tMeth C m sp dvs E ta tNil) := by
 intro pins s σ H Q I h
 refine PySem.W.methodCall_KW (pl := pl) (thn (he pins s σ H _ I h) fun u s1 ⟨x, H1, I1, rx, a, dx, fs, ex, ea, l, q⟩ => ?_) ht
 subst ex
 obtain rfl : u = Value.ref a := rx
 refine xZv I1 ea c hm l ?_
 exact PySem.W.callWith_K0 (first := [.ref a]) I1.kIn hm.kp (run_fn (us := [.ref a]) (vs := [.ref a]) F hr hb hd hx I1 (.cons rfl .nil) q)
structure Mk (K : PySem.W.Frag) (C f : Addr) : Prop where
 makes : PySem.W.makesIn K C = true
 init : PySem.W.findIn K (.ref C) "__init__" = some (some (.ref f))
 fn : PySem.W.isFn K (.ref f) = true
 kp : PySem.W.keepIn K (.ref C) = true
theorem run_make {pins : List (Addr × Obj)} {σ : St} {H : Hp} {s : Shared} {Q : VK} {us : List Value} {vs : List V} (M : Mk X.K C f) (F : FnOk X.prog X.w X.K X.mg X.base CX k f fd ps sp) (hr : Room (k + 1) X.A) (hb : Binds X.K fd ps ds) (hd : Vals dvs ds)
   (hx : Passes CX X E) (I : Inv X pins σ H s) (r : Vals vs us)
   (h : ∀ x dx, H x = none -> H dx = none -> dx ≠ x -> sp (.ref x :: (vs ++ dvs)) (upd (upd H dx (.own x)) x (.ins C dx [])) (fun v H2 => v = .non /\ Q (.ref x) H2) E) :
   wpAny (model X.prog X.w) X.A (call (.ref C) us) (EP X pins σ Q) X.xe s := by
 have hq := h (s.heap.objs.size + 1) s.heap.objs.size (I.hok.fresh (Nat.le_succ _)) (I.hok.fresh (Nat.le_refl _)) (Nat.ne_of_lt (Nat.lt_succ_self _))
 have I2 := Inv.made (C := C) I
 have r2 : Vals (V.ref (s.heap.objs.size + 1) :: (vs ++ dvs)) (Value.ref (s.heap.objs.size + 1) :: (us ++ ds)) := .cons rfl (r.append hd)
 have hl : (Value.ref (s.heap.objs.size + 1) :: us ++ ds).length = ps.length := by
   have e := r2.length
   rw [F.len _ _ _ _ hq] at e
   exact e.symm
 refine wpAny_call (make_map (f := f) I.kIn M.makes M.init (beq_iff_eq.mp M.fn) (codeAny_mono (F.run _ X.stack _ _ ⟨Value.ref (s.heap.objs.size + 1) :: us, []⟩ (Value.ref (s.heap.objs.size + 1) :: (us ++ ds)) _ _ E (hr.make C us [])
   (I2.env0.make C us []) (hb _ (Value.ref (s.heap.objs.size + 1) :: us) I2.kIn hl) r2 hq) fun r s' hq' => ?_))
 cases r with
 | error e => exact hx pins σ _ _ e s' I2 hq'
 | ok fl =>
   cases fl with
   | ret u =>
     obtain ⟨v, H', I3, rv, ev, q3⟩ := I2.after hq'
     subst ev
     exact ⟨rv, ⟨V.ref (s.heap.objs.size + 1), H', I3, rfl, q3⟩⟩
   | next => exact False.elim hq'
   | brk => exact False.elim hq'
   | cont => exact False.elim hq'
theorem pe_make (M : Mk X.K C f) (F : FnOk X.prog X.w X.K X.mg X.base CX k f fd ps sp) (hr : Room (k + 1) X.A) (hg : Gl X x) (hm : X.mg x = some (.ref C)) (hb : Binds X.K fd ps ds) (hd : Vals dvs ds) (hx : Passes CX X E)
   (ha : PA X (e :: es) t) (hdb : (x == ("__debug__" : Str)) = false := by decide) (he : starEach (e :: es) X.env = (false, eval e X.env) :: starEach es X.env := by exact zQq rfl) (hpl : (backTo pos (starEach es X.env)).any (·.1) = false := by exact zQx rfl) :
   PE X (.Call (.Name x p) (e :: es) [] pos) (tMake C sp dvs E t) := by
 intro pins s σ H Q I h
 refine wpAny_Call_Name_kw (xWq I hg hm ?_ hdb)
 refine PySem.W.callWith_K (h₀ := X.base) I.ok.mod.kin M.kp (thn (ha pos pins s σ H _ I h) fun us s1 ⟨vs, H1, I1, r, q⟩ => ⟨I1.kIn, ?_⟩) he hpl
 exact run_make M F hr hb hd hx I1 r q
end
section
variable {X : Cx} {CX : CXT} {k : Nat} {f C : Addr} {fd : FuncData} {ps ks : List Str} {sp : Sp} {E : XK} {x m : Str} {p pos apos kpos : Pos} {e o : Expr} {es : List Expr} {kws : List Keyword} {te ta : TE} {t tk : TA} {nm : Option Str}
structure KBinds (K : PySem.W.Frag) (fd : FuncData) (ps ks : List Str) (g : List Value -> List Value -> List Value) (gV : List V -> List V -> List V) : Prop where
 to : ∀ (s : Shared) (us ws : List Value), K.In s.heap -> (g us ws).length = ps.length -> BindsTo s fd ⟨us, ks.zip ws⟩ (ps.zip (g us ws))
 rel : ∀ {vs : List V} {us : List Value} {zs : List V} {ws : List Value}, Vals vs us -> Vals zs ws -> Vals (gV vs zs) (g us ws)
variable {g : List Value -> List Value -> List Value} {gV : List V -> List V -> List V}
end
structure FnScope (N P : List Str) (sc : Scope) : Prop where
 kind : sc.kind = .function
 co : sc.isCoroutine = false
 gen : sc.isGenerator = false
 nd : N.Nodup
 pre : N.take P.length = P
 par : ∀ x ∈ P, sc.names.lookup x = some .local \/ sc.names.lookup x = some .cell
 nofree : ∀ y ∈ sc.names, y.2 ≠ .free
theorem bindL_out {kindOf : Str -> Option NameKind} {x : Str} : ∀ {binds : List (Str × Value)} {m : Str -> Option Value}, (∀ v, (x, v) ∉ binds) -> bindL kindOf binds m x = m x
 | [], _, _ => rfl
 | (n, v) :: r, m, h => by
   unfold bindL
   rw [bindL_out fun w hw => h w (List.mem_cons_of_mem _ hw)]
   split
   . have : x ≠ n := by rintro rfl; exact h v List.mem_cons_self
     simp [this]
   . rfl
theorem bindC_out {kindOf : Str -> Option NameKind} {x : Str} : ∀ {binds : List (Str × Value)} {m : Str -> Option Value}, (∀ v, (x, v) ∉ binds) -> bindC kindOf binds m x = m x
 | [], _, _ => rfl
 | (n, v) :: r, m, h => by
   unfold bindC
   rw [bindC_out fun w hw => h w (List.mem_cons_of_mem _ hw)]
   split
   . rfl
   . have : x ≠ n := by rintro rfl; exact h v List.mem_cons_self
     simp [this]
theorem bindL_get {kindOf : Str -> Option NameKind} {x : Str} {v : Value} : ∀ {P : List Str} {vs : List Value} {i : Nat} {m : Str -> Option Value}, P.Nodup -> P[i]? = some x -> vs[i]? = some v -> kindOf x = some .local ->
   bindL kindOf (P.zip vs) m x = some v
 | [], _, _, _, _, h, _, _ => by simp at h
 | _ :: _, [], _, _, _, _, h, _ => by simp at h
 | p :: P, w :: vs, 0, m, nd, h1, h2, hk => by
   simp at h1 h2; subst h1; subst h2
   show bindL kindOf ((p, w) :: P.zip vs) m p = _
   unfold bindL
   rw [bindL_out fun v hv => (List.nodup_cons.mp nd).1 (List.of_mem_zip hv).1, if_pos hk]
   simp
 | p :: P, w :: vs, i + 1, m, nd, h1, h2, hk => by
   show bindL kindOf ((p, w) :: P.zip vs) m x = _
   unfold bindL
   exact bindL_get (i := i) (List.nodup_cons.mp nd).2 (by simpa using h1) (by simpa using h2) hk
theorem bindC_get {kindOf : Str -> Option NameKind} {x : Str} {v : Value} : ∀ {P : List Str} {vs : List Value} {i : Nat} {m : Str -> Option Value}, P.Nodup -> P[i]? = some x -> vs[i]? = some v -> kindOf x ≠ some .local ->
   bindC kindOf (P.zip vs) m x = some v
 | [], _, _, _, _, h, _, _ => by simp at h
 | _ :: _, [], _, _, _, _, h, _ => by simp at h
 | p :: P, w :: vs, 0, m, nd, h1, h2, hk => by
   simp at h1 h2; subst h1; subst h2
   show bindC kindOf ((p, w) :: P.zip vs) m p = _
   unfold bindC
   rw [bindC_out fun v hv => (List.nodup_cons.mp nd).1 (List.of_mem_zip hv).1, if_neg hk]
   simp
 | p :: P, w :: vs, i + 1, m, nd, h1, h2, hk => by
   show bindC kindOf ((p, w) :: P.zip vs) m x = _
   unfold bindC
   exact bindC_get (i := i) (List.nodup_cons.mp nd).2 (by simpa using h1) (by simpa using h2) hk
def start (N : List Str) (vs : List V) : St := vs.map some ++ List.replicate (N.length - vs.length) none
def cxOf (cm : Bool) (CX : CXT) (P : Program) (w : World) (K : PySem.W.Frag) (mg : Str -> Option Value) (base : Heap) (N : List Str) (qual : Str) (scope : Scope) (f : Addr) (cd : Value) (A : Around) (outer : List Env) (s : Shared) (H : Hp) (E : XK) : Cx where
 prog := P
 w := w
 K := K
 mg := mg
 base := base
 A := A.deeper (envOfC qual scope s.heap.objs.size f cd)
 N := N
 s₀ := s
 H₀ := H
 env := envOfC qual scope s.heap.objs.size f cd
 outer := outer
 stack := envOfC qual scope s.heap.objs.size f cd :: outer
 ex := []
 calm := cm
 fn := fun _ => true
 pn := []
 xe := fun e s' => wpAny (model P w) (A.deeper (envOfC qual scope s.heap.objs.size f cd)) (leaving (envOfC qual scope s.heap.objs.size f cd) e) (fun _ s'' => CX outer H s E e s'') (fun e' s'' => CX outer H s E e' s'') s'
theorem cell_has {sc : Scope} {n : Nat} {x : Str} (h : sc.names.lookup x = some .cell) : ∃ c, (cellsFrom n sc.names []).lookup x = some c := by
 have q := PySem.W.cellsFrom_some sc.names n [] (.inl h)
 exact Option.isSome_iff_exists.mp q
theorem wQv {cm : Bool} {CX : CXT} {P : Program} {w : World} {K : PySem.W.Frag} {mg : Str -> Option Value} {base : Heap} {N ps : List Str} {qual : Str} {scope : Scope} {f : Addr} {cd : Value} {A : Around} {outer : List Env} {s s1 : Shared} {H : Hp} {E : XK} {us : List Value} {vs : List V}
   (S : FnScope N ps scope) (hd : cm = true -> A.handled = none) (e0 : Env0 P w K mg base A outer s H) (hl : vs.length = ps.length) (r : Vals vs us)
   (x : InCallC s s.heap.objs.size (bindL (envOfC qual scope s.heap.objs.size f cd).kindOf (ps.zip us) fun _ => none) (cellsFrom (s.heap.objs.size + 1) scope.names []) (bindC (envOfC qual scope s.heap.objs.size f cd).kindOf (ps.zip us) fun _ => none) s1) :
   Inv (cxOf cm CX P w K mg base N qual scope f cd A outer s H E) [] (start N vs) H s1 := by
 have hpl : ps.length <= N.length := by have := congrArg List.length S.pre; rw [List.length_take] at this; omega
 obtain ⟨h1, tk, rfl, hk⟩ := x.done
 have noA : ∀ b : Addr, b ∉ (cxOf cm CX P w K mg base N qual scope f cd A outer s H E).ex := fun b z => absurd (show b ∈ ([] : List Addr) from z) (by simp)
 refine ⟨⟨e0.mod, S.kind, rfl, rfl, Nat.le_refl _, fun y z c h1 h2 => ?_, fun y hy => ?_, fun y c _ h => ?_, hd, Around.frames_deeper e0.frames, .inr ⟨rfl, rfl⟩, fun b z => absurd z (noA b), e0.bs, e0.bsz, fun b _ _ => noA b, fun b z => absurd z (noA b), e0.funs, e0.frf⟩,
   rfl, e0.bare, Un.kept hk, ⟨_, x.toInCall.ns, fun i y v h1 h2 h3 => ?_⟩, fun y c h => ⟨_, x.cell y c h⟩, e0.hok.fresh (Nat.le_refl _), fun y c h => ?_, fun p hp => absurd (show p ∈ ([] : List (Addr × Obj)) from hp) (by simp), e0.hok.kept hk, ?_⟩
 . exact name_of_addr x.apart (PySem.mem_of_lookup h1) (PySem.mem_of_lookup h2)
 . have hy : scope.names.lookup y = some .cell \/ scope.names.lookup y = some .free := hy
   rcases hy with hy | hy
   . exact cell_has hy
   . exact absurd rfl (S.nofree _ (PySem.mem_of_lookup hy))
 . exact Nat.le_of_lt (x.above y c (PySem.mem_of_lookup h))
 . have hi : i < vs.length := by
     unfold start at h2
     by_cases hi : i < vs.length
     . exact hi
     . rw [List.getElem?_append_right (by simpa using hi)] at h2
       rw [List.getElem?_replicate] at h2
       split at h2 <;> cases h2
   have ha : vs[i]? = some v := by
     unfold start at h2
     rw [List.getElem?_append_left (by simpa using hi), List.getElem?_map] at h2
     cases e : vs[i]? with
     | none => rw [e] at h2; cases h2
     | some a => rw [e] at h2; cases h2; rfl
   obtain ⟨u, hu, rv⟩ := r.get ha
   have hp : ps[i]? = some y := by
     rw [<- S.pre, List.getElem?_take_of_lt (by omega)]; exact h1
   have ndP : ps.Nodup := by rw [<- S.pre]; exact S.nd.sublist (List.take_sublist _ _)
   refine ⟨u, rv, ?_⟩
   rcases S.par y (List.mem_of_getElem? hp) with k | k
   . exact .inl ⟨k, bindL_get ndP hp hu k⟩
   . obtain ⟨c, e⟩ := cell_has (n := s.heap.objs.size + 1) k
     refine .inr ⟨.inl k, c, e, ?_⟩
     have q := x.cell y c e
     rw [bindC_get ndP hp hu (by show scope.names.lookup y ≠ _; rw [k]; decide)] at q
     exact q
 . exact e0.hok.fresh (Nat.le_of_lt (x.above y c (PySem.mem_of_lookup h)))
 . unfold start
   show _ = N.length
   rw [List.length_append, List.length_map, List.length_replicate]
   omega
theorem fn_of {cm : Bool} {CX : CXT} {P : Program} {w : World} {K : PySem.W.Frag} {mg : Str -> Option Value} {base : Heap} {k : Nat} {f : Addr} {name qual : Str} {params : Arguments} {body : List Stmt} {scope : Scope} {dV kV doc pm cdv ct oc : Value} {an od : Option Addr}
   {osl : Array (Option Value)} {N ps : List Str} {sp : Sp} (lk : K.lookup f = some ⟨oc, od, .func (PySem.W.fnOf name qual params body scope dV kV doc pm an cdv ct), osl⟩) (hcd : PySem.W.codeIn K cdv qual = true) (S : FnScope N ps scope)
   (len : ∀ vs H Q E, sp vs H Q E -> vs.length = ps.length) (hcm : cm = true -> 50 <= k + 1)
   (hbody : ∀ (A : Around) (outer : List Env) (s : Shared) (H : Hp) (vs : List V) (Q : VK) (E : XK), Room k (A.deeper (envOfC qual scope s.heap.objs.size f cdv)) -> sp vs H Q E ->
     ∃ t, PSs (cxOf cm CX P w K mg base N qual scope f cdv A outer s H E) body t /\ t { nx := fun _ H' => Q .non H', rt := Q } (start N vs) H) :
   FnOk P w K mg base CX (k + 1) f (PySem.W.fnOf name qual params body scope dV kV doc pm an cdv ct) ps sp := by
 refine ⟨len, fun A outer s H args us vs Q E hr e0 hb r hsp => ?_⟩
 have hl := len _ _ _ _ hsp
 have KX : K.In s.heap := e0.mod.kin.keeps fun b o e => (e0.bs b o e).1
 have lim : s.heap.NoLimit := e0.mod.nolimit.keeps fun b o e => (e0.bs b o e).1
 have hkind : ∀ y ∈ ps.zip us, scope.names.lookup y.1 = some .local \/ (scope.names.lookup y.1 = some .cell /\ ((cellsFrom (s.heap.objs.size + 1) scope.names []).lookup y.1).isSome = true) := fun ⟨n, v⟩ hy => by
   rcases S.par n (List.of_mem_zip hy).1 with q | q
   . exact .inl q
   . exact .inr ⟨q, PySem.W.cellsFrom_some _ _ _ (.inl q)⟩
 refine codeAny_call_function hr.depth (KX _ _ lk) rfl S.co S.gen rfl (PySem.W.codeRec_of KX hcd) (hb _ _ _ _ ?_)
 refine wpAny_newFunctionEnv_cells S.kind hkind fun env he s1 x => ?_
 subst he
 refine ⟨lim.keeps x.toInCall.keep, codeAny_func ?_⟩
 obtain ⟨t, ht, hq⟩ := hbody A outer s H vs Q E (hr.deeper _) hsp
 have I : Inv (cxOf cm CX P w K mg base N qual scope f cdv A outer s H E) [] (start N vs) H s1 := wQv S (fun z => hr.hd (hcm z)) e0 hl r x
 refine wpAny_mono (ht [] s1 (start N vs) H _ I hq) (fun fl s' hs => ?_) fun e s' hs => hs
 have fin : ∀ {σ' : St} {H' : Hp} {v : V} {u : Value}, Inv (cxOf cm CX P w K mg base N qual scope f cdv A outer s H E) [] σ' H' s' -> RelV v u -> Q v H' -> CE outer P w H s Q u s' :=
   fun {σ' H' v u} J rv q => ⟨v, H', J.os, J.bare, J.base, J.hok, rv, q⟩
 cases fl with
 | ret u =>
   obtain ⟨v, σ', H', J, rv, q⟩ := hs
   exact fin J rv q
 | next =>
   obtain ⟨σ', H', J, q⟩ := hs
   exact fin (v := V.non) (u := Value.none) J rfl q
 | brk =>
   obtain ⟨_, _, _, q⟩ := hs
   exact False.elim q
 | cont =>
   obtain ⟨_, _, _, q⟩ := hs
   exact False.elim q
section
variable {X : Cx} {x : Str} {p pos : Pos} {e : Expr} {es : List Expr} {t : TA} {id T : String} {r : List V -> Hp -> VK -> Prop}
def tCB (r : List V -> Hp -> VK -> Prop) (t : TA) : TE := fun σ H Q => t σ H fun vs H1 => r vs H1 Q
theorem zZv (hc : CallR X (.builtin id) r) (hg : Gl X x) (hm : X.mg x = none) (hv : bootBuiltins x = some (.builtin id)) (ha : PA X (e :: es) t) (hn : x ≠ "__name__" := by decide) (hdb : (x == ("__debug__" : Str)) = false := by decide)
   (he : starEach (e :: es) X.env = (false, eval e X.env) :: starEach es X.env := by exact zQq rfl) (hpl : (backTo pos (starEach es X.env)).any (·.1) = false := by exact zQx rfl) : PE X (.Call (.Name x p) (e :: es) [] pos) (tCB r t) := by
 intro pins s σ H Q I h
 refine wpAny_Call_Name_kw (ld_blt I hg hm hv ?_ hn hdb)
 exact PyProof.Rows.callWith_builtin1 (thn (ha pos pins s σ H _ I h) fun us s1 ⟨vs, H1, I1, r1, q1⟩ => hc pins s1 σ H1 vs us Q I1 r1 q1) he hpl
theorem pe_callTy (hc : CallR X (.type T) r) (hg : Gl X x) (hm : X.mg x = none) (hv : bootBuiltins x = some (.type T)) (ha : PA X (e :: es) t) (hn : x ≠ "__name__" := by decide) (hdb : (x == ("__debug__" : Str)) = false := by decide)
   (he : starEach (e :: es) X.env = (false, eval e X.env) :: starEach es X.env := by exact zQq rfl) (hpl : (backTo pos (starEach es X.env)).any (·.1) = false := by exact zQx rfl) : PE X (.Call (.Name x p) (e :: es) [] pos) (tCB r t) := by
 intro pins s σ H Q I h
 refine wpAny_Call_Name_kw (ld_blt I hg hm hv ?_ hn hdb)
 exact PyProof.Rows.callWith_type1 (thn (ha pos pins s σ H _ I h) fun us s1 ⟨vs, H1, I1, r1, q1⟩ => hc pins s1 σ H1 vs us Q I1 r1 q1) he hpl
end
end L2
namespace HT
open PySem PyProof.Rows
section
open PySem.SeqAt
open PySem.AutoSeq1 (wpAny_loadPart')
open PySem.MeetsSeq PySem.MeetsSeq2 PySem.MeetsSeq3
end
section
variable {prog : Program} {w : World} {A : Around} {E : Value -> Shared -> Prop} {s : Shared}
def sIx (n d : Nat) : Option Int -> Nat
 | none => d
 | some v => if v < 0 then (v + (n : Int)).toNat else min v.toNat n
theorem sIx_none (n d : Nat) : sIx n d none = d := rfl
theorem sIx_nat (n d k : Nat) : sIx n d (some (k : Int)) = min k n := by
 show (if (k : Int) < 0 then ((k : Int) + (n : Int)).toNat else min (k : Int).toNat n) = min k n
 rw [if_neg (by omega), Int.toNat_natCast]
end
end HT
namespace L2
open PySem PySem.Spec PyProof.Rows
abbrev TO := St -> Hp -> (Option Int -> Hp -> Prop) -> Prop
def PO (X : Cx) (e : Option Expr) (t : TO) : Prop :=
 ∀ (pins : List (Addr × Obj)) (s : Shared) (σ : St) (H : Hp) (Q : Option Int -> Hp -> Prop), Inv X pins σ H s -> t σ H Q ->
   wpAny (model X.prog X.w) X.A (evalPart e X.env) (fun u s' => ∃ o H', Inv X pins σ H' s' /\ IsPart u o /\ Q o H') X.xe s
def tNoPart : TO := fun _ H Q => Q none H
def tPart (t : TE) : TO := fun σ H Q => t σ H fun x H1 => ∃ i, x = .int i /\ Q (some i) H1
section
variable {X : Cx} {e : Expr} {te : TE} {lo hi : Option Expr} {tl th : TO} {pos p2 : Pos}
theorem po_none : PO X none tNoPart := by
 intro pins s σ H Q I h
 rw [evalPart_none]
 exact wpAny_pure ⟨none, H, I, .none, h⟩
theorem po_some (h : PE X e te) : PO X (some e) (tPart te) := by
 intro pins s σ H Q I hw
 rw [evalPart_some]
 refine thn (h pins s σ H _ I hw) fun u s1 ⟨x, H1, I1, r1, q1⟩ => ?_
 obtain ⟨i, rfl, q⟩ := q1
 obtain ⟨t, rfl⟩ := r1
 exact ⟨some i, H1, I1, .int i t, q⟩
def SlR (X : Cx) (r : V -> Option Int -> Option Int -> Hp -> VK -> Prop) : Prop :=
 ∀ (pins : List (Addr × Obj)) (s : Shared) (σ : St) (H : Hp) (x : V) (v vl vu : Value) (lo hi : Option Int) (sl : Addr) (Q : VK), Inv X pins σ H s -> RelV x v -> s.heap.IsSliceOf sl vl vu .none -> IsPart vl lo -> IsPart vu hi -> r x lo hi H Q ->
   ∃ T id, typeLookup (.type T) "__getitem__" = pure (some (.builtin id)) /\ s.TypeIs v T /\ wpAny (model X.prog X.w) X.A (getItem v (.ref sl)) (EP X pins σ Q) X.xe s
theorem SlR.or {r r' : V -> Option Int -> Option Int -> Hp -> VK -> Prop} (h : SlR X r) (h' : SlR X r') : SlR X (fun x lo hi H Q => r x lo hi H Q \/ r' x lo hi H Q) := by
 intro pins s σ H x v vl vu lo hi sl Q I rx hs pl pu q
 rcases q with q | q
 . exact h pins s σ H x v vl vu lo hi sl Q I rx hs pl pu q
 . exact h' pins s σ H x v vl vu lo hi sl Q I rx hs pl pu q
def tSl (r : V -> Option Int -> Option Int -> Hp -> VK -> Prop) (te : TE) (tl th : TO) : TE := fun σ H Q => te σ H fun x H1 => tl σ H1 fun l H2 => th σ H2 fun u H3 => r x l u H3 Q
theorem pe_slice {r : V -> Option Int -> Option Int -> Hp -> VK -> Prop} (hr : SlR X r) (he : PE X e te) (hl : PO X lo tl) (hu : PO X hi th) : PE X (.Subscript e (.Slice lo hi none p2) pos) (tSl r te tl th) := by
 intro pins s σ H Q I h
 refine Subscript_ (thn (he pins s σ H _ I h) fun v s1 ⟨x, H1, I1, r1, q1⟩ => ?_)
 refine wpAny_Slice (thn (hl pins s1 σ H1 _ I1 q1) fun vl s2 ⟨l, H2, I2, pl, q2⟩ => thn (hu pins s2 σ H2 _ I2 q2) fun vu s3 ⟨u, H3, I3, pu, q3⟩ => ?_)
 rw [evalPart_none]
 refine wpAny_pure ?_
 have I4 : Inv X pins σ H3 { s3 with heap := s3.heap.push { cls := .type "slice", data := .fields #[vl, vu, .none] } } := I3.kept (t' := s3.toks) fun b ob q => Heap.get?_push_of_some _ q
 obtain ⟨T, id, hT, ht, hg⟩ := hr pins { s3 with heap := s3.heap.push { cls := .type "slice", data := .fields #[vl, vu, .none] } } σ H3 x v vl vu l u s3.heap.objs.size Q I4 r1 (Heap.IsSliceOf.new ..) pl pu q3
 show wpAny (model X.prog X.w) X.A (subscriptTail e (.Slice lo hi none p2) v (.ref s3.heap.objs.size)) (EP X pins σ Q) X.xe { s3 with heap := s3.heap.push { cls := .type "slice", data := .fields #[vl, vu, .none] } }
 exact tail_any (ops := [.ref s3.heap.objs.size, v]) ht hT hg (by with_unfolding_all rfl)
def cutV (xs : List V) (lo hi : Option Int) : List V := (xs.drop (HT.sIx xs.length 0 lo)).take (HT.sIx xs.length xs.length hi - HT.sIx xs.length 0 lo)
theorem cutV_length (xs : List V) (lo hi : Option Int) : (cutV xs lo hi).length <= xs.length := by
 unfold cutV
 rw [List.length_take, List.length_drop]
 omega
end
def ixN (n : Nat) (i : Int) : Option Nat := if 0 <= i then (if i < n then some i.toNat else none) else if -(n : Int) <= i then some (i + n).toNat else none
def atI {α : Type} (xs : List α) (i : Int) : Option α := (ixN xs.length i).bind fun j => xs[j]?
theorem ixN_seq {n : Nat} {i : Int} {j : Nat} (h : ixN n i = some j) : seqIndex? i n = some j /\ j < n /\ -(n : Int) <= i /\ i < n := by
 unfold ixN at h
 by_cases h0 : 0 <= i
 . rw [if_pos h0] at h
   by_cases h1 : i < n
   . rw [if_pos h1] at h
     have e : i.toNat = j := Option.some.inj h
     exact ⟨by rw [seqIndex_of h0 h1, e], by omega, by omega, h1⟩
   . rw [if_neg h1] at h; cases h
 . rw [if_neg h0] at h
   by_cases h1 : -(n : Int) <= i
   . rw [if_pos h1] at h
     have e : (i + n).toNat = j := Option.some.inj h
     exact ⟨by rw [seqIndex_neg (by omega) h1, e], by omega, h1, by omega⟩
   . rw [if_neg h1] at h; cases h
theorem atI_get {α : Type} {xs : List α} {i : Int} {v : α} (h : atI xs i = some v) : ∃ j, seqIndex? i xs.length = some j /\ xs[j]? = some v /\ j < xs.length /\ -(xs.length : Int) <= i /\ i < xs.length := by
 unfold atI at h
 cases e : ixN xs.length i with
 | none => rw [e] at h; cases h
 | some j =>
   rw [e] at h
   obtain ⟨h1, h2, h3, h4⟩ := ixN_seq e
   exact ⟨j, h1, h, h2, h3, h4⟩
theorem atI_nat {α : Type} {xs : List α} {j : Nat} {v : α} (h : xs[j]? = some v) : atI xs (j : Int) = some v := by
 have hj : j < xs.length := (List.getElem?_eq_some_iff.mp h).1
 have e : ixN xs.length (j : Int) = some j := by
   unfold ixN
   rw [if_pos (by omega), if_pos (by omega)]; simp
 unfold atI; rw [e]; exact h
theorem atI_last {α : Type} (xs : List α) (v : α) : atI (xs ++ [v]) (-1) = some v := by
 have hl : (xs ++ [v]).length = xs.length + 1 := by simp
 have e : ixN (xs ++ [v]).length (-1) = some xs.length := by
   unfold ixN
   rw [hl, if_neg (by decide), if_pos (by omega)]
   congr 1
   omega
 unfold atI
 rw [e]
 show (xs ++ [v])[xs.length]? = some v
 simp
def PlainIx (b : Expr) : Prop := ∀ o i, subscripted b false o i = operate [o, i] (getItem o i)
def IxR (X : Cx) (r : R2) : Prop :=
 ∀ (value slice : Expr) (pins : List (Addr × Obj)) (s : Shared) (σ : St) (H : Hp) (x y : V) (v u : Value) (Q : VK), Inv X pins σ H s -> RelV x v -> RelV y u -> r x y H Q ->
   subscripted slice false v u = operate [v, u] (getItem v u) -> wpAny (model X.prog X.w) X.A (subscriptTail value slice v u) (EP X pins σ Q) X.xe s
def MtR (X : Cx) (id : String) (r : V -> List V -> Hp -> VK -> Prop) : Prop :=
 ∀ (pins : List (Addr × Obj)) (s : Shared) (σ : St) (H : Hp) (x : V) (xs : List V) (v : Value) (us : List Value) (Q : VK), Inv X pins σ H s -> RelV x v -> Vals xs us -> r x xs H Q ->
   wpAny (model X.prog X.w) X.A (call (.builtin id) (v :: us)) (EP X pins σ Q) X.xe s
section
variable {X : Cx} {a b : Expr} {ta tb : TE} {pos : Pos}
theorem IxR.or {r r' : R2} (h : IxR X r) (h' : IxR X r') : IxR X (fun x y H Q => r x y H Q \/ r' x y H Q) := by
 intro value slice pins s σ H x y v u Q I rx ry q hs
 rcases q with q | q
 . exact h value slice pins s σ H x y v u Q I rx ry q hs
 . exact h' value slice pins s σ H x y v u Q I rx ry q hs
theorem MtR.or {id : String} {r r' : V -> List V -> Hp -> VK -> Prop} (h : MtR X id r) (h' : MtR X id r') : MtR X id (fun x xs H Q => r x xs H Q \/ r' x xs H Q) := by
 intro pins s σ H x xs v us Q I rx rs q
 rcases q with q | q
 . exact h pins s σ H x xs v us Q I rx rs q
 . exact h' pins s σ H x xs v us Q I rx rs q
theorem zJz {r : R2} (hr : IxR X r) (ha : PE X a ta) (hb : PE X b tb) (hs : PlainIx b) : PE X (.Subscript a b pos) (tOp r ta tb) := by
 intro pins s σ H Q I h
 exact Subscript_ (binT ha hb I h fun v u s2 x y H2 I2 rx ry q => hr a b pins s2 σ H2 x y v u Q I2 rx ry q (hs _ _))
def rIxL (K : PySem.W.Frag) : R2 := fun x y H Q => ∃ p xs i v, x = .ref p /\ y = .int i /\ SqL K H p xs /\ atI xs i = some v /\ Q v H
def rIxT (K : PySem.W.Frag) : R2 := fun x y H Q => ∃ p xs i v, x = .ref p /\ y = .int i /\ SqT K H p xs /\ atI xs i = some v /\ Q v H
theorem zKz : IxR X (rIxL X.K) := by
 intro value slice pins s σ H x y v u Q I rx ry h hs
 obtain ⟨p, xs, i, z, rfl, rfl, hq, he, q⟩ := h
 cases rx
 obtain ⟨t, rfl⟩ := ry
 obtain ⟨its, r, pl, hz⟩ := I.list hq
 obtain ⟨j, h1, h2, h3, h4, h5⟩ := atI_get he
 obtain ⟨w, ew, rw'⟩ := r.get h2
 have hl := r.length
 have hn := line63
 have fin : EP X pins σ Q w s := ⟨z, H, I, rw', q⟩
 by_cases h0 : 0 <= i
 . have hj : i.toNat = j := by
     rw [seqIndex_of h0 h5] at h1
     exact Option.some.inj h1
   exact item_listR pl.isList h0 (by omega) (by rw [hj]; simpa using ew) fin hs
 . have hj : (i + (its.toArray.size : Int)).toNat = j := by
     rw [seqIndex_neg (by omega) h4] at h1
     rw [List.size_toArray, <- hl]
     exact Option.some.inj h1
   exact subscriptTail_builtinR (x := w) pl.isList.typeIs slot_list_getitem.lookup
     (wpAny_getItem_list_neg (Q := fun r s' => r = w /\ EP X pins σ Q r s') pl.isList (by omega) (by rw [List.size_toArray] <;> omega) (by omega) (by rw [hj]; simpa using ew) ⟨rfl, fin⟩) hs
theorem zKq : IxR X (rIxT X.K) := by
 intro value slice pins s σ H x y v u Q I rx ry h hs
 obtain ⟨p, xs, i, z, rfl, rfl, hq, he, q⟩ := h
 cases rx
 obtain ⟨t, rfl⟩ := ry
 obtain ⟨its, r, pl, hz⟩ := I.tuple hq
 obtain ⟨j, h1, h2, h3, h4, h5⟩ := atI_get he
 obtain ⟨w, ew, rw'⟩ := r.get h2
 have hl := r.length
 have hn := line63
 have fin : EP X pins σ Q w s := ⟨z, H, I, rw', q⟩
 exact subscriptTail_builtinR (x := w) pl.typeIs slot_tuple_getitem.lookup
   (getItem_tuple (j := j) (Q := fun r s' => r = w /\ EP X pins σ Q r s') pl (by omega) (by omega) (by rw [List.size_toArray, <- hl]; exact h1) (by simpa using ew) ⟨rfl, fin⟩) hs
theorem mapSeq_set (its : List Value) (n j : Nat) (u : Value) : Obj.mapSeq (·.setIfInBounds j u) { cls := .type "list", data := .seq its.toArray n } = { cls := .type "list", data := .seq (its.set j u).toArray n } := by
 simp [Obj.mapSeq]
theorem Inv.lst {pins : List (Addr × Obj)} {σ : St} {H : Hp} {s : Shared} {p : Addr} {xs : List V} (I : Inv X pins σ H s) (h : H p = some (.lst xs)) :
   ∃ (its : List Value) (n : Nat), Vals xs its /\ s.heap.get? p = some { cls := .type "list", data := .seq its.toArray n } /\ xs.length <= sizeLine := by
 obtain ⟨z, its, n, r, e⟩ := I.hok p _ h
 exact ⟨its, n, r, e, z⟩
theorem Inv.lstUpd {pins : List (Addr × Obj)} {σ : St} {H : Hp} {s : Shared} {p : Addr} {xs ys : List V} {its its' : List Value} {n n' : Nat} {f : Obj -> Obj} (I : Inv X pins σ H s) (h : H p = some (.lst xs))
   (ho : s.heap.get? p = some { cls := .type "list", data := .seq its.toArray n }) (hf : f { cls := .type "list", data := .seq its.toArray n } = { cls := .type "list", data := .seq its'.toArray n' }) (r : Vals ys its') (hz : ys.length <= sizeLine) (t : Nat) :
   Inv X pins σ (upd H p (.lst ys)) { s with heap := s.heap.update p f, toks := t } := by
 have e : (s.heap.update p f).get? p = some { cls := .type "list", data := .seq its'.toArray n' } := by
   rw [Heap.get?_update_self f ho (by rw [hf] <;> rfl), hf]
 refine I.write (x := p) (e := p) (by rw [h]; trivial) (.inl rfl) (fun b u hb q => (Heap.get?_update_other _ _ (Ne.symm hb)).trans q) ⟨_, e⟩ ?_
 exact ⟨hz, its', n', r, e⟩
def rSetL : V -> V -> V -> Hp -> (Hp -> Prop) -> Prop := fun o i v H Q => ∃ p xs k j, o = .ref p /\ i = .int k /\ H p = some (.lst xs) /\ ixN xs.length k = some j /\ Q (upd H p (.lst (xs.set j v)))
theorem xWz : PSet X rSetL := by
 intro pins s σ H o i v ov iv u Q I ro ri rv h
 obtain ⟨p, xs, k, j, rfl, rfl, hp, hj, q⟩ := h
 cases ro
 obtain ⟨t, rfl⟩ := ri
 obtain ⟨its, n, r, ho, hz⟩ := I.lst hp
 obtain ⟨h1, h2, h3, h4⟩ := ixN_seq hj
 have hl := r.length
 have hn := line63
 have I' : Inv X pins σ (upd H p (.lst (xs.set j v))) { s with heap := s.heap.update p (Obj.mapSeq (·.setIfInBounds j u)) } :=
   I.lstUpd hp ho (mapSeq_set its n j u) (r.set rv j) (by rw [List.length_set]; exact hz) s.toks
 by_cases h0 : 0 <= k
 . have hk : k.toNat = j := by
     rw [seqIndex_of h0 h4] at h1
     exact Option.some.inj h1
   exact PySem.W.ki_setAt ho h0 (by omega) (by rw [List.size_toArray, <- hl]; exact h4) (by rw [hk]; exact ⟨_, I', q⟩)
 . have hk : (k + (its.toArray.size : Int)).toNat = j := by
     rw [seqIndex_neg (by omega) h3] at h1
     rw [List.size_toArray, <- hl]
     exact Option.some.inj h1
   exact PySem.W.ki_setBack ho (by omega) (by rw [List.size_toArray, <- hl]; exact h3) (by omega) (by rw [hk]; exact ⟨_, I', q⟩)
theorem slice_bounds (lo hi : Option Int) (n : Nat) : (sliceBounds lo hi none n).1 = ((HT.sIx n 0 lo : Nat) : Int) /\ (sliceBounds lo hi none n).2.1 = ((HT.sIx n n hi : Nat) : Int) /\ (sliceBounds lo hi none n).2.2 = 1 := by
 refine ⟨?_, ?_, rfl⟩
 . cases lo with
   | none => simp [sliceBounds, HT.sIx]
   | some i =>
     simp only [sliceBounds, HT.sIx, Option.getD_none, show (1 : Int) > 0 by decide, if_true]
     by_cases h : i < 0
     . simp only [h, if_true] <;> omega
     . simp only [h, if_false] <;> omega
 . cases hi with
   | none => simp [sliceBounds, HT.sIx]
   | some i =>
     simp only [sliceBounds, HT.sIx, Option.getD_none, show (1 : Int) > 0 by decide, if_true]
     by_cases h : i < 0
     . simp only [h, if_true] <;> omega
     . simp only [h, if_false] <;> omega
theorem slicePick_cut (its : List Value) (lo hi : Option Int) : slicePick its.toArray lo hi none = ((its.drop (HT.sIx its.length 0 lo)).take (HT.sIx its.length its.length hi - HT.sIx its.length 0 lo)).toArray := by
 obtain ⟨h1, h2, h3⟩ := slice_bounds lo hi its.toArray.size
 unfold slicePick
 rw [h1, h2, h3]
 simp only [sliceRange_one, pick_run, List.size_toArray] <;> rfl
def rSlL (K : PySem.W.Frag) : V -> Option Int -> Option Int -> Hp -> VK -> Prop := fun x lo hi H Q => ∃ a xs, x = .ref a /\ SqL K H a xs /\ ∀ p, H p = none -> Q (.ref p) (upd H p (.lst (cutV xs lo hi)))
theorem sl_list : SlR X (rSlL X.K) := by
 intro pins s σ H x v vl vu lo hi sl Q I rx hs pl pu h
 obtain ⟨a, xs, rfl, hx, q⟩ := h
 cases rx
 obtain ⟨its, r, ht, hz⟩ := I.list hx
 have hlen := r.length
 refine ⟨"list", _, slot_list_getitem.lookup, ht.isList.typeIs, ?_⟩
 refine wpAny_getItem_list_slice ht.isList hs pl pu .none (by simp) ?_ (by rw [List.size_toArray] <;> omega)
 rw [slicePick_cut, <- hlen]
 refine ⟨.ref s.heap.objs.size, _, I.laid (t' := s.toks) (o := .lst (cutV xs lo hi)) (fun b ob q => Heap.get?_push_of_some _ q) (Nat.le_refl _) ?_, rfl, q _ (I.hok.fresh (Nat.le_refl _))⟩
 exact ⟨Nat.le_trans (cutV_length xs lo hi) hz, _, 0, (r.drop (HT.sIx xs.length 0 lo)).take (HT.sIx xs.length xs.length hi - HT.sIx xs.length 0 lo), Heap.get?_push_size _ rfl⟩
def flatV : V -> Bool
 | .non => true
 | .bl _ => true
 | .int _ => true
 | .str _ => true
 | _ => false
def eqV : V -> V -> Bool
 | .non, .non => true
 | .bl a, .bl b => a == b
 | .bl a, .int b => (if a then 1 else 0) == b
 | .int a, .bl b => a == (if b then 1 else 0)
 | .int a, .int b => a == b
 | .str a, .str b => a == b
 | _, _ => false
theorem eqAt_V {A : Around} {s : Shared} {y x : V} {u v : Value} (ry : RelV y u) (rx : RelV x v) (fy : flatV y = true) (fx : flatV x = true) : SeqAt.EqAt A s u v (eqV y x) := by
 cases y with
 | non =>
   cases ry
   cases x with
   | non => cases rx; exact SeqAt.EqAt.same _
   | bl b => cases rx; exact SeqAt.EqAt.none_bool b
   | int b => obtain ⟨t, rfl⟩ := rx; exact SeqAt.EqAt.none_int b t
   | str b => obtain ⟨t, rfl⟩ := rx; exact SeqAt.EqAt.none_str b t
   | _ => exact absurd (show false = true from fx) Bool.false_ne_true
 | bl a =>
   cases ry
   cases x with
   | non => cases rx; exact SeqAt.EqAt.bool_none a
   | bl b => cases rx; exact SeqAt.EqAt.bool_bool a b
   | int b => obtain ⟨t, rfl⟩ := rx; exact SeqAt.EqAt.bool_int a b t
   | str b => obtain ⟨t, rfl⟩ := rx; exact SeqAt.EqAt.bool_str a b t
   | _ => exact absurd (show false = true from fx) Bool.false_ne_true
 | int a =>
   obtain ⟨t', rfl⟩ := ry
   cases x with
   | non => cases rx; exact SeqAt.EqAt.int_none a t'
   | bl b => cases rx; exact SeqAt.EqAt.int_bool a t' b
   | int b => obtain ⟨t, rfl⟩ := rx; exact SeqAt.EqAt.int_int a t' b t
   | str b => obtain ⟨t, rfl⟩ := rx; exact SeqAt.EqAt.int_str a t' b t
   | _ => exact absurd (show false = true from fx) Bool.false_ne_true
 | str a =>
   obtain ⟨t', rfl⟩ := ry
   cases x with
   | non => cases rx; exact SeqAt.EqAt.str_none a t'
   | bl b => cases rx; exact SeqAt.EqAt.str_bool a t' b
   | int b => obtain ⟨t, rfl⟩ := rx; exact SeqAt.EqAt.str_int a t' b t
   | str b => obtain ⟨t, rfl⟩ := rx; exact SeqAt.EqAt.str_str a t' b t
   | _ => exact absurd (show false = true from fx) Bool.false_ne_true
 | _ => exact absurd (show false = true from fy) Bool.false_ne_true
theorem yZx : CallR X (.builtin "len") (fun xs H Q => ∃ p ys, xs = [.ref p] /\ (SqL X.K H p ys \/ SqT X.K H p ys) /\ Q (.int ys.length) H) := by
 intro pins s σ H xs us Q I r h
 obtain ⟨p, ys, rfl, hq, q⟩ := h
 obtain ⟨u, rfl, rx⟩ := vals1 r
 cases rx
 have hn := line63
 rcases hq with hq | hq
 . obtain ⟨its, r', pl, hz⟩ := I.list hq
   have hlen := r'.length
   exact Calls.call_len_list pl.isList (by simp only [List.size_toArray] <;> omega) ⟨.int ys.length, H, I.tok _, ⟨s.toks + 1, by rw [List.size_toArray, hlen]⟩, q⟩
 . obtain ⟨its, r', pl, hz⟩ := I.tuple hq
   have hlen := r'.length
   exact len_tuple pl (by simp only [List.size_toArray] <;> omega) ⟨.int ys.length, H, I.tok _, ⟨s.toks + 1, by rw [List.size_toArray, hlen]⟩, q⟩
theorem CallR.or {f : Value} {r r' : List V -> Hp -> VK -> Prop} (h : CallR X f r) (h' : CallR X f r') : CallR X f (fun xs H Q => r xs H Q \/ r' xs H Q) := by
 intro pins s σ H xs us Q I rs q
 rcases q with q | q
 . exact h pins s σ H xs us Q I rs q
 . exact h' pins s σ H xs us Q I rs q
def tyV (K : PySem.W.Frag) (T : String) (x : V) (H : Hp) : Prop := match x with
 | .str _ => T = "str"
 | .int _ => T = "int"
 | .ref p => (T = "list" /\ ∃ xs, SqL K H p xs) \/ (T = "tuple" /\ ∃ o, K.lookup p = some o /\ o.cls = .type "tuple" /\ o.dict = none) \/
     (T = "dict" /\ ((∃ kvs, H p = some (.dK kvs)) \/ ∃ kvs, H p = some (.dT kvs))) \/ (T = "set" /\ ∃ S n, H p = some (.set S n))
 | _ => False
theorem tyV_is {pins : List (Addr × Obj)} {σ : St} {H : Hp} {s : Shared} {T : String} {x : V} {v : Value} (I : Inv X pins σ H s) (r : RelV x v) (ty : tyV X.K T x H) :
   s.TypeIs v T /\ ∀ a, v = .ref a -> ∃ ob, s.heap.get? a = some ob /\ ob.dict = none := by
 cases x with
 | str z =>
   obtain ⟨t, rfl⟩ := r
   cases (show T = "str" from ty)
   exact ⟨typeIs_str s z t, fun _ e => nomatch e⟩
 | int i =>
   obtain ⟨t, rfl⟩ := r
   cases (show T = "int" from ty)
   exact ⟨typeIs_int s i t, fun _ e => nomatch e⟩
 | ref p =>
   cases r
   rcases ty with ⟨rfl, xs, hq⟩ | ⟨rfl, o, hk, hc, hd⟩ | ⟨rfl, hk⟩ | ⟨rfl, S, n, hk⟩
   . obtain ⟨its, _, pl, _⟩ := I.list hq
     refine ⟨pl.isList.typeIs, fun a e => ?_⟩
     cases e
     obtain ⟨o, n, e, c, hd, _⟩ := pl
     exact ⟨o, e, hd⟩
   . refine ⟨⟨o, I.kIn p o hk, hc⟩, fun a e => ?_⟩
     cases e
     exact ⟨o, I.kIn _ o hk, hd⟩
   . have z : ∃ o, s.heap.get? p = some o /\ o.ExactDict := by
       rcases hk with ⟨kvs, hk⟩ | ⟨kvs, hk⟩
       . obtain ⟨_, _, _, _, o, _, _, e, ex, _⟩ := I.hok p _ hk
         exact ⟨o, e, ex⟩
       . obtain ⟨_, _, _, _, o, _, _, e, ex, _⟩ := I.hok p _ hk
         exact ⟨o, e, ex⟩
     obtain ⟨o, e, ex⟩ := z
     refine ⟨⟨o, e, ex.1⟩, fun a e2 => ?_⟩
     cases e2
     exact ⟨o, e, ex.2.1⟩
   . obtain ⟨o, _, _, _, e, ex, _⟩ := I.hok p _ hk
     refine ⟨⟨o, e, ex.1⟩, fun a e2 => ?_⟩
     cases e2
     exact ⟨o, e, ex.2.1⟩
 | _ => exact False.elim ty
def tBM (K : PySem.W.Frag) (T : String) (r : V -> List V -> Hp -> VK -> Prop) (to : TE) (t : TA) : TE := fun σ H Q => to σ H fun x H1 => tyV K T x H1 /\ t σ H1 fun xs H2 => r x xs H2 Q
variable {o e : Expr} {es : List Expr} {to : TE} {t : TA} {name : Str} {apos cpos : Pos} {T id : String} {r : V -> List V -> Hp -> VK -> Prop}
theorem pe_bm (pa : PlainAttrs T) (slot : Slot T name id) (hty : typeOf (.builtin id) = pure (.type "method_descriptor")) (hm : MtR X id r) (ho : PE X o to) (ha : PA X (e :: es) t)
   (hbase : attributeBase o name X.env (eval o X.env) = eval o X.env := by rfl)
   (hfew : ((backTo cpos (starEach (e :: es) X.env)).all (fun x => !x.1) && (backToKw cpos (keywordEach [] X.env)).all (fun x => x.1.isSome)
     && decide ((e :: es).length + ([] : List Keyword).length + (if ([] : List Keyword).isEmpty then 0 else 1) < 30)) = true := by rfl)
   (hline : (apos.endLine == cpos.line) = true := by rfl) (hs : starEach (e :: es) X.env = (false, eval e X.env) :: starEach es X.env := by exact zQq rfl) (hplain : (backTo cpos (starEach es X.env)).any (·.1) = false := by exact zQx rfl) :
   PE X (.Call (.Attribute o name apos) (e :: es) [] cpos) (tBM X.K T r to t) := by
 intro pins s σ H Q I h
 refine wpAny_Call_method_late hbase hfew hline rfl (thn (ho pins s σ H _ I h) fun v s1 ⟨x, H1, I1, r1, ty, q1⟩ => ?_)
 obtain ⟨h1, h2⟩ := tyV_is I1 r1 ty
 refine ⟨T, id, pa, slot, hty, h1, h2, ?_⟩
 have hA := ha cpos pins s1 σ H1 _ I1 q1
 rw [hs] at hA ⊢
 refine Calls.callWith_builtin (by show (false || (backTo cpos (starEach es X.env)).any (·.1)) = false; rw [hplain] <;> rfl) (Calls.evalArgs_plain ?_)
 exact thn hA fun us s2 ⟨vs, H2, I2, r2, q2⟩ => hm pins s2 σ H2 x vs v us Q I2 r1 r2 q2
end
def MtM (X : Cx) (id : String) (r : V -> List V -> Hp -> VK -> Prop) : Prop :=
 ∀ (pins : List (Addr × Obj)) (s : Shared) (σ : St) (H : Hp) (x : V) (xs : List V) (v : Value) (us : List Value) (Q : VK), Inv X pins σ H s -> RelV x v -> Vals xs us -> r x xs H Q ->
   wpAny (model X.prog X.w) X.A (call (.builtin id) (v :: us)) (EP X pins σ Q) X.xe s
theorem Vals.one : ∀ {x : V} {us : List Value}, Vals [x] us -> ∃ u, us = [u] /\ RelV x u
 | _, _, .cons r .nil => ⟨_, rfl, r⟩
theorem Vals.two : ∀ {x y : V} {us : List Value}, Vals [x, y] us -> ∃ u v, us = [u, v] /\ RelV x u /\ RelV y v
 | _, _, _, .cons r (.cons q .nil) => ⟨_, _, rfl, r, q⟩
theorem Vals.zero : ∀ {us : List Value}, Vals [] us -> us = []
 | _, .nil => rfl
theorem Vals.reverse {xs : List V} {us : List Value} (h : Vals xs us) : Vals xs.reverse us.reverse := by
 induction h with
 | nil => exact .nil
 | cons r t ih => rw [List.reverse_cons, List.reverse_cons]; exact Vals.append ih (.cons r .nil)
theorem Vals.rep {xs : List V} {us : List Value} (h : Vals xs us) : ∀ k : Nat, Vals (List.replicate k xs).flatten (List.replicate k us).flatten
 | 0 => .nil
 | k + 1 => by
   rw [List.replicate_succ, List.replicate_succ, List.flatten_cons, List.flatten_cons]
   exact Vals.append h (Vals.rep h k)
theorem foldl_rep (its : List Value) : ∀ (k : Nat) (acc : List Value),
   List.foldl (fun x1 x2 => x1 ++ x2) acc.toArray (List.replicate k its.toArray) = (acc ++ (List.replicate k its).flatten).toArray
 | 0, acc => by simp
 | k + 1, acc => by
   have e : acc.toArray ++ its.toArray = (acc ++ its).toArray := by simp
   have e2 : (acc ++ its) ++ (List.replicate k its).flatten = acc ++ (List.replicate (k + 1) its).flatten := by
     rw [List.replicate_succ, List.flatten_cons, List.append_assoc]
   rw [<- e2, <- foldl_rep its k (acc ++ its), <- e, List.replicate_succ, List.foldl_cons]
section
variable {X : Cx} {pins : List (Addr × Obj)} {σ : St} {H : Hp} {s : Shared} {l b : Addr} {xs ys zs : List V}
theorem Inv.lset {its its' : List Value} {n : Nat} {f : Array Value -> Array Value} {t' : Nat} (I : Inv X pins σ H s) (hH : H l = some (.lst xs))
   (e : s.heap.get? l = some { cls := .type "list", data := .seq its.toArray n }) (hf : f its.toArray = its'.toArray) (hv : Vals ys its') (hz : ys.length <= sizeLine) :
   Inv X pins σ (upd H l (.lst ys)) { s with heap := s.heap.update l (Obj.mapSeq f), toks := t' } := by
 have q := PySem.IsL.update e f
 rw [hf] at q
 refine I.write (x := l) (e := l) (by rw [hH]; exact trivial) (.inl rfl) (fun b' u hb hu => (Heap.get?_update_other s.heap (Obj.mapSeq f) (Ne.symm hb)).trans hu) ⟨_, q⟩ ?_
 exact ⟨hz, its', _, hv, q⟩
theorem Inv.lnew {its : List Value} {t' : Nat} (I : Inv X pins σ H s) (hv : Vals ys its) (hz : ys.length <= sizeLine) :
   Inv X pins σ (upd H s.heap.objs.size (.lst ys)) { s with heap := s.heap.push { cls := .type "list", data := .seq its.toArray }, toks := t' } :=
 I.laid (fun _ _ q => Heap.get?_push_of_some _ q) (Nat.le_refl _) ⟨hz, its, 0, hv, Heap.get?_push_size _ rfl⟩
theorem Inv.fresh (I : Inv X pins σ H s) : H s.heap.objs.size = none := I.hok.fresh (Nat.le_refl _)
theorem Inv.lstM (I : Inv X pins σ H s) (hH : H l = some (.lst xs)) : xs.length <= sizeLine /\ ∃ (its : List Value) (n : Nat), Vals xs its /\ xs.length = its.length /\ s.heap.get? l = some { cls := .type "list", data := .seq its.toArray n } := by
 obtain ⟨z, its, n, r, e⟩ := I.hok l _ hH
 exact ⟨z, its, n, r, r.length, e⟩
theorem notLongL {n : Nat} (h : n <= sizeLine) : Builtin.List.listTooLong n = false := by
 unfold Builtin.List.listTooLong
 exact decide_eq_false (by omega)
end
section
variable {X : Cx}
def rAppend : V -> List V -> Hp -> VK -> Prop := fun x vs H Q => ∃ l xs y, x = .ref l /\ vs = [y] /\ H l = some (.lst xs) /\ xs.length < sizeLine /\ Q .non (upd H l (.lst (xs ++ [y])))
theorem wQw : MtM X "list.append" rAppend := by
 intro pins s σ H x vs v us Q I rx rv h
 obtain ⟨l, xs, y, rfl, rfl, hH, hz, q⟩ := h
 cases rx
 obtain ⟨u, rfl, ru⟩ := rv.one
 obtain ⟨z, its, n, r, hl, e⟩ := I.lstM hH
 refine call_meets F.slot_list_append ⟨_, e, rfl⟩ F.entry_list_append (F.args_list_append_2 _ _) (PySem.list_append l its.toArray n u (by rw [List.size_toArray]; omega)) ⟨e, ?_⟩
 refine ⟨.non, _, I.lset (its' := its ++ [u]) hH e (by simp) (r.append (.cons ru .nil)) ?_, rfl, q⟩
 rw [List.length_append, List.length_singleton]
 omega
def rExtend : V -> List V -> Hp -> VK -> Prop := fun x vs H Q => ∃ l b xs zs, x = .ref l /\ vs = [.ref b] /\ H l = some (.lst xs) /\ H b = some (.lst zs) /\ xs.length + zs.length <= sizeLine /\ Q .non (upd H l (.lst (xs ++ zs)))
theorem mt_extend : MtM X "list.extend" rExtend := by
 intro pins s σ H x vs v us Q I rx rv h
 obtain ⟨l, b, xs, zs, rfl, rfl, hH, hB, hz, q⟩ := h
 cases rx
 obtain ⟨u, rfl, ru⟩ := rv.one
 cases ru
 obtain ⟨z, its, n, r, hl, e⟩ := I.lstM hH
 obtain ⟨z2, its2, n2, r2, hl2, e2⟩ := I.lstM hB
 have hsz : its.toArray.size + its2.toArray.size <= sizeLine := by rw [List.size_toArray, List.size_toArray]; omega
 have hlong : ¬ (!its.toArray.isEmpty && Builtin.List.listTooLong (its.toArray.size + its2.toArray.size)) = true := by
   rw [notLongL hsz, Bool.and_false]
   exact Bool.false_ne_true
 refine call_meets F.slot_list_extend ⟨_, e, rfl⟩ F.entry_list_extend (F.args_list_extend_2 _ _)
   (AutoSeq1.list_extend_list_list_0 l its.toArray n b its2.toArray n2 hlong (by rw [List.size_toArray]; omega) (by omega)) ⟨e, e2, ?_⟩
 refine ⟨.non, _, I.lset (its' := its ++ its2) hH e (by simp) (r.append r2) ?_, rfl, q⟩
 rw [List.length_append]
 omega
def rCat : R2 := fun x y H Q => ∃ l b xs zs, x = .ref l /\ y = .ref b /\ H l = some (.lst xs) /\ H b = some (.lst zs) /\ xs.length + zs.length <= sizeLine /\ ∀ p, H p = none -> Q (.ref p) (upd H p (.lst (xs ++ zs)))
theorem op_cat : OpR X (binaryOp .Add) rCat := by
 intro pins s σ H x y v u Q I rx ry h
 obtain ⟨l, b, xs, zs, rfl, rfl, hH, hB, hz, q⟩ := h
 cases rx
 cases ry
 obtain ⟨z, its, n, r, hl, e⟩ := I.lstM hH
 obtain ⟨z2, its2, n2, r2, hl2, e2⟩ := I.lstM hB
 refine PySem.P.add_list e e2 ?_ (by rw [List.size_toArray, List.size_toArray]; omega)
 have ea : its.toArray ++ its2.toArray = (its ++ its2).toArray := by simp
 rw [ea]
 exact ⟨.ref _, _, I.lnew (t' := s.toks) (r.append r2) (by rw [List.length_append]; omega), rfl, q _ I.fresh⟩
def rRep : R2 := fun x y H Q => ∃ l k xs, x = .ref l /\ y = .int k /\ H l = some (.lst xs) /\ -(2 ^ 63) <= k /\ k < 2 ^ 63 /\ xs.length * k.toNat <= sizeLine /\
 ∀ p, H p = none -> Q (.ref p) (upd H p (.lst (List.replicate k.toNat xs).flatten))
theorem len_rep {α : Type} (xs : List α) (k : Nat) : (List.replicate k xs).flatten.length = k * xs.length := by
 induction k with
 | zero => simp
 | succ k ih => rw [List.replicate_succ, List.flatten_cons, List.length_append, ih, Nat.succ_mul, Nat.add_comm]
theorem op_rep : OpR X (binaryOp .Mult) rRep := by
 intro pins s σ H x y v u Q I rx ry h
 obtain ⟨l, k, xs, rfl, rfl, hH, h1, h2, hz, q⟩ := h
 cases rx
 obtain ⟨t, rfl⟩ := ry
 obtain ⟨z, its, n, r, hl, e⟩ := I.lstM hH
 have hlen : its.toArray.size * k.toNat <= sizeLine := by rw [List.size_toArray, <- hl]; exact hz
 have hcap : ¬ its.toArray.size * k.toNat > (2 ^ 63 - 1) / 8 := by
   have : (sizeLine : Nat) <= (2 ^ 63 - 1) / 8 := by decide
   omega
 have hfit : ¬ (!Builtin.List.listFitsIndex k) = true := by
   rw [fitsIndex_both h1 h2]
   exact Bool.false_ne_true
 have hlong : ¬ Builtin.List.listTooLong (its.toArray.size * k.toNat) = true := by
   rw [notLongL hlen]
   exact Bool.false_ne_true
 have hnew : List.foldl (fun x1 x2 => x1 ++ x2) #[] (List.replicate (if its.toArray.isEmpty = true then 0 else k.toNat) its.toArray) = (List.replicate k.toNat its).flatten.toArray := by
   have f0 : ∀ m : Nat, List.foldl (fun x1 x2 => x1 ++ x2) #[] (List.replicate m its.toArray) = (List.replicate m its).flatten.toArray := fun m => by
     have := foldl_rep its m []
     rw [List.nil_append] at this
     exact this
   rw [f0]
   cases its with
   | nil => simp
   | cons a r' => rw [if_neg (by simp)]
 refine wpAny_binaryOp_repeat_ref (T := "list") (U := "int") (by decide) ⟨_, e, rfl⟩ (fun s' => typeIs_int s' k t) noFill_list_mul F.fills_int_mul F.slot_int_rmul repeat_list F.slot_int_index.lookup
   (call_meets F.slot_int_rmul (typeIs_int s k t) F.entry_int_rmul (F.args_int_rmul_2 _ _) (int___rmul___int_list k t l its.toArray n)
     ⟨e, rfl, ⟨_, e, rfl⟩, call_meets F.slot_list_mul ⟨_, e, rfl⟩ F.entry_list_mul (F.args_list_mul_2 _ _) (AutoListH.list___mul___list_int_3 l its.toArray n k t hfit hcap hlong) ⟨e, ?_⟩⟩)
 rw [hnew]
 exact ⟨.ref _, _, I.lnew (t' := s.toks) (r.rep k.toNat) (by rw [len_rep, Nat.mul_comm]; exact hz), rfl, q _ I.fresh⟩
end
section
variable {prog : Program} {w : World} {A : Around} {E : Value -> Shared -> Prop} {s : Shared}
end
section
variable {X : Cx}
end
section
variable {κ : Type} [DecidableEq κ]
def valV (kvs : List (κ × V)) (k : κ) : Option V := (kvs.find? fun kv => decide (kv.1 = k)).map (·.2)
def putK (kvs : List (κ × V)) (k : κ) (v : V) : List (κ × V) :=
 if (kvs.any fun kv => decide (kv.1 = k)) = true then kvs.map (fun kv => if kv.1 = k then (kv.1, v) else kv) else kvs ++ [(k, v)]
def dropK (kvs : List (κ × V)) (k : κ) : List (κ × V) := kvs.filter fun kv => decide (kv.1 ≠ k)
theorem zKk {p : κ × V} {r : List (κ × V)} {k : κ} (e : p.1 = k) : valV (p :: r) k = some p.2 := by simp [valV, List.find?_cons, e]
theorem zKv {p : κ × V} {r : List (κ × V)} {k : κ} (e : ¬ p.1 = k) : valV (p :: r) k = valV r k := by simp [valV, List.find?_cons, e]
theorem xJk (k : κ) : ∀ kvs : List (κ × V), (kvs.any fun kv => decide (kv.1 = k)) = (valV kvs k).isSome
 | [] => rfl
 | p :: r => by
   rw [List.any_cons]
   by_cases e : p.1 = k
   . simp only [zKk e, decide_eq_true e, Bool.true_or, Option.isSome_some]
   . rw [zKv e, decide_eq_false e, Bool.false_or]; exact xJk k r
theorem valV_map (k j : κ) (y : V) : ∀ kvs : List (κ × V), valV (kvs.map fun kv => if kv.1 = k then (kv.1, y) else kv) j = (valV kvs j).map fun x => if j = k then y else x
 | [] => rfl
 | p :: r => by
   have ih := valV_map k j y r
   rw [List.map_cons]
   by_cases h : p.1 = k
   . rw [if_pos h]
     by_cases e : p.1 = j
     . rw [zKk (p := (p.1, y)) e, zKk e, Option.map_some, if_pos (e.symm.trans h)]
     . rw [zKv (p := (p.1, y)) e, zKv e, ih]
   . rw [if_neg h]
     by_cases e : p.1 = j
     . rw [zKk (p := p) e, zKk e, Option.map_some, if_neg (fun z => h (e.trans z))]
     . rw [zKv (p := p) e, zKv e, ih]
theorem valV_snoc (k j : κ) (y : V) : ∀ kvs : List (κ × V), valV kvs k = none -> valV (kvs ++ [(k, y)]) j = if j = k then some y else valV kvs j
 | [], _ => by
   by_cases e : k = j
   . rw [if_pos e.symm]; exact zKk (p := (k, y)) e
   . rw [if_neg (fun z => e z.symm)]; exact zKv (p := (k, y)) e
 | p :: r, hn => by
   rw [List.cons_append]
   have hk : ¬ p.1 = k := fun z => by rw [zKk z] at hn; cases hn
   rw [zKv hk] at hn
   have ih := valV_snoc k j y r hn
   by_cases e : p.1 = j
   . rw [zKk e, zKk e, if_neg (fun z => hk (e.trans z))]
   . rw [zKv e, zKv e, ih]
theorem valV_put (kvs : List (κ × V)) (k j : κ) (y : V) : valV (putK kvs k y) j = if j = k then some y else valV kvs j := by
 unfold putK
 by_cases a : (kvs.any fun kv => decide (kv.1 = k)) = true
 . rw [if_pos a, valV_map]
   rw [xJk] at a
   by_cases e : j = k
   . obtain ⟨x, hx⟩ := Option.isSome_iff_exists.mp a
     rw [if_pos e, e, hx, Option.map_some, if_pos rfl]
   . rw [if_neg e]
     cases valV kvs j with
     | none => rfl
     | some x => rw [Option.map_some, if_neg e]
 . rw [if_neg a]
   refine valV_snoc k j y kvs ?_
   rw [xJk] at a
   cases q : valV kvs k with
   | none => rfl
   | some x => rw [q] at a; exact (a rfl).elim
theorem xQv (kvs : List (κ × V)) (k : κ) (v : V) : (putK kvs k v).length <= kvs.length + 1 := by
 unfold putK
 split
 . rw [List.length_map]; omega
 . rw [List.length_append, List.length_cons, List.length_nil]; omega
theorem RelO.isSome_eq {o : Option V} {u : Option Value} (r : RelO o u) : o.isSome = u.isSome := by
 cases o with
 | none => cases u with
   | none => rfl
   | some _ => exact (show False from r).elim
 | some _ => cases u with
   | none => exact (show False from r).elim
   | some _ => rfl
theorem RelO.getD {o : Option V} {u : Option Value} {d : V} {d' : Value} (r : RelO o u) (rd : RelV d d') : RelV (o.getD d) (u.getD d') := by
 cases o with
 | none => cases u with
   | none => exact rd
   | some _ => exact (show False from r).elim
 | some _ => cases u with
   | none => exact (show False from r).elim
   | some _ => exact r
theorem KV.val {kvs : List (κ × V)} {vs : List (κ × Value)} (r : KV kvs vs) (k : κ) : RelO (valV kvs k) (valueAt vs k) := by
 unfold KV at r
 induction r with
 | nil => exact True.intro
 | @cons p q ps qs h t ih =>
   obtain ⟨h1, h2⟩ := h
   by_cases e : p.1 = k
   . have e' : q.1 = k := h1.symm.trans e
     have b : valueAt (q :: qs) k = some q.2 := by simp [valueAt, List.find?_cons, e']
     rw [zKk e, b]; exact h2
   . have e' : ¬ q.1 = k := fun z => e (h1.trans z)
     have b : valueAt (q :: qs) k = valueAt qs k := by simp [valueAt, List.find?_cons, e']
     rw [zKv e, b]; exact ih
theorem KV.any {kvs : List (κ × V)} {vs : List (κ × Value)} (r : KV kvs vs) (k : κ) : (kvs.any fun kv => decide (kv.1 = k)) = vs.any fun kv => decide (kv.1 = k) := by
 unfold KV at r
 induction r with
 | nil => rfl
 | cons h t ih => rw [List.any_cons, List.any_cons, ih, h.1]
theorem KV.repl {kvs : List (κ × V)} {vs : List (κ × Value)} (r : KV kvs vs) (k : κ) {y : V} {u : Value} (ry : RelV y u) :
   KV (kvs.map fun kv => if kv.1 = k then (kv.1, y) else kv) (vs.map fun kv => if kv.1 = k then (kv.1, u) else kv) := by
 unfold KV at r ⊢
 induction r with
 | nil => exact .nil
 | @cons p q ps qs h t ih =>
   rw [List.map_cons, List.map_cons]
   refine .cons ?_ ih
   obtain ⟨h1, h2⟩ := h
   by_cases e : p.1 = k
   . rw [if_pos e, if_pos (h1.symm.trans e)]; exact ⟨h1, ry⟩
   . rw [if_neg e, if_neg (fun z => e (h1.trans z))]; exact ⟨h1, h2⟩
theorem KV.put {kvs : List (κ × V)} {vs : List (κ × Value)} (r : KV kvs vs) (k : κ) {y : V} {u : Value} (ry : RelV y u) : KV (putK kvs k y) (stored vs k u) := by
 unfold putK stored
 rw [r.any k]
 by_cases e : (vs.any fun kv => decide (kv.1 = k)) = true
 . rw [if_pos e, if_pos e]; exact r.repl k ry
 . rw [if_neg e, if_neg e]; exact Paired.snoc r ⟨rfl, ry⟩
theorem KV.drop {kvs : List (κ × V)} {vs : List (κ × Value)} (r : KV kvs vs) (k : κ) : KV (dropK kvs k) (without vs k) := by
 unfold KV at r ⊢
 unfold dropK without
 induction r with
 | nil => exact .nil
 | @cons p q ps qs h t ih =>
   obtain ⟨h1, h2⟩ := h
   rw [List.filter_cons, List.filter_cons]
   by_cases e : p.1 = k
   . have a : ¬ decide (p.1 ≠ k) = true := by simp [e]
     have b : ¬ decide (q.1 ≠ k) = true := by simp [h1.symm.trans e]
     rw [if_neg a, if_neg b]; exact ih
   . have e' : ¬ q.1 = k := fun z => e (h1.trans z)
     have a : decide (p.1 ≠ k) = true := by simp [e]
     have b : decide (q.1 ≠ k) = true := by simp [e']
     rw [if_pos a, if_pos b]; exact .cons ⟨h1, h2⟩ ih
theorem KV.keys {kvs : List (κ × V)} {vs : List (κ × Value)} (r : KV kvs vs) : kvs.map (·.1) = vs.map (·.1) := by
 unfold KV at r
 induction r with
 | nil => rfl
 | cons h t ih => rw [List.map_cons, List.map_cons, ih, h.1]
theorem KV.length {kvs : List (κ × V)} {vs : List (κ × Value)} (r : KV kvs vs) : kvs.length = vs.length := Paired.length r
end
theorem kV_is {P : Program} {w : World} {k : Key} {u : Value} (r : RelV (kV k) u) : (mixKind P w).is k u = true := by
 cases k with
 | inl i => obtain ⟨t, e⟩ := (show ∃ t, u = Value.int i t from r); subst e; exact mixKind_int P w i t
 | inr x => obtain ⟨t, e⟩ := (show ∃ t, u = Value.str x t from r); subst e; exact mixKind_str P w x t
theorem items_are {P : Program} {w : World} : ∀ {ks : List Key} {us : List Value}, Vals (ks.map kV) us -> ItemsAre (mixKind P w) ks us
 | [], _, r => by rw [List.map_nil] at r; cases r; exact .nil
 | k :: ks, _, r => by
   rw [List.map_cons] at r
   cases r with
   | cons h t => exact .cons (kV_is h) (items_are t)
abbrev KT (H : Hp) : List (List Key × V) -> List (List Key × Addr × Value) -> Prop := Paired fun p q => p.1 = q.1 /\ H q.2.1 = some (.tup (p.1.map kV)) /\ RelV p.2 q.2.2
theorem KT.val {H : Hp} {kvs : List (List Key × V)} {xs : List (List Key × Addr × Value)} (r : KT H kvs xs) (k : List Key) : RelO (valV kvs k) ((atKey xs k).map (·.2)) := by
 induction r with
 | nil => exact True.intro
 | @cons p q ps qs h t ih =>
   obtain ⟨h1, _, h2⟩ := h
   by_cases e : p.1 = k
   . have e' : q.1 = k := h1.symm.trans e
     have b : atKey (q :: qs) k = some q.2 := by simp [atKey, List.find?_cons, e']
     rw [zKk e, b]; exact h2
   . have e' : ¬ q.1 = k := fun z => e (h1.trans z)
     have b : atKey (q :: qs) k = atKey qs k := by simp [atKey, List.find?_cons, e']
     rw [zKv e, b]; exact ih
theorem KT.repl {H : Hp} {kvs : List (List Key × V)} {xs : List (List Key × Addr × Value)} (r : KT H kvs xs) (k : List Key) {y : V} {u : Value} (ry : RelV y u) :
   KT H (kvs.map fun kv => if kv.1 = k then (kv.1, y) else kv) (xs.map (putAt k u)) := by
 induction r with
 | nil => exact .nil
 | @cons p q ps qs h t ih =>
   rw [List.map_cons, List.map_cons]
   refine .cons ?_ ih
   obtain ⟨h1, h2, h3⟩ := h
   unfold putAt
   by_cases e : p.1 = k
   . rw [if_pos e, if_pos (h1.symm.trans e)]; exact ⟨h1, h2, ry⟩
   . rw [if_neg e, if_neg (fun z => e (h1.trans z))]; exact ⟨h1, h2, h3⟩
theorem KT.put {H : Hp} {kvs : List (List Key × V)} {xs : List (List Key × Addr × Value)} (r : KT H kvs xs) (k : List Key) {b : Addr} {y : V} {u : Value} (hb : H b = some (.tup (k.map kV))) (ry : RelV y u) :
   KT H (putK kvs k y) (storedH xs k b u) := by
 have e : (kvs.any fun kv => decide (kv.1 = k)) = (atKey xs k).isSome := by
   rw [xJk, (r.val k).isSome_eq, Option.isSome_map]
 unfold putK storedH
 rw [e]
 by_cases q : (atKey xs k).isSome = true
 . rw [if_pos q, if_pos q]; exact r.repl k ry
 . rw [if_neg q, if_neg q]; exact Paired.snoc r ⟨rfl, hb, ry⟩
theorem KT.keeps {H H' : Hp} {kvs : List (List Key × V)} {xs : List (List Key × Addr × Value)} (r : KT H kvs xs) (ht : ∀ b ys, H b = some (.tup ys) -> H' b = some (.tup ys)) : KT H' kvs xs :=
 Paired.mapP r fun _ _ z => ⟨z.1, ht _ _ z.2.1, z.2.2⟩
section
variable {P : Program} {w : World} {H : Hp} {h : Heap} {a : Addr}
theorem rd_of {u : HO} (ok : HOk P w H h) (e : Rd H a u) : ObjOk P w H h a u := e.ok ok
theorem dk_rd {kvs : List (Key × V)} (ok : HOk P w H h) (e : Rd H a (.dK kvs)) : kvs.length <= sizeLine /\ (a == sysModules) = false /\ ∃ vs, KV kvs vs /\ h.DictOf (mixKind P w) a vs :=
 show ObjOk P w H h a (.dK kvs) from rd_of ok e
theorem dk_of {kvs : List (Key × V)} (ok : HOk P w H h) (e : H a = some (.dK kvs)) : kvs.length <= sizeLine /\ (a == sysModules) = false /\ ∃ vs, KV kvs vs /\ h.DictOf (mixKind P w) a vs := dk_rd ok (.inl e)
theorem key_of {ks : List Key} (ok : HOk P w H h) (e : H a = some (.tup (ks.map kV))) : (tupleKind (mixKind P w)).is h ks a := by
 obtain ⟨_, its, r, o, h1, h2, n, h3⟩ := (show ObjOk P w H h a (.tup (ks.map kV)) from ok a _ e)
 exact ⟨o, its.toArray, n, h1, h2, h3, by simpa using items_are r⟩
theorem dt_rd {kvs : List (List Key × V)} (ok : HOk P w H h) (e : Rd H a (.dT kvs)) : kvs.length <= sizeLine /\ (a == sysModules) = false /\
   ∃ xs, KT H kvs xs /\ h.DictOfH (tupleKind (mixKind P w)) a xs := by
 obtain ⟨z, y, xs, r, o, es, ep, h1, h2, h3, h4, h5⟩ := (show ObjOk P w H h a (.dT kvs) from rd_of ok e)
 refine ⟨z, y, xs, r, o, es, ep, h1, h2, h3, h4, fun x hx => ?_, h5⟩
 have all : ∀ {l : List (List Key × V)} {m : List (List Key × Addr × Value)}, KT H l m -> ∀ x ∈ m, (tupleKind (mixKind P w)).is h x.1 x.2.1 := by
   intro l m q
   induction q with
   | nil => intro x hx; exact nomatch hx
   | @cons p q ps qs hq t ih =>
     intro x hx
     rcases List.mem_cons.mp hx with e | hx
     . subst e
       exact key_of ok (by rw [<- hq.1]; exact hq.2.1)
     . exact ih x hx
 exact all r x hx
theorem dt_of {kvs : List (List Key × V)} (ok : HOk P w H h) (e : H a = some (.dT kvs)) : kvs.length <= sizeLine /\ (a == sysModules) = false /\
   ∃ xs, KT H kvs xs /\ h.DictOfH (tupleKind (mixKind P w)) a xs := dt_rd ok (.inl e)
end
def DGet (H : Hp) (a : Addr) (y : V) (r : Option V) : Prop :=
 (∃ kvs k, Rd H a (.dK kvs) /\ y = kV k /\ r = valV kvs k) \/ ∃ kvs k b, Rd H a (.dT kvs) /\ y = .ref b /\ H b = some (.tup (k.map kV)) /\ r = valV kvs k
def DPut (H : Hp) (a : Addr) (y v : V) (H' : Hp) : Prop :=
 (∃ kvs k, H a = some (.dK kvs) /\ y = kV k /\ kvs.length < sizeLine /\ H' = upd H a (.dK (putK kvs k v))) \/
 ∃ kvs k b, H a = some (.dT kvs) /\ y = .ref b /\ H b = some (.tup (k.map kV)) /\ kvs.length < sizeLine /\ H' = upd H a (.dT (putK kvs k v))
theorem DGet.k {H : Hp} {a : Addr} {kvs : List (Key × V)} {k : Key} (e : H a = some (.dK kvs)) : DGet H a (kV k) (valV kvs k) := .inl ⟨kvs, k, .inl e, rfl, rfl⟩
theorem DGet.t {H : Hp} {a b : Addr} {kvs : List (List Key × V)} {k : List Key} (e : H a = some (.dT kvs)) (eb : H b = some (.tup (k.map kV))) : DGet H a (.ref b) (valV kvs k) := .inr ⟨kvs, k, b, .inl e, rfl, eb, rfl⟩
theorem DPut.k {H : Hp} {a : Addr} {kvs : List (Key × V)} {k : Key} {v : V} (e : H a = some (.dK kvs)) (hl : kvs.length < sizeLine) : DPut H a (kV k) v (upd H a (.dK (putK kvs k v))) := .inl ⟨kvs, k, e, rfl, hl, rfl⟩
theorem DPut.t {H : Hp} {a b : Addr} {kvs : List (List Key × V)} {k : List Key} {v : V} (e : H a = some (.dT kvs)) (eb : H b = some (.tup (k.map kV))) (hl : kvs.length < sizeLine) :
   DPut H a (.ref b) v (upd H a (.dT (putK kvs k v))) := .inr ⟨kvs, k, b, e, rfl, eb, hl, rfl⟩
section
variable {X : Cx} {pins : List (Addr × Obj)} {σ : St} {H : Hp} {s : Shared} {a : Addr} {y v : V} {u r : Value} {o : Option V} {A : Around} {E : Value -> Shared -> Prop}
theorem Inv.big (I : Inv X pins σ H s) : sysModules < s.heap.objs.size := by
 have h : mainGlobals < s.heap.objs.size := (I.mod.glob.keeps I.bk).lt
 exact Nat.lt_trans (by decide) h
theorem d_getItem {Q : Value -> Shared -> Prop} (hu : A.units + 1 < cLine) (I : Inv X pins σ H s) (g : DGet H a y (some v)) (ry : RelV y u) (h : ∀ w' s', Inv X pins σ H s' -> RelV v w' -> Q w' s') :
   wpAny (model X.prog X.w) A (getItem (.ref a) u) Q E s := by
 rcases g with ⟨kvs, k, e, ey, l⟩ | ⟨kvs, k, b, e, ey, eb, l⟩
 . subst ey
   obtain ⟨z, hd, vs, rel, dd⟩ := dk_rd I.hok e
   obtain ⟨w', hw, rw'⟩ := RelO.some_of (v := v) (o := valueAt vs k) (by rw [l]; exact rel.val k)
   exact wpAny_getItem_of (kV_is ry) dd.mapOf hw (h w' _ (I.tok _) rw')
 . subst ey
   cases (show u = Value.ref b from ry)
   obtain ⟨z, hd, xs, rel, dd⟩ := dt_rd I.hok e
   obtain ⟨w', hw, rw'⟩ := RelO.some_of (v := v) (o := (atKey xs k).map (·.2)) (by rw [l]; exact rel.val k)
   obtain ⟨p, hp, hp2⟩ := Option.map_eq_some_iff.mp hw
   refine wpAny_getItem_heap (tupleKind_room_in1 hu) (key_of I.hok eb) dd hp ?_
   rw [hp2]
   exact h w' _ (I.tok _) rw'
theorem d_write {h' : Heap} {t' : Nat} {ob : HO} (I : Inv X pins σ H s) (mu : Mut (H a)) (hs : Heap.SameBut a s.heap h') (he : ∃ q, h'.get? a = some q) (new : ObjOk X.prog X.w (upd H a ob) h' a ob) :
   Inv X pins σ (upd H a ob) { s with heap := h', toks := t' } :=
 I.write (x := a) (e := a) mu (.inl rfl) (fun b q hb z => (hs.2 b hb).trans z) he new
theorem dk_new {P : Program} {w : World} {H' : Hp} {h' : Heap} {kvs : List (Key × V)} {vs : List (Key × Value)} (z : kvs.length <= sizeLine) (hd : (a == sysModules) = false) (rel : KV kvs vs) (dd : h'.DictOf (mixKind P w) a vs) :
   ObjOk P w H' h' a (.dK kvs) := ⟨z, hd, vs, rel, dd⟩
theorem d_setItem {H' : Hp} {Q : Unit -> Shared -> Prop} (hu : A.units + 1 < cLine) (I : Inv X pins σ H s) (g : DPut H a y v H') (ry : RelV y u) (rv : RelV v r) (h : ∀ s', Inv X pins σ H' s' -> Q () s') :
   wpAny (model X.prog X.w) A (setItem (.ref a) u r) Q E s := by
 rcases g with ⟨kvs, k, e, ey, l, eH⟩ | ⟨kvs, k, b, e, ey, eb, l, eH⟩
 . subst ey eH
   obtain ⟨z, hd, vs, rel, dd⟩ := dk_of I.hok e
   have hz : vs.length <= sizeLine := by rw [<- rel.length]; exact z
   have hl : (putK kvs k v).length <= sizeLine := by have := xQv kvs k v; omega
   refine wpAny_setItem_pairs (hsz := hz) (kV_is ry) dd fun h' dd' hs => h _ ?_
   have he : ∃ q, h'.get? a = some q := let ⟨q, _, _, hq, _⟩ := dd'; ⟨q, hq⟩
   exact d_write I (by rw [e]; exact True.intro) hs he (dk_new hl hd (rel.put k rv) dd')
 . subst ey eH
   cases (show u = Value.ref b from ry)
   obtain ⟨z, hd, xs, rel, dd⟩ := dt_of I.hok e
   have hz : xs.length <= sizeLine := by rw [<- Paired.length rel]; exact z
   have hl : (putK kvs k v).length <= sizeLine := by have := xQv kvs k v; omega
   refine wpAny_setItem_heap (hsz := hz) (tupleKind_room_in1 hu) (key_of I.hok eb) dd fun h' dd' hs => h _ ?_
   obtain ⟨q, es, ep, hq, h2, h3, h4, _, h5⟩ := dd'
   refine d_write I (by rw [e]; exact True.intro) hs ⟨q, hq⟩ ⟨hl, hd, _, (rel.put k eb rv).keeps fun c ys ec => ?_, q, es, ep, hq, h2, h3, h4, h5⟩
   rw [zQv (xQk ec e (fun z => nomatch z))]
   exact ec
end
section
variable {X : Cx} {pins : List (Addr × Obj)} {σ : St} {H : Hp} {s : Shared} {a : Addr} {kvs : List (Key × V)} {k : Key} {u : Value} {A : Around} {E : Value -> Shared -> Prop}
end
def NoSl (i : Expr) : Prop := ∀ ov iv, subscripted i false ov iv = operate [ov, iv] (getItem ov iv)
theorem subD_of {prog : Program} {w : World} {A : Around} {E : Value -> Shared -> Prop} {s : Shared} {env : Env} {value slice : Expr} {pos : Pos} {T id : String} {Q : Value -> Shared -> Prop}
   (hl : typeLookup (.type T) "__getitem__" = pure (some (.builtin id))) (hs : NoSl slice)
   (h : wpAny (model prog w) A (eval value env) (fun o s₁ => wpAny (model prog w) A (eval slice env) (fun i s₂ => s₂.TypeIs o T /\ wpAny (model prog w) A (getItem o i) Q E s₂) E s₁) E s) :
   wpAny (model prog w) A (eval (.Subscript value slice pos) env) Q E s := by
 refine Subscript_ (wpAny_mono h (fun o s₁ h₁ => wpAny_mono h₁ (fun i s₂ h₂ => ?_) fun _ _ x => x) fun _ _ x => x)
 obtain ⟨hT, h₂⟩ := h₂
 unfold subscriptTail
 refine wpAny_bind ?_
 rw [getitemInPython_of_ne hT.not_modules]
 refine wpAny_bind (wpAny_specialOf hT hl ?_)
 have fin : wpAny (model prog w) A (subscripted slice false o i) (fun r s₃ => wpAny (model prog w) A (letTemporaryGo value o r >>= fun _ => pure r) Q E s₃) E s₂ := by
   rw [hs o i]
   exact wpAny_operating (wpAny_mono h₂ (fun r s₃ h₃ => wpAny_bind (wpAny_letTemporaryGo (wpAny_pure h₃))) fun _ _ x => x)
 first
   | exact wpAny_pure (wpAny_bind fin)
   | exact wpAny_bind (wpAny_pure (wpAny_bind fin))
   | exact wpAny_bind fin
theorem dict_typeIs {X : Cx} {pins : List (Addr × Obj)} {σ : St} {H : Hp} {s : Shared} {a : Addr} {y : V} {o : Option V} (I : Inv X pins σ H s) (g : DGet H a y o) : s.TypeIs (.ref a) "dict" := by
 rcases g with ⟨kvs, k, e, _, _⟩ | ⟨kvs, k, b, e, _, _, _⟩
 . obtain ⟨_, _, vs, _, dd⟩ := dk_rd I.hok e
   exact dd.typeIs
 . obtain ⟨_, _, xs, _, dd⟩ := dt_rd I.hok e
   exact dd.typeIs
def tDGet (td ty : TE) : TE := fun σ H Q => td σ H fun x H1 => ty σ H1 fun y H2 => ∃ a v, x = .ref a /\ DGet H2 a y (some v) /\ Q v H2
def sDPut (td ty tv : TE) : TS := fun D σ H => tv σ H fun v H1 => td σ H1 fun x H2 => ty σ H2 fun y H3 => ∃ a H4, x = .ref a /\ DPut H3 a y v H4 /\ D.nx σ H4
section
variable {X : Cx} {o i e value : Expr} {pos pos' tpos : Pos} {td ty tv : TE}
theorem pe_dget (hu : X.A.units + 1 < cLine) (ho : PE X o td) (hi : PE X i ty) (hs : NoSl i) : PE X (.Subscript o i pos) (tDGet td ty) := by
 intro pins s σ H Q I h
 refine subD_of PySem.F.slot_dict_getitem.lookup hs (thn (ho pins s σ H _ I h) fun u s1 ⟨x, H1, I1, rx, q1⟩ => thn (hi pins s1 σ H1 _ I1 q1) fun iv s2 ⟨y, H2, I2, ry, a, v, ex, g, q2⟩ => ?_)
 subst ex
 obtain rfl : u = Value.ref a := rx
 exact ⟨dict_typeIs I2 g, d_getItem hu I2 g ry fun w' s3 I3 rw' => ⟨v, H2, I3, rw', q2⟩⟩
theorem ps_dput (hu : X.A.units + 1 < cLine) (ho : PE X o td) (hi : PE X i ty) (hv : PE X value tv) (hs : swapsWith value (some (.Subscript o i pos')) pos.line X.env = pure false) :
   PS X (.Assign [.Subscript o i pos'] value pos) (sDPut td ty tv) := by
 intro pins s σ H D I h
 refine wpAny_Assign_Subscript (thn (hv pins s σ H _ I h) fun r s1 ⟨v, H1, I1, rv, q1⟩ => thn (ho pins s1 σ H1 _ I1 q1) fun u s2 ⟨x, H2, I2, rx, q2⟩ => thn (hi pins s2 σ H2 _ I2 q2) fun iv s3 ⟨y, H3, I3, ry, a, H4, ex, g, q3⟩ => ?_) hs
 subst ex
 obtain rfl : u = Value.ref a := rx
 exact d_setItem hu I3 g ry rv fun s4 I4 => ⟨σ, H4, I4, q3⟩
end
theorem dk_empty {P : Program} {w : World} {H : Hp} (h : Heap) (hb : sysModules < h.objs.size) : ObjOk P w H (h.push { cls := .type "dict", data := .dict #[] }) h.objs.size (.dK []) :=
 ⟨Nat.zero_le _, beq_eq_false_iff_ne.mpr (Ne.symm (Nat.ne_of_lt hb)), [], .nil, Heap.DictOf.new h⟩
def tDNewK : TE := fun _ H Q => ∀ p, H p = none -> Q (.ref p) (upd H p (.dK []))
section
variable {X : Cx} {pos : Pos}
theorem pe_dnewK : PE X (.Dict [] [] pos) tDNewK := fun pins s σ H Q I h =>
 wpAny_Dict_empty ⟨.ref s.heap.objs.size, _, I.laid (a := s.heap.objs.size) (o := .dK []) (t' := s.toks) (fun _ _ q => Heap.get?_push_of_some _ q) (Nat.le_refl _) (dk_empty s.heap I.big), rfl, h _ (I.hok.fresh (Nat.le_refl _))⟩
end
def mergeK (kvs more : List (Key × V)) : List (Key × V) := more.foldl (fun acc kv => putK acc kv.1 kv.2) kvs
theorem KV.merge : ∀ {more : List (Key × V)} {rs : List (Key × Value)} {kvs : List (Key × V)} {vs : List (Key × Value)}, KV more rs -> KV kvs vs -> KV (mergeK kvs more) (merged vs rs) := by
 intro more rs kvs vs r
 unfold KV at r
 induction r generalizing kvs vs with
 | nil => intro q; exact q
 | @cons p q ps qs h t ih =>
   intro r0
   have e : KV (putK kvs p.1 p.2) (stored vs q.1 q.2) := by
     have := r0.put p.1 h.2
     rw [<- h.1]; exact this
   exact ih e
structure M1 (X : Cx) (o : Expr) (m : Str) (apos : Pos) (e : Expr) (cpos : Pos) : Prop where
 base : attributeBase o m X.env (eval o X.env) = eval o X.env
 few : ((backTo cpos (starEach [e] X.env)).all (fun x => !x.1) && (backToKw cpos (keywordEach [] X.env)).all (fun x => x.1.isSome)
   && decide (([e] : List Expr).length + ([] : List Keyword).length + (if ([] : List Keyword).isEmpty then 0 else 1) < 30)) = true
 line : (apos.endLine == cpos.line) = true
 trees : backTo cpos (starEach [e] X.env) = [(false, eval e X.env)]
structure M2 (X : Cx) (o : Expr) (m : Str) (apos : Pos) (e f : Expr) (cpos : Pos) : Prop where
 base : attributeBase o m X.env (eval o X.env) = eval o X.env
 few : ((backTo cpos (starEach [e, f] X.env)).all (fun x => !x.1) && (backToKw cpos (keywordEach [] X.env)).all (fun x => x.1.isSome)
   && decide (([e, f] : List Expr).length + ([] : List Keyword).length + (if ([] : List Keyword).isEmpty then 0 else 1) < 30)) = true
 line : (apos.endLine == cpos.line) = true
 trees : backTo cpos (starEach [e, f] X.env) = [(false, eval e X.env), (false, eval f X.env)]
def IsD (H : Hp) (a : Addr) : Prop := (∃ kvs, Rd H a (.dK kvs)) \/ ∃ kvs, Rd H a (.dT kvs)
theorem isD_at {X : Cx} {pins : List (Addr × Obj)} {σ : St} {H : Hp} {s : Shared} {a : Addr} (I : Inv X pins σ H s) (d : IsD H a) :
   s.TypeIs (.ref a) "dict" /\ (∀ b, Value.ref a = .ref b -> ∃ ob, s.heap.get? b = some ob /\ ob.dict = none) /\ (a == sysModules) = false := by
 rcases d with ⟨kvs, e⟩ | ⟨kvs, e⟩
 . obtain ⟨_, hd, vs, _, dd⟩ := dk_rd I.hok e
   refine ⟨dd.typeIs, fun b q => ?_, hd⟩
   cases q
   obtain ⟨ob, _, _, h1, h2, _⟩ := dd
   exact ⟨ob, h1, h2.2.1⟩
 . obtain ⟨_, hd, xs, _, dd⟩ := dt_rd I.hok e
   refine ⟨dd.typeIs, fun b q => ?_, hd⟩
   cases q
   obtain ⟨ob, _, _, h1, h2, _⟩ := dd
   exact ⟨ob, h1, h2.2.1⟩
section
variable {X : Cx} {pins : List (Addr × Obj)} {σ : St} {H : Hp} {s : Shared} {a : Addr} {y d : V} {u r : Value} {o : Option V} {A : Around} {E : Value -> Shared -> Prop}
theorem d_get2 {Q : Value -> Shared -> Prop} (hu : A.units + 1 < cLine) (I : Inv X pins σ H s) (g : DGet H a y o) (ry : RelV y u) (rd : RelV d r) (h : ∀ w' s', Inv X pins σ H s' -> RelV (o.getD d) w' -> Q w' s') :
   wpAny (model X.prog X.w) A (call (.builtin "dict.get") [.ref a, u, r]) Q E s := by
 rcases g with ⟨kvs, k, e, ey, l⟩ | ⟨kvs, k, b, e, ey, eb, l⟩
 . subst ey
   obtain ⟨z, hd, vs, rel, dd⟩ := dk_rd I.hok e
   refine call_meetsIn PySem.F.slot_dict_get dd.typeIs PySem.F.entry_dict_get (PySem.F.args_dict_get_3 _ _ _) (meets_dict_get_default (mixKind X.prog X.w) a (kV_is ry) hd r) ⟨_, dd.mapOf, h _ _ (I.tok _) ?_⟩
   rw [l]
   exact (rel.val k).getD rd
 . subst ey
   cases (show u = Value.ref b from ry)
   obtain ⟨z, hd, xs, rel, dd⟩ := dt_rd I.hok e
   refine call_meetsIn PySem.F.slot_dict_get dd.typeIs PySem.F.entry_dict_get (PySem.F.args_dict_get_3 _ _ _) (meetsH_dict_get_default (tupleKind (mixKind X.prog X.w)) a b hd r) ⟨tupleKind_room_in1 hu, k, xs, key_of I.hok eb, dd, h _ _ (I.tok _) ?_⟩
   rw [l]
   exact (rel.val k).getD rd
end
def tDGet2 (td ty tx : TE) : TE := fun σ H Q => td σ H fun x H1 => ∃ a, x = .ref a /\ IsD H1 a /\ ty σ H1 fun y H2 => tx σ H2 fun z H3 => ∃ o, DGet H3 a y o /\ Q (o.getD z) H3
section
variable {X : Cx} {o e f : Expr} {apos cpos : Pos} {td ty tx : TE}
theorem pe_dget2 (hu : X.A.units + 1 < cLine) (ho : PE X o td) (he : PE X e ty) (hf : PE X f tx) (m : M2 X o "get" apos e f cpos) : PE X (.Call (.Attribute o "get" apos) [e, f] [] cpos) (tDGet2 td ty tx) := by
 intro pins s σ H Q I h
 refine wpAny_Call_method m.base m.few m.line PySem.F.plainAttrs_dict PySem.F.slot_dict_get PySem.F.type_dict_get (thn (ho pins s σ H _ I h) fun u s1 ⟨x, H1, I1, rx, a, ex, d, q1⟩ => ?_)
 subst ex
 obtain rfl : u = Value.ref a := rx
 obtain ⟨t1, t2, _⟩ := isD_at I1 d
 refine ⟨t1, t2, ?_⟩
 rw [m.trees]
 refine Calls.callWith_builtin rfl (Calls.evalArgs_plain (Calls.spliced_cons (thn (he pins s1 σ H1 _ I1 q1) fun iv s2 ⟨y, H2, I2, ry, q2⟩ =>
   Calls.spliced_cons (thn (hf pins s2 σ H2 _ I2 q2) fun fv s3 ⟨z, H3, I3, rz, ov, g, q3⟩ => Calls.spliced_nil ?_))))
 exact d_get2 hu I3 g ry rz fun w' s4 I4 rw' => ⟨_, H3, I4, rw', q3⟩
end
section
variable {X : Cx} {pins : List (Addr × Obj)} {σ : St} {H : Hp} {s : Shared} {a : Addr} {kvs : List (Key × V)} {A : Around} {E : Value -> Shared -> Prop}
end
section
variable {X : Cx} {pins : List (Addr × Obj)} {σ : St} {H : Hp} {s : Shared} {a : Addr} {y : V} {u : Value} {A : Around} {E : Value -> Shared -> Prop}
end
end L2
namespace Att
open PySem PySem.W PySem.Calls PyProof.Rows
theorem wWq {P : Params} {h : Heap} : ∀ (ns : List Int) (vs : List Value), WellAll P h vs (ns.map WData.int) -> IntsAre vs ns := by
 intro ns
 induction ns with
 | nil =>
   intro vs w
   rw [List.map_nil] at w
   cases w
   exact .nil
 | cons n ns ih =>
   intro vs w
   rw [List.map_cons] at w
   cases w with
   | cons a b =>
     cases a
     exact .cons _ _ (ih _ b)
theorem script_of {l : OpenLaw} {n : Nat} (hn : l.most = some n) {P : Params} {h : Heap} {args : List WData} {vals : List Value}
   (hpre : l.row.toRowW.claim.pre args = true) (hwl : WellAll P h vals args) :
   ∃ a vs ns, vals = [Value.ref a] /\ args = [WData.list (ns.map WData.int)] /\ h.get? a = some { cls := .type "list", data := .seq vs.toArray } /\ IntsAre vs ns /\ ns.length <= n := by
 have hsh : WShape.hasAll [] args [.list .int] = true := (pre_splitW hpre).1
 have hc : l.pre.holds [] { args := args } = true := (pre_splitW hpre).2
 obtain ⟨d, r, rfl, h1, h2⟩ := hasAllW_cons hsh
 obtain rfl := hasAllW_nil h2
 obtain ⟨xs, rfl, h3⟩ := hasW_list h1
 obtain ⟨ns, rfl⟩ := items_int h3
 have hlen : ns.length <= n := by
   unfold OpenLaw.pre at hc
   have h4 : (WTm.not (.lt (.lit (.int (n : Int))) (.len (.arg 0)))).holds [] { args := [.list (ns.map .int)] } = true := by
     have h4 := (holds_andW hc).1
     rw [hn] at h4
     exact h4
   have h5 := condW_of h4 (w_not (w_lt w_lit (w_len_list (w_arg rfl))))
   rw [List.length_map] at h5
   refine Nat.le_of_not_lt fun q => ?_
   have q' : (n : Int) < ((ns.length : Nat) : Int) := by omega
   first
     | (rw [decide_eq_true q'] at h5; exact absurd h5 (by decide))
     | (simp at h5; omega)
 cases hwl with
 | cons w1 w2 =>
   cases w2
   cases w1 with
   | list ho hall => exact ⟨_, _, ns, rfl, rfl, ho, wWq ns _ hall, hlen⟩
theorem post_true (l : OpenLaw) (args : List WData) : l.row.toRowW.claim.post args (.bool true) args = true :=
 postW_of (r := l.row.toRowW) (X := (true == true))
   (show WShape.has [] (.bool true) .bool = true by first | rfl | decide | simp [WShape.has, WShape.arms, WShape.armsAll])
   (show (WTm.eq .res (.lit (.bool true))).value [] { args := args, res := some (.bool true), after := args } = some (.bool (true == true)) from w_eq_bool (w_res rfl) w_lit) rfl
theorem attach_call {l : OpenLaw} {n : Nat} {q : Program} {loose : List Str} {XP : (Str -> Option Value) -> Heap -> Prop} {YP : World -> Heap -> Prop} {d : DefRec}
   (hn : l.most = some n) (hdf : d.params.defaults = [])
   (call : ∀ (w : World) (s₀ s₁ : Shared) (mg mb : Str -> Option Value) (fa : Addr) (o : Obj) (pm cd doc : Value) (a : Addr) (vs : List Value) (ns : List Int),
     Ground q loose [] XP w s₀ mg mb s₁.heap -> YP w s₁.heap ->
     s₁.heap.get? fa = some o -> o.data = .func (docDef d.name d.params d.body d.scope pm cd doc) -> s₁.heap.CodeRec cd d.name -> mg d.name = some (.ref fa) ->
     s₁.heap.get? a = some { cls := .type "list", data := .seq vs.toArray } -> IntsAre vs ns -> ns.length <= n -> s₁.gens = #[] ->
     codeAny (model l.prog w) callerA (.call (.ref fa) ⟨[.ref a], []⟩) (fun r s' => r = .ok (.ret (.bool true)) /\ OldK s₁.heap s'.heap /\ s'.os = s₁.os /\ AllBare s'.gens) s₁) :
   WalkO q loose XP YP l.row.toRowW d [] (fun f vs => PySem.call f vs) := by
 intro w s₀ s₁ mg mb G Y fa o pm cd doc dV kV ho hd hcd hD hmg hg args vals as hpre hlay hrd hwl hlo
 obtain rfl : dV = .none := Dflts.none hD hdf
 obtain rfl : kV = .none := Dflts.noKw hD
 obtain ⟨a, vs, ns, rfl, rfl, hobj, hints, hlen⟩ := script_of hn hpre hwl
 refine enter_call (codeAny_mono (call w s₀ s₁ mg mb fa o pm cd doc a vs ns G Y ho (fd_plain hd) hcd hmg hobj hints hlen hg) fun r s' hq => ?_)
 obtain ⟨rfl, h2, h3, h4⟩ := hq
 exact ⟨.inl ⟨.bool true, .bool true, [], rfl, fun _ => rfl, .bool true, post_true l _, fun _ => ⟨List.Pairwise.nil, fun _ hm => (nomatch hm)⟩⟩, h2, h3, h4⟩
section
variable {prog : Program} {w : World} {A : Around} {E : Value -> Shared -> Prop} {s : Shared} {K : Frag}
end
end Att
namespace L2
open PySem PySem.Spec PyProof.Rows
theorem vals_ints : ∀ {vs : List Value} {ns : List Int}, IntsAre vs ns -> Vals (ns.map V.int) vs
 | _, _, .nil => .nil
 | _, _, .cons n t h => .cons ⟨t, rfl⟩ (vals_ints h)
def Only (H : Hp) : Prop := ∀ b, H b = none \/ ∃ o xs, H b = some (.frz o (.lst xs))
def inClass (s : Stmt) (j : Nat) : Stmt := match s with
 | .ClassDef _ _ _ body _ _ _ _ _ _ _ => body.getD j (.Pass ⟨0, 0, 0, 0⟩)
 | _ => .Pass ⟨0, 0, 0, 0⟩
def defArgs (s : Stmt) : Arguments := match s with
 | .FunctionDef _ a _ _ _ _ _ _ _ _ => a
 | _ => { posonlyargs := [], args := [], vararg := none, kwonlyargs := [], kw_defaults := [], kwarg := none, defaults := [] }
def defBody (s : Stmt) : List Stmt := match s with
 | .FunctionDef _ _ b _ _ _ _ _ _ _ => b
 | _ => []
def defScope (s : Stmt) : Scope := match s with
 | .FunctionDef _ _ _ _ _ _ sc _ _ _ => sc
 | _ => { kind := .function, names := [], isGenerator := false, isCoroutine := false }
abbrev CX0 : CXT := fun _ _ _ _ _ _ => False
abbrev E0 : XK := fun _ _ _ => False
structure Fun (K : PySem.W.Frag) (x qual : Str) (st : Stmt) (f : Addr) (fd : FuncData) : Prop where
 ex : ∃ (oc : Value) (od : Option Addr) (kV doc pm : Value) (an : Option Addr) (cdv ct : Value) (osl : Array (Option Value)),
   fd = PySem.W.fnOf x qual (defArgs st) (defBody st) (defScope st) .none kV doc pm an cdv ct /\ K.lookup f = some ⟨oc, od, .func fd, osl⟩ /\ PySem.W.codeIn K cdv qual = true
 kp : PySem.W.keepIn K (.ref f) = true
section
variable {P : Program} {w : World} {K : PySem.W.Frag} {mg : Str -> Option Value} {base : Heap}
theorem Fun.ok {x qual : Str} {st : Stmt} {f : Addr} {fd : FuncData} {N ps : List Str} {k : Nat} {sp : Sp} (hk : 50 <= k + 1) (F : Fun K x qual st f fd) (S : FnScope N ps (defScope st)) (len : ∀ vs H Q E, sp vs H Q E -> vs.length = ps.length)
   (hbody : ∀ (cdv : Value) (A : Around) (outer : List Env) (s : Shared) (H : Hp) (vs : List V) (Q : VK) (E : XK), Room k (A.deeper (envOfC qual (defScope st) s.heap.objs.size f cdv)) -> sp vs H Q E ->
     ∃ t, PSs (cxOf true CX0 P w K mg base N qual (defScope st) f cdv A outer s H E).nox (defBody st) t /\ t { nx := fun _ H' => Q .non H', rt := Q } (start N vs) H) : FnOk P w K mg base CX0 (k + 1) f fd ps sp := by
 obtain ⟨oc, od, kV, doc, pm, an, cdv, ct, osl, rfl, lk, hcd⟩ := F.ex
 refine fn_of (cm := true) lk hcd S len (fun _ => hk) fun A outer s H vs Q E hr hsp => ?_
 obtain ⟨t, h, q⟩ := hbody cdv A outer s H vs Q E hr hsp
 exact ⟨t, h.nox, q⟩
theorem Fun.binds {x qual : Str} {st : Stmt} {f : Addr} {fd : FuncData} {ps : List Str} (F : Fun K x qual st f fd)
   (h : ∀ (kV doc pm : Value) (an : Option Addr) (cdv ct : Value) (us : List Value), us.length = ps.length -> bindArgs (PySem.W.fnOf x qual (defArgs st) (defBody st) (defScope st) .none kV doc pm an cdv ct) ⟨us, []⟩ = pure (ps.zip us)) : Binds K fd ps [] := by
 obtain ⟨oc, od, kV, doc, pm, an, cdv, ct, osl, rfl, lk, hcd⟩ := F.ex
 exact .all (h kV doc pm an cdv ct)
theorem zZk {x qual : Str} {st : Stmt} {f : Addr} {oc : Value} {od an : Option Addr} {osl : Array (Option Value)} {kV doc pm cdv ct : Value} (l : K.lookup f = some ⟨oc, od, .func (PySem.W.fnOf x qual (defArgs st) (defBody st) (defScope st) .none kV doc pm an cdv ct), osl⟩)
   (c : PySem.W.codeIn K cdv qual = true) (k : PySem.W.keepIn K (.ref f) = true) : Fun K x qual st f (PySem.W.fnOf x qual (defArgs st) (defBody st) (defScope st) .none kV doc pm an cdv ct) := ⟨⟨oc, od, kV, doc, pm, an, cdv, ct, osl, rfl, l, c⟩, k⟩
end
theorem hu_of {A : Around} {k : Nat} (hr : Room k A) : A.units + 1 < cLine := Nat.lt_of_le_of_lt (Nat.add_le_add_left (by decide : 1 <= 64) _) hr.units
theorem small1000 {n : Nat} (h : n <= 1000) : n < sizeLine := Nat.lt_of_le_of_lt h (by decide)
section
variable {X : Cx}
theorem pv (i : Nat) {x : Str} {pos : Pos} (hN : X.N[i]? = some x := by rfl) (hv : Vis X.env.scope x := by first | exact Or.inl rfl | exact Or.inr (Or.inl rfl) | exact Or.inr (Or.inr rfl)) (hd : (x == ("__debug__" : Str)) = false := by decide)
   (hcd : (x == ("__classdict__" : Str)) = false := by decide) : PE X (.Name x pos) (tVar i) := pe_var hN hv hd hcd
end
theorem iteF {A B : Prop} (h : B) : if false = true then A else B := by
 rw [if_neg Bool.false_ne_true]
 exact h
theorem iteT {A B : Prop} (h : A) : if true = true then A else B := by
 rw [if_pos rfl]
 exact h
theorem ite2 {c A B : Prop} [Decidable c] (h1 : c -> A) (h2 : ¬ c -> B) : if c then A else B := by
 by_cases h : c
 . rw [if_pos h]
   exact h1 h
 . rw [if_neg h]
   exact h2 h
def Same (H H' : Hp) : Prop := ∀ b o, H b = some o -> H' b = some o
theorem Same.refl (H : Hp) : Same H H := fun _ _ h => h
theorem Same.trans {H H1 H2 : Hp} (a : Same H H1) (b : Same H1 H2) : Same H H2 := fun c o h => b c o (a c o h)
theorem Same.free {H H' : Hp} (e : Same H H') {l : Addr} (h : H' l = Option.none) : H l = Option.none := by
 cases q : H l with
 | none => rfl
 | some o =>
   rw [e l o q] at h
   cases h
theorem Same.seq {K : PySem.W.Frag} {H H' : Hp} {a : Addr} {xs : List V} (e : Same H H') (h : SqL K H a xs) : SqL K H' a xs := by
 rcases h with (h | ⟨o, h⟩) | h
 . exact .inl (.inl (e _ _ h))
 . exact .inl (.inr ⟨o, e _ _ h⟩)
 . exact .inr h
section
variable {κ : Type} [DecidableEq κ]
end
def Exc (h : Heap) (x : Addr) (cls : Value) : Prop := ∃ oe vs, h.get? x = some oe /\ (oe.cls = cls /\ oe.dict = none) /\ oe.data = .fields vs /\ vs[2]? = some .none
theorem wWv (o : Obj) (f : Array Value -> Array Value) : (o.mapFields f).dict = o.dict := by
 obtain ⟨c, d, dt, sl⟩ := o
 cases dt <;> rfl
structure ExT (h : Heap) (x : Addr) (cls : Value) (T : Addr) (fl : Value) : Prop where
 ex : ∃ oe vs, h.get? x = some oe /\ (oe.cls = cls /\ oe.dict = none) /\ oe.data = .fields vs /\ vs[1]? = some (.ref T) /\ vs[2]? = some .none
 ne : T ≠ x
 tb : ∃ oT ts, h.get? T = some oT /\ oT.data = .fields ts /\ ts[3]? = some fl
theorem ExT.exc {h : Heap} {x : Addr} {cls : Value} {T : Addr} {fl : Value} (X : ExT h x cls T fl) : Exc h x cls := by
 obtain ⟨oe, vs, a, b, c, _, d⟩ := X.ex
 exact ⟨oe, vs, a, b, c, d⟩
structure Stays (fs r : List Addr) (h h' : Heap) : Prop where
 keep : ∀ b o, h.get? b = some o -> b ∉ r -> b ∉ fs -> h'.get? b = some o
 slot : ∀ b o, h.get? b = some o -> b ∉ r -> ∃ sl, h'.get? b = some { o with slots := sl }
theorem Stays.trans {fs r r' : List Addr} {h h1 h2 : Heap} (a : Stays fs r h h1) (b : Stays fs r' h1 h2) (hr : ∀ q ∈ r', q ∈ r \/ h.get? q = none) : Stays fs r h h2 where
 keep := fun c o e n f => b.keep c o (a.keep c o e n f) (fun m => (hr c m).elim n fun z => by rw [z] at e; cases e) f
 slot := fun c o e n => by
   obtain ⟨sl, e1⟩ := a.slot c o e n
   obtain ⟨sl', e2⟩ := b.slot c _ e1 fun m => (hr c m).elim n fun z => by rw [z] at e; cases e
   exact ⟨sl', e2⟩
theorem Stays.mono {fs r r' : List Addr} {h h1 : Heap} (a : Stays fs r h h1) (hr : ∀ q ∈ r, q ∈ r') : Stays fs r' h h1 :=
 ⟨fun c o e n f => a.keep c o e (fun m => n (hr c m)) f, fun c o e n => a.slot c o e fun m => n (hr c m)⟩
theorem Stays.more {fs fs' r : List Addr} {h h1 : Heap} (a : Stays fs r h h1) (hr : ∀ q ∈ fs, q ∈ fs') : Stays fs' r h h1 :=
 ⟨fun c o e n f => a.keep c o e n (fun m => f (hr c m)), fun c o e n => a.slot c o e n⟩
section
variable {M : Model} {A : Around} {E : Value -> Shared -> Prop} {s : Shared} {base : Heap} {env : Env} {outer : List Env} {L x T : Addr} {oe : Obj} {vs : Array Value} {cls : Value} {Q : Unit -> Shared -> Prop}
theorem Stays.frames {r : List Addr} {l : List Env} {fs : List Addr} {h h' : Heap} (S : Stays fs r h h') (hl : h.FunFrames base l) (hr : ∀ q ∈ r, ∀ o, h.get? q = some o -> ∃ ws, o.data = .fields ws) : h'.FunFrames base l :=
 hl.of_keeps fun b o e nf => by
   obtain ⟨sl, e'⟩ := S.slot b o e fun m => by
     obtain ⟨ws, z⟩ := hr b m o e
     exact nf ws z
   exact ⟨_, e', rfl⟩
theorem entry_st {head : Value} {hn : Bool} (hfr : A.frames = some (env :: outer)) (hl : s.heap.FunFrames base (env :: outer)) (hf : env.frame = some L)
   (he : s.heap.get? x = some oe) (hdn : oe.dict = none) (hd : oe.data = .fields vs) (h1 : 1 < vs.size) (h2 : vs[2]? = some .none)
   (k : ∀ h' T', s.heap.get? T' = none -> ExT h' x oe.cls T' (rawInt L) -> Stays (frs (env :: outer)) [x] s.heap h' -> Q () { s with heap := h' }) :
   wpAny M A (do let a <- frameOf env; let pl <- entryPlaceOf L hn; let b <- EntryCells.newEntry head a .none (rawInt L) .none pl; setField (.ref x) 1 b) Q E s := by
 have xf : x ∉ frs (env :: outer) := fun m => by
   obtain ⟨_, o, ho, nf⟩ := hl.mem m
   rw [he] at ho
   cases ho
   exact nf vs hd
 refine wpAny_bind (wpAny_frameOf_fun hfr hl hf fun g sg => ?_)
 refine wpAny_bind (wpAny_entryPlaceOf fun pl hp => ?_)
 unfold EntryCells.newEntry newFields
 refine wpAny_bind (wpAny_newObj_type ?_ (hp.sizeOk5 _ _ _ _ _))
 have e1 : g.get? x = some oe := (sg.2.1 x xf).trans he
 have tx : g.objs.size ≠ x := Nat.ne_of_gt (Heap.lt_size e1)
 refine wpAny_setField (Heap.get?_push_of_some (h := g) _ e1) hd h1 (k _ g.objs.size ?_ ⟨?_, tx, ?_⟩ ⟨fun b o e n f => ?_, fun b o e n => ?_⟩)
 . rw [sg.1]
   exact Heap.get?_none_of_le (Nat.le_refl _)
 . refine ⟨_, _, Heap.get?_update_self _ (Heap.get?_push_of_some (h := g) _ e1) (Obj.isFreed_of_fields (Obj.data_mapFields hd _)), ⟨Obj.cls_mapFields _ _, (wWv _ _).trans hdn⟩, Obj.data_mapFields hd _, ?_, ?_⟩
   . simp [h1]
   . rw [Array.getElem?_setIfInBounds_ne (by decide)]
     exact h2
 . refine ⟨_, _, (Heap.get?_update_other _ _ (Ne.symm tx)).trans (Heap.get?_push_size g rfl), rfl, ?_⟩
   rcases hp with rfl | ⟨_, _, _, _, _, _, _, rfl⟩ <;> simp
 . have nx : x ≠ b := fun z => n (by simp [z])
   rw [Heap.get?_update_other _ _ nx]
   exact Heap.get?_push_of_some _ ((sg.2.1 b f).trans e)
 . have nx : x ≠ b := fun z => n (by simp [z])
   obtain ⟨sl, e'⟩ := sg.2.2 b o e
   refine ⟨sl, ?_⟩
   rw [Heap.get?_update_other _ _ nx]
   exact Heap.get?_push_of_some _ e'
theorem xWk {fl : Value} (X : ExT s.heap x cls T fl) (k : ∀ h', ExT h' x cls T .none -> Stays [] [T] s.heap h' -> Q () { s with heap := h' }) : wpAny M A (setFlight (.ref x) none) Q E s := by
 obtain ⟨⟨oe, vs, he, hc, hd, h1, h2⟩, ne, oT, ts, hT, hdT, h3⟩ := X
 unfold setFlight
 refine wpAny_bind (wpAny_field he hd h1 ?_)
 rw [if_pos (show (Value.ref T != Value.none) = true from by simp)]
 have i3 : 3 < ts.size := (Array.getElem?_eq_some_iff.mp h3).1
 refine wpAny_setField hT hdT i3 (k _ ⟨⟨oe, vs, (Heap.get?_update_other _ _ ne).trans he, hc, hd, h1, h2⟩, ne, _, _, Heap.get?_update_self _ hT (Obj.isFreed_of_fields (Obj.data_mapFields hdT _)), Obj.data_mapFields hdT _, by simp [i3]⟩ ⟨fun b o e n _ => ?_, fun b o e n => ⟨o.slots, ?_⟩⟩)
 . rw [Heap.get?_update_other _ _ fun z => n (by simp [z])]
   exact e
 . rw [Heap.get?_update_other _ _ fun z => n (by simp [z])]
   exact e
theorem note_first (hfr : A.frames = some (env :: outer)) (hl : s.heap.FunFrames base (env :: outer)) (hf : env.frame = some L)
   (he : s.heap.get? x = some oe) (hdn : oe.dict = none) (hd : oe.data = .fields vs) (h1 : vs[1]? = some .none) (h2 : vs[2]? = some .none)
   (k : ∀ h' T', s.heap.get? T' = none -> ExT h' x oe.cls T' (rawInt L) -> Stays (frs (env :: outer)) [x] s.heap h' -> Q () { s with heap := h' }) : wpAny M A (noteFrame (.ref x) env) Q E s := by
 unfold noteFrame
 simp only [hf]
 refine wpAny_bind (wpAny_field he hd h1 ?_)
 rw [if_neg (by decide)]
 exact entry_st hfr hl hf he hdn hd (Array.getElem?_eq_some_iff.mp h1).1 h2 k
theorem note_next (hfr : A.frames = some (env :: outer)) (hl : s.heap.FunFrames base (env :: outer)) (hf : env.frame = some L) (X : ExT s.heap x cls T .none)
   (k : ∀ h' T', s.heap.get? T' = none -> ExT h' x cls T' (rawInt L) -> Stays (frs (env :: outer)) [x, T] s.heap h' -> Q () { s with heap := h' }) : wpAny M A (noteFrame (.ref x) env) Q E s := by
 obtain ⟨⟨oe, vs, he, ⟨hc, hdn⟩, hd, h1, h2⟩, ne, oT, ts, hT, hdT, h3⟩ := X
 subst hc
 have i3 : 3 < ts.size := (Array.getElem?_eq_some_iff.mp h3).1
 unfold noteFrame
 simp only [hf]
 refine wpAny_bind (wpAny_field he hd h1 ?_)
 rw [if_pos (show (Value.ref T != Value.none) = true from by simp)]
 refine wpAny_bind (wpAny_field hT hdT h3 ?_)
 rw [if_neg (show ¬ ((Value.none == rawInt L) = true) from by simp [rawInt])]
 refine wpAny_bind (wpAny_setField hT hdT i3 ?_)
 have S0 : Stays (frs (env :: outer)) [x, T] s.heap (s.heap.update T (Obj.mapFields (·.setIfInBounds 3 Value.none))) := by
   refine ⟨fun b o e n _ => ?_, fun b o e n => ⟨o.slots, ?_⟩⟩
   . rw [Heap.get?_update_other _ _ fun z => n (by simp [z])]
     exact e
   . rw [Heap.get?_update_other _ _ fun z => n (by simp [z])]
     exact e
 have hl' : (s.heap.update T (Obj.mapFields (·.setIfInBounds 3 Value.none))).FunFrames base (env :: outer) := S0.frames hl fun q m o e => by
   rcases List.mem_cons.mp m with z | m
   . subst z
     rw [he] at e
     cases e
     exact ⟨vs, hd⟩
   . obtain rfl : q = T := by simpa using m
     rw [hT] at e
     cases e
     exact ⟨ts, hdT⟩
 refine entry_st (s := { s with heap := s.heap.update T (Obj.mapFields (·.setIfInBounds 3 Value.none)) }) hfr hl' hf ((Heap.get?_update_other _ _ ne).trans he) hdn hd (Array.getElem?_eq_some_iff.mp h1).1 h2 fun h' T' n X' S' => k h' T' ?_ X' (S0.trans S' fun q m => .inl (by simp at m; simp [m]))
 have n' : (s.heap.update T (Obj.mapFields (·.setIfInBounds 3 Value.none))).get? T' = none := n
 cases e : s.heap.get? T' with
 | none => rfl
 | some o =>
   by_cases z : T = T'
   . subst z
     rw [Heap.get?_update_self _ hT (Obj.isFreed_of_fields (Obj.data_mapFields hdT _))] at n'
     cases n'
   . rw [Heap.get?_update_other _ _ z, e] at n'
     cases n'
theorem leave_first (hfr : A.frames = some (env :: outer)) (hl : s.heap.FunFrames base (env :: outer)) (hf : env.frame = some L)
   (he : s.heap.get? x = some oe) (hdn : oe.dict = none) (hd : oe.data = .fields vs) (h1 : vs[1]? = some .none) (h2 : vs[2]? = some .none)
   (k : ∀ h' T', s.heap.get? T' = none -> ExT h' x oe.cls T' .none -> Stays (frs (env :: outer)) [x] s.heap h' -> Q () { s with heap := h' }) : wpAny M A (leaving env (.ref x)) Q E s := by
 unfold leaving
 refine wpAny_bind (note_first hfr hl hf he hdn hd h1 h2 fun h' T' n X S => ?_)
 exact xWk (s := { s with heap := h' }) X fun h'' X' S' => k h'' T' n X' (S.trans (S'.more (by simp)) fun q m => .inr (by simp at m; rw [m]; exact n))
theorem leave_next (hfr : A.frames = some (env :: outer)) (hl : s.heap.FunFrames base (env :: outer)) (hf : env.frame = some L) (X : ExT s.heap x cls T .none)
   (k : ∀ h' T', s.heap.get? T' = none -> ExT h' x cls T' .none -> Stays (frs (env :: outer)) [x, T] s.heap h' -> Q () { s with heap := h' }) : wpAny M A (leaving env (.ref x)) Q E s := by
 unfold leaving
 refine wpAny_bind (note_next hfr hl hf X fun h' T' n X S => ?_)
 exact xWk (s := { s with heap := h' }) X fun h'' X' S' => k h'' T' n X' (S.trans (S'.more (by simp)) fun q m => .inr (by simp at m; rw [m]; exact n))
end
def CXw (P : Program) (w : World) : CXT := fun outer H s E e s' => ∃ (x T : Addr) (cls : Value) (H' : Hp), e = .ref x /\ s'.os = s.os /\ AllBare s'.gens /\ Un (frs outer) [] H H' s.heap s'.heap /\ HOk P w H' s'.heap /\
 s.heap.get? x = none /\ s.heap.get? T = none /\ H' x = none /\ H' T = none /\ ExT s'.heap x cls T .none /\ E cls (some x) H'
theorem un_stays {fs r : List Addr} {H H' : Hp} {h h1 h2 : Heap} (u : Un fs [] H H' h h1) (S : Stays fs r h1 h2) (hr : ∀ b ∈ r, h.get? b = none) : Un fs [] H H' h h2 := by
 have nr : ∀ {b o}, h.get? b = some o -> b ∉ r := fun {b o} e m => by
   rw [hr b m] at e
   cases e
 refine ⟨fun b o e n f z => S.keep b o (u.keep b o e n f z) (nr e) f, fun b o e n f z => ?_, u.free, fun b o e z => ?_, u.tups, u.frzs, u.tbls⟩
 . obtain ⟨sl, e1⟩ := u.slot b o e n f z
   obtain ⟨sl', e2⟩ := S.slot b _ e1 (nr e)
   exact ⟨sl', e2⟩
 . obtain ⟨o1, e1⟩ := u.there b o e z
   obtain ⟨sl', e2⟩ := S.slot b _ e1 (nr e)
   exact ⟨_, e2⟩
theorem hok_stays {P : Program} {w : World} {fs r : List Addr} {H : Hp} {h h' : Heap} (k : HOk P w H h) (S : Stays fs r h h') (hr : ∀ b ∈ r, H b = none) (hf : ∀ b ∈ fs, H b = none) : HOk P w H h' := fun a o e => by
 have tr : ∀ {b u}, H b = some u -> b ∉ r /\ b ∉ fs := fun {b u} q => ⟨fun m => (by rw [hr b m] at q; cases q), fun m => (by rw [hf b m] at q; cases q)⟩
 refine (k a o e).stay (fun b u hb q => ?_) (fun _ q => q) fun _ _ q => q
 rcases hb with z | z
 . subst z
   exact S.keep b u q (tr e).1 (tr e).2
 . exact S.keep b u q (tr z).1 (tr z).2
theorem yZq {P : Program} {w : World} {H : Hp} {h : Heap} (k : HOk P w H h) {b : Addr} (e : h.get? b = none) : H b = none := by
 cases q : H b with
 | none => rfl
 | some u =>
   obtain ⟨o, ho⟩ : ∃ o, h.get? b = some o := by
     have z := k b u q
     cases u with
     | lst xs => obtain ⟨_, _, _, _, e⟩ := z; exact ⟨_, e⟩
     | tup xs => obtain ⟨_, _, _, o, e, _⟩ := z; exact ⟨_, e⟩
     | dK kvs => obtain ⟨_, _, _, _, o, _, _, e, _⟩ := z; exact ⟨_, e⟩
     | dT kvs => obtain ⟨_, _, _, _, o, _, _, e, _⟩ := z; exact ⟨_, e⟩
     | set S n => obtain ⟨o, _, _, _, e, _⟩ := z; exact ⟨_, e⟩
     | ins C dx fs => obtain ⟨_, _, _, e, _⟩ := z; exact ⟨_, e⟩
     | own y => obtain ⟨_, e⟩ := z; exact ⟨_, e⟩
     | xd fs => obtain ⟨_, ⟨_, _, _, e, _⟩, _⟩ := z; exact ⟨_, e⟩
     | rng lo hi => obtain ⟨_, _, _, e⟩ := z; exact ⟨_, e⟩
     | frz ob u => obtain ⟨e, _⟩ := z; exact ⟨_, e⟩
     | tbl ps => exact ⟨_, (show h.get? b = some _ from z)⟩
     | met f y => exact ⟨_, (show h.get? b = some _ from z)⟩
     | ext φ => obtain ⟨_, ⟨_, e⟩, _⟩ := z; exact ⟨_, e⟩
   rw [e] at ho
   cases ho
section
variable {X : Cx} {pins : List (Addr × Obj)} {σ : St} {H H' : Hp} {s s1 s2 : Shared}
theorem Inv.flown {r : List Addr} (I : Inv X pins σ H s) (u : Un (frs X.stack) [] H H' s.heap s1.heap) (k : HOk X.prog X.w H' s1.heap) (S : Stays (frs X.stack) r s1.heap s2.heap) (hr : ∀ b ∈ r, s.heap.get? b = none /\ H' b = none)
   (ho : s2.os = s.os) (hg : AllBare s2.gens) : Inv X pins σ H' s2 := by
 have hf : ∀ b ∈ frs X.stack, H' b = none := fun b m => by
   obtain ⟨_, o, e, _⟩ := I.stack.mem m
   exact u.free b o e (I.stkFree b m) (by simp)
 exact I.call' ho (un_stays u S fun b m => (hr b m).1) (hok_stays k S (fun b m => (hr b m).2) hf) hg fun b z => absurd z (by simp)
end
def RaisesTo (X : Cx) (E : XK) : Prop := ∀ (pins : List (Addr × Obj)) (σ : St) (H : Hp) (s : Shared) (h' : Heap) (x : Addr) (cls : Value) (vs : List Value), Inv X pins σ H s -> Heap.MadeExcOf s.heap h' x cls vs -> E cls (some x) H -> X.xe (.ref x) { s with heap := h' }
section
variable {cm : Bool} {P : Program} {w : World} {K : PySem.W.Frag} {mg : Str -> Option Value} {base : Heap} {N : List Str} {qual : Str} {scope : Scope} {f : Addr} {cd : Value} {A : Around} {outer : List Env} {s0 : Shared} {H0 : Hp} {E : XK}
theorem cx_new {X : Cx} {pins : List (Addr × Obj)} {σ : St} {H : Hp} {s : Shared} (I : Inv X pins σ H s) (hx : X.ex = []) {b : Addr} (e : s.heap.get? b = none) : X.s₀.heap.get? b = none := by
 cases q : X.s₀.heap.get? b with
 | none => rfl
 | some o =>
   obtain ⟨o', e'⟩ := I.base.there b o q (by rw [hx]; simp)
   rw [e] at e'
   cases e'
theorem yQw : RaisesTo (cxOf cm (CXw P w) P w K mg base N qual scope f cd A outer s0 H0 E) E := by
 intro pins σ H s h' x cls vs I m q
 obtain ⟨t, hx, _, _⟩ := m.there
 have I1 := I.kept (h' := h') (t' := s.toks) m.keeps
 have hfr : (A.deeper (envOfC qual scope s0.heap.objs.size f cd)).frames = some (envOfC qual scope s0.heap.objs.size f cd :: outer) := I.ok.frames
 refine leave_first (s := { s with heap := h' }) (base := base) hfr I1.stack rfl hx rfl rfl rfl rfl fun h2 T' nT X2 S2 => ?_
 have nx : s.heap.get? x = none := m.new
 have nT' : s.heap.get? T' = none := by
   cases z : s.heap.get? T' with
   | none => rfl
   | some o =>
     have := m.keeps _ _ z
     rw [show h'.get? T' = none from nT] at this
     cases this
 have J : Inv (cxOf cm (CXw P w) P w K mg base N qual scope f cd A outer s0 H0 E) pins σ H { s with heap := h2 } :=
   I.flown (s1 := { s with heap := h' }) (Un.kept m.keeps) (I.hok.kept m.keeps) S2 (fun b mb => by
     obtain rfl : b = x := by simpa using mb
     exact ⟨nx, yZq I.hok nx⟩) rfl I.bare
 refine ⟨x, T', cls, H, rfl, J.os, J.bare, J.base, J.hok, cx_new I rfl nx, cx_new I rfl nT', yZq I.hok nx, yZq I.hok nT', X2, q⟩
theorem zWz : Passes (CXw P w) (cxOf cm (CXw P w) P w K mg base N qual scope f cd A outer s0 H0 E) E := by
 rintro pins σ H s e s' I ⟨x, T, cls, H', rfl, ho, hg, u, hok, nx, nT, hx, hT, X, q⟩
 have hfr : (A.deeper (envOfC qual scope s0.heap.objs.size f cd)).frames = some (envOfC qual scope s0.heap.objs.size f cd :: outer) := I.ok.frames
 have I1 : Inv (cxOf cm (CXw P w) P w K mg base N qual scope f cd A outer s0 H0 E) pins σ H' s' := I.call' ho u hok hg fun b z => absurd z (by simp)
 refine leave_next (base := base) hfr I1.stack rfl X fun h2 T' nT' X2 S2 => ?_
 have J : Inv (cxOf cm (CXw P w) P w K mg base N qual scope f cd A outer s0 H0 E) pins σ H' { s' with heap := h2 } :=
   I.flown (s1 := s') u hok S2 (fun b mb => by
     rcases List.mem_cons.mp mb with z | mb
     . subst z
       exact ⟨nx, hx⟩
     . obtain rfl : b = T := by simpa using mb
       exact ⟨nT, hT⟩) ho hg
 exact ⟨x, T', cls, H', rfl, J.os, J.bare, J.base, J.hok, cx_new I rfl nx, cx_new I1 rfl nT', hx, yZq hok nT', X2, q⟩
end
structure XCls (K : PySem.W.Frag) (C : Addr) : Prop where
 ex : ∃ (B newId initId : String) (bmB : List Value), ExcBaseFacts B newId initId bmB /\ PySem.W.excIn K C bmB newId = true
theorem XCls.obj {K : PySem.W.Frag} {C : Addr} {h : Heap} (c : XCls K C) (X : K.In h) : ∃ (B newId initId : String) (bmB : List Value), ExcBaseFacts B newId initId bmB /\
   ∃ bm N nm q bs hdct sn sub ab col dd k0 k1 k2 k3 k5 mN, h.get? C = some (excClassObj nm q C N bs bm hdct sn sub ab col dd k0 k1 k2 k3 k5 newId) /\ h.Ns N mN /\ mN "__init__" = none /\ OwnTail h bmB bm := by
 obtain ⟨B, newId, initId, bmB, F, q⟩ := c.ex
 refine ⟨B, newId, initId, bmB, F, ?_⟩
 unfold PySem.W.excIn at q
 split at q
 . rename_i dd cdt sl look
   split at q
   . rename_i C' bm s0 s1 s2 s3 n s5 em es
     simp only [Bool.and_eq_true, beq_iff_eq, Bool.not_eq_true'] at q
     obtain ⟨⟨⟨⟨⟨c1, c2⟩, c3⟩, c4⟩, c5⟩, c6⟩ := q
     obtain ⟨nm, bs, mro, ns, qn, hd, sn, sub, ab, col, del⟩ := cdt
     dsimp only at em c3 c5 c6
     subst c1 c2 em c3
     obtain ⟨sll⟩ := sl
     dsimp only at es
     subst es
     exact ⟨bm, ns, nm, qn, bs, hd, sn, sub, ab, col, dd, s0, s1, s2, s3, s5, _, X _ _ look, .of_isNs (PySem.W.isNs_of_in X c5), PySem.W.nsMap_none_of_in X c5 c6, PySem.W.tail_of_in X c4⟩
   . cases q
 . cases q
section
variable {X : Cx}
def tRaise (C : Addr) (E : XK) (t : TA) : TS := fun _ σ H => t σ H fun vs H1 => vs.length <= sizeLine /\ ∀ x, E (.ref C) (some x) H1
theorem yQx {x : Str} {C : Addr} {e : Expr} {es : List Expr} {np cpos pos : Pos} {E : XK} {t : TA} (hr : RaisesTo X E) (c : XCls X.K C) (hc : X.calm = true) (hg : Gl X x) (hm : X.mg x = some (.ref C)) (ha : PA X (e :: es) t)
   (hdb : (x == ("__debug__" : Str)) = false := by decide) (he : starEach (e :: es) X.env = (false, eval e X.env) :: starEach es X.env := by exact zQq rfl) (hpl : (backTo cpos (starEach es X.env)).any (·.1) = false := by exact zQx rfl) :
   PS X (.Raise (some (.Call (.Name x np) (e :: es) [] cpos)) none pos) (tRaise C E t) := by
 intro pins s σ H D I h
 obtain ⟨B, newId, initId, bmB, F, bm, N, nm, q, bs, hdct, sn, sub, ab, col, dd, k0, k1, k2, k3, k5, mN, hC, hN, hni, T⟩ := c.obj I.mod.kin
 have hp2 : (backTo cpos (starEach (e :: es) X.env)).any (·.1) = false := by
   rw [he]
   show (false || (backTo cpos (starEach es X.env)).any (·.1)) = false
   rw [hpl]
   rfl
 refine wpAny_Raise_call_subT (C := C) (nm := nm) (q := q) (N := N) (bs := bs) (bm := bm) (hdct := hdct) (sn := sn) (sub := sub) (ab := ab) (col := col) (dd := dd) (k0 := k0) (k1 := k1) (k2 := k2) (k3 := k3) (k5 := k5)
   F (mN := mN) (T.hasType F.hasBase) (I.ok.hd hc) hp2 hni (xWq I hg hm ⟨rfl, ?_⟩ hdb)
 have ha' := ha cpos pins s σ H _ I h
 rw [he] at ha' ⊢
 refine Calls.evalArgs_plain (wpAny_mono ha' (fun vs s₂ h₂ => ?_) fun _ _ y => y)
 obtain ⟨xs, H1, J, r, hl, q⟩ := h₂
 exact ⟨rfl, by rw [<- r.length]; exact hl, J.bk _ _ hC, hN.keeps J.bk, T.keeps J.bk, fun h' e m => hr pins σ H1 s₂ h' e _ vs J m (q e)⟩
end
abbrev Cx.tr (X : Cx) (pn : List (Addr × Obj)) (xe : Value -> Shared -> Prop) : Cx := { X with pn := pn, xe := xe }
abbrev Cx.hand (X : Cx) (x : Addr) (pn : List (Addr × Obj)) : Cx := { X with A := X.A.mark (some (.ref x)), calm := false, pn := pn, xe := fun _ _ => False }
section
variable {X : Cx} {pins pins' : List (Addr × Obj)} {σ : St} {H : Hp} {s : Shared} {xe : Value -> Shared -> Prop} {x : Addr}
theorem Cx.Ok.tr {pn : List (Addr × Obj)} (ok : X.Ok) : (X.tr pn xe).Ok :=
 ⟨ok.mod, ok.kind, ok.glob, ok.blt, ok.above, ok.inj, ok.has, ok.cab, ok.hd, ok.frames, ok.stk, ok.exf, ok.bs, ok.bsz, ok.noex, ok.exfs, ok.funs, ok.frf⟩
theorem Cx.Ok.untr {pn : List (Addr × Obj)} (ok : (X.tr pn xe).Ok) : X.Ok :=
 ⟨ok.mod, ok.kind, ok.glob, ok.blt, ok.above, ok.inj, ok.has, ok.cab, ok.hd, ok.frames, ok.stk, ok.exf, ok.bs, ok.bsz, ok.noex, ok.exfs, ok.funs, ok.frf⟩
theorem Cx.Ok.hand {pn : List (Addr × Obj)} (ok : X.Ok) : (X.hand x pn).Ok :=
 ⟨ok.mod, ok.kind, ok.glob, ok.blt, ok.above, ok.inj, ok.has, ok.cab, (fun z => nomatch z), ok.frames, ok.stk, ok.exf, ok.bs, ok.bsz, ok.noex, ok.exfs, ok.funs, ok.frf⟩
theorem Inv.toTr (I : Inv X pins σ H s) : Inv (X.tr (X.pn ++ pins) xe) [] σ H s :=
 ⟨I.ok.tr, I.os, I.bare, I.base, I.loc, I.cell, I.free, I.freeC, fun p hp => I.pin p ((List.mem_append.mp hp).elim (fun z => z) fun z => nomatch z), I.hok, I.len⟩
theorem Inv.ofTr (I : Inv (X.tr (X.pn ++ pins) xe) pins' σ H s) : Inv X pins σ H s :=
 ⟨I.ok.untr, I.os, I.bare, I.base, I.loc, I.cell, I.free, I.freeC, fun p hp => I.pin p (List.mem_append_left _ hp), I.hok, I.len⟩
theorem Inv.toHand (I : Inv X pins σ H s) : Inv (X.hand x (X.pn ++ pins)) [] σ H s :=
 ⟨I.ok.hand, I.os, I.bare, I.base, I.loc, I.cell, I.free, I.freeC, fun p hp => I.pin p ((List.mem_append.mp hp).elim (fun z => z) fun z => nomatch z), I.hok, I.len⟩
theorem Inv.ofHand (ok : X.Ok) (I : Inv (X.hand x (X.pn ++ pins)) pins' σ H s) : Inv X pins σ H s :=
 ⟨ok, I.os, I.bare, I.base, I.loc, I.cell, I.free, I.freeC, fun p hp => I.pin p (List.mem_append_left _ hp), I.hok, I.len⟩
theorem SP.ofTr {D : Ends} {f : Flow} {s' : Shared} (h : SP (X.tr (X.pn ++ pins) xe) [] D f s') : SP X pins D f s' := by
 cases f with
 | next => obtain ⟨σ', H', I, q⟩ := h; exact ⟨σ', H', I.ofTr, q⟩
 | brk => obtain ⟨σ', H', I, q⟩ := h; exact ⟨σ', H', I.ofTr, q⟩
 | cont => obtain ⟨σ', H', I, q⟩ := h; exact ⟨σ', H', I.ofTr, q⟩
 | ret u => obtain ⟨v, σ', H', I, r, q⟩ := h; exact ⟨v, σ', H', I.ofTr, r, q⟩
theorem Inv.names_gone {h' : Heap} {m : Str -> Option Value} {tk : Nat} (I : Inv X pins σ H s) (hn : h'.Ns X.env.locals m) (sb : Heap.SameBut X.env.locals s.heap h') :
   Inv X pins (List.replicate X.N.length none) H { s with heap := h', toks := tk } := by
 have old : ∀ b o, X.s₀.heap.get? b = some o -> b ≠ X.env.locals := fun b o e => Nat.ne_of_lt (Nat.lt_of_lt_of_le (Heap.lt_size e) I.ok.above)
 have trk : ∀ b u, H b = some u -> b ≠ X.env.locals := fun b u e z => by rw [z, I.free] at e; cases e
 refine ⟨I.ok, I.os, I.bare, ⟨fun b o e n hb hx => (sb.2 b (old b o e)).trans (I.base.keep b o e n hb hx), fun b o e n hb hx => ?_, I.base.free, fun b o e hx => ?_, I.base.tups, I.base.frzs, I.base.tbls⟩, ⟨m, hn, fun i y v _ e2 _ => ?_⟩, fun y c e => ?_, I.free, I.freeC, fun p hp => ?_, fun b u e => ?_, by simp⟩
 . obtain ⟨sl, q⟩ := I.base.slot b o e n hb hx
   exact ⟨sl, (sb.2 b (old b o e)).trans q⟩
 . obtain ⟨o', q⟩ := I.base.there b o e hx
   exact ⟨o', (sb.2 b (old b o e)).trans q⟩
 . rw [List.getElem?_replicate] at e2
   split at e2 <;> cases e2
 . obtain ⟨v, z⟩ := I.cell y c e
   exact ⟨v, z.sameBut sb (I.cne y c e)⟩
 . obtain ⟨e, n, ne, nf, d⟩ := I.pin p hp
   exact ⟨(sb.2 p.1 ne).trans e, n, ne, nf, d⟩
 . refine (I.hok b u e).stay (fun c v hc q => (sb.2 c ?_).trans q) (fun _ q => q) fun _ _ q => q
   rcases hc with z | z
   . subst z
     exact trk c u e
   . exact trk c _ z
end
def excO (x : Addr) (cls : Value) : HO := .ext fun h => Exc h x cls
theorem excO_ok {P : Program} {w : World} {H : Hp} {h : Heap} {x : Addr} {cls : Value} (e : Exc h x cls) : ObjOk P w H h x (excO x cls) := by
 refine ⟨e, ?_, fun h1 h2 ⟨oe, vs, a, b, c, d⟩ k => ⟨oe, vs, k _ a, b, c, d⟩⟩
 obtain ⟨oe, _, a, _⟩ := e
 exact ⟨oe, a⟩
theorem Exc.ty {M : Model} {h : Heap} {x : Addr} {cls : Value} (e : Exc h x cls) : PySem.W.Looks M h (typeOf (.ref x)) cls := by
 obtain ⟨oe, vs, a, ⟨b, _⟩, _⟩ := e
 subst b
 exact (PySem.W.Looks.ld a).andThen .now
theorem Inv.catch {X : Cx} {pins : List (Addr × Obj)} {σ : St} {H H' : Hp} {s s1 s2 : Shared} {x T T' : Addr} {cls : Value} (I : Inv X pins σ H s) (u : Un (frs X.stack) [] H H' s.heap s1.heap) (k : HOk X.prog X.w H' s1.heap)
   (S : Stays (frs X.stack) [x, T] s1.heap s2.heap) (nx : s.heap.get? x = none) (nT : s.heap.get? T = none) (hx : H' x = none) (hT : H' T = none) (ex : Exc s2.heap x cls) (ho : s2.os = s.os) (hg : AllBare s2.gens) :
   Inv X pins σ (upd H' x (excO x cls)) s2 := by
 have hr : ∀ b ∈ [x, T], s.heap.get? b = none /\ H' b = none := fun b mb => by
   rcases List.mem_cons.mp mb with z | mb
   . subst z
     exact ⟨nx, hx⟩
   . obtain rfl : b = T := by simpa using mb
     exact ⟨nT, hT⟩
 have J := I.flown u k S hr ho hg
 have nb : ∀ {b o}, s.heap.get? b = some o -> b ≠ x := fun {b o} e z => by
   rw [z, nx] at e
   cases e
 have tr : ∀ {b v}, H' b = some v -> b ≠ x := fun {b v} e z => by
   rw [z, hx] at e
   cases e
 have U := un_stays u S fun b m => (hr b m).1
 refine I.call' ho ⟨U.keep, U.slot, fun b o e n z => ?_, U.there, fun b xs e => ?_, fun b o v e => ?_, fun b ps e => ?_⟩ (fun b v e => ?_) hg fun b z => absurd z (by simp)
 . rw [zQv (nb e)]
   exact U.free b o e n z
 . rw [zQv (tr (U.tups b xs e))]
   exact U.tups b xs e
 . rw [zQv (tr (U.frzs b o v e))]
   exact U.frzs b o v e
 . obtain ⟨more, q⟩ := U.tbls b ps e
   exact ⟨more, by rw [zQv (tr q)]; exact q⟩
 . by_cases z : b = x
   . subst z
     rw [zQz] at e
     cases e
     exact excO_ok ex
   . rw [zQv z] at e
     exact (J.hok b v e).stay (fun c w' _ q => q) (fun c q => by rw [zQv (tr q)]; exact q) fun c xs q => by rw [zQv (tr q)]; exact q
def tTryAs (K : PySem.W.Frag) (c : Value) (ie : Nat) (E : XK) (tb : TS) (ts : Addr -> TS) : TS := fun D σ H => tb D σ H /\ ∀ cls x H', E cls (some x) H' -> PySem.W.exmOne K cls c = some true /\ (H' x = none -> ∀ σ', σ'.length = σ.length -> σ'[ie]? = some (some (.ref x)) ->
 ts x { nx := fun _ _ => False, rt := D.rt } σ' (upd H' x (excO x cls)))
section
variable {X : Cx} {body suite : List Stmt} {b₀ : Stmt} {cn n : Str} {np pos tpos : Pos} {c : Value} {E : XK} {tb : TS} {ts : Addr -> TS} {ie : Nat}
theorem ps_tryAs (hst : X.stack = X.env :: X.outer /\ X.env.frame = some X.env.locals) (hN : X.N.Nodup) (hi : X.N[ie]? = some n) (hl : X.env.scope.names.lookup n = some .local) (hg : Gl X cn) (hm : X.mg cn = some c)
   (hb : ∀ pn xe, Passes (CXw X.prog X.w) (X.tr pn xe) E -> PSs (X.tr pn xe) body tb) (hs : ∀ x pn, PSs (X.hand x pn) (b₀ :: suite) (ts x))
   (hdb : (cn == ("__debug__" : Str)) = false := by decide) : PS X (.Try body [.ExceptHandler (some (.Name cn np)) (some n) (b₀ :: suite) pos] [] [] tpos) (tTryAs X.K c ie E tb ts) := by
 intro pins s σ H D I h
 obtain ⟨h1, h2⟩ := h
 refine wpAny_Try_except ?_
 refine thn (hb (X.pn ++ pins) _ ?_ [] s σ H D I.toTr h1) fun f s1 q => ?_
 . rintro pins' σ1 H1 s1 e s' J ⟨x, T, cls, H', rfl, ho, hg', u, hok, nx, nT, hx, hT, XT, q⟩
   have J : Inv X pins σ1 H1 s1 := J.ofTr
   have J1 : Inv X pins σ1 H' s' := J.call' ho u hok hg' fun b z => absurd z (by simp)
   have hfr : X.A.frames = some (X.env :: X.outer) := by rw [J.ok.frames, hst.1]
   have hfun : s'.heap.FunFrames X.base (X.env :: X.outer) := by
     have z := J1.stack
     rw [hst.1] at z
     exact z
   refine note_next hfr hfun hst.2 XT fun g1 T1 n1 X1 S1 => ?_
   refine xWk (s := { s' with heap := g1 }) X1 fun g2 X2 S2 => ?_
   have S12 : Stays (frs X.stack) [x, T] s'.heap g2 := by
     rw [hst.1]
     exact S1.trans (S2.more (by simp)) fun b m => .inr (by simp at m; rw [m]; exact n1)
   obtain ⟨hm1, hrest⟩ := h2 cls x H' q
   have J2 : Inv X pins σ1 (upd H' x (excO x cls)) { s' with heap := g2 } := J.catch (T' := T1) u hok S12 nx nT hx hT X2.exc ho hg'
   have Y2 : Inv (X.hand x (X.pn ++ pins)) [] σ1 (upd H' x (excO x cls)) { s' with heap := g2 } := J2.toHand
   refine wpAny_handleBy_cons (codeAny_handlers_test (xWq Y2 hg hm ((PySem.W.exm_one Y2.kIn X2.exc.ty hm1).here ?_) hdb)) (by intro z; cases z)
   refine codeAny_handlers_suite_as (xWk (s := { s' with heap := g2 }) X2 fun g3 X3 S3 => ?_)
   have S13 : Stays (frs X.stack) [x, T] s'.heap g3 := S12.trans (S3.more (by simp)) fun b m => .inr (by simp at m; rw [m]; exact n1)
   have J3 : Inv X pins σ1 (upd H' x (excO x cls)) { s' with heap := g3 } := J.catch (T' := T1) u hok S13 nx nT hx hT X3.exc ho hg'
   have Y3 : Inv (X.hand x (X.pn ++ pins)) [] σ1 (upd H' x (excO x cls)) { s' with heap := g3 } := J3.toHand
   refine xWx (X := X.hand x (X.pn ++ pins)) (i := ie) (v := .ref x) Y3 hN hi (.inl hl) rfl (fun s4 Y4 => ?_) (.inr hl)
   have len4 : (σ1.set ie (some (V.ref x))).length = σ.length := by rw [List.length_set, J.len, I.len]
   have at4 : (σ1.set ie (some (V.ref x)))[ie]? = some (some (.ref x)) := List.getElem?_set_self (by rw [J.len]; exact (List.getElem?_eq_some_iff.mp hi).1)
   refine wpAny_mono (hs x (X.pn ++ pins) [] s4 _ _ _ Y4 (hrest hx _ len4 at4)) (fun f s5 q5 => ?_) fun _ _ z => False.elim z
   have J5 : ∀ {σ5 H5}, Inv (X.hand x (X.pn ++ pins)) [] σ5 H5 s5 -> Inv X pins σ5 H5 s5 := fun {σ5 H5} y => y.ofHand I.ok
   have hcls : (X.env.scope.kind == .class || (X.env.scope.kind == .module && X.env.locals != X.env.globals)) = false := by rw [I.ok.kind]; rfl
   cases f with
   | next => obtain ⟨_, _, _, z⟩ := q5; exact False.elim z
   | brk => obtain ⟨_, _, _, z⟩ := q5; exact False.elim z
   | cont => obtain ⟨_, _, _, z⟩ := q5; exact False.elim z
   | ret v =>
     obtain ⟨v', σ5, H5, y5, rv, z⟩ := q5
     have j5 := J5 y5
     obtain ⟨m5, ns5, _⟩ := id j5.loc
     exact wpAny_nameGoes hl ns5 hcls fun h6 m6 ns6 sb6 => ⟨v', _, H5, j5.names_gone ns6 sb6, rv, z⟩
 . cases f with
   | next =>
     obtain ⟨σ', H', J, q⟩ := q
     exact zZw pins s1 σ' H' D J.ofTr q
   | brk => exact SP.ofTr q
   | cont => exact SP.ofTr q
   | ret u => exact SP.ofTr q
end
section
variable {P : Program} {w : World} {K : PySem.W.Frag} {mg : Str -> Option Value} {base : Heap}
theorem Fun.okX {x qual : Str} {st : Stmt} {f : Addr} {fd : FuncData} {N ps : List Str} {k : Nat} {sp : Sp} (hk : 50 <= k + 1) (F : Fun K x qual st f fd) (S : FnScope N ps (defScope st)) (len : ∀ vs H Q E, sp vs H Q E -> vs.length = ps.length)
   (hbody : ∀ (cdv : Value) (A : Around) (outer : List Env) (s : Shared) (H : Hp) (vs : List V) (Q : VK) (E : XK), Room k (A.deeper (envOfC qual (defScope st) s.heap.objs.size f cdv)) -> sp vs H Q E ->
     ∃ t, PSs (cxOf true (CXw P w) P w K mg base N qual (defScope st) f cdv A outer s H E) (defBody st) t /\ t { nx := fun _ H' => Q .non H', rt := Q } (start N vs) H) : FnOk P w K mg base (CXw P w) (k + 1) f fd ps sp := by
 obtain ⟨oc, od, kV, doc, pm, an, cdv, ct, osl, rfl, lk, hcd⟩ := F.ex
 exact fn_of (cm := true) lk hcd S len (fun _ => hk) fun A outer s H vs Q E hr hsp => hbody cdv A outer s H vs Q E hr hsp
end
theorem passE {P : Program} {w : World} {X : Cx} : Passes (CXw P w) X E0 := by
 rintro pins σ H s e s' I ⟨x, T, cls, H', _, _, _, _, _, _, _, _, _, _, z⟩
 exact z.elim
def clAcc (env : Env) : List (Str × NameKind) -> List (Str × Addr) -> List (Str × Addr)
 | [], cs => cs
 | (n, k) :: r, cs => clAcc env r (if k == .free then (n, (env.cells.lookup n).getD 0) :: cs else cs)
theorem xZx {env : Env} : ∀ {names : List (Str × NameKind)} {cs : List (Str × Addr)} {n : Str} {c : Addr}, (n, c) ∈ clAcc env names cs -> (n, c) ∈ cs \/ ((n, NameKind.free) ∈ names /\ c = (env.cells.lookup n).getD 0)
 | [], _, _, _, h => .inl h
 | (m, k) :: r, cs, n, c, h => by
   unfold clAcc at h
   rcases xZx h with q | ⟨q, e⟩
   . by_cases hk : (k == NameKind.free) = true
     . rw [if_pos hk] at q
       rcases List.mem_cons.mp q with z | z
       . obtain ⟨z1, z2⟩ := Prod.mk.inj z
         subst z1 z2
         exact .inr ⟨by rw [beq_iff_eq.mp hk]; exact List.mem_cons_self, rfl⟩
       . exact .inl z
     . rw [if_neg hk] at q
       exact .inl q
   . exact .inr ⟨List.mem_cons_of_mem _ q, e⟩
theorem clAcc_sub {env : Env} : ∀ {names : List (Str × NameKind)} {cs : List (Str × Addr)} {p : Str × Addr}, p ∈ cs -> p ∈ clAcc env names cs
 | [], _, _, h => h
 | (m, k) :: r, cs, p, h => by
   unfold clAcc
   refine clAcc_sub ?_
   split
   . exact List.mem_cons_of_mem _ h
   . exact h
theorem xZz {env : Env} : ∀ {names : List (Str × NameKind)} {cs : List (Str × Addr)} {n : Str}, (n, NameKind.free) ∈ names -> ∃ c, (n, c) ∈ clAcc env names cs
 | (m, k) :: r, cs, n, h => by
   unfold clAcc
   rcases List.mem_cons.mp h with z | z
   . obtain ⟨z1, z2⟩ := Prod.mk.inj z
     subst z1
     refine ⟨_, clAcc_sub (p := (n, (env.cells.lookup n).getD 0)) ?_⟩
     rw [if_pos (by rw [<- z2]; rfl)]
     exact List.mem_cons_self
   . exact xZz z
theorem xQw {α : Type} : ∀ {l : List (Str × α)} {n : Str} {c : α}, (n, c) ∈ l -> ∃ d, l.lookup n = some d
 | (m, d) :: r, n, c, h => by
   rw [List.lookup_cons]
   cases e : n == m with
   | true => exact ⟨d, rfl⟩
   | false =>
     rcases List.mem_cons.mp h with z | z
     . obtain ⟨z1, _⟩ := Prod.mk.inj z
       subst z1
       rw [beq_self_eq_true] at e
       cases e
     . exact xQw z
theorem xJw {env : Env} {f : Str × NameKind -> List (Str × Addr) -> Sem (ForInStep (List (Str × Addr)))} (hf : ∀ n r, f (n, .free) r = (do let c <- cellOf env n; pure (ForInStep.yield ((n, c) :: r)))) (hg : ∀ n k r, k ≠ .free -> f (n, k) r = pure (ForInStep.yield r)) :
   ∀ (names : List (Str × NameKind)) (cs : List (Str × Addr)), (∀ n, (n, NameKind.free) ∈ names -> ∃ c, env.cells.lookup n = some c) -> forIn names cs f = pure (clAcc env names cs)
 | [], cs, _ => rfl
 | (n, k) :: r, cs, h => by
   rw [List.forIn_cons]
   show _ = pure (clAcc env r (if (k == NameKind.free) = true then (n, (env.cells.lookup n).getD 0) :: cs else cs))
   by_cases hk : k = .free
   . subst hk
     obtain ⟨c, hc⟩ := h n List.mem_cons_self
     have e : cellOf env n = pure c := by unfold cellOf; rw [hc]
     rw [hf, e, pure_bind, pure_bind, if_pos (show (NameKind.free == NameKind.free) = true from rfl), hc]
     exact xJw hf hg r _ fun m z => h m (List.mem_cons_of_mem _ z)
   . rw [hg n k cs hk, pure_bind, if_neg (by simpa using hk)]
     exact xJw hf hg r _ fun m z => h m (List.mem_cons_of_mem _ z)
theorem yJk {scope : Scope} {env : Env} (h : ∀ n, (n, NameKind.free) ∈ scope.names -> ∃ c, env.cells.lookup n = some c) : closureFor scope env = pure (clAcc env scope.names []) := by
 simp only [closureFor]
 rw [xJw (env := env) (fun n r => rfl) (fun n k r hk => by cases k <;> first | rfl | exact absurd rfl hk) scope.names [] h]
 rfl
theorem zKx {env : Env} {n : Str} : ∀ (names : List (Str × NameKind)),
   (names.map fun (x : Str × NameKind) => if (x.2 == NameKind.free && env.scope.kind == .function && env.kindOf x.1 == some .cell) then (x.1, NameKind.cell) else (x.1, x.2)).lookup n =
     (names.lookup n).map fun k => if (k == NameKind.free && env.scope.kind == .function && env.kindOf n == some .cell) then NameKind.cell else k
 | [] => rfl
 | (m, k) :: r => by
   rw [List.map_cons]
   have ih := zKx (env := env) (n := n) r
   cases e : n == m with
   | true =>
     have z : n = m := eq_of_beq e
     subst z
     split
     . rename_i hc
       rw [List.lookup_cons, List.lookup_cons, beq_self_eq_true, Option.map_some, if_pos hc]
     . rename_i hc
       rw [List.lookup_cons, List.lookup_cons, beq_self_eq_true, Option.map_some, if_neg hc]
   | false =>
     split <;> simp only [List.lookup_cons, e, ih]
abbrev Cx.blk (X : Cx) (scope : Scope) (N : List Str) (C : Addr) (s₀ : Shared) (H₀ : Hp) (ex : List Addr) (pn : List (Addr × Obj)) : Cx :=
 { X with env := compEnvC scope (clAcc X.env scope.names []) C X.env, N := N, s₀ := s₀, H₀ := H₀, outer := X.stack, ex := ex, fn := fun _ => false, pn := pn, xe := fun _ _ => False }
def capt (ci : List Nat) (σ : St) : St := ci.map fun i => (σ[i]?).join
def PTs (X : Cx) (ifs : List Expr) (t : TT) : Prop :=
 ∀ (pins : List (Addr × Obj)) (s : Shared) (σ : St) (H : Hp) (Q : Bool -> Hp -> Prop), Inv X pins σ H s -> t σ H Q ->
   wpAny (model X.prog X.w) X.A (forIn ifs true fun c r => if r = true then do let ok <- isTrue c X.env (eval c X.env); pure (ForInStep.yield ok) else pure (ForInStep.yield r)) (TP X pins σ Q) X.xe s
def tYes : TT := fun _ H Q => Q true H
theorem yJx {X : Cx} : PTs X [] tYes := fun pins s σ H Q I h => wpAny_tests_nil ⟨H, I, h⟩
theorem pts_one {X : Cx} {c : Expr} {t : TT} (h : PT X c t) : PTs X [c] t := fun pins s σ H Q I hq => wpAny_tests_one (h pins s σ H Q I hq)
@[irreducible] def tComp (wi : TI) (ci : List Nat) (tt : TT) (te : TE) : TE := fun σ H Q => wi σ H fun J H1 => ∀ acc, H1 acc = none -> ∃ W : Nat -> Nat -> List V -> Hp -> Prop, (∃ m, W 0 m [] (upd H1 acc (.lst []))) /\
 ∀ i m ys H2, W i m ys H2 -> (J.stop i H2 /\ Q (.ref acc) H2) \/ (J.go i H2 /\ ∀ x H3, J.yld i H2 x H3 -> tt (some x :: capt ci σ) H3 fun b H4 =>
   if b = true then te (some x :: capt ci σ) H4 fun y H5 => H5 acc = some (.lst ys) /\ ys.length < sizeLine /\ ∃ m', m' < m /\ W (i + 1) m' (ys ++ [y]) (upd H5 acc (.lst (ys ++ [y])))
   else ∃ m', m' < m /\ W (i + 1) m' ys H4)
section
variable {X : Cx} {elt iter : Expr} {x : Str} {px pos : Pos} {ifs : List Expr} {scope : Scope} {ci : List Nat} {caps : List Str} {wi : TI} {tt : TT} {te : TE}
theorem comp_core (hc : X.calm = true) (hi : PI X (.Name x px) iter wi) (hkind : scope.kind = .function) (hcell : ∀ y ∈ scope.names, y.2 ≠ .cell) (hnames : ∀ y ∈ scope.names, y.2 = .local -> scope.names.lookup y.1 = some .local)
   (hx : scope.names.lookup x = some .local) (hfree : ∀ y ∈ scope.names, y.2 = .free -> X.env.kindOf y.1 = some .cell)
   (hcap : ∀ p ∈ caps.zip ci, scope.names.lookup p.1 = some .free /\ X.N[p.2]? = some p.1) (hlen : caps.length = ci.length) (hnd : (x :: caps).Nodup)
   (ht : ∀ C s₀ H₀ ex pn, PTs (X.blk scope (x :: caps) C s₀ H₀ ex pn) ifs tt) (he : ∀ C s₀ H₀ ex pn, PE (X.blk scope (x :: caps) C s₀ H₀ ex pn) elt te)
   (hs : ∀ v, foldedSetIterable iter X.env v = pure v) {use : Option (Value -> Sem Unit)} {Qv : Value -> Shared -> Prop} {ppos : Pos}
   {pins : List (Addr × Obj)} {s : Shared} {σ : St} {H : Hp} {Q : VK} (I : Inv X pins σ H s) (h : tComp wi ci tt te σ H Q)
   (fin : ∀ acc C H5 s6 m6, Inv X pins σ H5 s6 -> Q (.ref acc) H5 -> s6.heap.Ns C m6 -> FpOk X pins H5 C -> compPost (model X.prog X.w) X.A X.xe use Qv (.ref acc) C (.ok .next) s6) :
   wpAny (model X.prog X.w) X.A (comprehension (.ListComp elt [⟨.Name x px, iter, ifs, 0⟩] scope pos) scope X.env ppos (newList []) false (eval iter X.env) use) Qv X.xe s := by
 unfold tComp at h
 have hfree' : ∀ n, (n, NameKind.free) ∈ scope.names -> X.env.kindOf n = some .cell := fun n m => hfree (n, .free) m rfl
 have hclos : closureFor scope X.env = pure (clAcc X.env scope.names []) := yJk fun n m => I.ok.has n (.inl (hfree' n m))
 have c1 : ∀ n c, (clAcc X.env scope.names []).lookup n = some c -> (n, NameKind.free) ∈ scope.names /\ X.env.cells.lookup n = some c := fun n c e => by
   rcases xZx (PySem.mem_of_lookup e) with z | ⟨z, e'⟩
   . exact absurd z (by simp)
   . obtain ⟨d, hd⟩ := I.ok.has n (.inl (hfree' n z))
     rw [hd] at e'
     exact ⟨z, by rw [hd, e']; rfl⟩
 have c2 : ∀ n, (n, NameKind.free) ∈ scope.names -> ∃ c, (clAcc X.env scope.names []).lookup n = some c := fun n m => by
   obtain ⟨c, hc⟩ := xZz (env := X.env) (cs := []) m
   exact xQw hc
 refine wpAny_comprehension_free (use := use) rfl hs hclos hkind hnames (thn (hi pins s σ H _ I h) fun v s1 h1 => thn h1 fun itv s2 h2 => ?_)
 obtain ⟨it, fp, tn, J, H2, e, I2, T, st2, f2, rd⟩ := h2
 subst e
 have fz : H2 s2.heap.objs.size = none := I2.fresh
 obtain ⟨W, ⟨m0, w0⟩, turn⟩ := rd s2.heap.objs.size fz
 refine wpAny_newObj_type (wpAny_newFunctionEnv hcell (by intro y hy; simp at hy) (fun h₁ hns₁ hsb₁ => ?_) hkind)
 dsimp only at hns₁ hsb₁ ⊢
 have I3 : Inv X pins σ (upd H2 s2.heap.objs.size (.lst [])) { s2 with heap := s2.heap.push { cls := .type "list", dict := none, data := .seq ([] : List Value).toArray } } := I2.lnew (ys := []) (its := []) (t' := s2.toks) .nil (Nat.zero_le _)
 generalize hg3 : s2.heap.push { cls := .type "list", dict := none, data := .seq ([] : List Value).toArray } = g3 at hns₁ hsb₁ I3 ⊢
 generalize hacc : s2.heap.objs.size = acc at *
 have hC : g3.objs.size = acc + 1 := by rw [<- hg3, Heap.size_push, hacc]
 generalize hH3 : upd H2 acc (HO.lst []) = H3 at *
 generalize hs3 : ({ s2 with heap := g3 } : Shared) = s3 at *
 have h3 : s3.heap = g3 := by rw [<- hs3]
 have o3 : s3.os = s2.os := by rw [<- hs3]
 have b3 : s3.gens = s2.gens := by rw [<- hs3]
 have up : ∀ b o, g3.get? b = some o -> h₁.get? b = some o := fun b o e => hsb₁.extBut b o (Nat.ne_of_lt (Heap.lt_size e)) (Heap.get?_push_of_some _ e)
 have fpo : ∀ b ∈ fp, ∃ o, s2.heap.get? b = some o := fun b hb => by
   obtain ⟨o, e, _⟩ := T.obj _ _ st2 b hb
   exact ⟨o, e⟩
 have fplt : ∀ b ∈ fp, b < acc := fun b hb => by
   obtain ⟨o, e⟩ := fpo b hb
   rw [<- hacc]
   exact Heap.lt_size e
 have g3of : ∀ b o, s2.heap.get? b = some o -> g3.get? b = some o := fun b o e => by
   rw [<- hg3]
   exact Heap.get?_push_of_some _ e
 let Y : Cx := X.blk scope (x :: caps) g3.objs.size s3 H3 fp (X.pn ++ pins)
 have okY : Y.Ok := by
   refine ⟨I.ok.mod, hkind, I.ok.glob, I.ok.blt, by show s3.heap.objs.size <= g3.objs.size; rw [h3]; exact Nat.le_refl _, fun y z c e1 e2 => I.ok.inj y z c (c1 y c e1).2 (c1 z c e2).2, fun y hy => ?_, fun y c z => (nomatch z), I.ok.hd, I.ok.frames, .inl rfl, fun b hb => ⟨?_, fun y c e z => ?_⟩, I3.bs, Nat.le_trans I.ok.bsz I3.sz, fun b o e hb => ?_, fun b hb z => ?_, I3.stack, I3.stkFree⟩
   . have hy' : (relabel scope X.env).names.lookup y = some .cell \/ (relabel scope X.env).names.lookup y = some .free := hy
     have e := zKx (env := X.env) (n := y) scope.names
     have e' : (relabel scope X.env).names.lookup y = (scope.names.lookup y).map fun k => if (k == NameKind.free && X.env.scope.kind == .function && X.env.kindOf y == some .cell) then NameKind.cell else k := e
     cases q : scope.names.lookup y with
     | none =>
       rw [q] at e'
       rw [e'] at hy'
       rcases hy' with z | z <;> cases z
     | some k =>
       have mk := PySem.mem_of_lookup q
       by_cases hk : k = .free
       . subst hk
         exact c2 y mk
       . rw [q] at e'
         have nk : (k == NameKind.free) = false := beq_eq_false_iff_ne.mpr hk
         simp only [Option.map_some, nk, Bool.false_and, Bool.false_eq_true, if_false] at e'
         rw [e'] at hy'
         rcases hy' with z | z
         . exact absurd (Option.some.inj z) (hcell _ mk)
         . exact absurd (Option.some.inj z) hk
   . show b ≠ g3.objs.size
     rw [hC]
     exact Nat.ne_of_lt (Nat.lt_succ_of_lt (fplt b hb))
   . exact (f2 b hb).2.2.2.2.1 y c (c1 y c e).2 z
   . rcases (f2 b hb).2.2.2.1 with z | z
     . exact I.ok.noex b o e z
     . exact absurd (Nat.lt_of_lt_of_le (Heap.lt_size e) (Nat.le_trans I.ok.bsz z)) (Nat.lt_irrefl _)
   . rcases List.mem_cons.mp (I.stkSub b z) with q | q
     . exact (f2 b hb).2.1 q
     . exact (f2 b hb).2.2.1 q
 have capL : (capt ci σ).length = caps.length := by unfold capt; rw [List.length_map, hlen]
 have hf3 : ∀ b ∈ fp, H3 b = none := fun b hb => by
   rw [<- hH3, zQv (Nat.ne_of_lt (fplt b hb))]
   exact (f2 b hb).1
 have IY : Inv Y [] (none :: capt ci σ) H3 { s2 with heap := h₁, toks := s2.toks + ([] : List (Str × Value)).length } := by
   refine ⟨okY, o3.symm, by have := I3.bare; rw [b3] at this; exact this, Un.kept (fun b u e => up b u (by rw [<- h3]; exact e)), ⟨_, hns₁, fun i y v e1 e2 e3 => ?_⟩, fun y c e => ?_, I3.hok.fresh (by rw [h3]; exact Nat.le_refl _), fun y c e => I3.freeC y c (c1 y c e).2, fun p hp => ?_, fun b u e => ((I3.hok b u e).stay (fun c v _ q => up c v (by rw [<- h3]; exact q)) (fun _ q => q) fun _ _ q => q), by show (capt ci σ).length + 1 = caps.length + 1; rw [capL]⟩
   . cases i with
     | zero => simp at e2
     | succ j =>
       have e1' : caps[j]? = some y := e1
       have e2' : (capt ci σ)[j]? = some (some v) := e2
       unfold capt at e2'
       rw [List.getElem?_map] at e2'
       cases q : ci[j]? with
       | none => rw [q] at e2'; cases e2'
       | some i =>
         rw [q] at e2'
         have ev : σ[i]? = some (some v) := by
           have z : (σ[i]?).join = some v := Option.some.inj e2'
           cases w : σ[i]? with
           | none => rw [w] at z; cases z
           | some o => rw [w] at z; exact congrArg some z
         have hz : (y, i) ∈ caps.zip ci := by
           refine List.mem_iff_getElem?.mpr ⟨j, ?_⟩
           rw [List.getElem?_zip_eq_some]
           exact ⟨e1', q⟩
         obtain ⟨k1, k2⟩ := hcap _ hz
         have kX := hfree' y (PySem.mem_of_lookup k1)
         obtain ⟨mX, _, hl⟩ := I3.loc
         obtain ⟨u, ru, lk⟩ := hl i y v k2 ev (.inr (.inl kX))
         refine ⟨u, ru, .inr ⟨.inl ?_, ?_⟩⟩
         . have e := zKx (env := X.env) (n := y) scope.names
           show (relabel scope X.env).names.lookup y = some .cell
           refine Eq.trans e ?_
           rw [k1, Option.map_some, kX, I.ok.kind]
           rfl
         . rcases lk with ⟨a, _⟩ | ⟨_, c, ec, z⟩
           . rw [kX] at a; cases a
           . obtain ⟨d, hd⟩ := c2 y (PySem.mem_of_lookup k1)
             have := (c1 y d hd).2
             rw [ec] at this
             cases this
             obtain ⟨oc, hoc, hdc⟩ := z
             exact ⟨c, hd, oc, up _ _ (by rw [<- h3]; exact hoc), hdc⟩
   . obtain ⟨v, oc, hoc, hdc⟩ := I3.cell y c (c1 y c e).2
     exact ⟨v, oc, up _ _ (by rw [<- h3]; exact hoc), hdc⟩
   . have hp' : p ∈ X.pn ++ pins := (List.mem_append.mp hp).elim (fun z => z) fun z => nomatch z
     obtain ⟨a, b, c, d, e⟩ := I3.pin p hp'
     refine ⟨up _ _ (by rw [<- h3]; exact a), b, ?_, fun z => ?_, e⟩
     . show p.1 ≠ g3.objs.size
       have := Heap.lt_size a
       rw [h3] at this
       exact Nat.ne_of_lt this
     . rcases List.mem_cons.mp (I3.stkSub _ z) with q | q
       . exact c q
       . exact d q
 have stat : ∀ {H' : Hp}, (∀ b ∈ fp, H' b = none) -> ∀ b ∈ fp, FpOk Y [] H' b := fun {H'} hn b hb => by
   refine ⟨hn b hb, ?_, fun z => ?_, .inl hb, fun y c e z => (f2 b hb).2.2.2.2.1 y c (c1 y c e).2 z, fun p hp z => ?_⟩
   . show b ≠ g3.objs.size
     rw [hC]
     exact Nat.ne_of_lt (Nat.lt_succ_of_lt (fplt b hb))
   . rcases List.mem_cons.mp (I.stkSub b z) with q | q
     . exact (f2 b hb).2.1 q
     . exact (f2 b hb).2.2.1 q
   . have hp' : p ∈ X.pn ++ pins := (List.mem_append.mp hp).elim (fun z => z) fun z => nomatch z
     exact (f2 b hb).2.2.2.2.2 p hp' z
 have loop : ∀ s4 : Shared, s4 = { s2 with heap := h₁, toks := s2.toks + ([] : List (Str × Value)).length } ->
     codeAny (model X.prog X.w) X.A (.compLoop (.ListComp elt [⟨.Name x px, iter, ifs, 0⟩] scope pos) 0 (.ref it) (.ref acc) (compEnvC scope (clAcc X.env scope.names []) g3.objs.size X.env))
       (compPost (model X.prog X.w) X.A X.xe use Qv (.ref acc) g3.objs.size) s4 := by
   rintro s4 rfl
   refine codeAny_loop rfl (fun n s' => ∃ i ys v0 H', Inv Y [] (v0 :: capt ci σ) H' s' /\ tn i s'.heap /\ (∀ b ∈ fp, H' b = none) /\ W i n ys H') (fun n s5 hI => ?_) m0 ⟨0, [], none, H3, IY, T.keep _ _ _ st2 fun b hb o e => up b o (g3of b o e), hf3, w0⟩
   obtain ⟨i, ys, v0, H5, I5, st5, fr5, w5⟩ := hI
   refine wpAny_noted ?_
   rw [compTurn_list]
   refine wpAny_bind (wpAny_standAt (wpAny_bind ?_))
   rcases turn i n ys H5 w5 with ⟨stop, qn⟩ | ⟨go, step⟩
   . refine thn (T.done Y rfl rfl rfl hc i [] s5 _ H5 _ I5 (stat fr5) st5 stop) fun r s6 ⟨hr, I6⟩ => ?_
     subst hr
     refine wpAny_pure ?_
     obtain ⟨m6, ns6, _⟩ := id I6.loc
     have J6 : Inv X pins σ H5 s6 := I3.call' (ch := fp) (I6.os.trans (by rfl)) I6.base I6.hok I6.bare fun b hb => by
       obtain ⟨_, a1, _, a3, a4, a5⟩ := f2 b hb
       exact ⟨a3, a1, a4, a5⟩
     refine fin acc g3.objs.size H5 s6 m6 J6 qn ns6 ⟨I6.free, ?_, fun z => ?_, .inr ?_, fun y c e z => ?_, fun p hp z => ?_⟩
     . intro z
       have := I3.lt
       rw [h3, <- z] at this
       exact absurd this (Nat.lt_irrefl _)
     . have := I3.nofs (a := g3.objs.size) (by rw [h3]; exact Nat.le_refl _)
       exact this z
     . have := I3.sz
       rw [h3] at this
       exact this
     . obtain ⟨v, q⟩ := I3.cell y c e
       have := q.lt
       rw [h3, z] at this
       exact absurd this (Nat.lt_irrefl _)
     . have := Heap.lt_size (I3.pin p hp).1
       rw [h3, z] at this
       exact absurd this (Nat.lt_irrefl _)
   . refine thn (T.item Y rfl rfl rfl hc i [] s5 _ H5 _ I5 (stat fr5) st5 go) fun r s6 ⟨u, hr, h6⟩ => ?_
     subst hr
     refine wpAny_bind (thn h6 fun _ s7 ⟨y, H7, I7, r7, y7, st7, fr7⟩ => ?_)
     have I7' := I7.pinned (stat fr7) (T.obj _ _ st7)
     refine wpAny_bind (wpAny_assign_Name (xWx (i := 0) I7' hnd rfl (.inl (lookup_relabel_local hx)) r7 (fun s8 I8 => ?_) (.inr (lookup_relabel_local hx))))
     have back : ∀ {σ9 : St} {H9 : Hp} {s9 : Shared}, Inv Y ([] ++ pinsAt fp s7.heap) σ9 H9 s9 -> Inv Y [] σ9 H9 s9 /\ tn (i + 1) s9.heap /\ ∀ b ∈ fp, H9 b = none := fun {σ9 H9 s9} I9 => by
       refine ⟨I9.unpinned, T.keep _ _ _ st7 fun b hb o e => (I9.pin (b, o) (List.mem_append_right _ (List.mem_append_right _ (yWk hb e)))).1, fun b hb => ?_⟩
       obtain ⟨o, e, d⟩ := T.obj _ _ st7 b hb
       exact (I9.pin (b, o) (List.mem_append_right _ (List.mem_append_right _ (yWk hb e)))).2.1
     refine wpAny_bind (wpAny_mono (ht _ _ _ _ _ _ s8 _ H7 _ I8 (step y H7 y7)) (fun ok s9 q9 => ?_) fun _ _ z => False.elim z)
     obtain ⟨H9, I9, q9⟩ := q9
     cases ok with
     | false =>
       obtain ⟨m', hm, w9⟩ := q9
       obtain ⟨a1, a2, a3⟩ := back I9
       exact wpAny_pure ⟨rfl, m', hm, i + 1, ys, some y, H9, a1, a2, a3, w9⟩
     | true =>
       refine wpAny_bind (wpAny_bind (wpAny_mono (he _ _ _ _ _ _ s9 _ H9 _ I9 q9) (fun v s10 q10 => ?_) fun _ _ z => False.elim z))
       obtain ⟨z, H10, I10, rz, hl, hsz, m', hm, w10⟩ := q10
       refine wpAny_bind (wpAny_mono (wQw (X := Y) _ s10 _ H10 (.ref acc) [z] (.ref acc) [v] (fun _ H' => H' = upd H10 acc (.lst (ys ++ [z]))) I10 rfl (.cons rz .nil) ⟨acc, ys, z, rfl, rfl, hl, hsz, rfl⟩) (fun _ s11 q11 => ?_) fun _ _ z => False.elim z)
       obtain ⟨_, H11, I11, _, rfl⟩ := q11
       obtain ⟨a1, a2, a3⟩ := back I11
       exact wpAny_pure (wpAny_pure ⟨rfl, m', hm, i + 1, ys ++ [z], some y, _, a1, a2, a3, w10⟩)
 have st4 : tn 0 h₁ := T.keep _ _ _ st2 fun b hb o e => up b o (g3of b o e)
 exact codeAny_compStart_list (loop _ rfl) (T.self _ 0 _ _ _ st4 (loop _ rfl))
theorem yKj (hc : X.calm = true) (hi : PI X (.Name x px) iter wi) (hkind : scope.kind = .function) (hcell : ∀ y ∈ scope.names, y.2 ≠ .cell) (hnames : ∀ y ∈ scope.names, y.2 = .local -> scope.names.lookup y.1 = some .local)
   (hx : scope.names.lookup x = some .local) (hfree : ∀ y ∈ scope.names, y.2 = .free -> X.env.kindOf y.1 = some .cell)
   (hcap : ∀ p ∈ caps.zip ci, scope.names.lookup p.1 = some .free /\ X.N[p.2]? = some p.1) (hlen : caps.length = ci.length) (hnd : (x :: caps).Nodup)
   (ht : ∀ C s₀ H₀ ex pn, PTs (X.blk scope (x :: caps) C s₀ H₀ ex pn) ifs tt) (he : ∀ C s₀ H₀ ex pn, PE (X.blk scope (x :: caps) C s₀ H₀ ex pn) elt te)
   (hs : ∀ v, foldedSetIterable iter X.env v = pure v := by intro _; rfl) : PE X (.ListComp elt [⟨.Name x px, iter, ifs, 0⟩] scope pos) (tComp wi ci tt te) := by
 intro pins s σ H Q I h
 rw [eval_ListComp]
 refine comp_core hc hi hkind hcell hnames hx hfree hcap hlen hnd ht he hs (use := none) I h fun acc C H5 s6 m6 J q ns f => ⟨m6, ns, fun h' sb => ?_⟩
 obtain ⟨f0, f1, _, f3, f4, f5⟩ := f
 exact ⟨.ref acc, H5, J.turned (t' := s6.toks) (fun b o hb e => (sb.2 b hb).trans e) f0 f1 f3 f4 f5, rfl, q⟩
theorem ps_comp {y : Str} {iy : Nat} {py spos : Pos} (hc : X.calm = true) (hN : X.N.Nodup) (hiy : X.N[iy]? = some y) (hly : X.env.scope.names.lookup y = some .local) (hsw : swapsWith (.ListComp elt [⟨.Name x px, iter, ifs, 0⟩] scope pos) (some (.Name y py)) spos.line X.env = pure true)
   (hi : PI X (.Name x px) iter wi) (hkind : scope.kind = .function) (hcell : ∀ y ∈ scope.names, y.2 ≠ .cell) (hnames : ∀ y ∈ scope.names, y.2 = .local -> scope.names.lookup y.1 = some .local)
   (hx : scope.names.lookup x = some .local) (hfree : ∀ y ∈ scope.names, y.2 = .free -> X.env.kindOf y.1 = some .cell)
   (hcap : ∀ p ∈ caps.zip ci, scope.names.lookup p.1 = some .free /\ X.N[p.2]? = some p.1) (hlen : caps.length = ci.length) (hnd : (x :: caps).Nodup)
   (ht : ∀ C s₀ H₀ ex pn, PTs (X.blk scope (x :: caps) C s₀ H₀ ex pn) ifs tt) (he : ∀ C s₀ H₀ ex pn, PE (X.blk scope (x :: caps) C s₀ H₀ ex pn) elt te)
   (hs : ∀ v, foldedSetIterable iter X.env v = pure v := by intro _; rfl) : PS X (.Assign [.Name y py] (.ListComp elt [⟨.Name x px, iter, ifs, 0⟩] scope pos) spos) (tAsg (tComp wi ci tt te) (gName iy)) := by
 intro pins s σ H D I h
 have h : tComp wi ci tt te σ H (fun v H1 => D.nx (σ.set iy (some v)) H1) := h
 rw [exec_Assign_Name_used _ _ _ _ hsw]
 refine wpAny_bind (wpAny_standAt (wpAny_bind ?_))
 refine wpAny_bind (wpAny_mono (comp_core hc hi hkind hcell hnames hx hfree hcap hlen hnd ht he hs (use := some (assign (.Name y py) X.env)) (Qv := fun _ s' => SP X pins D .next s') I h fun acc C H5 s6 m6 J q ns f => ?_) (fun _ s' hq => wpAny_pure (wpAny_pure hq)) fun _ _ e => e)
 refine wpAny_assign_Name (store_ok2 (i := iy) (v := .ref acc) J hN hiy (.inl hly) rfl (fun s7 I7 hsb => ?_) (.inr hly))
 obtain ⟨f0, f1, f2, f3, f4, f5⟩ := f
 obtain ⟨a, sb, ha⟩ := hsb
 have aC : C ≠ a := by
   rcases ha with z | z
   . rw [z]
     exact f1
   . exact fun w => f4 y a z w.symm
 exact ⟨m6, ns.sameBut sb aC, fun h' sb' => ⟨_, H5, I7.turned (t' := s7.toks) (fun b o hb e => (sb'.2 b hb).trans e) f0 f1 f3 f4 f5, q⟩⟩
end
def plainV : V -> Bool
 | .non => true
 | .bl _ => true
 | .int _ => true
 | .str _ => true
 | .ref _ => true
 | _ => false
theorem wWz {A : Around} {s : Shared} {v : V} {u u' : Value} (r : RelV v u) (r' : RelV v u') (h : plainV v = true) : SeqAt.EqAt A s u u' true := by
 cases v with
 | non => exact eqAt_V (y := .non) (x := .non) r r' rfl rfl
 | bl b => have := eqAt_V (A := A) (s := s) (y := .bl b) (x := .bl b) r r' rfl rfl; simpa [eqV] using this
 | int b => have := eqAt_V (A := A) (s := s) (y := .int b) (x := .int b) r r' rfl rfl; simpa [eqV] using this
 | str b => have := eqAt_V (A := A) (s := s) (y := .str b) (x := .str b) r r' rfl rfl; simpa [eqV] using this
 | ref a =>
   cases (show u = Value.ref a from r)
   cases (show u' = Value.ref a from r')
   exact SeqAt.EqAt.same _
 | byt b => cases h
 | flt b => cases h
 | ty b => cases h
theorem eqAt_all {A : Around} {s : Shared} {xs : List V} {us us' : List Value} (r : Vals xs us) (r' : Vals xs us') (h : xs.all plainV = true) :
   ∀ j (h1 : j < us.toArray.size) (h2 : j < us'.toArray.size), SeqAt.EqAt A s us.toArray[j] us'.toArray[j] ((fun _ => true) j) := fun j h1 h2 => by
 have hj : j < xs.length := by
   have := r.length
   rw [List.size_toArray] at h1
   omega
 obtain ⟨u, e1, q1⟩ := r.get (i := j) (x := xs[j]) (by simp [hj])
 obtain ⟨u', e2, q2⟩ := r'.get (i := j) (x := xs[j]) (by simp [hj])
 have z1 : us.toArray[j] = u := by
   have := (List.getElem?_eq_some_iff.mp e1).2
   simpa using this
 have z2 : us'.toArray[j] = u' := by
   have := (List.getElem?_eq_some_iff.mp e2).2
   simpa using this
 rw [z1, z2]
 exact wWz q1 q2 (List.all_eq_true.mp h _ (List.getElem_mem hj))
section
variable {X : Cx}
def rEqL (K : PySem.W.Frag) : R2 := fun x y H Q => ∃ a b xs ys, x = .ref a /\ y = .ref b /\ SqL K H a xs /\ SqL K H b ys /\ ((xs = ys /\ xs.all plainV = true /\ Q (.bl true) H) \/ (xs.length ≠ ys.length /\ Q (.bl false) H))
theorem xZj (n : Nat) : ((List.range n).all fun _ => true) = true := by simp
theorem op_eqL (hu : X.A.units < cLine) : OpR X (compareOp .Eq) (rEqL X.K) := by
 intro pins s σ H x y v u Q I rx ry h
 obtain ⟨a, b, xs, ys, rfl, rfl, ha, hb, h⟩ := h
 cases (show v = Value.ref a from rx)
 cases (show u = Value.ref b from ry)
 obtain ⟨its, r1, p1, _⟩ := I.list ha
 obtain ⟨its', r2, p2, _⟩ := I.list hb
 rcases h with ⟨rfl, hp, q⟩ | ⟨hn, q⟩
 . refine SeqAt.eq_listAt p1.isList p2.isList (by rw [List.size_toArray, List.size_toArray, <- r1.length, <- r2.length]) hu (eqAt_all r1 r2 hp) ?_
   rw [xZj]
   exact ⟨.bl true, H, I, rfl, q⟩
 . refine SeqAt.eq_list_lengthsAt p1.isList p2.isList ?_ hu ⟨.bl false, H, I, rfl, q⟩
   rw [List.size_toArray, List.size_toArray, <- r1.length, <- r2.length]
   exact bne_iff_ne.mpr hn
end
theorem entry_unchain : entryFor table "proto.unchain" = some Builtin.«proto.unchain» := entryFor_of_fast (by kernel_rfl)
section
variable {prog : Program} {w : World} {A : Around} {E : Value -> Shared -> Prop} {s : Shared}
theorem raiseNew_h {α : Type} {n e : Addr} {on oe : Obj} {ws vs : Array Value} {Q : α -> Shared -> Prop} (hh : A.handled = some (.ref e)) (ne : e ≠ n) (hn : s.heap.get? n = some on) (hdn : on.data = .fields ws) (hz : 2 < ws.size)
   (he : s.heap.get? e = some oe) (hde : oe.data = .fields vs) (h2 : vs[2]? = some .none) (h : E (.ref n) { s with heap := s.heap.update n (Obj.mapFields (·.setIfInBounds 2 (.ref e))) }) : wpAny (model prog w) A (raiseNew (.ref n) : Sem α) Q E s := by
 simp only [raiseNew]
 refine wpAny_bind (wpAny_handled ?_)
 rw [hh]
 show wpAny _ _ (if (Value.ref e != Value.ref n) = true then (holding [Value.ref n] (runValue (.builtin "proto.unchain" ⟨[.ref n, .ref e, .ref e, .bool false], []⟩)) >>= fun _ => updateField n 2 (.ref e) >>= fun _ => throw (Value.ref n)) else throw (Value.ref n)) _ _ _
 rw [if_pos (by simpa using ne)]
 refine wpAny_bind (wpAny_holding (wpAny_runValue (codeAny_builtin entry_unchain ?_)))
 unfold Builtin.«proto.unchain»
 refine wpAny_bind (wpAny_field he hde h2 ?_)
 rw [if_pos (show (Value.none == Value.none) = true from rfl)]
 refine wpAny_pure ?_
 refine wpAny_bind ?_
 exact wpAny_setField hn hdn hz (wpAny_throw h)
theorem next_end_h {it l e : Addr} {i : Nat} {items : Array Value} {oe : Obj} {vs : Array Value} {Q : Option Value -> Shared -> Prop} (hh : A.handled = some (.ref e)) (he : s.heap.get? e = some oe) (hde : oe.data = .fields vs) (h2 : vs[2]? = some .none) (nit : e ≠ it)
   (hit : s.heap.IsListIter it l i) (hl : s.heap.IsList l items) (hx : items[i]? = none) (hQ : ∀ h', Heap.ExtBut it s.heap h' -> Q none { s with heap := h' }) : wpAny (model prog w) A (pyNext (.ref it)) Q E s := by
 obtain ⟨o, ho, hc, hd⟩ := id hit
 obtain ⟨ol, hol, _, nl, hdl⟩ := hl
 unfold pyNext
 refine wpAny_bind (wpAny_attempt (wpAny_callSpecial?_slot (name := Str.ofString "__next__") hit.typeIs slot_listiter_next
   (wpAny_call_entry slot_listiter_next hit.typeIs entry_listiter_next ?_ (args_listiter_next _))))
 show wpAny _ _ (field (.ref it) 0 >>= _) _ _ s
 refine wpAny_bind (wpAny_field ho hd (x := .ref l) rfl ?_)
 show wpAny _ _ (if (Value.ref l == Value.none) = true then _ else _) _ _ s
 rw [if_neg (show ¬ ((Value.ref l == Value.none) = true) from Bool.false_ne_true)]
 show wpAny _ _ (field (.ref it) 1 >>= _) _ _ s
 refine wpAny_bind (wpAny_field ho hd (x := .int i 0) rfl ?_)
 show wpAny _ _ (seqItems? (.ref l) >>= _) _ _ s
 refine wpAny_bind (wpAny_seqItems hol hdl ?_)
 simp only [Int.toNat_natCast, hx]
 refine wpAny_bind (wpAny_rule (wpAny_bind (wpAny_setField ho hd (by simp) ?_)))
 show wpAny _ _ (newExc (.type "StopIteration") [] >>= _) _ _ _
 refine wpAny_bind ?_
 simp only [newExc, newTuple]
 refine wpAny_bind (wpAny_newObj_type ?_ (by size_fits))
 refine wpAny_bind (m := firstArgMember _ _) (wpAny_of_eq (a := Value.none) (by first | rfl | (simp only [firstArgMember]; rfl)) ?_)
 refine wpAny_newObj_type ?_ (by size_fits)
 dsimp only
 generalize hg1 : s.heap.update it _ = g1
 generalize hg2 : g1.push _ = g2
 have up2 : ∀ b u, b ≠ it -> s.heap.get? b = some u -> g2.get? b = some u := fun b u nb q => by
   rw [<- hg2]
   refine Heap.get?_push_of_some _ ?_
   rw [<- hg1, Heap.get?_update_other _ _ (Ne.symm nb)]
   exact q
 have ne : e ≠ g2.objs.size := Nat.ne_of_lt (Heap.lt_size (up2 e oe nit he))
 refine raiseNew_h (A := A.in1) hh ne (Heap.get?_push_size g2 rfl) rfl (by simp; omega) (Heap.get?_push_of_some _ (up2 e oe nit he)) hde h2 ?_
 refine wpAny_bind (wpAny_isInstance (T := "StopIteration") (b := true) ⟨_, Heap.get?_update_self _ (Heap.get?_push_size g2 rfl) rfl, rfl⟩ isSubtype_stop ?_)
 refine wpAny_pure (hQ _ fun b u nb q => ?_)
 have nb2 : g2.objs.size ≠ b := Nat.ne_of_gt (Heap.lt_size (up2 b u nb q))
 rw [Heap.get?_update_other _ _ nb2]
 exact Heap.get?_push_of_some _ (up2 b u nb q)
theorem walks_h {e : Addr} {cls : Value} (hh : A.handled = some (.ref e)) (I ax : Addr) (hne : ax ≠ I) (nI : e ≠ I) (items : Array Value) :
   Walks prog w A I [I, ax, e] [I] items.size (fun i v => items[i]? = some v) (fun i h => h.IsListIter I ax i /\ h.IsList ax items /\ Exc h e cls) where
 sub := fun b hb => by simp at hb; simp [hb]
 frame := fun _ h h' st hk => ⟨st.1.at fun o e => hk I (by simp) o e, st.2.1.at fun o e => hk ax (by simp) o e, by
   obtain ⟨oe, vs, a, r⟩ := st.2.2
   exact ⟨oe, vs, hk e (by simp) _ a, r⟩⟩
 item := fun i s Q E hi st hQ => by
   refine wpAny_pyNext_list_item st.1 st.2.1 (x := items[i]) (by simp [hi]) fun h' hit' hs' => ?_
   refine hQ _ h' s.toks (by simp [hi]) ⟨hit', st.2.1.extBut hs'.extBut hne, ?_⟩ fun b o hb e => hs'.extBut b o (fun h => hb (by simp [h])) e
   obtain ⟨oe, vs, a, r⟩ := st.2.2
   exact ⟨oe, vs, hs'.extBut e _ nI a, r⟩
 done := fun s Q E st hQ => by
   obtain ⟨oe, vs, a, _, b, c⟩ := st.2.2
   exact next_end_h hh a b c nI st.1 st.2.1 (by simp) fun h' he' => hQ h' s.toks fun b o hb e => he' b o (fun h => hb (by simp [h])) e
 self := fun _ _ _ _ st hQ => wpAny_pyIter_listiter st.1 hQ
end
structure XAsk (K : PySem.W.Frag) (D : Addr) : Prop where
 ga : PySem.W.findIn K (.ref D) "__getattribute__" = some (some (.builtin "BaseException.__getattribute__"))
 gt : PySem.W.findIn K (.ref D) "__getattr__" = some none
 cl : PySem.W.hasDictIn K D = true
 at_ : PySem.W.findIn K (.ref D) "__class__" = some (some (.builtin "object.__class__"))
 get : PySem.W.specialIn K (.builtin "object.__class__") "__get__" = some (some (.builtin "getset_descriptor.__get__"))
 tk : PySem.W.takesIn K (.builtin "object.__class__") = some true
 ob : PySem.W.mroIn K D (.type "object") = some true
 be : PySem.W.mroIn K D (.type "BaseException") = some true
section
variable {prog : Program} {w : World} {K : PySem.W.Frag} {A : Around} {E : Value -> Shared -> Prop} {s : Shared} {x D : Addr} {ox : Obj}
open PySem.W
theorem find_none {a g : Value} {name : Str} (hc : (clsIn K D).isSome = true) (ha : findIn K (.ref D) name = some (some a)) (hg : specialIn K a "__get__" = some (some g)) (ht : takesIn K a = some true) : findObj K D none name = some (.bind g a) := by
 obtain ⟨cd, hc⟩ := Option.isSome_iff_exists.mp hc
 unfold findObj
 rw [hc, Option.bind_some, ha, Option.bind_some]
 simp [hg, ht]
theorem exc_ga_entry {tk : Tok} {Q : Fin -> Shared -> Prop} (c : XAsk K D) (X : K.In s.heap) (I : PySem.W.InstAt s.heap x ox D none) (h : Q (.done (.ret (.ref D))) s) :
   wpAny (model prog w) A (Builtin.«object.__getattribute__» ⟨[.ref x, .str "__class__" tk], []⟩) Q E s := by
 have hf : findObj K D none "__class__" = some (.bind (.builtin "getset_descriptor.__get__") (.builtin "object.__class__")) := find_none (by obtain ⟨cd, hc, _⟩ := any_some c.cl; rw [hc]; rfl) c.at_ c.get c.tk
 obtain ⟨hh, g, d, t, os⟩ := s
 have L0 := I.type (M := model prog w)
 have L1 := looks_find (M := model prog w) X I hf
 unfold Builtin.«object.__getattribute__»
 refine wpAny_bind (wpAny_pure (wpAny_bind (wpAny_pure (wpAny_bind (L0.at (wpAny_bind (L1.at ?_)))))))
 show wpAny _ _ (holding [Value.builtin "object.__class__"] (call (.builtin "getset_descriptor.__get__") [.builtin "object.__class__", .ref x, .ref D]) >>= ret) _ _ _
 exact wpAny_bind (wpAny_holding (wpAny_call (class_get (s := ⟨hh, g, d, t, os⟩) X I c.ob (wpAny_pure h))))
theorem exc_check {M : Model} {nameV : Value} {Q : Unit -> Shared -> Prop} (c : XAsk K D) (X : K.In s.heap) (I : PySem.W.InstAt s.heap x ox D none) (h : Q () s) : wpAny M A (checkBuiltinCall "BaseException.__getattribute__" ⟨[.ref x, nameV], []⟩) Q E s := by
 have hk : builtinKind "BaseException.__getattribute__" = some .slot := by decide +kernel
 have hs : splitId "BaseException.__getattribute__" = some ("BaseException", "__getattribute__") := by decide +kernel
 obtain ⟨hh, g, d, t, os⟩ := s
 have L0 := I.type (M := M)
 have L1 := looks_mroIn (M := M) X c.be
 have ha := F.args_bexc_ga (.ref x) nameV
 simp only [checkBuiltinCall, hk, hs]
 refine wpAny_bind ?_
 unfold isInstance
 refine wpAny_bind (L0.at (L1.at ?_))
 repeat (first | exact h | wp_step)
theorem exc_class {Q : Option Value -> Shared -> Prop} (c : XAsk K D) (X : K.In s.heap) (I : PySem.W.InstAt s.heap x ox D none) (h : Q (some (.ref D)) { s with toks := s.toks + 1 }) : wpAny (model prog w) A (getAttr? (.ref x) "__class__") Q E s := by
 obtain ⟨hh, g, d, t, os⟩ := s
 have L0 := I.type (M := model prog w)
 have L1 := looks_findIn (M := model prog w) X c.ga
 have L2 := looks_findIn (M := model prog w) X c.gt
 have hx2 : (Value.builtin "BaseException.__getattribute__" == Value.builtin "object.__getattribute__") = false := by decide +kernel
 unfold getAttr? getAttrBy? getAttrBy
 refine wpAny_bind (wpAny_mkText (wpAny_bind (wpAny_attempt (wpAny_holding (wpAny_bind (L0.at (wpAny_bind (L1.at ?_))))))))
 show wpAny _ _ (if (onTheHeap (Value.ref D) && Value.builtin "BaseException.__getattribute__" == Value.builtin "object.__getattribute__") = true then _ else _) _ _ _
 rw [if_neg (by rw [hx2]; simp)]
 unfold getAttrByItsOwn hookBefore
 rw [if_pos (show onTheHeap (Value.ref D) = true from rfl)]
 refine wpAny_bind (L2.at (wpAny_bind (wpAny_attempt (wpAny_holding ?_))))
 show wpAny _ _ (boundAndCalled _ _ _) _ _ _
 unfold boundAndCalled
 rw [F.excAttr_ValueError.ga.bind (.ref x)]
 refine wpAny_bind (wpAny_pure (wpAny_call (codeAny_call_builtin F.excAttr_ValueError.ga.plain F.entry_bexc_ga (exc_check (s := ⟨hh, g, d, t + 1, os⟩) c X I (exc_ga_entry (s := ⟨hh, g, d, t + 1, os⟩) c X I ?_)))))
 exact handed_on rfl (wpAny_pure h)
theorem kitx_exc (c : XAsk K D) : KitX K (.ref x) (.ref D) (fun h => Exc h x (.ref D)) := by
 have inst : ∀ {h : Heap}, Exc h x (.ref D) -> ∃ ox, PySem.W.InstAt h x ox D none := fun {h} e => by
   obtain ⟨⟨cl, dc, dt, sl⟩, vs, a, ⟨b, b'⟩, d, _⟩ := e
   dsimp only at b b' d
   subst b b' d
   exact ⟨_, a, rfl, rfl, True.intro⟩
 refine ⟨fun M h _ e => e.ty, fun M h X _ => ?_, fun h tp dd its n sl X htp => ?_, fun X e k => ?_⟩
 . obtain ⟨cdD, hcD, _⟩ := any_some c.cl
   unfold clsIn at hcD
   split at hcD
   . rename_i c' d' cd' sl' ho
     intro A' Q' E' s' k q
     unfold isType loadHead
     exact wpAny_bind (wpAny_loadPart (k _ _ (X _ _ ho)) (wpAny_pure q))
   . cases hcD
 . obtain ⟨cdD, hcD, _⟩ := any_some c.cl
   refine Bool.eq_false_iff.mpr fun q => ?_
   have e : D = tp := Value.ref.inj (beq_iff_eq.mp q)
   subst e
   unfold clsIn at hcD
   split at hcD
   . rename_i c' d' cd' sl' ho
     have z := (X _ _ ho).symm.trans htp
     cases z
   . cases hcD
 . obtain ⟨ox, I⟩ := inst e
   exact exc_class c X I k
end
theorem yQk {X : Cx} : CallR X (.builtin "isinstance") (fun xs H Q => ∃ x D u c b, xs = [V.ref x, c] /\ RelV c u /\ (∀ u', RelV c u' -> u' = u) /\ H x = some (excO x (.ref D)) /\ XAsk X.K D /\ PySem.W.kitOne X.K (.ref D) u = some b /\ Q (.bl b) H) := by
 intro pins s σ H xs us Q I r h
 obtain ⟨x, D, u, c, b, rfl, rc, uq, hx, ask, e, q⟩ := h
 obtain ⟨u1, u2, rfl, r1, r2⟩ := vals2 r
 cases (show u1 = Value.ref x from r1)
 cases uq u2 r2
 have z : ObjOk X.prog X.w H s.heap x (excO x (.ref D)) := I.hok x _ hx
 exact PySem.W.kia_one (kitx_exc ask) I.kIn z.1 e (fun z => nomatch z) fun tk => ⟨.bl b, H, I.tok _, rfl, q⟩
end L2
namespace L2
open PySem PySem.Spec PyProof.Rows
structure TurnH (P : Program) (w : World) (K : PySem.W.Frag) (tg : Expr) (J : It) (fp : List Addr) (it : Addr) (tn : Nat -> Heap -> Prop) : Prop where
 mem : it ∈ fp
 obj : ∀ i h, tn i h -> ∀ b ∈ fp, ∃ o, h.get? b = some o /\ ∀ v, o.data ≠ .cell v
 keep : ∀ i h h', tn i h -> (∀ b ∈ fp, ∀ o, h.get? b = some o -> h'.get? b = some o) -> tn i h'
 item : ∀ (X : Cx), X.prog = P -> X.w = w -> X.K = K -> ∀ (i : Nat) (pins : List (Addr × Obj)) (s : Shared) (σ : St) (H : Hp) (E : Value -> Shared -> Prop), Inv X pins σ H s -> (∀ b ∈ fp, FpOk X pins H b) -> tn i s.heap -> J.go i H ->
   wpAny (model P w) X.A (pyNext (.ref it)) (fun r s1 => ∃ u, r = some u /\
     wpAny (model P w) X.A (letOwnedTupleGo tg (.ref it) u) (fun _ s2 => ∃ x H', Inv X pins σ H' s2 /\ RelV x u /\ J.yld i H x H' /\ tn (i + 1) s2.heap /\ ∀ b ∈ fp, H' b = none) E s1) E s
 done : ∀ (X : Cx), X.prog = P -> X.w = w -> X.K = K -> ∀ (i : Nat) (pins : List (Addr × Obj)) (s : Shared) (σ : St) (H : Hp) (E : Value -> Shared -> Prop) (eh : Addr) (cls : Value), X.A.handled = some (.ref eh) -> H eh = some (excO eh cls) ->
   Inv X pins σ H s -> (∀ b ∈ fp, FpOk X pins H b) -> tn i s.heap -> J.stop i H -> wpAny (model P w) X.A (pyNext (.ref it)) (fun r s1 => r = none /\ Inv X pins σ H s1) E s
 self : ∀ (A : Around) (i : Nat) (s : Shared) (Q : Value -> Shared -> Prop) (E : Value -> Shared -> Prop), tn i s.heap -> Q (.ref it) s -> wpAny (model P w) A (pyIter (.ref it)) Q E s
def PIEH (X : Cx) (pins : List (Addr × Obj)) (σ : St) (tg : Expr) (R : It -> Hp -> Prop) (itv : Value) (s2 : Shared) : Prop :=
 ∃ (it : Addr) (fp : List Addr) (tn : Nat -> Heap -> Prop) (J : It) (H' : Hp), itv = .ref it /\ Inv X pins σ H' s2 /\ TurnH X.prog X.w X.K tg J fp it tn /\ tn 0 s2.heap /\ (∀ b ∈ fp, FpOk X pins H' b) /\ R J H'
def PIH (X : Cx) (tg iter : Expr) (wi : TI) : Prop :=
 ∀ (pins : List (Addr × Obj)) (s : Shared) (σ : St) (H : Hp) (R : It -> Hp -> Prop), Inv X pins σ H s -> wi σ H R ->
   wpAny (model X.prog X.w) X.A (eval iter X.env) (fun v s1 => wpAny (model X.prog X.w) X.A (pyIter v) (PIEH X pins σ tg R) X.xe s1) X.xe s
theorem turn_listH {P : Program} {w : World} {K : PySem.W.Frag} {tg : Expr} (a it : Addr) : TurnH P w K tg (Itl K a) [it] it (fun i h => h.IsListIter it a i) where
 mem := by simp
 obj := (xWw (P := P) (w := w) (K := K) (tg := tg) a it).obj
 keep := (xWw (P := P) (w := w) (K := K) (tg := tg) a it).keep
 item := by
   intro X hP hw hK i pins s σ H E I hf st hg
   subst hP hw hK
   obtain ⟨xs, x, hq, hx⟩ := hg
   obtain ⟨its, rv, p, hz⟩ := I.list hq
   obtain ⟨u, hu, ru⟩ := rv.get hx
   obtain ⟨f0, f1, f2, f3, f4, f5⟩ := hf it (by simp)
   refine wpAny_pyNext_list_item st p.isList (x := u) (by simpa using hu) fun h' st' sb => ?_
   have I1 : Inv X pins σ H { s with heap := h' } := I.turned (t' := s.toks) (fun b o hb e => (sb.2 b hb).trans e) f0 f1 f3 f4 f5
   obtain ⟨o, e, c, d⟩ := id st'
   exact ⟨u, rfl, go_of (s := { s with heap := h' }) e c d (by decide) ⟨x, H, I1, ru, ⟨rfl, fun ys hy => by rw [I.list_inj hy hq]; exact hx⟩, st', fun b hb => (hf b hb).1⟩⟩
 done := by
   intro X hP hw hK i pins s σ H E eh cls hh he I hf st hg
   subst hP hw hK
   obtain ⟨xs, hq, hx⟩ := hg
   obtain ⟨its, rv, p, hz⟩ := I.list hq
   obtain ⟨f0, f1, f2, f3, f4, f5⟩ := hf it (by simp)
   have hl := rv.length
   have z : ObjOk X.prog X.w H s.heap eh (excO eh cls) := I.hok eh _ he
   obtain ⟨oe, vs, e1, _, e3, e4⟩ := z.1
   have ne : eh ≠ it := fun q => by rw [q, f0] at he; cases he
   exact next_end_h hh e1 e3 e4 ne st p.isList (by simp; omega) fun h' eb => ⟨rfl, I.turned (t' := s.toks) (fun b o hb e => eb b o hb e) f0 f1 f3 f4 f5⟩
 self := (xWw (P := P) (w := w) (K := K) (tg := tg) a it).self
theorem pi_listH {X : Cx} {tg e : Expr} {te : TE} (he : PE X e te) : PIH X tg e (iList X.K te) := by
 intro pins s σ H R I h
 refine thn (he pins s σ H _ I h) fun v s1 ⟨x, H1, I1, r1, a, hx, ⟨xs, hq⟩, q⟩ => ?_
 subst hx
 cases (show v = Value.ref a from r1)
 obtain ⟨its, rv, p, hz⟩ := I1.list hq
 refine wpAny_pyIter_list p.isList ?_
 have fr : H1 s1.heap.objs.size = none := I1.fresh
 refine ⟨_, [s1.heap.objs.size], _, Itl X.K a, H1, rfl, I1.kept (t' := s1.toks) (fun b u e => Heap.get?_push_of_some _ e), turn_listH a _, ⟨_, Heap.get?_push_size _ rfl, rfl, rfl⟩, fun b hb => ?_, q⟩
 have e : b = s1.heap.objs.size := by simpa using hb
 subst e
 exact I1.fpOk (Nat.le_refl _) fr
@[irreducible] def tCompH (eh : Addr) (cls : Value) (wi : TI) (ci : List Nat) (tt : TT) (te : TE) : TE := fun σ H Q => wi σ H fun J H1 => ∀ acc, H1 acc = none -> ∃ W : Nat -> Nat -> List V -> Hp -> Prop, (∃ m, W 0 m [] (upd H1 acc (.lst []))) /\
 ∀ i m ys H2, W i m ys H2 -> (J.stop i H2 /\ H2 eh = some (excO eh cls) /\ Q (.ref acc) H2) \/ (J.go i H2 /\ ∀ x H3, J.yld i H2 x H3 -> tt (some x :: capt ci σ) H3 fun b H4 =>
   if b = true then te (some x :: capt ci σ) H4 fun y H5 => H5 acc = some (.lst ys) /\ ys.length < sizeLine /\ ∃ m', m' < m /\ W (i + 1) m' (ys ++ [y]) (upd H5 acc (.lst (ys ++ [y])))
   else ∃ m', m' < m /\ W (i + 1) m' ys H4)
section
variable {X : Cx} {elt iter : Expr} {x : Str} {px pos : Pos} {ifs : List Expr} {scope : Scope} {ci : List Nat} {caps : List Str} {wi : TI} {tt : TT} {te : TE}
theorem comp_coreH {eh : Addr} {cls : Value} (hh : X.A.handled = some (.ref eh)) (hi : PIH X (.Name x px) iter wi) (hkind : scope.kind = .function) (hcell : ∀ y ∈ scope.names, y.2 ≠ .cell) (hnames : ∀ y ∈ scope.names, y.2 = .local -> scope.names.lookup y.1 = some .local)
   (hx : scope.names.lookup x = some .local) (hfree : ∀ y ∈ scope.names, y.2 = .free -> X.env.kindOf y.1 = some .cell)
   (hcap : ∀ p ∈ caps.zip ci, scope.names.lookup p.1 = some .free /\ X.N[p.2]? = some p.1) (hlen : caps.length = ci.length) (hnd : (x :: caps).Nodup)
   (ht : ∀ C s₀ H₀ ex pn, PTs (X.blk scope (x :: caps) C s₀ H₀ ex pn) ifs tt) (he : ∀ C s₀ H₀ ex pn, PE (X.blk scope (x :: caps) C s₀ H₀ ex pn) elt te)
   (hs : ∀ v, foldedSetIterable iter X.env v = pure v) {use : Option (Value -> Sem Unit)} {Qv : Value -> Shared -> Prop} {ppos : Pos}
   {pins : List (Addr × Obj)} {s : Shared} {σ : St} {H : Hp} {Q : VK} (I : Inv X pins σ H s) (h : tCompH eh cls wi ci tt te σ H Q)
   (fin : ∀ acc C H5 s6 m6, Inv X pins σ H5 s6 -> Q (.ref acc) H5 -> s6.heap.Ns C m6 -> FpOk X pins H5 C -> compPost (model X.prog X.w) X.A X.xe use Qv (.ref acc) C (.ok .next) s6) :
   wpAny (model X.prog X.w) X.A (comprehension (.ListComp elt [⟨.Name x px, iter, ifs, 0⟩] scope pos) scope X.env ppos (newList []) false (eval iter X.env) use) Qv X.xe s := by
 unfold tCompH at h
 have hfree' : ∀ n, (n, NameKind.free) ∈ scope.names -> X.env.kindOf n = some .cell := fun n m => hfree (n, .free) m rfl
 have hclos : closureFor scope X.env = pure (clAcc X.env scope.names []) := yJk fun n m => I.ok.has n (.inl (hfree' n m))
 have c1 : ∀ n c, (clAcc X.env scope.names []).lookup n = some c -> (n, NameKind.free) ∈ scope.names /\ X.env.cells.lookup n = some c := fun n c e => by
   rcases xZx (PySem.mem_of_lookup e) with z | ⟨z, e'⟩
   . exact absurd z (by simp)
   . obtain ⟨d, hd⟩ := I.ok.has n (.inl (hfree' n z))
     rw [hd] at e'
     exact ⟨z, by rw [hd, e']; rfl⟩
 have c2 : ∀ n, (n, NameKind.free) ∈ scope.names -> ∃ c, (clAcc X.env scope.names []).lookup n = some c := fun n m => by
   obtain ⟨c, hc⟩ := xZz (env := X.env) (cs := []) m
   exact xQw hc
 refine wpAny_comprehension_free (use := use) rfl hs hclos hkind hnames (thn (hi pins s σ H _ I h) fun v s1 h1 => thn h1 fun itv s2 h2 => ?_)
 obtain ⟨it, fp, tn, J, H2, e, I2, T, st2, f2, rd⟩ := h2
 subst e
 have fz : H2 s2.heap.objs.size = none := I2.fresh
 obtain ⟨W, ⟨m0, w0⟩, turn⟩ := rd s2.heap.objs.size fz
 refine wpAny_newObj_type (wpAny_newFunctionEnv hcell (by intro y hy; simp at hy) (fun h₁ hns₁ hsb₁ => ?_) hkind)
 dsimp only at hns₁ hsb₁ ⊢
 have I3 : Inv X pins σ (upd H2 s2.heap.objs.size (.lst [])) { s2 with heap := s2.heap.push { cls := .type "list", dict := none, data := .seq ([] : List Value).toArray } } := I2.lnew (ys := []) (its := []) (t' := s2.toks) .nil (Nat.zero_le _)
 generalize hg3 : s2.heap.push { cls := .type "list", dict := none, data := .seq ([] : List Value).toArray } = g3 at hns₁ hsb₁ I3 ⊢
 generalize hacc : s2.heap.objs.size = acc at *
 have hC : g3.objs.size = acc + 1 := by rw [<- hg3, Heap.size_push, hacc]
 generalize hH3 : upd H2 acc (HO.lst []) = H3 at *
 generalize hs3 : ({ s2 with heap := g3 } : Shared) = s3 at *
 have h3 : s3.heap = g3 := by rw [<- hs3]
 have o3 : s3.os = s2.os := by rw [<- hs3]
 have b3 : s3.gens = s2.gens := by rw [<- hs3]
 have up : ∀ b o, g3.get? b = some o -> h₁.get? b = some o := fun b o e => hsb₁.extBut b o (Nat.ne_of_lt (Heap.lt_size e)) (Heap.get?_push_of_some _ e)
 have fpo : ∀ b ∈ fp, ∃ o, s2.heap.get? b = some o := fun b hb => by
   obtain ⟨o, e, _⟩ := T.obj _ _ st2 b hb
   exact ⟨o, e⟩
 have fplt : ∀ b ∈ fp, b < acc := fun b hb => by
   obtain ⟨o, e⟩ := fpo b hb
   rw [<- hacc]
   exact Heap.lt_size e
 have g3of : ∀ b o, s2.heap.get? b = some o -> g3.get? b = some o := fun b o e => by
   rw [<- hg3]
   exact Heap.get?_push_of_some _ e
 let Y : Cx := X.blk scope (x :: caps) g3.objs.size s3 H3 fp (X.pn ++ pins)
 have okY : Y.Ok := by
   refine ⟨I.ok.mod, hkind, I.ok.glob, I.ok.blt, by show s3.heap.objs.size <= g3.objs.size; rw [h3]; exact Nat.le_refl _, fun y z c e1 e2 => I.ok.inj y z c (c1 y c e1).2 (c1 z c e2).2, fun y hy => ?_, fun y c z => (nomatch z), I.ok.hd, I.ok.frames, .inl rfl, fun b hb => ⟨?_, fun y c e z => ?_⟩, I3.bs, Nat.le_trans I.ok.bsz I3.sz, fun b o e hb => ?_, fun b hb z => ?_, I3.stack, I3.stkFree⟩
   . have hy' : (relabel scope X.env).names.lookup y = some .cell \/ (relabel scope X.env).names.lookup y = some .free := hy
     have e := zKx (env := X.env) (n := y) scope.names
     have e' : (relabel scope X.env).names.lookup y = (scope.names.lookup y).map fun k => if (k == NameKind.free && X.env.scope.kind == .function && X.env.kindOf y == some .cell) then NameKind.cell else k := e
     cases q : scope.names.lookup y with
     | none =>
       rw [q] at e'
       rw [e'] at hy'
       rcases hy' with z | z <;> cases z
     | some k =>
       have mk := PySem.mem_of_lookup q
       by_cases hk : k = .free
       . subst hk
         exact c2 y mk
       . rw [q] at e'
         have nk : (k == NameKind.free) = false := beq_eq_false_iff_ne.mpr hk
         simp only [Option.map_some, nk, Bool.false_and, Bool.false_eq_true, if_false] at e'
         rw [e'] at hy'
         rcases hy' with z | z
         . exact absurd (Option.some.inj z) (hcell _ mk)
         . exact absurd (Option.some.inj z) hk
   . show b ≠ g3.objs.size
     rw [hC]
     exact Nat.ne_of_lt (Nat.lt_succ_of_lt (fplt b hb))
   . exact (f2 b hb).2.2.2.2.1 y c (c1 y c e).2 z
   . rcases (f2 b hb).2.2.2.1 with z | z
     . exact I.ok.noex b o e z
     . exact absurd (Nat.lt_of_lt_of_le (Heap.lt_size e) (Nat.le_trans I.ok.bsz z)) (Nat.lt_irrefl _)
   . rcases List.mem_cons.mp (I.stkSub b z) with q | q
     . exact (f2 b hb).2.1 q
     . exact (f2 b hb).2.2.1 q
 have capL : (capt ci σ).length = caps.length := by unfold capt; rw [List.length_map, hlen]
 have hf3 : ∀ b ∈ fp, H3 b = none := fun b hb => by
   rw [<- hH3, zQv (Nat.ne_of_lt (fplt b hb))]
   exact (f2 b hb).1
 have IY : Inv Y [] (none :: capt ci σ) H3 { s2 with heap := h₁, toks := s2.toks + ([] : List (Str × Value)).length } := by
   refine ⟨okY, o3.symm, by have := I3.bare; rw [b3] at this; exact this, Un.kept (fun b u e => up b u (by rw [<- h3]; exact e)), ⟨_, hns₁, fun i y v e1 e2 e3 => ?_⟩, fun y c e => ?_, I3.hok.fresh (by rw [h3]; exact Nat.le_refl _), fun y c e => I3.freeC y c (c1 y c e).2, fun p hp => ?_, fun b u e => ((I3.hok b u e).stay (fun c v _ q => up c v (by rw [<- h3]; exact q)) (fun _ q => q) fun _ _ q => q), by show (capt ci σ).length + 1 = caps.length + 1; rw [capL]⟩
   . cases i with
     | zero => simp at e2
     | succ j =>
       have e1' : caps[j]? = some y := e1
       have e2' : (capt ci σ)[j]? = some (some v) := e2
       unfold capt at e2'
       rw [List.getElem?_map] at e2'
       cases q : ci[j]? with
       | none => rw [q] at e2'; cases e2'
       | some i =>
         rw [q] at e2'
         have ev : σ[i]? = some (some v) := by
           have z : (σ[i]?).join = some v := Option.some.inj e2'
           cases w : σ[i]? with
           | none => rw [w] at z; cases z
           | some o => rw [w] at z; exact congrArg some z
         have hz : (y, i) ∈ caps.zip ci := by
           refine List.mem_iff_getElem?.mpr ⟨j, ?_⟩
           rw [List.getElem?_zip_eq_some]
           exact ⟨e1', q⟩
         obtain ⟨k1, k2⟩ := hcap _ hz
         have kX := hfree' y (PySem.mem_of_lookup k1)
         obtain ⟨mX, _, hl⟩ := I3.loc
         obtain ⟨u, ru, lk⟩ := hl i y v k2 ev (.inr (.inl kX))
         refine ⟨u, ru, .inr ⟨.inl ?_, ?_⟩⟩
         . have e := zKx (env := X.env) (n := y) scope.names
           show (relabel scope X.env).names.lookup y = some .cell
           refine Eq.trans e ?_
           rw [k1, Option.map_some, kX, I.ok.kind]
           rfl
         . rcases lk with ⟨a, _⟩ | ⟨_, c, ec, z⟩
           . rw [kX] at a; cases a
           . obtain ⟨d, hd⟩ := c2 y (PySem.mem_of_lookup k1)
             have := (c1 y d hd).2
             rw [ec] at this
             cases this
             obtain ⟨oc, hoc, hdc⟩ := z
             exact ⟨c, hd, oc, up _ _ (by rw [<- h3]; exact hoc), hdc⟩
   . obtain ⟨v, oc, hoc, hdc⟩ := I3.cell y c (c1 y c e).2
     exact ⟨v, oc, up _ _ (by rw [<- h3]; exact hoc), hdc⟩
   . have hp' : p ∈ X.pn ++ pins := (List.mem_append.mp hp).elim (fun z => z) fun z => nomatch z
     obtain ⟨a, b, c, d, e⟩ := I3.pin p hp'
     refine ⟨up _ _ (by rw [<- h3]; exact a), b, ?_, fun z => ?_, e⟩
     . show p.1 ≠ g3.objs.size
       have := Heap.lt_size a
       rw [h3] at this
       exact Nat.ne_of_lt this
     . rcases List.mem_cons.mp (I3.stkSub _ z) with q | q
       . exact c q
       . exact d q
 have stat : ∀ {H' : Hp}, (∀ b ∈ fp, H' b = none) -> ∀ b ∈ fp, FpOk Y [] H' b := fun {H'} hn b hb => by
   refine ⟨hn b hb, ?_, fun z => ?_, .inl hb, fun y c e z => (f2 b hb).2.2.2.2.1 y c (c1 y c e).2 z, fun p hp z => ?_⟩
   . show b ≠ g3.objs.size
     rw [hC]
     exact Nat.ne_of_lt (Nat.lt_succ_of_lt (fplt b hb))
   . rcases List.mem_cons.mp (I.stkSub b z) with q | q
     . exact (f2 b hb).2.1 q
     . exact (f2 b hb).2.2.1 q
   . have hp' : p ∈ X.pn ++ pins := (List.mem_append.mp hp).elim (fun z => z) fun z => nomatch z
     exact (f2 b hb).2.2.2.2.2 p hp' z
 have loop : ∀ s4 : Shared, s4 = { s2 with heap := h₁, toks := s2.toks + ([] : List (Str × Value)).length } ->
     codeAny (model X.prog X.w) X.A (.compLoop (.ListComp elt [⟨.Name x px, iter, ifs, 0⟩] scope pos) 0 (.ref it) (.ref acc) (compEnvC scope (clAcc X.env scope.names []) g3.objs.size X.env))
       (compPost (model X.prog X.w) X.A X.xe use Qv (.ref acc) g3.objs.size) s4 := by
   rintro s4 rfl
   refine codeAny_loop rfl (fun n s' => ∃ i ys v0 H', Inv Y [] (v0 :: capt ci σ) H' s' /\ tn i s'.heap /\ (∀ b ∈ fp, H' b = none) /\ W i n ys H') (fun n s5 hI => ?_) m0 ⟨0, [], none, H3, IY, T.keep _ _ _ st2 fun b hb o e => up b o (g3of b o e), hf3, w0⟩
   obtain ⟨i, ys, v0, H5, I5, st5, fr5, w5⟩ := hI
   refine wpAny_noted ?_
   rw [compTurn_list]
   refine wpAny_bind (wpAny_standAt (wpAny_bind ?_))
   rcases turn i n ys H5 w5 with ⟨stop, hq, qn⟩ | ⟨go, step⟩
   . refine thn (T.done Y rfl rfl rfl i [] s5 _ H5 _ eh cls hh hq I5 (stat fr5) st5 stop) fun r s6 ⟨hr, I6⟩ => ?_
     subst hr
     refine wpAny_pure ?_
     obtain ⟨m6, ns6, _⟩ := id I6.loc
     have J6 : Inv X pins σ H5 s6 := I3.call' (ch := fp) (I6.os.trans (by rfl)) I6.base I6.hok I6.bare fun b hb => by
       obtain ⟨_, a1, _, a3, a4, a5⟩ := f2 b hb
       exact ⟨a3, a1, a4, a5⟩
     refine fin acc g3.objs.size H5 s6 m6 J6 qn ns6 ⟨I6.free, ?_, fun z => ?_, .inr ?_, fun y c e z => ?_, fun p hp z => ?_⟩
     . intro z
       have := I3.lt
       rw [h3, <- z] at this
       exact absurd this (Nat.lt_irrefl _)
     . have := I3.nofs (a := g3.objs.size) (by rw [h3]; exact Nat.le_refl _)
       exact this z
     . have := I3.sz
       rw [h3] at this
       exact this
     . obtain ⟨v, q⟩ := I3.cell y c e
       have := q.lt
       rw [h3, z] at this
       exact absurd this (Nat.lt_irrefl _)
     . have := Heap.lt_size (I3.pin p hp).1
       rw [h3, z] at this
       exact absurd this (Nat.lt_irrefl _)
   . refine thn (T.item Y rfl rfl rfl i [] s5 _ H5 _ I5 (stat fr5) st5 go) fun r s6 ⟨u, hr, h6⟩ => ?_
     subst hr
     refine wpAny_bind (thn h6 fun _ s7 ⟨y, H7, I7, r7, y7, st7, fr7⟩ => ?_)
     have I7' := I7.pinned (stat fr7) (T.obj _ _ st7)
     refine wpAny_bind (wpAny_assign_Name (xWx (i := 0) I7' hnd rfl (.inl (lookup_relabel_local hx)) r7 (fun s8 I8 => ?_) (.inr (lookup_relabel_local hx))))
     have back : ∀ {σ9 : St} {H9 : Hp} {s9 : Shared}, Inv Y ([] ++ pinsAt fp s7.heap) σ9 H9 s9 -> Inv Y [] σ9 H9 s9 /\ tn (i + 1) s9.heap /\ ∀ b ∈ fp, H9 b = none := fun {σ9 H9 s9} I9 => by
       refine ⟨I9.unpinned, T.keep _ _ _ st7 fun b hb o e => (I9.pin (b, o) (List.mem_append_right _ (List.mem_append_right _ (yWk hb e)))).1, fun b hb => ?_⟩
       obtain ⟨o, e, d⟩ := T.obj _ _ st7 b hb
       exact (I9.pin (b, o) (List.mem_append_right _ (List.mem_append_right _ (yWk hb e)))).2.1
     refine wpAny_bind (wpAny_mono (ht _ _ _ _ _ _ s8 _ H7 _ I8 (step y H7 y7)) (fun ok s9 q9 => ?_) fun _ _ z => False.elim z)
     obtain ⟨H9, I9, q9⟩ := q9
     cases ok with
     | false =>
       obtain ⟨m', hm, w9⟩ := q9
       obtain ⟨a1, a2, a3⟩ := back I9
       exact wpAny_pure ⟨rfl, m', hm, i + 1, ys, some y, H9, a1, a2, a3, w9⟩
     | true =>
       refine wpAny_bind (wpAny_bind (wpAny_mono (he _ _ _ _ _ _ s9 _ H9 _ I9 q9) (fun v s10 q10 => ?_) fun _ _ z => False.elim z))
       obtain ⟨z, H10, I10, rz, hl, hsz, m', hm, w10⟩ := q10
       refine wpAny_bind (wpAny_mono (wQw (X := Y) _ s10 _ H10 (.ref acc) [z] (.ref acc) [v] (fun _ H' => H' = upd H10 acc (.lst (ys ++ [z]))) I10 rfl (.cons rz .nil) ⟨acc, ys, z, rfl, rfl, hl, hsz, rfl⟩) (fun _ s11 q11 => ?_) fun _ _ z => False.elim z)
       obtain ⟨_, H11, I11, _, rfl⟩ := q11
       obtain ⟨a1, a2, a3⟩ := back I11
       exact wpAny_pure (wpAny_pure ⟨rfl, m', hm, i + 1, ys ++ [z], some y, _, a1, a2, a3, w10⟩)
 have st4 : tn 0 h₁ := T.keep _ _ _ st2 fun b hb o e => up b o (g3of b o e)
 exact codeAny_compStart_list (loop _ rfl) (T.self _ 0 _ _ _ st4 (loop _ rfl))
theorem pe_compH {eh : Addr} {cls : Value} (hh : X.A.handled = some (.ref eh)) (hi : PIH X (.Name x px) iter wi) (hkind : scope.kind = .function) (hcell : ∀ y ∈ scope.names, y.2 ≠ .cell) (hnames : ∀ y ∈ scope.names, y.2 = .local -> scope.names.lookup y.1 = some .local)
   (hx : scope.names.lookup x = some .local) (hfree : ∀ y ∈ scope.names, y.2 = .free -> X.env.kindOf y.1 = some .cell)
   (hcap : ∀ p ∈ caps.zip ci, scope.names.lookup p.1 = some .free /\ X.N[p.2]? = some p.1) (hlen : caps.length = ci.length) (hnd : (x :: caps).Nodup)
   (ht : ∀ C s₀ H₀ ex pn, PTs (X.blk scope (x :: caps) C s₀ H₀ ex pn) ifs tt) (he : ∀ C s₀ H₀ ex pn, PE (X.blk scope (x :: caps) C s₀ H₀ ex pn) elt te)
   (hs : ∀ v, foldedSetIterable iter X.env v = pure v := by intro _; rfl) : PE X (.ListComp elt [⟨.Name x px, iter, ifs, 0⟩] scope pos) (tCompH eh cls wi ci tt te) := by
 intro pins s σ H Q I h
 rw [eval_ListComp]
 refine comp_coreH hh hi hkind hcell hnames hx hfree hcap hlen hnd ht he hs (use := none) I h fun acc C H5 s6 m6 J q ns f => ⟨m6, ns, fun h' sb => ?_⟩
 obtain ⟨f0, f1, _, f3, f4, f5⟩ := f
 exact ⟨.ref acc, H5, J.turned (t' := s6.toks) (fun b o hb e => (sb.2 b hb).trans e) f0 f1 f3 f4 f5, rfl, q⟩
theorem xKj {ns : List Int} (h : ∀ n ∈ ns, n = 0 \/ n = 1) : ∀ j, j <= ns.length -> 0 <= preSum (fun i => ns.getD i 0) j /\ preSum (fun i => ns.getD i 0) j <= j
 | 0, _ => by simp [preSum]
 | j + 1, hj => by
   obtain ⟨a, b⟩ := xKj h j (by omega)
   have z : ns.getD j 0 = 0 \/ ns.getD j 0 = 1 := by
     have : j < ns.length := by omega
     rw [List.getD_eq_getElem?_getD, List.getElem?_eq_getElem this]
     exact h _ (List.getElem_mem this)
   simp only [preSum]
   rcases z with z | z <;> rw [z] <;> omega
theorem preSum_sum {ns : List Int} : ∀ j, j <= ns.length -> preSum (fun i => ns.getD i 0) j = (ns.take j).sum
 | 0, _ => by simp [preSum]
 | j + 1, hj => by
   have : j < ns.length := by omega
   simp only [preSum]
   rw [preSum_sum j (by omega), List.take_add_one, List.sum_append, List.getElem?_eq_getElem this, List.getD_eq_getElem?_getD, List.getElem?_eq_getElem this]
   simp
theorem call_sumH : CallR X (.builtin "sum") (fun xs H Q => ∃ (a : Addr) (ns : List Int) (eh : Addr) (cls : Value), xs = [V.ref a] /\ H a = some (.lst (ns.map V.int)) /\ (∀ n ∈ ns, n = 0 \/ n = 1) /\ ns.length <= 1000 /\ X.A.handled = some (.ref eh) /\ H eh = some (excO eh cls) /\ Q (.int ns.sum) H) := by
 intro pins s σ H xs us Q I r h
 obtain ⟨a, ns, eh, cls, rfl, ha, h01, hlen, hh, he, q⟩ := h
 obtain ⟨u, rfl, ru⟩ := vals1 r
 cases (show u = Value.ref a from ru)
 obtain ⟨z, its, n, rv, hl, e⟩ := I.lstM ha
 have ze : ObjOk X.prog X.w H s.heap eh (excO eh cls) := I.hok eh _ he
 have ne : eh ≠ s.heap.objs.size := Nat.ne_of_lt ze.lt
 have na : a ≠ s.heap.objs.size := Nat.ne_of_lt (Heap.lt_size e)
 have isl : s.heap.IsList a its.toArray := ⟨_, e, rfl, n, rfl⟩
 have hli : its.length = ns.length := by rw [<- hl, List.length_map]
 refine call_sum_walk (wpAny_pyIter_list isl ?_)
 refine ⟨s.heap.objs.size, _, _, _, _, _, fun i => ns.getD i 0, rfl, walks_h (A := X.A.in1) (cls := cls) hh s.heap.objs.size a na ne its.toArray, ⟨⟨_, Heap.get?_push_size _ rfl, rfl, rfl⟩, ⟨_, Heap.get?_push_of_some _ e, rfl, n, rfl⟩, ?_⟩, fun b hb => ?_, fun i v hv => ?_, fun j hj => ?_, fun h' tk t' k => ?_⟩
 . obtain ⟨oe, vs, e1, r1⟩ := ze.1
   exact ⟨oe, vs, Heap.get?_push_of_some _ e1, r1⟩
 . rw [Heap.size_push]
   rcases List.mem_cons.mp hb with z | hb
   . subst z
     exact Nat.lt_succ_self _
   . rcases List.mem_cons.mp hb with z | hb
     . subst z
       exact Nat.lt_succ_of_lt (Heap.lt_size e)
     . obtain rfl : b = eh := by simpa using hb
       exact Nat.lt_succ_of_lt ze.lt
 . have hv' : its[i]? = some v := by simpa using hv
   have hi : i < ns.length := by
     have := (List.getElem?_eq_some_iff.mp hv').1
     omega
   obtain ⟨u, e1, q1⟩ := rv.get (i := i) (x := V.int ns[i]) (by simp [hi])
   rw [hv'] at e1
   cases e1
   obtain ⟨t, rfl⟩ := q1
   exact ⟨t, by dsimp only; rw [List.getD_eq_getElem?_getD, List.getElem?_eq_getElem hi]; rfl⟩
 . have hj' : j < ns.length := by simpa [hli] using hj
   have z1 : ns.getD j 0 = 0 \/ ns.getD j 0 = 1 := by
     rw [List.getD_eq_getElem?_getD, List.getElem?_eq_getElem hj']
     exact h01 _ (List.getElem_mem hj')
   obtain ⟨p1, p2⟩ := xKj h01 (j + 1) (by omega)
   have big : (1001 : Int) < 2 ^ 63 := by decide
   refine ⟨⟨?_, ?_⟩, ?_, ?_⟩
   . show -(2 ^ 63) <= ns.getD j 0
     rcases z1 with z1 | z1 <;> rw [z1] <;> decide
   . show ns.getD j 0 < 2 ^ 63
     rcases z1 with z1 | z1 <;> rw [z1] <;> decide
   . exact Int.le_trans (by decide) p1
   . exact Int.lt_of_le_of_lt p2 (Int.lt_of_le_of_lt (by omega) big)
 . refine ⟨.int ns.sum, H, I.kept (t' := tk) (fun b o e => k b o (fun m => ?_) (Heap.get?_push_of_some _ e)), ?_, q⟩
   . obtain rfl : b = s.heap.objs.size := by simpa using m
     exact absurd (Heap.lt_size e) (Nat.lt_irrefl _)
   . refine ⟨t', ?_⟩
     rw [List.size_toArray, hli, preSum_sum _ (Nat.le_refl _), List.take_length]
theorem mt_index : MtR X "list.index" (fun x xs H Q => ∃ (a : Addr) (bs : List Bool) (j : Nat), x = .ref a /\ xs = [V.bl true] /\ H a = some (.lst (bs.map V.bl)) /\ bs[j]? = some true /\ (∀ m, m < j -> bs[m]? = some false) /\ j <= 1000 /\ Q (.int (j : Int)) H) := by
 intro pins s σ H x xs v us Q I rx rv h
 obtain ⟨a, bs, j, rfl, rfl, ha, hj, hn, hs, q⟩ := h
 cases (show v = Value.ref a from rx)
 obtain ⟨u, rfl, ru⟩ := vals1 rv
 cases (show u = Value.bool true from ru)
 obtain ⟨z, its, n, r, hl, e⟩ := I.lstM ha
 have hli : its.length = bs.length := by rw [<- hl, List.length_map]
 have val : ∀ (m : Nat) (b : Bool), bs[m]? = some b -> its[m]? = some (Value.bool b) := fun m b e1 => by
   obtain ⟨u, e2, q2⟩ := r.get (i := m) (x := V.bl b) (by rw [List.getElem?_map, e1]; rfl)
   cases (show u = Value.bool b from q2)
   exact e2
 have hjl : j < its.length := by
   have := (List.getElem?_eq_some_iff.mp hj).1
   omega
 refine call_meets F.slot_list_index ⟨_, e, rfl⟩ F.entry_list_index (F.args_list_index_2 _ _) (SeqAt.list_indexAt a its.toArray n none #[] (.bool true) (fun y => y == .bool true) j (by simpa using hjl) (by omega) ?_ ?_) ⟨e, fun y hy => ?_, ?_⟩
 . have := (List.getElem?_eq_some_iff.mp (val j true hj)).2
   simp [this]
 . intro m hm hmj
   have := (List.getElem?_eq_some_iff.mp (val m false (hn m hmj))).2
   simp [this]
 . have hy' : y ∈ its := by simpa using hy
   obtain ⟨m, hm, rfl⟩ := List.mem_iff_getElem.mp hy'
   have hb : m < bs.length := by omega
   have e1 := (List.getElem?_eq_some_iff.mp (val m bs[m] (by simp [hb]))).2
   rw [e1]
   have := SeqAt.EqAt.bool_bool (A := X.A.in1) (s := s) bs[m] true
   cases hbm : bs[m] <;> rw [hbm] at this <;> exact this
 . exact ⟨.int (j : Int), H, I.tok _, ⟨_, rfl⟩, q⟩
end
abbrev SpA := Around -> Sp
structure FnOkA (P : Program) (w : World) (K : PySem.W.Frag) (mg : Str -> Option Value) (base : Heap) (CX : CXT) (k : Nat) (f : Addr) (fd : FuncData) (ps : List Str) (sp : SpA) : Prop where
 len : ∀ A vs H Q E, sp A vs H Q E -> vs.length = ps.length
 run : ∀ (A : Around) (outer : List Env) (s : Shared) (H : Hp) (args : Args) (us : List Value) (vs : List V) (Q : VK) (E : XK), Room k A -> Env0 P w K mg base A outer s H -> BindsTo s fd args (ps.zip us) -> Vals vs us -> sp A vs H Q E ->
   codeAny (model P w) A (.call (.ref f) args) (CR CX outer P w H s Q E) s
section
variable {P : Program} {w : World} {K : PySem.W.Frag} {mg : Str -> Option Value} {base : Heap}
theorem Fun.okA {x qual : Str} {st : Stmt} {f : Addr} {fd : FuncData} {N ps : List Str} {k : Nat} {sp : SpA} (F : Fun K x qual st f fd) (S : FnScope N ps (defScope st)) (len : ∀ A vs H Q E, sp A vs H Q E -> vs.length = ps.length)
   (hbody : ∀ (cdv : Value) (A : Around) (outer : List Env) (s : Shared) (H : Hp) (vs : List V) (Q : VK) (E : XK), Room k (A.deeper (envOfC qual (defScope st) s.heap.objs.size f cdv)) -> sp A vs H Q E ->
     ∃ t, PSs (cxOf false (CXw P w) P w K mg base N qual (defScope st) f cdv A outer s H E) (defBody st) t /\ t { nx := fun _ H' => Q .non H', rt := Q } (start N vs) H) : FnOkA P w K mg base (CXw P w) (k + 1) f fd ps sp := by
 refine ⟨len, fun A outer s H args us vs Q E hr e0 hb rv h => ?_⟩
 obtain ⟨oc, od, kV, doc, pm, an, cdv, ct, osl, rfl, lk, hcd⟩ := F.ex
 have hl := len A _ _ _ _ h
 have KX : K.In s.heap := e0.mod.kin.keeps fun b o e => (e0.bs b o e).1
 have lim : s.heap.NoLimit := e0.mod.nolimit.keeps fun b o e => (e0.bs b o e).1
 have hkind : ∀ y ∈ ps.zip us, (defScope st).names.lookup y.1 = some .local \/ ((defScope st).names.lookup y.1 = some .cell /\ ((cellsFrom (s.heap.objs.size + 1) (defScope st).names []).lookup y.1).isSome = true) := fun ⟨n, v⟩ hy => by
   rcases S.par n (List.of_mem_zip hy).1 with q | q
   . exact .inl q
   . exact .inr ⟨q, PySem.W.cellsFrom_some _ _ _ (.inl q)⟩
 refine codeAny_call_function hr.depth (KX _ _ lk) rfl S.co S.gen rfl (PySem.W.codeRec_of KX hcd) (hb _ _ _ _ ?_)
 refine wpAny_newFunctionEnv_cells S.kind hkind fun env he s1 x => ?_
 subst he
 refine ⟨lim.keeps x.toInCall.keep, codeAny_func ?_⟩
 obtain ⟨t, ht, hq⟩ := hbody cdv A outer s H vs Q E (hr.deeper _) h
 have I : Inv (cxOf false (CXw P w) P w K mg base N qual (defScope st) f cdv A outer s H E) [] (start N vs) H s1 := wQv S (fun z => nomatch z) e0 hl rv x
 refine wpAny_mono (ht [] s1 (start N vs) H _ I hq) (fun fl s' hs => ?_) fun e s' hs => hs
 have fin : ∀ {σ' : St} {H' : Hp} {v : V} {u : Value}, Inv (cxOf false (CXw P w) P w K mg base N qual (defScope st) f cdv A outer s H E) [] σ' H' s' -> RelV v u -> Q v H' -> CE outer P w H s Q u s' :=
   fun {σ' H' v u} J rv q => ⟨v, H', J.os, J.bare, J.base, J.hok, rv, q⟩
 cases fl with
 | ret u =>
   obtain ⟨v, σ', H', J, rv, q⟩ := hs
   exact fin J rv q
 | next =>
   obtain ⟨σ', H', J, q⟩ := hs
   exact fin (v := V.non) (u := Value.none) J rfl q
 | brk =>
   obtain ⟨_, _, _, q⟩ := hs
   exact False.elim q
 | cont =>
   obtain ⟨_, _, _, q⟩ := hs
   exact False.elim q
end
section
variable {X : Cx} {k : Nat} {f : Addr} {fd : FuncData} {ps : List Str} {sp : SpA} {x : Str} {p pos : Pos} {e : Expr} {es : List Expr} {t : TA}
theorem pe_callA (F : FnOkA X.prog X.w X.K X.mg X.base (CXw X.prog X.w) k f fd ps sp) (hr : Room k X.A) (hg : Gl X x) (hm : X.mg x = some (.ref f)) (hk : PySem.W.keepIn X.K (.ref f) = true) (hb : Binds X.K fd ps [])
   (ha : PA X (e :: es) t) (hdb : (x == ("__debug__" : Str)) = false := by decide) (he : starEach (e :: es) X.env = (false, eval e X.env) :: starEach es X.env := by exact zQq rfl) (hpl : (backTo pos (starEach es X.env)).any (·.1) = false := by exact zQx rfl) :
   PE X (.Call (.Name x p) (e :: es) [] pos) (tCall (sp X.A) [] E0 t) := by
 intro pins s σ H Q I h
 refine wpAny_Call_Name_kw (xWq I hg hm ?_ hdb)
 refine PySem.W.callWith_K (h₀ := X.base) I.ok.mod.kin hk (thn (ha pos pins s σ H _ I h) fun us s1 ⟨vs, H1, I1, r, q⟩ => ⟨I1.kIn, ?_⟩) he hpl
 have q : sp X.A vs H1 Q E0 := by
   have z : sp X.A (vs ++ []) H1 Q E0 := q
   rw [List.append_nil] at z
   exact z
 have hl : (us ++ []).length = ps.length := by rw [List.append_nil, <- r.length]; exact F.len _ _ _ _ _ q
 have bb := hb s1 us I1.kIn hl
 rw [List.append_nil] at bb
 refine wpAny_call (codeAny_mono (F.run X.A X.stack s1 H1 ⟨us, []⟩ us vs Q E0 hr I1.env0 bb r q) fun r s' hq => ?_)
 cases r with
 | error e => exact passE (X := X) pins σ H1 s1 e s' I1 hq
 | ok fl =>
   cases fl with
   | ret u => exact I1.after hq
   | next => exact False.elim hq
   | brk => exact False.elim hq
   | cont => exact False.elim hq
end
theorem Room.mark {j k : Nat} {A : Around} (r : Room j A) (h : k <= j) (hk : k < 50) (v : Option Value) : Room k (A.mark v) :=
 ⟨fun z => absurd z (Nat.not_le.mpr hk), by have := r.dp; show A.depth + 3 * k + 5 < _; omega, by have := r.un; show A.units + 16 * k + 200 < _; omega⟩
structure FnB (P : Program) (w : World) (K : PySem.W.Frag) (mg : Str -> Option Value) (base : Heap) (k : Nat) (x : Str) (ps : List Str) (sp : Sp) : Prop where
 ex : ∃ (f : Addr) (fd : FuncData), FnOk P w K mg base (CXw P w) k f fd ps sp /\ Binds K fd ps [] /\ mg x = some (.ref f) /\ PySem.W.keepIn K (.ref f) = true
structure FnBA (P : Program) (w : World) (K : PySem.W.Frag) (mg : Str -> Option Value) (base : Heap) (k : Nat) (x : Str) (ps : List Str) (sp : SpA) : Prop where
 ex : ∃ (f : Addr) (fd : FuncData), FnOkA P w K mg base (CXw P w) k f fd ps sp /\ Binds K fd ps [] /\ mg x = some (.ref f) /\ PySem.W.keepIn K (.ref f) = true
structure MtB (P : Program) (w : World) (K : PySem.W.Frag) (mg : Str -> Option Value) (base : Heap) (C : Addr) (k : Nat) (m : Str) (ps : List Str) (sp : Sp) : Prop where
 ex : ∃ (f : Addr) (fd : FuncData), FnOk P w K mg base (CXw P w) k f fd ps sp /\ Binds K fd ps [] /\ Meth K C m f
structure MkB (P : Program) (w : World) (K : PySem.W.Frag) (mg : Str -> Option Value) (base : Heap) (C : Addr) (k : Nat) (x : Str) (ps : List Str) (sp : Sp) : Prop where
 ex : ∃ (f : Addr) (fd : FuncData), FnOk P w K mg base (CXw P w) k f fd ps sp /\ Binds K fd ps [] /\ Mk K C f /\ mg x = some (.ref C)
section
variable {X : Cx} {k : Nat} {C : Addr} {ps : List Str} {sp : Sp} {spA : SpA} {E : XK} {x m : Str} {p pos apos : Pos} {e o : Expr} {es : List Expr} {ta : TE} {t : TA}
theorem zWk (B : FnB X.prog X.w X.K X.mg X.base k x ps sp) (hr : Room k X.A) (hg : Gl X x) (hx : Passes (CXw X.prog X.w) X E) (ha : PA X (e :: es) t)
   (hdb : (x == ("__debug__" : Str)) = false := by decide) (he : starEach (e :: es) X.env = (false, eval e X.env) :: starEach es X.env := by exact zQq rfl) (hpl : (backTo pos (starEach es X.env)).any (·.1) = false := by exact zQx rfl) :
   PE X (.Call (.Name x p) (e :: es) [] pos) (tCall sp [] E t) := by
 obtain ⟨f, fd, F, b, hm, hk⟩ := B.ex
 exact pe_call F hr hg hm hk b .nil hx ha hdb he hpl
theorem pe_callW (B : FnBA X.prog X.w X.K X.mg X.base k x ps spA) (hr : Room k X.A) (hg : Gl X x) (ha : PA X (e :: es) t)
   (hdb : (x == ("__debug__" : Str)) = false := by decide) (he : starEach (e :: es) X.env = (false, eval e X.env) :: starEach es X.env := by exact zQq rfl) (hpl : (backTo pos (starEach es X.env)).any (·.1) = false := by exact zQx rfl) :
   PE X (.Call (.Name x p) (e :: es) [] pos) (tCall (spA X.A) [] E0 t) := by
 obtain ⟨f, fd, F, b, hm, hk⟩ := B.ex
 exact pe_callA F hr hg hm hk b ha hdb he hpl
theorem pe_makeF (B : MkB X.prog X.w X.K X.mg X.base C k x ps sp) (hr : Room (k + 1) X.A) (hg : Gl X x) (hx : Passes (CXw X.prog X.w) X E) (ha : PA X (e :: es) t)
   (hdb : (x == ("__debug__" : Str)) = false := by decide) (he : starEach (e :: es) X.env = (false, eval e X.env) :: starEach es X.env := by exact zQq rfl) (hpl : (backTo pos (starEach es X.env)).any (·.1) = false := by exact zQx rfl) :
   PE X (.Call (.Name x p) (e :: es) [] pos) (tMake C sp [] E t) := by
 obtain ⟨f, fd, F, b, M, hm⟩ := B.ex
 exact pe_make M F hr hg hm b .nil hx ha hdb he hpl
theorem zWj {pl : Sem Bool} (c : Cls X.K C) (B : MtB X.prog X.w X.K X.mg X.base C k m ps sp) (hr : Room k X.A) (hx : Passes (CXw X.prog X.w) X E) (ho : PE X o ta) (ha : PA X (e :: es) t)
   (hst : starEach (e :: es) X.env = (false, eval e X.env) :: starEach es X.env := by exact zQq rfl) (hpl : (backTo pos (starEach es X.env)).any (·.1) = false := by exact zQx rfl)
   (ht : eval (.Call (.Attribute o m apos) (e :: es) [] pos) X.env = (do
     let ov <- eval o X.env
     standAt apos.atName
     let (f, first) <- holding [ov] (getMethod ov m pl)
     callWith pos f first (backTo pos (starEach (e :: es) X.env)) (backToKw pos (keywordEach [] X.env))) := by rfl) :
   PE X (.Call (.Attribute o m apos) (e :: es) [] pos) (tMeth C m sp [] E ta t) := by
 obtain ⟨f, fd, F, b, hm⟩ := B.ex
 exact pe_meth (pl := pl) ho c hm F hr b .nil hx ha hst hpl ht
theorem zZj {pl : Sem Bool} (c : Cls X.K C) (B : MtB X.prog X.w X.K X.mg X.base C k m ps sp) (hr : Room k X.A) (hx : Passes (CXw X.prog X.w) X E) (ho : PE X o ta)
   (ht : eval (.Call (.Attribute o m apos) [] [] pos) X.env = (do
     let ov <- eval o X.env
     standAt apos.atName
     let (f, first) <- holding [ov] (getMethod ov m pl)
     callWith pos f first (backTo pos (starEach [] X.env)) (backToKw pos (keywordEach [] X.env))) := by rfl) :
   PE X (.Call (.Attribute o m apos) [] [] pos) (tMeth C m sp [] E ta tNil) := by
 obtain ⟨f, fd, F, b, hm⟩ := B.ex
 exact pe_meth0 (pl := pl) ho c hm F hr b .nil hx ht
end
theorem ix_listK {X : Cx} {K : PySem.W.Frag} (h : X.K = K) : IxR X (rIxL K) := by
 subst h
 exact zKz
theorem op_mulB {X : Cx} : OpR X (binaryOp .Mult) (rI (fun i j => i.natAbs < 2 ^ 200 /\ j.natAbs < 2 ^ 200) fun i j => .int (i * j)) := opI fun _ _ _ _ _ _ _ hc q => mul_int q (IntMulOk.of_bits (Nat.le_trans (intBits_le hc.1) (by decide)) (Nat.le_trans (intBits_le hc.2) (by decide)))
def SameBut (fp : List Addr) (H H' : Hp) : Prop := ∀ b o, H b = some o -> b ∉ fp -> H' b = some o
theorem SameBut.refl (fp : List Addr) (H : Hp) : SameBut fp H H := fun _ _ h _ => h
theorem SameBut.trans {fp : List Addr} {H H1 H2 : Hp} (a : SameBut fp H H1) (b : SameBut fp H1 H2) : SameBut fp H H2 := fun c o h n => b c o (a c o h n) n
theorem SameBut.of {fp : List Addr} {H H' : Hp} (a : Same H H') : SameBut fp H H' := fun c o h _ => a c o h
theorem zWw {H : Hp} {a : Addr} {o : HO} (h : H a = none) : Same H (upd H a o) := fun b u e => by rw [zQv (zWv e h)]; exact e
theorem yZk {H : Hp} {a : Addr} {o : HO} {fp : List Addr} (h : a ∈ fp) : SameBut fp H (upd H a o) := fun b u e n => by rw [zQv fun z => n (by rw [z]; exact h)]; exact e
structure SB (k : SortKind) (z : Array Keyed) (t : SortSt) : Prop where
 pm : (arrOf t).Perm z
 kd : kindOf t = k
 fl : failedOf t = none
 pd : pendingOf t = #[]
def ky (f : Value -> Int) (xs : Array Keyed) (i : Nat) : Int := (xs[i]?).elim 0 fun p => f p.1
def Up (f : Value -> Int) (xs : Array Keyed) (k : Nat) : Prop := ∀ i j, i < j -> j < k -> ky f xs i < ky f xs j
def Dn (f : Value -> Int) (xs : Array Keyed) (k : Nat) : Prop := ∀ i j, i < j -> j < k -> ky f xs j < ky f xs i
def NDk (f : Value -> Int) (z : Array Keyed) : Prop := (z.toList.map fun p => f p.1).Nodup
theorem ky_of {f : Value -> Int} {xs ys : Array Keyed} {i j : Nat} (h : xs[i]? = ys[j]?) : ky f xs i = ky f ys j := by unfold ky; rw [h]
variable {k : SortKind} {z : Array Keyed} {f : Value -> Int}
theorem SB.sz {t : SortSt} (h : SB k z t) : (arrOf t).size = z.size := h.pm.size_eq
theorem SB.arr {t : SortSt} (h : SB k z t) {xs : Array Keyed} (p : xs.Perm (arrOf t)) : SB k z (setArr t xs) := ⟨p.trans h.pm, h.kd, h.fl, h.pd⟩
theorem SB.ne {t : SortSt} (h : SB k z t) (nd : NDk f z) {i j : Nat} (hi : i < z.size) (hj : j < z.size) (n : i ≠ j) : ky f (arrOf t) i ≠ ky f (arrOf t) j := by
 have hp : ((arrOf t).toList.map fun p => f p.1).Perm (z.toList.map fun p => f p.1) := (Array.perm_iff_toList_perm.mp h.pm).map _
 have nd' : ((arrOf t).toList.map fun p => f p.1).Nodup := hp.nodup_iff.mpr nd
 have hi' : i < (arrOf t).size := by rw [h.sz]; exact hi
 have hj' : j < (arrOf t).size := by rw [h.sz]; exact hj
 intro e
 apply n
 have e' : ((arrOf t).toList.map fun p => f p.1)[i]'(by simpa using hi') = ((arrOf t).toList.map fun p => f p.1)[j]'(by simpa using hj') := by
   unfold ky at e
   rw [getElem?_pos _ i hi', getElem?_pos _ j hj'] at e
   simpa using e
 exact (List.getElem_inj nd').mp e'
def Orc (prog : Program) (w : World) (A : Around) (E : Value -> Shared -> Prop) (s : Shared) (k : SortKind) (z : Array Keyed) (f : Value -> Int) : Prop :=
 ∀ (t : SortSt) (i j : Nat) (Q : Option Bool -> SortSt -> Prop), SB k z t -> i < z.size -> j < z.size -> i ≠ j -> Q (some (decide (ky f (arrOf t) i < ky f (arrOf t) j))) t -> wpS (model prog w) A E s (ltAt' i j) Q t
section
variable {prog : Program} {w : World} {A : Around} {E : Value -> Shared -> Prop} {s : Shared}
theorem up_loop {t : SortSt} {a n : Nat} {Q : AscSt -> SortSt -> Prop} (O : Orc prog w A E s k z f) (nd : NDk f z) (hn : n <= z.size) (h1 : 1 <= a) (ha : a <= n) (B : SB k z t) (u : Up f (arrOf t) a)
   (h : ∀ m, a <= m -> m <= n -> Up f (arrOf t) m -> (m = n \/ ky f (arrOf t) m < ky f (arrOf t) (m - 1)) -> Q (none, m) t) : wpS (model prog w) A E s (ascLoop a n) Q t := by
 unfold ascLoop
 refine wpS_forRange (I := fun x c t' => t' = t /\ c = (none, x) /\ Up f (arrOf t) x) ?_ ?_ ⟨rfl, rfl, u⟩
 . rintro x c t' hx hxn ⟨rfl, rfl, ux⟩
   dsimp only
   refine wpS_bind (O t' x (x - 1) _ B (by omega) (by omega) (by omega) ?_)
   by_cases l : ky f (arrOf t') x < ky f (arrOf t') (x - 1)
   . simp only [l, decide_true, if_true]
     exact wpS_pure (h x hx (by omega) ux (.inr l))
   . simp only [l, decide_false, Bool.false_eq_true, if_false]
     have nn := B.ne nd (i := x) (j := x - 1) (by omega) (by omega) (by omega)
     have lt : ky f (arrOf t') (x - 1) < ky f (arrOf t') x := by omega
     refine wpS_pure ⟨rfl, rfl, fun i j hij hj => ?_⟩
     by_cases hjx : j < x
     . exact ux i j hij hjx
     . obtain rfl : j = x := by omega
       by_cases hi : i = j - 1
       . subst hi; exact lt
       . exact Int.lt_trans (ux i (j - 1) (by omega) (by omega)) lt
 . rintro c t' ⟨rfl, rfl, ux⟩
   rw [show max a n = n by omega] at ux ⊢
   exact h n ha (Nat.le_refl _) ux (.inl rfl)
theorem dn_loop {t : SortSt} {a n : Nat} {Q : DescSt -> SortSt -> Prop} (O : Orc prog w A E s k z f) (nd : NDk f z) (hn : n <= z.size) (h1 : 1 <= a) (ha : a <= n) (B : SB k z t) (u : Dn f (arrOf t) a)
   (h : ∀ m, a <= m -> m <= n -> Dn f (arrOf t) m -> Q (none, m, 0) t) : wpS (model prog w) A E s (descLoop a n) Q t := by
 unfold descLoop
 refine wpS_forRange (I := fun x c t' => t' = t /\ c = (none, x, 0) /\ Dn f (arrOf t) x) ?_ ?_ ⟨rfl, rfl, u⟩
 . rintro x c t' hx hxn ⟨rfl, rfl, ux⟩
   dsimp only
   refine wpS_bind (O t' x (x - 1) _ B (by omega) (by omega) (by omega) ?_)
   by_cases l : ky f (arrOf t') x < ky f (arrOf t') (x - 1)
   . simp only [l, decide_true, if_true]
     rw [if_neg (by omega)]
     refine wpS_pure ⟨rfl, rfl, fun i j hij hj => ?_⟩
     by_cases hjx : j < x
     . exact ux i j hij hjx
     . obtain rfl : j = x := by omega
       by_cases hi : i = j - 1
       . subst hi; exact l
       . exact Int.lt_trans l (ux i (j - 1) (by omega) (by omega))
   . simp only [l, decide_false, Bool.false_eq_true, if_false]
     have nn := B.ne nd (i := x) (j := x - 1) (by omega) (by omega) (by omega)
     have lt : ky f (arrOf t') (x - 1) < ky f (arrOf t') x := by omega
     refine wpS_bind (O t' (x - 1) x _ B (by omega) (by omega) (by omega) ?_)
     simp only [lt, decide_true, if_true]
     exact wpS_pure (h x hx (by omega) ux)
 . rintro c t' ⟨rfl, rfl, ux⟩
   rw [show max a n = n by omega] at ux ⊢
   exact h n ha (Nat.le_refl _) ux
theorem turned {t : SortSt} {a n : Nat} {Q : Option Nat -> SortSt -> Prop} (O : Orc prog w A E s k z f) (nd : NDk f z) (hn : n <= z.size) (h1 : 1 <= a) (ha : a <= n) (B : SB k z t) (u : Dn f (arrOf t) a)
   (h : ∀ m t', SB k z t' -> 1 <= m -> m <= n -> Up f (arrOf t') m -> Q (some m) t') : wpS (model prog w) A E s (tail3 a n) Q t := by
 unfold tail3
 have hz : a <= (arrOf t).size := by rw [B.sz]; omega
 refine wpS_bind (wpS_reverse ?_)
 have B' : SB k z (setArr t (mirror (arrOf t) 0 a ((a - 0) / 2))) := B.arr (mirror_perm _ _ _ _)
 refine wpS_bind (up_loop O nd hn h1 ha B' (fun i j hij hj => ?_) fun m m1 m2 um _ => wpS_pure (h m _ B' (by omega) m2 um))
 show ky f (mirror (arrOf t) 0 a ((a - 0) / 2)) i < ky f (mirror (arrOf t) 0 a ((a - 0) / 2)) j
 have e1 := getElem?_mirror_all (xs := arrOf t) (i := 0) hz i
 have e2 := getElem?_mirror_all (xs := arrOf t) (i := 0) hz j
 rw [if_pos (by omega)] at e1 e2
 rw [ky_of e1, ky_of e2]
 exact u _ _ (by omega) (by omega)
theorem ky_bubble {xs : Array Keyed} {src d : Nat} (hs : src < xs.size) (hd : d <= src) (i : Nat) : ky f (bubble xs src d) i = if i = src - d then ky f xs src else if src - d < i /\ i <= src then ky f xs (i - 1) else ky f xs i := by
 have e := getElem?_bubble hs d hd i
 split at e
 . rw [if_pos ‹_›]; exact ky_of e
 . rw [if_neg ‹_›]
   split at e
   . rw [if_pos ‹_›]; exact ky_of e
   . rw [if_neg ‹_›]; exact ky_of e
end
def TK (h : Heap) (v : Value) (n : Int) : Prop := ∃ (b : Addr) (its : List Value) (t : Tok), v = .ref b /\ IsTup h b (Value.int n t :: its).toArray
def fstI (h : Heap) (v : Value) : Int := match v with
 | .ref b => match h.get? b with
   | some o => match o.data with
     | .seq its _ => match (its[0]? : Option Value) with
       | some (Value.int n _) => n
       | _ => 0
     | _ => 0
   | none => 0
 | _ => 0
theorem TK.fst {h : Heap} {v : Value} {n : Int} (k : TK h v n) : fstI h v = n := by
 obtain ⟨b, its, t, rfl, o, ho, hc, e, hd⟩ := k
 unfold fstI
 dsimp only
 rw [ho]
 dsimp only
 rw [hd]
 rfl
theorem keyLt_tups (b : Bool) (x y : Value) : keyLt' (tuples' b) x y = (do
   let us <- Builtin.List.listItems x
   let vs <- Builtin.List.listItems y
   for ((c, d), m) in (us.toList.zip vs.toList).zipIdx do
     if !(<- eqBool c d) then return <- oneLt' (b && m == 0) c d
   return us.size < vs.size) := rfl
section
variable {prog : Program} {w : World} {A : Around} {E : Value -> Shared -> Prop} {s : Shared}
theorem keyLt_tk {x y : Value} {n m : Int} {Q : Bool -> Shared -> Prop} (hx : TK s.heap x n) (hy : TK s.heap y m) (ne : n ≠ m) (h : Q (decide (n < m)) s) : wpAny (model prog w) A (keyLt' (tuples' true) x y) Q E s := by
 obtain ⟨b, its, t, rfl, o, ho, hc, e, hd⟩ := hx
 obtain ⟨b2, its2, t2, rfl, o2, ho2, hc2, e2, hd2⟩ := hy
 rw [keyLt_tups]
 refine wpAny_bind (listItems_at ho hd ?_)
 refine wpAny_bind (listItems_at ho2 hd2 ?_)
 simp only [List.zip_cons_cons, List.zipIdx_cons, List.forIn_cons, bind_assoc]
 refine wpAny_bind ((SeqAt.EqAt.int_int n t m t2) prog w _ _ ?_)
 have ne' : (n == m) = false := by simpa using ne
 rw [ne']
 simp only [Bool.not_false, if_true, bind_assoc]
 refine wpAny_bind (oneLt_int ?_)
 simp only [pure_bind]
 exact wpAny_pure h
theorem firsts_of {Q : List (Option Value) -> Shared -> Prop} : ∀ {vs : List Value} {P : List (Option Value) -> Prop} (hv : ∀ v ∈ vs, ∃ n, TK s.heap v n), (∀ us : List Value, us.length = vs.length -> (∀ u ∈ us, ∃ n t, u = Value.int n t) -> Q (us.map some) s) -> wpAny (model prog w) A (vs.mapM firstOfTuple') Q E s := by
 intro vs P
 induction vs generalizing Q with
 | nil => intro _ h; rw [List.mapM_nil]; exact wpAny_pure (h [] rfl (by simp))
 | cons v vs ih =>
   intro hv h
   rw [List.mapM_cons]
   obtain ⟨n, b, its, t, rfl, o, ho, hc, e, hd⟩ := hv v (by simp)
   refine wpAny_bind ?_
   show wpAny _ _ (do
     let ty <- typeOf (.ref b)
     if ty != .type "tuple" then return none
     return (<- Builtin.List.listItems (.ref b))[0]?) _ _ _
   refine wpAny_bind (wpAny_typeOf (T := "tuple") ⟨o, ho, hc⟩ ?_)
   rw [if_neg (by simp)]
   refine wpAny_bind (listItems_at ho hd (wpAny_pure ?_))
   refine wpAny_bind (ih (fun u hu => hv u (List.mem_cons_of_mem _ hu)) fun us hl hus => ?_)
   refine wpAny_pure (h (.int n t :: us) (by simp [hl]) fun u hu => ?_)
   rcases List.mem_cons.mp hu with rfl | hu
   . exact ⟨n, t, rfl⟩
   . exact hus u hu
theorem wZq : ∀ (us : List Value), (∀ u ∈ us, ∃ n t, u = Value.int n t) -> us.mapM typeOf = (pure (us.map fun _ => Value.type "int") : Sem (List Value))
 | [], _ => by simp
 | u :: us, h => by
   obtain ⟨n, t, rfl⟩ := h u (by simp)
   rw [List.mapM_cons, wZq us fun x hx => h x (List.mem_cons_of_mem _ hx)]
   show (pure (Value.type "int") >>= fun c => pure _ >>= fun cs => pure (c :: cs)) = _
   simp
theorem kind_tups {vs : List Value} (hne : vs ≠ []) (hv : ∀ v ∈ vs, ∃ n, TK s.heap v n) {Q : SortKind -> Shared -> Prop} (h : Q (tuples' true) s) : wpAny (model prog w) A (keyKind' vs.toArray) Q E s := by
 rw [keyKind'_eq, List.mapM_toArray, bind_map_left]
 refine wpAny_bind (firsts_of (P := fun _ => True) hv fun us hl hus => ?_)
 rw [if_pos (by simp)]
 refine wpAny_bind (wpAny_rule ?_)
 have fm : (us.map some).toArray.filterMap id = us.toArray := by
   simp
 rw [fm, oneTypeOnly'_eq, List.mapM_toArray, wZq us hus]
 simp only [map_pure, pure_bind]
 obtain ⟨u, us', rfl⟩ : ∃ u us', us = u :: us' := by
   cases us with
   | nil => exact absurd (List.length_eq_zero_iff.mp hl.symm) hne
   | cons u us' => exact ⟨u, us', rfl⟩
 have h0 : (List.map (fun _ => Value.type "int") (u :: us')).toArray[0]? = some (Value.type "int") := by simp
 have hall : ((List.map (fun _ => Value.type "int") (u :: us')).toArray.all fun c => c == Value.type "int") = true := by
   simp only [List.all_toArray, List.all_map, List.all_eq_true]
   intro _ _
   rfl
 rw [h0]
 simp only [hall, if_true, pure_bind]
 exact wpAny_pure h
theorem TK.keep {h h' : Heap} {v : Value} {n : Int} (k : TK h v n) (kp : ∀ b o, v = .ref b -> h.get? b = some o -> h'.get? b = some o) : TK h' v n := by
 obtain ⟨b, its, t, rfl, o, ho, r⟩ := k
 exact ⟨b, its, t, rfl, o, kp b o rfl ho, r⟩
end
section
variable {X : Cx}
theorem vals_refs : ∀ {ps : List Addr} {us : List Value}, Vals (ps.map V.ref) us -> us = ps.map Value.ref
 | [], _, .nil => rfl
 | p :: ps, u :: us, .cons r t => by
   cases (show u = Value.ref p from r)
   rw [vals_refs t]
   rfl
theorem walk_bls {bs : List Bool} {us : List Value} (r : Vals (bs.map V.bl) us) : us = bs.map Value.bool := by
 induction bs generalizing us with
 | nil => cases r; rfl
 | cons b bs ih =>
   cases r with
   | cons r0 rt =>
     rw [ih rt]
     cases r0
     rfl
theorem all_get {bs : List Bool} : ((List.range bs.length).all fun i => bs.getD i true) = bs.all id := by
 induction bs with
 | nil => rfl
 | cons b bs ih =>
   rw [List.length_cons, List.range_succ_eq_map, List.all_cons, List.all_map, List.all_cons, <- ih]
   rfl
theorem any_get {bs : List Bool} : ((List.range bs.length).any fun i => bs.getD i true) = bs.any id := by
 induction bs with
 | nil => rfl
 | cons b bs ih =>
   rw [List.length_cons, List.range_succ_eq_map, List.any_cons, List.any_map, List.any_cons, <- ih]
   rfl
theorem call_allB (hc : X.calm = true) : CallR X (.builtin "all") (fun xs H Q => ∃ (a : Addr) (bs : List Bool), xs = [V.ref a] /\ H a = some (.lst (bs.map V.bl)) /\ Q (.bl (bs.all id)) H) := by
 intro pins s σ H xs us Q I r h
 obtain ⟨a, bs, rfl, ha, q⟩ := h
 obtain ⟨u, rfl, ru⟩ := vals1 r
 cases (show u = Value.ref a from ru)
 obtain ⟨z, its, n, rv, hl, e⟩ := I.lstM ha
 obtain rfl := walk_bls rv
 have na : a ≠ s.heap.objs.size := Nat.ne_of_lt (Heap.lt_size e)
 have isl : s.heap.IsList a (bs.map Value.bool).toArray := ⟨_, e, rfl, n, rfl⟩
 refine call_all_walk (wpAny_pyIter_list isl ?_)
 refine ⟨s.heap.objs.size, _, _, _, _, _, fun i => bs.getD i true, rfl, Walks.list (A := X.A.in1) (I.ok.hd hc) s.heap.objs.size a na (bs.map Value.bool).toArray, ⟨⟨_, Heap.get?_push_size _ rfl, rfl, rfl⟩, ⟨_, Heap.get?_push_of_some _ e, rfl, n, rfl⟩⟩, ?_, fun h' tk k => ?_⟩
 . intro i v s Q E hv hQ
   have hv' : (bs.map Value.bool)[i]? = some v := by simpa using hv
   rw [List.getElem?_map] at hv'
   obtain ⟨b, eb, rfl⟩ := Option.map_eq_some_iff.mp hv'
   refine wpAny_truthy_bool ?_
   have hQ' : Q (bs.getD i true) s := hQ
   rw [List.getD_eq_getElem?_getD, eb] at hQ'
   exact hQ'
 . refine ⟨.bl (bs.all id), H, I.kept (t' := tk) (fun b o e => k b o (fun m => ?_) (Heap.get?_push_of_some _ e)), ?_, q⟩
   . obtain rfl : b = s.heap.objs.size := by simpa using m
     exact absurd (Heap.lt_size e) (Nat.lt_irrefl _)
   . show Value.bool _ = Value.bool _
     rw [List.size_toArray, List.length_map, all_get]
theorem call_anyB (hc : X.calm = true) : CallR X (.builtin "any") (fun xs H Q => ∃ (a : Addr) (bs : List Bool), xs = [V.ref a] /\ H a = some (.lst (bs.map V.bl)) /\ Q (.bl (bs.any id)) H) := by
 intro pins s σ H xs us Q I r h
 obtain ⟨a, bs, rfl, ha, q⟩ := h
 obtain ⟨u, rfl, ru⟩ := vals1 r
 cases (show u = Value.ref a from ru)
 obtain ⟨z, its, n, rv, hl, e⟩ := I.lstM ha
 obtain rfl := walk_bls rv
 have na : a ≠ s.heap.objs.size := Nat.ne_of_lt (Heap.lt_size e)
 have isl : s.heap.IsList a (bs.map Value.bool).toArray := ⟨_, e, rfl, n, rfl⟩
 refine call_any_walk (wpAny_pyIter_list isl ?_)
 refine ⟨s.heap.objs.size, _, _, _, _, _, fun i => bs.getD i true, rfl, Walks.list (A := X.A.in1) (I.ok.hd hc) s.heap.objs.size a na (bs.map Value.bool).toArray, ⟨⟨_, Heap.get?_push_size _ rfl, rfl, rfl⟩, ⟨_, Heap.get?_push_of_some _ e, rfl, n, rfl⟩⟩, ?_, fun h' tk k => ?_⟩
 . intro i v s Q E hv hQ
   have hv' : (bs.map Value.bool)[i]? = some v := by simpa using hv
   rw [List.getElem?_map] at hv'
   obtain ⟨b, eb, rfl⟩ := Option.map_eq_some_iff.mp hv'
   refine wpAny_truthy_bool ?_
   have hQ' : Q (bs.getD i true) s := hQ
   rw [List.getD_eq_getElem?_getD, eb] at hQ'
   exact hQ'
 . refine ⟨.bl (bs.any id), H, I.kept (t' := tk) (fun b o e => k b o (fun m => ?_) (Heap.get?_push_of_some _ e)), ?_, q⟩
   . obtain rfl : b = s.heap.objs.size := by simpa using m
     exact absurd (Heap.lt_size e) (Nat.lt_irrefl _)
   . show Value.bool _ = Value.bool _
     rw [List.size_toArray, List.length_map, any_get]
theorem call_isinst : CallR X (.builtin "isinstance") (fun xs H Q => ∃ x c u t b, xs = [x, c] /\ (∀ u', RelV c u' -> u' = u) /\ TyOf X.K H x t /\ PySem.W.kitOne X.K t u = some b /\ Q (.bl b) H) := by
 intro pins s σ H xs us Q I r h
 obtain ⟨x, c, u, t, b, rfl, uq, ty, e, q⟩ := h
 obtain ⟨u1, u2, rfl, r1, r2⟩ := vals2 r
 cases uq u2 r2
 exact isinst_ok I r1 ty e fun tk => ⟨.bl b, H, I.tok _, rfl, q⟩
theorem yKv {K : PySem.W.Frag} (hK : X.K = K) : CallR X (.builtin "isinstance") (fun xs H Q => ∃ x c u t b, xs = [x, c] /\ (∀ u', RelV c u' -> u' = u) /\ TyOf K H x t /\ PySem.W.kitOne K t u = some b /\ Q (.bl b) H) := by
 subst hK
 exact call_isinst
inductive PlV (H : Hp) : V -> Option (Int × Int) -> Prop
 | non : PlV H .non none
 | at_ {a : Addr} {b g : Int} (e : H a = some (.tup [.int b, .int g])) : PlV H (.ref a) (some (b, g))
def PlVs (H : Hp) : List V -> List (Option (Int × Int)) -> Prop := Paired (PlV H)
theorem op_inPl (hu : X.A.units + 1 < cLine) : OpR X (compareOp .In) (fun x y H Q => ∃ a p xs os b g, x = .ref a /\ y = .ref p /\ H a = some (.tup [.int b, .int g]) /\ H p = some (.lst xs) /\ PlVs H xs os /\ Q (.bl (os.any fun o => decide (o = some (b, g)))) H) := by
 intro pins s σ H x y v u Q I rx ry h
 obtain ⟨a, p, xs, os, b, g, rfl, rfl, ha, hp, pl, q⟩ := h
 cases (show v = Value.ref a from rx)
 cases (show u = Value.ref p from ry)
 obtain ⟨z, its, n, rv, hl, e⟩ := I.lstM hp
 have tupAt : ∀ (c : Addr) (b g : Int), H c = some (.tup [.int b, .int g]) -> ∃ t1 t2, s.heap.IsTuple c #[.int b t1, .int g t2] := fun c b g hc => by
   obtain ⟨_, its, ri, it⟩ := (show ObjOk X.prog X.w H s.heap c (.tup [.int b, .int g]) from I.hok c _ hc)
   obtain ⟨u1, u2, rfl, ⟨t1, rfl⟩, ⟨t2, rfl⟩⟩ := vals2 ri
   exact ⟨t1, t2, it⟩
 obtain ⟨s1, s2, ita⟩ := tupAt a b g ha
 have eq2 : ∀ (w : V) (o : Option (Int × Int)) (u : Value), PlV H w o -> RelV w u -> SeqAt.EqAt X.A.in1 s u (.ref a) (decide (o = some (b, g))) := fun w o u pv ru => by
   cases pv with
   | non =>
     cases (show u = Value.none from ru)
     have := SeqAt.EqAt.none_tuple (A := X.A.in1) ita (by show X.A.units + 1 < cLine; exact hu)
     simpa using this
   | @at_ c b' g' ec =>
     cases (show u = Value.ref c from ru)
     by_cases zc : c = a
     . subst zc
       rw [ha] at ec
       have : b = b' /\ g = g' := by simpa using ec
       obtain ⟨rfl, rfl⟩ := this
       simpa using SeqAt.EqAt.same (A := X.A.in1) (s := s) (Value.ref c)
     . obtain ⟨t1, t2, itc⟩ := tupAt c b' g' ec
       have := SeqAt.EqAt.of_refs zc (SeqAt.RcAt.tuples (A := X.A.in1) (e := fun j => if j = 0 then b' == b else g' == g) itc ita (by show X.A.units + 1 < cLine; exact hu) (fun j h1 h2 => by
         match j, h1, h2 with
         | 0, _, _ => exact SeqAt.EqAt.int_int b' t1 b s1
         | 1, _, _ => exact SeqAt.EqAt.int_int g' t2 g s2))
       have e3 : ((List.range (min (#[Value.int b' t1, Value.int g' t2]).size (#[Value.int b s1, Value.int g s2]).size)).all (fun j => if j = 0 then b' == b else g' == g) && (#[Value.int b' t1, Value.int g' t2]).size == (#[Value.int b s1, Value.int g s2]).size) = decide (some (b', g') = some (b, g)) := by
         show ((List.range 2).all (fun j => if j = 0 then b' == b else g' == g) && true) = _
         have : List.range 2 = [0, 1] := rfl
         rw [this]
         simp only [List.all_cons, List.all_nil, if_true, Bool.and_true, Option.some.injEq, Prod.mk.injEq]
         by_cases x1 : b' = b <;> by_cases x2 : g' = g <;> simp [x1, x2]
       rwa [e3] at this
 have pick : ∃ f : Value -> Bool, (∀ u ∈ its, SeqAt.EqAt X.A.in1 s u (.ref a) (f u)) /\ its.any f = os.any fun o => decide (o = some (b, g)) := by
   classical
   have one : ∀ (w w' : V) (o o' : Option (Int × Int)) (u : Value), PlV H w o -> PlV H w' o' -> RelV w u -> RelV w' u -> o = o' := fun w w' o o' u p1 p2 r1 r2 => by
     cases p1 with
     | non =>
       cases (show u = Value.none from r1)
       cases p2 with
       | non => rfl
       | at_ e => cases r2
     | @at_ c1 _ _ e1 =>
       cases (show u = Value.ref c1 from r1)
       cases p2 with
       | non => cases r2
       | @at_ c2 _ _ e2 =>
         cases (show Value.ref c1 = Value.ref c2 from r2)
         rw [e1] at e2
         cases e2
         rfl
   refine ⟨fun u => if h : ∃ w o, PlV H w o /\ RelV w u then decide (h.choose_spec.choose = some (b, g)) else false, ?_, ?_⟩
   . intro u mu
     have gen : ∀ (ws : List V) (us : List Value) (os : List (Option (Int × Int))), Vals ws us -> PlVs H ws os -> u ∈ us -> ∃ w o, PlV H w o /\ RelV w u := fun ws => by
       induction ws with
       | nil => intro us os r p m; cases r; cases m
       | cons w0 ws ih =>
         intro us os r p m
         cases r with
         | @cons _ u0 _ us' r0 rt =>
           cases p with
           | @cons _ o0 _ os' p0 pt =>
             rcases List.mem_cons.mp m with rfl | m
             . exact ⟨w0, o0, p0, r0⟩
             . exact ih _ _ rt pt m
     obtain ⟨w, o, pv, ru⟩ := gen _ _ _ rv pl mu
     have hx : ∃ w o, PlV H w o /\ RelV w u := ⟨w, o, pv, ru⟩
     dsimp only
     rw [dif_pos hx]
     have sp := hx.choose_spec.choose_spec
     exact eq2 _ _ u sp.1 sp.2
   . have gen : ∀ (ws : List V) (us : List Value) (os : List (Option (Int × Int))), Vals ws us -> PlVs H ws os -> (us.any fun u => if h : ∃ w o, PlV H w o /\ RelV w u then decide (h.choose_spec.choose = some (b, g)) else false) = os.any fun o => decide (o = some (b, g)) := fun ws => by
       induction ws with
       | nil => intro us os r p; cases r; cases p; rfl
       | cons w0 ws ih =>
         intro us os r p
         cases r with
         | @cons _ u0 _ us' r0 rt =>
           cases p with
           | @cons _ o0 _ os' p0 pt =>
             rw [List.any_cons, List.any_cons, ih _ _ rt pt]
             congr 1
             have hx : ∃ w o, PlV H w o /\ RelV w u0 := ⟨w0, o0, p0, r0⟩
             rw [dif_pos hx]
             have sp := hx.choose_spec.choose_spec
             have := one _ _ _ _ u0 sp.1 p0 sp.2 r0
             rw [this]
     exact gen _ _ _ rv pl
 obtain ⟨f, hf, hany⟩ := pick
 refine SeqAt.in_listAt f ⟨_, e, rfl, n, rfl⟩ (fun w hw => hf w (by simpa using hw)) ⟨.bl _, H, I, rfl, ?_⟩
 rw [show its.toArray.any f = its.any f by simp, hany]
 exact q
end
section
variable {X : Cx}
end
section
variable {X : Cx} {elt iter : Expr} {x : Str} {px pos : Pos} {ifs : List Expr} {scope : Scope} {ci : List Nat} {caps : List Str} {wi : TI} {tt : TT} {te : TE}
end
def DEq (H : Hp) : Nat -> V -> V -> Prop
 | 0, x, y => x = y /\ plainV x = true
 | n + 1, x, y => (x = y /\ plainV x = true) \/ ∃ (a b : Addr) (xs ys : List V), x = .ref a /\ y = .ref b /\ ((H a = some (.lst xs) /\ H b = some (.lst ys)) \/ (H a = some (.tup xs) /\ H b = some (.tup ys))) /\ xs.length = ys.length /\ ∀ (j : Nat) (u v : V), xs[j]? = some u -> ys[j]? = some v -> DEq H n u v
theorem yQv {xs : List V} {us : List Value} (r : Vals xs us) {j : Nat} (h : j < us.toArray.size) : ∃ x, xs[j]? = some x /\ RelV x us.toArray[j] := by
 rw [List.size_toArray] at h
 have hj : j < xs.length := by rw [r.length]; exact h
 obtain ⟨u, e1, q1⟩ := r.get (i := j) (x := xs[j]) (by simp [hj])
 refine ⟨xs[j], by simp [hj], ?_⟩
 have := (List.getElem?_eq_some_iff.mp e1).2
 have z : us.toArray[j] = u := by simpa using this
 rw [z]; exact q1
section
variable {X : Cx} {pins : List (Addr × Obj)} {σ : St} {H : Hp} {s : Shared}
theorem xZq (I : Inv X pins σ H s) : ∀ (n : Nat) {x y : V} {u u' : Value} {A : Around}, DEq H n x y -> RelV x u -> RelV y u' -> A.units + n < cLine -> SeqAt.EqAt A s u u' true
 | 0, x, y, u, u', A, h, rx, ry, hu => by
   obtain ⟨rfl, hp⟩ := h
   exact wWz rx ry hp
 | n + 1, x, y, u, u', A, h, rx, ry, hu => by
   rcases h with ⟨rfl, hp⟩ | ⟨a, b, xs, ys, rfl, rfl, h, hl, hd⟩
   . exact wWz rx ry hp
   cases (show u = Value.ref a from rx)
   cases (show u' = Value.ref b from ry)
   by_cases hab : a = b
   . subst hab
     exact SeqAt.EqAt.same _
   have hu1 : A.in1.units + n < cLine := by show A.units + 1 + n < cLine; omega
   rcases h with ⟨ha, hb⟩ | ⟨ha, hb⟩
   . obtain ⟨its, r1, p1, _⟩ := I.list (SqL.of ha)
     obtain ⟨its', r2, p2, _⟩ := I.list (SqL.of hb)
     have z := SeqAt.RcAt.lists (A := A) (e := fun _ => true) p1.isList p2.isList (by rw [List.size_toArray, List.size_toArray, <- r1.length, <- r2.length, hl]) (by omega) fun j h1 h2 => by
       obtain ⟨x, ex, qx⟩ := yQv r1 h1
       obtain ⟨y, ey, qy⟩ := yQv r2 h2
       exact xZq I n (hd j x y ex ey) qx qy hu1
     rw [xZj] at z
     exact .of_refs hab z
   . obtain ⟨its, r1, p1, _⟩ := I.tuple (SqT.of ha)
     obtain ⟨its', r2, p2, _⟩ := I.tuple (SqT.of hb)
     have z := SeqAt.RcAt.tuples (A := A) (e := fun _ => true) p1 p2 (by omega) fun j h1 h2 => by
       obtain ⟨x, ex, qx⟩ := yQv r1 h1
       obtain ⟨y, ey, qy⟩ := yQv r2 h2
       exact xZq I n (hd j x y ex ey) qx qy hu1
     have e : its.toArray.size = its'.toArray.size := by rw [List.size_toArray, List.size_toArray, <- r1.length, <- r2.length, hl]
     rw [xZj, e, beq_self_eq_true, Bool.and_self] at z
     exact .of_refs hab z
end
theorem all_int : ∀ {ms ns : List Int}, ms.length = ns.length -> ms ≠ ns -> ((List.range ms.length).all fun j => ms.getD j 0 == ns.getD j 0) = false := fun {ms ns} hl hn => by
 rw [<- Bool.not_eq_true]
 intro h
 rw [List.all_eq_true] at h
 refine hn (List.ext_getElem hl fun j h1 h2 => ?_)
 have := beq_iff_eq.mp (h j (List.mem_range.mpr h1))
 simpa [List.getD_eq_getElem?_getD, h1, h2] using this
def rNeX : R2 := fun x y H Q => (∃ (a b : Addr) (xs ys : List V), x = .ref a /\ y = .ref b /\ ((H a = some (.lst xs) /\ H b = some (.lst ys)) \/ (H a = some (.tup xs) /\ H b = some (.tup ys))) /\ xs.length = ys.length /\ (∀ (j : Nat) (u v : V), xs[j]? = some u -> ys[j]? = some v -> DEq H 4 u v) /\ Q (.bl false) H) \/
 (∃ (a b : Addr) (ms ns : List Int), x = .ref a /\ y = .ref b /\ H a = some (.lst (ms.map V.int)) /\ H b = some (.lst (ns.map V.int)) /\ ms.length = ns.length /\ ms ≠ ns /\ Q (.bl true) H)
theorem op_neX {X : Cx} (hu : X.A.units + 64 < cLine) : OpR X (compareOp .NotEq) rNeX := by
 intro pins s σ H x y v u Q I rx ry h
 rcases h with ⟨a, b, xs, ys, rfl, rfl, h, hl, hd, q⟩ | ⟨a, b, ms, ns, rfl, rfl, ha, hb, hl, hn, q⟩
 . cases (show v = Value.ref a from rx)
   cases (show u = Value.ref b from ry)
   have hu1 : X.A.in1.units + 4 < cLine := by show X.A.units + 1 + 4 < cLine; omega
   rcases h with ⟨ha, hb⟩ | ⟨ha, hb⟩
   . obtain ⟨its, r1, p1, _⟩ := I.list (SqL.of ha)
     obtain ⟨its', r2, p2, _⟩ := I.list (SqL.of hb)
     refine SeqAt.RcNeAt.lists (e := fun _ => true) p1.isList p2.isList (by rw [List.size_toArray, List.size_toArray, <- r1.length, <- r2.length, hl]) (by omega) (fun j h1 h2 => ?_) _ _ _ _ ?_
     . obtain ⟨x, ex, qx⟩ := yQv r1 h1
       obtain ⟨y, ey, qy⟩ := yQv r2 h2
       exact xZq I 4 (hd j x y ex ey) qx qy hu1
     . rw [xZj]
       exact ⟨.bl false, H, I, rfl, q⟩
   . obtain ⟨its, r1, p1, _⟩ := I.tuple (SqT.of ha)
     obtain ⟨its', r2, p2, _⟩ := I.tuple (SqT.of hb)
     refine SeqAt.RcNeAt.tuples (e := fun _ => true) p1 p2 (by omega) (fun j h1 h2 => ?_) _ _ _ _ ?_
     . obtain ⟨x, ex, qx⟩ := yQv r1 h1
       obtain ⟨y, ey, qy⟩ := yQv r2 h2
       exact xZq I 4 (hd j x y ex ey) qx qy hu1
     . have e : its.toArray.size = its'.toArray.size := by rw [List.size_toArray, List.size_toArray, <- r1.length, <- r2.length, hl]
       rw [xZj, e]
       exact ⟨.bl false, H, I, by simp; rfl, q⟩
 . cases (show v = Value.ref a from rx)
   cases (show u = Value.ref b from ry)
   obtain ⟨its, r1, p1, _⟩ := I.list (SqL.of ha)
   obtain ⟨its', r2, p2, _⟩ := I.list (SqL.of hb)
   have l1 : its.toArray.size = ms.length := by rw [List.size_toArray, <- r1.length, List.length_map]
   refine SeqAt.RcNeAt.lists (e := fun j => ms.getD j 0 == ns.getD j 0) p1.isList p2.isList (by rw [List.size_toArray, List.size_toArray, <- r1.length, <- r2.length, List.length_map, List.length_map, hl]) (by omega) (fun j h1 h2 => ?_) _ _ _ _ ?_
   . obtain ⟨x, ex, qx⟩ := yQv r1 h1
     obtain ⟨y, ey, qy⟩ := yQv r2 h2
     rw [List.getElem?_map] at ex ey
     cases e1 : ms[j]? with
     | none => rw [e1] at ex; cases ex
     | some m =>
       cases e2 : ns[j]? with
       | none => rw [e2] at ey; cases ey
       | some n =>
         rw [e1] at ex
         rw [e2] at ey
         cases ex
         cases ey
         rw [List.getD_eq_getElem?_getD, List.getD_eq_getElem?_getD, e1, e2]
         have := eqAt_V (A := X.A.in1) (s := s) (x := .int n) (y := .int m) qx qy rfl rfl
         simpa [eqV] using this
   . rw [l1, all_int hl hn]
     exact ⟨.bl true, H, I, rfl, q⟩
section
variable {X : Cx}
end
def gallop' : Bool -> Keyed -> Array Keyed -> Nat -> Nat -> Nat -> StateT SortSt Sem (Option Nat) := sortPriv% PySem.Builtin.gallop
def mergeLo' : Array Keyed -> Array Keyed -> StateT SortSt Sem (Array Keyed) := sortPriv% PySem.Builtin.mergeLo
def mergeHi' : Array Keyed -> Array Keyed -> StateT SortSt Sem (Array Keyed) := sortPriv% PySem.Builtin.mergeHi
abbrev setGallop (st : SortSt) (g : Nat) : SortSt := SortSt.mk' (kindOf st) (arrOf st) (pendingOf st) g (failedOf st)
def beyond' (left : Bool) (key : Keyed) (arr : Array Keyed) (base i : Nat) : StateT SortSt Sem (Option Bool) := do
 let x <- elem' arr (base + i)
 if left then lt' x key else return (<- lt' key x).map (!·)
theorem gallop'_eq (left : Bool) (key : Keyed) (arr : Array Keyed) (base n hint : Nat) : gallop' left key arr base n hint = (do
 let mut lastofs := 0
 let mut ofs := 1
 let mut lo := 0
 let mut hi := 0
 let some right <- beyond' left key arr base hint | return none
 if right then
   let maxofs := n - hint
   for _ in [0:n] do
     if ofs ≥ maxofs then break
     let some more <- beyond' left key arr base (hint + ofs) | return none
     if !more then break
     lastofs := ofs
     ofs := 2 * ofs + 1
   lo := hint + lastofs + 1
   hi := hint + min ofs maxofs
 else
   let maxofs := hint + 1
   for _ in [0:n] do
     if ofs ≥ maxofs then break
     let some found <- beyond' left key arr base (hint - ofs) | return none
     if found then break
     lastofs := ofs
     ofs := 2 * ofs + 1
   lo := hint + 1 - min ofs maxofs
   hi := hint - lastofs
 for _ in [0:n] do
   if lo ≥ hi then break
   let m := lo + (hi - lo) / 2
   let some more <- beyond' left key arr base m | return none
   if more then lo := m + 1 else hi := m
 return some hi) := rfl
theorem mergeAt'_eq (i : Nat) : mergeAt' i = (do
 let s <- get
 let (some (sa, na, power), some (sb, nb, _)) := ((pendingOf s)[i]?, (pendingOf s)[i + 1]?) | unsupported "internal:list.sort.pending"
 set (setPending s (((pendingOf s).setIfInBounds i (sa, na + nb, power)).eraseIdxIfInBounds (i + 1)))
 let some k <- gallop' false (<- elem' (arrOf s) sb) (arrOf s) sa na 0 | return false
 let (sa, na) := (sa + k, na - k)
 if na == 0 then return true
 let some nb <- gallop' true (<- elem' (arrOf s) (sa + na - 1)) (arrOf s) sb nb (nb - 1) | return false
 if nb == 0 then return true
 let x := (arrOf s).extract sa sb
 let y := (arrOf s).extract sb (sb + nb)
 let merged <- if na <= nb then mergeLo' x y else mergeHi' x y
 modify fun s => setArr s (merged.toList.zipIdx.foldl (fun a (p, j) => a.setIfInBounds (sa + j) p) (arrOf s))
 return (failedOf (<- get)).isNone) := rfl
variable {k : SortKind} {z : Array Keyed} {f : Value -> Int}
def OrcE (prog : Program) (w : World) (A : Around) (E : Value -> Shared -> Prop) (s : Shared) (k : SortKind) (z : Array Keyed) (f : Value -> Int) : Prop :=
 ∀ (t : SortSt) (x y : Keyed) (Q : Option Bool -> SortSt -> Prop), kindOf t = k -> x ∈ z.toList -> y ∈ z.toList -> f x.1 ≠ f y.1 -> Q (some (decide (f x.1 < f y.1))) t -> wpS (model prog w) A E s (lt' x y) Q t
section
variable {prog : Program} {w : World} {A : Around} {E : Value -> Shared -> Prop} {s : Shared}
theorem wp_beyond {t : SortSt} {left : Bool} {key x : Keyed} {arr : Array Keyed} {base i : Nat} {Q : Option Bool -> SortSt -> Prop} (O : OrcE prog w A E s k z f) (hk : kindOf t = k) (e : arr[base + i]? = some x) (hx : x ∈ z.toList) (hy : key ∈ z.toList) (ne : f x.1 ≠ f key.1)
   (h : Q (some (decide (f x.1 < f key.1))) t) : wpS (model prog w) A E s (beyond' left key arr base i) Q t := by
 unfold beyond'
 rw [elem'_eq, e]
 refine wpS_bind (wpS_pure ?_)
 cases left with
 | true =>
   simp only [if_true]
   exact O t x key Q hk hx hy ne h
 | false =>
   simp only [Bool.false_eq_true, if_false]
   refine wpS_bind (O t key x _ hk hy hx (Ne.symm ne) (wpS_pure ?_))
   have : (!decide (f key.1 < f x.1)) = decide (f x.1 < f key.1) := by
     by_cases l : f x.1 < f key.1
     . rw [decide_eq_true l, decide_eq_false (by omega)]; rfl
     . rw [decide_eq_false l, decide_eq_true (by omega)]; rfl
   simp only [Option.map_some, this]
   exact h
theorem yWx {t : SortSt} {left : Bool} {key : Keyed} {arr : Array Keyed} {base n hint b : Nat} {Q : Option Nat -> SortSt -> Prop} (O : OrcE prog w A E s k z f) (hk : kindOf t = k) (hy : key ∈ z.toList)
   (ha : ∀ i, i < n -> ∃ x, arr[base + i]? = some x /\ x ∈ z.toList /\ f x.1 ≠ f key.1 /\ (f x.1 < f key.1 ↔ i < b)) (hb : b <= n) (hh : hint < n) (h : Q (some b) t) : wpS (model prog w) A E s (gallop' left key arr base n hint) Q t := by
 have ask : ∀ (i : Nat) (Q : Option Bool -> SortSt -> Prop), i < n -> Q (some (decide (i < b))) t -> wpS (model prog w) A E s (beyond' left key arr base i) Q t := fun i Q hi q => by
   obtain ⟨x, e, hx, ne, iff⟩ := ha i hi
   refine wp_beyond O hk e hx hy ne ?_
   rwa [decide_eq_decide.mpr iff]
 rw [gallop'_eq]
 refine wpS_bind (ask hint _ hh ?_)
 by_cases right : hint < b
 . simp only [right, decide_true, if_true]
   refine wpS_bind (wpS_mono (wpS_forRange (I := fun x c t' => t = t' /\ ∃ l o, c = (none, l, o) /\ l < o /\ hint + l < b /\ x + 1 <= o) (Q := fun c t' => t = t' /\ ∃ l o, c = (none, l, o) /\ l < o /\ hint + l < b /\ (o ≥ n - hint \/ b <= hint + o)) ?_ ?_ ⟨rfl, 0, 1, rfl, by omega, by omega, by omega⟩) ?_)
   . rintro x c t' _ hx ⟨rfl, l, o, rfl, q1, q2, q3⟩
     dsimp only
     by_cases ge : o ≥ n - hint
     . rw [if_pos ge]
       exact wpS_pure ⟨rfl, l, o, rfl, q1, q2, .inl ge⟩
     . rw [if_neg ge]
       refine wpS_bind (ask (hint + o) _ (by omega) ?_)
       by_cases ls : hint + o < b
       . simp only [ls, decide_true, Bool.not_true, Bool.false_eq_true, if_false]
         exact wpS_pure ⟨rfl, o, 2 * o + 1, rfl, by omega, ls, by omega⟩
       . simp only [ls, decide_false, Bool.not_false, if_true]
         exact wpS_pure ⟨rfl, l, o, rfl, q1, q2, .inr (by omega)⟩
   . rintro c t' ⟨rfl, l, o, rfl, q1, q2, q3⟩
     exact ⟨rfl, l, o, rfl, q1, q2, .inl (by omega)⟩
   . rintro c t' ⟨rfl, l, o, rfl, q1, q2, q3⟩
     dsimp only
     refine wpS_bind (wpS_mono (wpS_forRange (I := fun x c t' => t = t' /\ ∃ l r, c = (none, l, r) /\ l <= b /\ b <= r /\ r <= n /\ r - l <= n - x) (Q := fun c t' => t = t' /\ ∃ l, c = (none, l, b)) ?_ ?_ ⟨rfl, _, _, rfl, by omega, by omega, by omega, by omega⟩) ?_)
     . rintro x c t' _ hx ⟨rfl, l, r, rfl, q1, q2, q3, q4⟩
       dsimp only
       by_cases ge : l ≥ r
       . rw [if_pos ge]
         exact wpS_pure ⟨rfl, l, by rw [show r = b by omega]⟩
       . rw [if_neg ge]
         refine wpS_bind (ask (l + (r - l) / 2) _ (by omega) ?_)
         by_cases ls : l + (r - l) / 2 < b
         . simp only [ls, decide_true, if_true]
           exact wpS_pure ⟨rfl, _, _, rfl, by omega, q2, q3, by omega⟩
         . simp only [ls, decide_false, Bool.false_eq_true, if_false]
           exact wpS_pure ⟨rfl, _, _, rfl, q1, by omega, by omega, by omega⟩
     . rintro c t' ⟨rfl, l, r, rfl, q1, q2, q3, q4⟩
       exact ⟨rfl, l, by rw [show r = b by omega]⟩
     . rintro c t' ⟨rfl, l, rfl⟩
       exact wpS_pure h
 . simp only [right, decide_false, Bool.false_eq_true, if_false]
   refine wpS_bind (wpS_mono (wpS_forRange (I := fun x c t' => t = t' /\ ∃ l o, c = (none, l, o) /\ l < o /\ l <= hint /\ b <= hint - l /\ x + 1 <= o) (Q := fun c t' => t = t' /\ ∃ l o, c = (none, l, o) /\ l < o /\ l <= hint /\ b <= hint - l /\ (o ≥ hint + 1 \/ hint - o < b)) ?_ ?_ ⟨rfl, 0, 1, rfl, by omega, by omega, by omega, by omega⟩) ?_)
   . rintro x c t' _ hx ⟨rfl, l, o, rfl, q1, q2, q3, q4⟩
     dsimp only
     by_cases ge : o ≥ hint + 1
     . rw [if_pos ge]
       exact wpS_pure ⟨rfl, l, o, rfl, q1, q2, q3, .inl ge⟩
     . rw [if_neg ge]
       refine wpS_bind (ask (hint - o) _ (by omega) ?_)
       by_cases ls : hint - o < b
       . simp only [ls, decide_true, if_true]
         exact wpS_pure ⟨rfl, l, o, rfl, q1, q2, q3, .inr ls⟩
       . simp only [ls, decide_false, Bool.false_eq_true, if_false]
         exact wpS_pure ⟨rfl, o, 2 * o + 1, rfl, by omega, by omega, by omega, by omega⟩
   . rintro c t' ⟨rfl, l, o, rfl, q1, q2, q3, q4⟩
     exact ⟨rfl, l, o, rfl, q1, q2, q3, .inl (by omega)⟩
   . rintro c t' ⟨rfl, l, o, rfl, q1, q2, q3, q4⟩
     dsimp only
     refine wpS_bind (wpS_mono (wpS_forRange (I := fun x c t' => t = t' /\ ∃ l r, c = (none, l, r) /\ l <= b /\ b <= r /\ r <= n /\ r - l <= n - x) (Q := fun c t' => t = t' /\ ∃ l, c = (none, l, b)) ?_ ?_ ⟨rfl, _, _, rfl, by omega, by omega, by omega, by omega⟩) ?_)
     . rintro x c t' _ hx ⟨rfl, l, r, rfl, q1, q2, q3, q4⟩
       dsimp only
       by_cases ge : l ≥ r
       . rw [if_pos ge]
         exact wpS_pure ⟨rfl, l, by rw [show r = b by omega]⟩
       . rw [if_neg ge]
         refine wpS_bind (ask (l + (r - l) / 2) _ (by omega) ?_)
         by_cases ls : l + (r - l) / 2 < b
         . simp only [ls, decide_true, if_true]
           exact wpS_pure ⟨rfl, _, _, rfl, by omega, q2, q3, by omega⟩
         . simp only [ls, decide_false, Bool.false_eq_true, if_false]
           exact wpS_pure ⟨rfl, _, _, rfl, q1, by omega, by omega, by omega⟩
     . rintro c t' ⟨rfl, l, r, rfl, q1, q2, q3, q4⟩
       exact ⟨rfl, l, by rw [show r = b by omega]⟩
     . rintro c t' ⟨rfl, l, rfl⟩
       exact wpS_pure h
end
def setMin' (g : Nat) : StateT SortSt Sem Unit := modify fun st => setGallop st g
theorem mergeLo'_eq (a b : Array Keyed) : mergeLo' a b = (do
 rule "list.sort.merge-lo"
 let total := a.size + b.size
 let done (out : Array Keyed) (ia ib : Nat) := out ++ a.extract ia a.size ++ b.extract ib b.size
 let lastOfA (out : Array Keyed) (ia ib : Nat) := out ++ b.extract ib b.size ++ a.extract ia a.size
 let mut out : Array Keyed := #[<- elem' b 0]
 let mut ia := 0
 let mut ib := 1
 if ib == b.size then return done out ia ib
 if ia + 1 == a.size then return lastOfA out ia ib
 let mut minGallop := gallopOf (<- get)
 for _ in [0:total] do
   let mut acount := 0
   let mut bcount := 0
   for _ in [0:total] do
     let some bWins <- lt' (<- elem' b ib) (<- elem' a ia) | return done out ia ib
     if bWins then
       out := out.push (<- elem' b ib); ib := ib + 1; bcount := bcount + 1; acount := 0
       if ib == b.size then return done out ia ib
       if bcount ≥ minGallop then break
     else
       out := out.push (<- elem' a ia); ia := ia + 1; acount := acount + 1; bcount := 0
       if ia + 1 == a.size then return lastOfA out ia ib
       if acount ≥ minGallop then break
   rule "list.sort.gallop"
   minGallop := minGallop + 1
   for _ in [0:total] do
     if minGallop > 1 then minGallop := minGallop - 1
     setMin' minGallop
     let some k <- gallop' false (<- elem' b ib) a ia (a.size - ia) 0 | return done out ia ib
     acount := k
     if k > 0 then
       out := out ++ a.extract ia (ia + k); ia := ia + k
       if ia + 1 == a.size then return lastOfA out ia ib
       if ia == a.size then return done out ia ib
     out := out.push (<- elem' b ib); ib := ib + 1
     if ib == b.size then return done out ia ib
     let some k <- gallop' true (<- elem' a ia) b ib (b.size - ib) 0 | return done out ia ib
     bcount := k
     if k > 0 then
       out := out ++ b.extract ib (ib + k); ib := ib + k
       if ib == b.size then return done out ia ib
     out := out.push (<- elem' a ia); ia := ia + 1
     if ia + 1 == a.size then return lastOfA out ia ib
     if acount < 7 && bcount < 7 then break
   minGallop := minGallop + 1
   setMin' minGallop
 unsupported "internal:list.sort.merge-bound") := rfl
variable {k : SortKind} {z : Array Keyed} {f : Value -> Int} {prog : Program} {w : World} {A : Around} {E : Value -> Shared -> Prop} {s : Shared}
theorem xQx {b : Array Keyed} {i : Nat} (h : i < b.size) : (b.extract 0 i).push b[i] = b.extract 0 (i + 1) := by
 apply Array.ext'
 simp [Array.toList_push, List.take_add_one, h]
theorem xWv {b : Array Keyed} {i j : Nat} (h : i <= j) : b.extract 0 i ++ b.extract i j = b.extract 0 j := by
 apply Array.ext'
 simp only [Array.toList_append, Array.toList_extract, List.extract_eq_drop_take, Nat.sub_zero, List.drop_zero]
 rw [show j = i + (j - i) by omega, List.take_add]
 simp
theorem xJq {b a : Array Keyed} : b.extract 0 b.size ++ a.extract 0 a.size ++ b.extract b.size b.size = b ++ a := by simp
theorem mergeLo_is {t : SortSt} {a b : Array Keyed} {Q : Array Keyed -> SortSt -> Prop} (O : OrcE prog w A E s k z f) (hk : kindOf t = k) (ha : ∀ x ∈ a.toList, x ∈ z.toList) (hb : ∀ x ∈ b.toList, x ∈ z.toList)
   (lt : ∀ x ∈ b.toList, ∀ y ∈ a.toList, f x.1 < f y.1) (a0 : 0 < a.size) (b0 : 0 < b.size) (h : ∀ g, Q (b ++ a) (setGallop t g)) : wpS (model prog w) A E s (mergeLo' a b) Q t := by
 rw [mergeLo'_eq]
 refine wpS_bind (wpS_lift (wpAny_rule ⟨rfl, ?_⟩))
 dsimp only
 rw [elem'_eq, getElem?_pos b 0 b0]
 refine wpS_bind (wpS_pure ?_)
 have f1 : #[b[0]] = b.extract 0 1 := by
   have := xQx b0
   rw [<- this]
   simp
 rw [f1]
 by_cases b1 : 1 = b.size
 . rw [if_pos (by simpa using b1)]
   refine wpS_pure ?_
   have e : b.extract 0 1 ++ a.extract 0 a.size ++ b.extract 1 b.size = b ++ a := by
     have e := xJq (b := b) (a := a)
     rw [<- b1] at e
     rw [<- b1]
     exact e
   show Q (b.extract 0 1 ++ a.extract 0 a.size ++ b.extract 1 b.size) t
   rw [e]
   exact h (gallopOf t)
 . rw [if_neg (by simpa using b1)]
   by_cases a1 : a.size = 1
   . rw [if_pos (by simpa using a1.symm)]
     refine wpS_pure ?_
     rw [xWv (by omega)]
     have := h (gallopOf t)
     have e : b.extract 0 b.size ++ a.extract 0 a.size = b ++ a := by simp
     rw [<- e] at this
     exact this
   . rw [if_neg (by simpa using fun z => a1 z.symm)]
     refine wpS_bind (wpS_get ?_)
     refine wpS_bind (wpS_mono (wpS_forRange (I := fun x c t' => t = t' /\ x = 0 /\ c = (none, b.extract 0 1, 0, 1, gallopOf t)) (Q := fun c t' => ∃ g, t' = setGallop t g /\ ∃ rest, c = (some (b ++ a), rest)) ?_ ?_ ⟨rfl, rfl, rfl⟩) ?_)
     . rintro x c t' _ hx ⟨rfl, rfl, rfl⟩
       dsimp only
       refine wpS_bind (wpS_mono (wpS_forRange (I := fun x c t' => t = t' /\ 1 + x < b.size /\ c = (none, b.extract 0 (1 + x), 0, 1 + x, 0, x)) (Q := fun c t' => t = t' /\ ((∃ rest, c = (some (b ++ a), rest)) \/ ∃ i bc, i < b.size /\ c = (none, b.extract 0 i, 0, i, 0, bc))) ?_ ?_ ⟨rfl, by omega, rfl⟩) ?_)
       . rintro x c t' _ hx ⟨rfl, h1, rfl⟩
         dsimp only
         rw [elem'_eq, getElem?_pos b (1 + x) h1, elem'_eq, getElem?_pos a 0 a0]
         refine wpS_bind (wpS_pure (wpS_bind (wpS_pure ?_)))
         have l0 := lt (b[1 + x]) (by simp) (a[0]) (by simp)
         refine wpS_bind (O t _ _ _ hk (hb _ (by simp)) (ha _ (by simp)) (Int.ne_of_lt l0) ?_)
         simp only [l0, decide_true, if_true]
         refine wpS_bind (wpS_pure ?_)
         rw [xQx h1]
         by_cases e1 : 1 + x + 1 = b.size
         . rw [if_pos (by simpa using e1)]
           exact wpS_pure ⟨rfl, .inl ⟨_, by rw [e1, xJq]⟩⟩
         . rw [if_neg (by simpa using e1)]
           split
           . exact wpS_pure ⟨rfl, .inr ⟨_, _, by omega, rfl⟩⟩
           . exact wpS_pure ⟨rfl, by omega, by rw [show 1 + x + 1 = 1 + (x + 1) by omega]⟩
       . rintro c t' ⟨rfl, h1, rfl⟩
         omega
       . rintro c t' ⟨rfl, ⟨rest, rfl⟩ | ⟨i, bc, hi, rfl⟩⟩
         . dsimp only
           exact wpS_pure ⟨gallopOf t, rfl, _, rfl⟩
         . dsimp only
           refine wpS_bind (wpS_lift (wpAny_rule ⟨rfl, ?_⟩))
           refine wpS_bind (wpS_mono (wpS_forRange (I := fun x c t' => t = t' /\ x = 0 /\ c = (none, b.extract 0 i, 0, i, gallopOf t + 1, 0, bc)) (Q := fun c t' => ∃ g, t' = setGallop t g /\ ∃ rest, c = (some (b ++ a), rest)) ?_ ?_ ⟨rfl, rfl, rfl⟩) ?_)
           . rintro x c t' _ hx ⟨rfl, rfl, rfl⟩
             dsimp only
             by_cases g1 : gallopOf t + 1 > 1
             . rw [if_pos g1]
               unfold setMin'
               refine wpS_bind (wpS_modify ?_)
               rw [elem'_eq, getElem?_pos b i hi]
               refine wpS_bind (wpS_pure ?_)
               refine wpS_bind (yWx (b := 0) O hk (hb _ (by simp)) (fun j hj => ⟨a[0 + j]'(by omega), getElem?_pos a (0 + j) (by omega), ha _ (by simp), Int.ne_of_gt (lt _ (by simp) _ (by simp)), fun q => absurd (lt b[i] (by simp) (a[0 + j]'(by omega)) (by simp)) (by omega), fun q => absurd q (Nat.not_lt_zero _)⟩) (Nat.zero_le _) (by omega) ?_)
               dsimp only
               rw [if_neg (by omega : ¬ 0 > 0)]
               refine wpS_bind (wpS_pure ?_)
               by_cases e1 : i + 1 = b.size
               . rw [if_pos (by simpa using e1)]
                 exact wpS_pure ⟨_, rfl, _, by rw [xQx hi, e1, xJq]⟩
               . rw [if_neg (by simpa using e1)]
                 rw [elem'_eq, getElem?_pos a 0 a0]
                 refine wpS_bind (wpS_pure ?_)
                 refine wpS_bind (yWx (b := b.size - (i + 1)) O hk (ha _ (by simp)) (fun j hj => ⟨b[i + 1 + j]'(by omega), getElem?_pos b (i + 1 + j) (by omega), hb _ (by simp), Int.ne_of_lt (lt _ (by simp) _ (by simp)), fun _ => hj, fun _ => lt _ (by simp) _ (by simp)⟩) (Nat.le_refl _) (by omega) ?_)
                 dsimp only
                 rw [if_pos (by omega), if_pos (by simp; omega)]
                 exact wpS_pure ⟨_, rfl, _, by rw [xQx hi, xWv (by omega), show i + 1 + (b.size - (i + 1)) = b.size by omega, xJq]⟩
             . rw [if_neg g1]
               unfold setMin'
               refine wpS_bind (wpS_modify ?_)
               rw [elem'_eq, getElem?_pos b i hi]
               refine wpS_bind (wpS_pure ?_)
               refine wpS_bind (yWx (b := 0) O hk (hb _ (by simp)) (fun j hj => ⟨a[0 + j]'(by omega), getElem?_pos a (0 + j) (by omega), ha _ (by simp), Int.ne_of_gt (lt _ (by simp) _ (by simp)), fun q => absurd (lt b[i] (by simp) (a[0 + j]'(by omega)) (by simp)) (by omega), fun q => absurd q (Nat.not_lt_zero _)⟩) (Nat.zero_le _) (by omega) ?_)
               dsimp only
               rw [if_neg (by omega : ¬ 0 > 0)]
               refine wpS_bind (wpS_pure ?_)
               by_cases e1 : i + 1 = b.size
               . rw [if_pos (by simpa using e1)]
                 exact wpS_pure ⟨_, rfl, _, by rw [xQx hi, e1, xJq]⟩
               . rw [if_neg (by simpa using e1)]
                 rw [elem'_eq, getElem?_pos a 0 a0]
                 refine wpS_bind (wpS_pure ?_)
                 refine wpS_bind (yWx (b := b.size - (i + 1)) O hk (ha _ (by simp)) (fun j hj => ⟨b[i + 1 + j]'(by omega), getElem?_pos b (i + 1 + j) (by omega), hb _ (by simp), Int.ne_of_lt (lt _ (by simp) _ (by simp)), fun _ => hj, fun _ => lt _ (by simp) _ (by simp)⟩) (Nat.le_refl _) (by omega) ?_)
                 dsimp only
                 rw [if_pos (by omega), if_pos (by simp; omega)]
                 exact wpS_pure ⟨_, rfl, _, by rw [xQx hi, xWv (by omega), show i + 1 + (b.size - (i + 1)) = b.size by omega, xJq]⟩
           . rintro c t' ⟨rfl, h1, rfl⟩
             omega
           . rintro c t' ⟨g, rfl, rest, rfl⟩
             dsimp only
             exact wpS_pure ⟨g, rfl, _, rfl⟩
     . rintro c t' ⟨rfl, h1, rfl⟩
       omega
     . rintro c t' ⟨g, rfl, rest, rfl⟩
       exact wpS_pure (h g)
theorem mergeHi'_eq (a b : Array Keyed) : mergeHi' a b = (do
 rule "list.sort.merge-hi"
 let total := a.size + b.size
 let done (out : Array Keyed) (na nb : Nat) := a.extract 0 na ++ b.extract 0 nb ++ out.reverse
 let firstOfB (out : Array Keyed) (na nb : Nat) := b.extract 0 nb ++ a.extract 0 na ++ out.reverse
 let mut na := a.size - 1
 let mut nb := b.size
 let mut out : Array Keyed := #[<- elem' a na]
 if na == 0 then return done out na nb
 if nb == 1 then return firstOfB out na nb
 let mut minGallop := gallopOf (<- get)
 for _ in [0:total] do
   let mut acount := 0
   let mut bcount := 0
   for _ in [0:total] do
     let some aWins <- lt' (<- elem' b (nb - 1)) (<- elem' a (na - 1)) | return done out na nb
     if aWins then
       na := na - 1; out := out.push (<- elem' a na); acount := acount + 1; bcount := 0
       if na == 0 then return done out na nb
       if acount ≥ minGallop then break
     else
       nb := nb - 1; out := out.push (<- elem' b nb); bcount := bcount + 1; acount := 0
       if nb == 1 then return firstOfB out na nb
       if bcount ≥ minGallop then break
   rule "list.sort.gallop"
   minGallop := minGallop + 1
   for _ in [0:total] do
     if minGallop > 1 then minGallop := minGallop - 1
     setMin' minGallop
     let some at_ <- gallop' false (<- elem' b (nb - 1)) a 0 na (na - 1) | return done out na nb
     let k := na - at_
     acount := k
     if k > 0 then
       out := out ++ (a.extract at_ na).reverse; na := at_
       if na == 0 then return done out na nb
     nb := nb - 1; out := out.push (<- elem' b nb)
     if nb == 1 then return firstOfB out na nb
     let some at_ <- gallop' true (<- elem' a (na - 1)) b 0 nb (nb - 1) | return done out na nb
     let k := nb - at_
     bcount := k
     if k > 0 then
       out := out ++ (b.extract at_ nb).reverse; nb := at_
       if nb == 1 then return firstOfB out na nb
       if nb == 0 then return done out na nb
     na := na - 1; out := out.push (<- elem' a na)
     if na == 0 then return done out na nb
     if acount < 7 && bcount < 7 then break
   minGallop := minGallop + 1
   setMin' minGallop
 unsupported "internal:list.sort.merge-bound") := rfl
variable {k : SortKind} {z : Array Keyed} {f : Value -> Int} {prog : Program} {w : World} {A : Around} {E : Value -> Shared -> Prop} {s : Shared}
theorem ext_rpush {a : Array Keyed} {i : Nat} (h : i < a.size) : (a.extract (i + 1) a.size).reverse.push a[i] = (a.extract i a.size).reverse := by
 apply Array.ext'
 simp only [Array.toList_push, Array.toList_reverse, Array.toList_extract, List.extract_eq_drop_take]
 rw [<- List.reverse_cons]
 congr 1
 have e1 : (a.toList.drop (i + 1)).take (a.size - (i + 1)) = a.toList.drop (i + 1) := List.take_of_length_le (by simp)
 have e2 : (a.toList.drop i).take (a.size - i) = a.toList.drop i := List.take_of_length_le (by simp)
 rw [e1, e2]
 rw [List.drop_eq_getElem_cons (i := i) (by simpa using h)]
 simp
theorem mergeHi_is {t : SortSt} {a b : Array Keyed} {Q : Array Keyed -> SortSt -> Prop} (O : OrcE prog w A E s k z f) (hk : kindOf t = k) (ha : ∀ x ∈ a.toList, x ∈ z.toList) (hb : ∀ x ∈ b.toList, x ∈ z.toList)
   (lt : ∀ x ∈ b.toList, ∀ y ∈ a.toList, f x.1 < f y.1) (a0 : 0 < a.size) (b0 : 0 < b.size) (h : ∀ g, Q (b ++ a) (setGallop t g)) : wpS (model prog w) A E s (mergeHi' a b) Q t := by
 rw [mergeHi'_eq]
 refine wpS_bind (wpS_lift (wpAny_rule ⟨rfl, ?_⟩))
 dsimp only
 rw [elem'_eq, getElem?_pos a (a.size - 1) (by omega)]
 refine wpS_bind (wpS_pure ?_)
 have f1 : #[a[a.size - 1]] = (a.extract (a.size - 1) a.size).reverse := by
   have e := ext_rpush (a := a) (i := a.size - 1) (by omega)
   rw [show a.size - 1 + 1 = a.size by omega] at e
   rw [<- e]
   simp
 rw [f1]
 have fin : ∀ i, i <= a.size -> a.extract 0 0 ++ b.extract 0 b.size ++ (a.extract 0 a.size).reverse.reverse = b ++ a := fun i _ => by simp
 by_cases a1 : a.size - 1 = 0
 . rw [if_pos (by simpa using a1)]
   refine wpS_pure ?_
   rw [a1, fin 0 (Nat.zero_le _)]
   exact h (gallopOf t)
 . rw [if_neg (by simpa using a1)]
   by_cases b1 : b.size = 1
   . rw [if_pos (by simpa using b1)]
     refine wpS_pure ?_
     have e : b.extract 0 b.size ++ a.extract 0 (a.size - 1) ++ (a.extract (a.size - 1) a.size).reverse.reverse = b ++ a := by
       rw [Array.reverse_reverse, Array.append_assoc, xWv (b := a) (i := a.size - 1) (j := a.size) (by omega)]
       simp
     rw [e]
     exact h (gallopOf t)
   . rw [if_neg (by simpa using b1)]
     refine wpS_bind (wpS_get ?_)
     refine wpS_bind (wpS_mono (wpS_forRange (I := fun x c t' => t = t' /\ x = 0 /\ c = (none, a.size - 1, b.size, (a.extract (a.size - 1) a.size).reverse, gallopOf t)) (Q := fun c t' => ∃ g, t' = setGallop t g /\ ∃ rest, c = (some (b ++ a), rest)) ?_ ?_ ⟨rfl, rfl, rfl⟩) ?_)
     . rintro x c t' _ hx ⟨rfl, rfl, rfl⟩
       dsimp only
       refine wpS_bind (wpS_mono (wpS_forRange (I := fun x c t' => t = t' /\ x + 1 < a.size /\ c = (none, a.size - 1 - x, b.size, (a.extract (a.size - 1 - x) a.size).reverse, x, 0)) (Q := fun c t' => t = t' /\ ((∃ rest, c = (some (b ++ a), rest)) \/ ∃ i ac, 0 < i /\ i < a.size /\ c = (none, i, b.size, (a.extract i a.size).reverse, ac, 0))) ?_ ?_ ⟨rfl, by omega, rfl⟩) ?_)
       . rintro x c t' _ hx ⟨rfl, h1, rfl⟩
         dsimp only
         rw [elem'_eq, getElem?_pos b (b.size - 1) (by omega), elem'_eq, getElem?_pos a (a.size - 1 - x - 1) (by omega)]
         refine wpS_bind (wpS_pure (wpS_bind (wpS_pure ?_)))
         have l0 := lt (b[b.size - 1]) (by simp) (a[a.size - 1 - x - 1]) (by simp)
         refine wpS_bind (O t _ _ _ hk (hb _ (by simp)) (ha _ (by simp)) (Int.ne_of_lt l0) ?_)
         simp only [l0, decide_true, if_true]
         refine wpS_bind (wpS_pure ?_)
         have ep : (a.extract (a.size - 1 - x) a.size).reverse.push (a[a.size - 1 - x - 1]'(by omega)) = (a.extract (a.size - 1 - x - 1) a.size).reverse := by
           have e := ext_rpush (a := a) (i := a.size - 1 - x - 1) (by omega)
           rw [show a.size - 1 - x - 1 + 1 = a.size - 1 - x by omega] at e
           exact e
         rw [ep]
         by_cases e1 : a.size - 1 - x - 1 = 0
         . rw [if_pos (by simpa using e1)]
           exact wpS_pure ⟨rfl, .inl ⟨_, by rw [e1, fin 0 (Nat.zero_le _)]⟩⟩
         . rw [if_neg (by simpa using e1)]
           split
           . exact wpS_pure ⟨rfl, .inr ⟨_, _, by omega, by omega, rfl⟩⟩
           . exact wpS_pure ⟨rfl, by omega, by rw [show a.size - 1 - x - 1 = a.size - 1 - (x + 1) by omega]⟩
       . rintro c t' ⟨rfl, h1, rfl⟩
         omega
       . rintro c t' ⟨rfl, ⟨rest, rfl⟩ | ⟨i, ac, i0, hi, rfl⟩⟩
         . dsimp only
           exact wpS_pure ⟨gallopOf t, rfl, _, rfl⟩
         . dsimp only
           refine wpS_bind (wpS_lift (wpAny_rule ⟨rfl, ?_⟩))
           have ef : a.extract 0 0 ++ b.extract 0 b.size ++ ((a.extract i a.size).reverse ++ (a.extract 0 i).reverse).reverse = b ++ a := by
             rw [Array.reverse_append, Array.reverse_reverse, Array.reverse_reverse, xWv (b := a) (by omega)]
             simp
           refine wpS_bind (wpS_mono (wpS_forRange (I := fun x c t' => t = t' /\ x = 0 /\ c = (none, i, b.size, (a.extract i a.size).reverse, gallopOf t + 1, ac, 0)) (Q := fun c t' => ∃ g, t' = setGallop t g /\ ∃ rest, c = (some (b ++ a), rest)) ?_ ?_ ⟨rfl, rfl, rfl⟩) ?_)
           . rintro x c t' _ hx ⟨rfl, rfl, rfl⟩
             dsimp only
             by_cases g1 : gallopOf t + 1 > 1
             . rw [if_pos g1]
               unfold setMin'
               refine wpS_bind (wpS_modify ?_)
               rw [elem'_eq, getElem?_pos b (b.size - 1) (by omega)]
               refine wpS_bind (wpS_pure ?_)
               refine wpS_bind (yWx (b := 0) O hk (hb _ (by simp)) (fun j hj => ⟨a[0 + j]'(by omega), getElem?_pos a (0 + j) (by omega), ha _ (by simp), Int.ne_of_gt (lt _ (by simp) _ (by simp)), fun q => absurd (lt b[b.size - 1] (by simp) (a[0 + j]'(by omega)) (by simp)) (by omega), fun q => absurd q (Nat.not_lt_zero _)⟩) (Nat.zero_le _) (by omega) ?_)
               dsimp only
               rw [if_pos (by omega), if_pos (by simp), show i - 0 = i by omega]
               exact wpS_pure ⟨_, rfl, _, by rw [ef]⟩
             . rw [if_neg g1]
               unfold setMin'
               refine wpS_bind (wpS_modify ?_)
               rw [elem'_eq, getElem?_pos b (b.size - 1) (by omega)]
               refine wpS_bind (wpS_pure ?_)
               refine wpS_bind (yWx (b := 0) O hk (hb _ (by simp)) (fun j hj => ⟨a[0 + j]'(by omega), getElem?_pos a (0 + j) (by omega), ha _ (by simp), Int.ne_of_gt (lt _ (by simp) _ (by simp)), fun q => absurd (lt b[b.size - 1] (by simp) (a[0 + j]'(by omega)) (by simp)) (by omega), fun q => absurd q (Nat.not_lt_zero _)⟩) (Nat.zero_le _) (by omega) ?_)
               dsimp only
               rw [if_pos (by omega), if_pos (by simp), show i - 0 = i by omega]
               exact wpS_pure ⟨_, rfl, _, by rw [ef]⟩
           . rintro c t' ⟨rfl, h1, rfl⟩
             omega
           . rintro c t' ⟨g, rfl, rest, rfl⟩
             dsimp only
             exact wpS_pure ⟨g, rfl, _, rfl⟩
     . rintro c t' ⟨rfl, h1, rfl⟩
       omega
     . rintro c t' ⟨g, rfl, rest, rfl⟩
       exact wpS_pure (h g)
variable {k : SortKind} {z : Array Keyed} {f : Value -> Int}
theorem bnd_of {g : Nat -> Int} {key : Int} : ∀ n, (∀ i j, i < j -> j < n -> g i < g j) -> ∃ b, b <= n /\ ∀ i, i < n -> (g i < key ↔ i < b)
 | 0, _ => ⟨0, Nat.le_refl _, fun i hi => absurd hi (Nat.not_lt_zero _)⟩
 | n + 1, h => by
   obtain ⟨b, hb, q⟩ := bnd_of n fun i j hij hj => h i j hij (by omega)
   by_cases l : g n < key
   . refine ⟨n + 1, Nat.le_refl _, fun i hi => ⟨fun _ => hi, fun _ => ?_⟩⟩
     by_cases e : i = n
     . rw [e]; exact l
     . exact Int.lt_trans (h i n (by omega) (by omega)) l
   . refine ⟨b, by omega, fun i hi => ?_⟩
     by_cases e : i = n
     . subst e; exact ⟨fun y => absurd y l, fun y => by omega⟩
     . exact q i (by omega)
section
variable {prog : Program} {w : World} {A : Around} {E : Value -> Shared -> Prop} {s : Shared}
theorem turned2 {t : SortSt} {a n : Nat} {Q : Option Nat -> SortSt -> Prop} (O : Orc prog w A E s k z f) (nd : NDk f z) (hn : n <= z.size) (h1 : 1 <= a) (ha : a <= n) (B : SB k z t) (u : Dn f (arrOf t) a)
   (h : ∀ m t', SB k z t' -> a <= m -> m <= n -> Up f (arrOf t') m -> (∀ j, m <= j -> (arrOf t')[j]? = (arrOf t)[j]?) -> Q (some m) t') : wpS (model prog w) A E s (tail3 a n) Q t := by
 unfold tail3
 have hz : a <= (arrOf t).size := by rw [B.sz]; omega
 refine wpS_bind (wpS_reverse ?_)
 have B' : SB k z (setArr t (mirror (arrOf t) 0 a ((a - 0) / 2))) := B.arr (mirror_perm _ _ _ _)
 refine wpS_bind (up_loop O nd hn h1 ha B' (fun i j hij hj => ?_) fun m m1 m2 um _ => wpS_pure (h m _ B' m1 m2 um fun j hj => by
   show (mirror (arrOf t) 0 a ((a - 0) / 2))[j]? = _
   rw [getElem?_mirror_all (xs := arrOf t) (i := 0) hz j, if_neg (by omega)]))
 show ky f (mirror (arrOf t) 0 a ((a - 0) / 2)) i < ky f (mirror (arrOf t) 0 a ((a - 0) / 2)) j
 have e1 := getElem?_mirror_all (xs := arrOf t) (i := 0) hz i
 have e2 := getElem?_mirror_all (xs := arrOf t) (i := 0) hz j
 rw [if_pos (by omega)] at e1 e2
 rw [ky_of e1, ky_of e2]
 exact u _ _ (by omega) (by omega)
theorem down_part2 {t : SortSt} {a n : Nat} {Q : Option Nat -> SortSt -> Prop} (O : Orc prog w A E s k z f) (nd : NDk f z) (hn : n <= z.size) (ha : a + 1 <= n) (B : SB k z t) (u : Dn f (arrOf t) (a + 1))
   (h : ∀ m t', SB k z t' -> 1 <= m -> m <= n -> Up f (arrOf t') m -> (∀ j, m <= j -> (arrOf t')[j]? = (arrOf t)[j]?) -> Q (some m) t') : wpS (model prog w) A E s (descPart a n) Q t := by
 unfold descPart
 refine wpS_bind (wpS_lift (wpAny_rule ⟨rfl, ?_⟩))
 refine wpS_bind (dn_loop O nd hn (by omega) ha B u fun m m1 m2 um => ?_)
 dsimp only
 rw [if_neg (by omega)]
 exact turned2 O nd hn (by omega) m2 B um fun m' t' B' h1 h2 u' e => h m' t' B' (by omega) h2 u' e
theorem run_of2 {t : SortSt} {n u0 : Nat} {Q : Option Nat -> SortSt -> Prop} (O : Orc prog w A E s k z f) (nd : NDk f z) (hn : n <= z.size) (h1 : 1 <= n) (B : SB k z t) (hu : u0 <= n) (uu : Up f (arrOf t) u0)
   (h : ∀ m t', SB k z t' -> 1 <= m -> m <= n -> u0 <= m -> Up f (arrOf t') m -> (∀ j, m <= j -> (arrOf t')[j]? = (arrOf t)[j]?) -> Q (some m) t') : wpS (model prog w) A E s (countRun' 0 n) Q t := by
 rw [countRun0_eq]
 refine wpS_bind (up_loop O nd hn (Nat.le_refl 1) h1 B (fun i j hij hj => by omega) fun m m1 m2 um hor => ?_)
 dsimp only
 by_cases e : m = n
 . rw [if_pos (by simpa using e)]
   exact wpS_pure (h m t B m1 m2 (by omega) um fun _ _ => rfl)
 . rw [if_neg (by simpa using e)]
   have lt := hor.resolve_left e
   have um0 : u0 <= m := by
     apply Classical.byContradiction
     intro zz
     have := uu (m - 1) m (by omega) (by omega)
     omega
   by_cases g : m > 1
   . rw [if_pos g]
     refine wpS_bind (O t 0 (m - 1) _ B (by omega) (by omega) (by omega) ?_)
     have ro := um 0 (m - 1) (by omega) (by omega)
     simp only [ro, decide_true, if_true]
     exact wpS_pure (h m t B m1 m2 um0 um fun _ _ => rfl)
   . rw [if_neg g]
     obtain rfl : m = 1 := by omega
     refine down_part2 O nd hn (by omega) B (fun i j hij hj => ?_) fun m' t' B' h1 h2 u' e => h m' t' B' h1 h2 (by omega) u' e
     obtain rfl : i = 0 := by omega
     obtain rfl : j = 1 := by omega
     exact lt
theorem put_in2 {t : SortSt} {n ok : Nat} {Q : Bool -> SortSt -> Prop} (O : Orc prog w A E s k z f) (nd : NDk f z) (hn : n <= z.size) (hok : ok <= n) (B : SB k z t) (u : Up f (arrOf t) ok)
   (h : ∀ t', SB k z t' -> Up f (arrOf t') n -> (∀ j, n <= j -> (arrOf t')[j]? = (arrOf t)[j]?) -> Q true t') : wpS (model prog w) A E s (binarySort' 0 n ok) Q t := by
 rw [binarySort'_eq]
 simp only [Nat.zero_add]
 refine wpS_bind (wpS_mono (wpS_forRange (I := fun x c t' => c = (none, ()) /\ SB k z t' /\ Up f (arrOf t') (min x n) /\ ∀ j, n <= j -> (arrOf t')[j]? = (arrOf t)[j]?) (Q := fun c t' => c = (none, ()) /\ SB k z t' /\ Up f (arrOf t') n /\ ∀ j, n <= j -> (arrOf t')[j]? = (arrOf t)[j]?) ?_ ?_ ?_) ?_)
 . rintro x c t' hx hxn ⟨rfl, B', u', kp⟩
   rw [show min x n = x by omega] at u'
   have hxz : x < z.size := by omega
   refine wpS_bind (wpS_mono (wpS_forRange (I := fun y c t2 => t2 = t' /\ ∃ l r, c = (none, l, r) /\ l <= r /\ r <= x /\ r - l <= x - y /\ (∀ i, i < l -> ky f (arrOf t') i < ky f (arrOf t') x) /\ ∀ i, r <= i -> i < x -> ky f (arrOf t') x < ky f (arrOf t') i)
     (Q := fun c t2 => t2 = t' /\ ∃ l r, c = (none, l, r) /\ l <= x /\ (∀ i, i < l -> ky f (arrOf t') i < ky f (arrOf t') x) /\ ∀ i, l <= i -> i < x -> ky f (arrOf t') x < ky f (arrOf t') i) ?_ ?_ ?_) ?_)
   . rintro y c t2 _ hy ⟨rfl, l, r, rfl, q1, q2, q3, q4, q5⟩
     dsimp only
     by_cases ge : l ≥ r
     . rw [if_pos ge]
       obtain rfl : l = r := by omega
       exact wpS_pure ⟨rfl, l, l, rfl, q2, q4, q5⟩
     . rw [if_neg ge]
       have nn := B'.ne nd (i := x) (j := (l + r) / 2) hxz (by omega) (by omega)
       refine wpS_bind (O _ x ((l + r) / 2) _ B' hxz (by omega) (by omega) ?_)
       by_cases ls : ky f (arrOf t2) x < ky f (arrOf t2) ((l + r) / 2)
       . simp only [ls, decide_true, if_true]
         refine wpS_pure ⟨rfl, l, (l + r) / 2, rfl, by omega, by omega, by omega, q4, fun i i1 i2 => ?_⟩
         by_cases hi : i = (l + r) / 2
         . subst hi; exact ls
         . exact Int.lt_trans ls (u' _ _ (by omega) i2)
       . simp only [ls, decide_false, Bool.false_eq_true, if_false]
         refine wpS_pure ⟨rfl, (l + r) / 2 + 1, r, rfl, by omega, by omega, by omega, fun i i1 => ?_, q5⟩
         by_cases hi : i = (l + r) / 2
         . subst hi; omega
         . have := u' i ((l + r) / 2) (by omega) (by omega)
           omega
   . rintro c t2 ⟨rfl, l, r, rfl, q1, q2, q3, q4, q5⟩
     obtain rfl : l = r := by omega
     exact ⟨rfl, l, l, rfl, q2, q4, q5⟩
   . exact ⟨rfl, 0, x, rfl, by omega, by omega, by omega, fun i hi => by omega, fun i i1 i2 => by omega⟩
   . rintro c t2 ⟨rfl, l, r, rfl, q2, q4, q5⟩
     show wpS _ _ _ _ (do moveDown' x l; pure (ForInStep.yield (none, ()))) _ _
     rw [moveDown'_eq]
     have hs : x < (arrOf t2).size := by rw [B'.sz]; exact hxz
     refine wpS_bind (wpS_modify (wpS_pure ⟨rfl, B'.arr (bubble_perm _ _ _), ?_, fun j hj => by
       show (bubble (arrOf t2) x (x - l))[j]? = _
       rw [getElem?_bubble hs (x - l) (by omega) j, if_neg (by omega), if_neg (by omega)]
       exact kp j hj⟩))
     rw [show min (x + 1) n = x + 1 by omega]
     intro i j hij hj
     show ky f (bubble (arrOf t2) x (x - l)) i < ky f (bubble (arrOf t2) x (x - l)) j
     rw [ky_bubble hs (by omega), ky_bubble hs (by omega), show x - (x - l) = l by omega]
     repeat' split
     all_goals first
       | (exfalso; omega)
       | exact q4 _ (by omega)
       | exact q5 _ (by omega) (by omega)
       | exact u' _ _ (by omega) (by omega)
 . rintro c t' ⟨hc, B', u', kp⟩
   refine ⟨hc, B', ?_, kp⟩
   rwa [show min (max (max ok 1) n) n = n by omega] at u'
 . refine ⟨rfl, B, fun i j hij hj => ?_, fun _ _ => rfl⟩
   exact u i j hij (by omega)
 . rintro c t' ⟨rfl, B', u', kp⟩
   exact wpS_pure (h t' B' u' kp)
end
theorem countRun'_eq (lo nrem : Nat) : countRun' lo nrem = (do
 let mut n := 1
 for _ in [1:nrem] do
   let some smaller <- ltAt' (lo + n) (lo + n - 1) | return none
   if smaller then break
   n := n + 1
 if n == nrem then return some n
 if n > 1 then
   let some rose <- ltAt' lo (lo + n - 1) | return none
   if rose then return some n
   reverseSlice' lo (lo + n)
 rule "list.sort.descending-run"
 n := n + 1
 let mut neq := 0
 for _ in [n:nrem] do
   let some smaller <- ltAt' (lo + n) (lo + n - 1) | return none
   if smaller then
     if neq > 0 then reverseSlice' (lo + n - (neq + 1)) (lo + n)
     neq := 0
   else
     let some larger <- ltAt' (lo + n - 1) (lo + n) | return none
     if larger then break
     neq := neq + 1
   n := n + 1
 if neq > 0 then reverseSlice' (lo + n - (neq + 1)) (lo + n)
 reverseSlice' lo (lo + n)
 for _ in [n:nrem] do
   let some smaller <- ltAt' (lo + n) (lo + n - 1) | return none
   if smaller then break
   n := n + 1
 return some n) := rfl
variable {k : SortKind} {z : Array Keyed} {f : Value -> Int}
structure SC (k : SortKind) (z : Array Keyed) (t : SortSt) : Prop where
 pm : (arrOf t).Perm z
 kd : kindOf t = k
 fl : failedOf t = none
theorem SC.sz {t : SortSt} (h : SC k z t) : (arrOf t).size = z.size := h.pm.size_eq
theorem SB.sc {t : SortSt} (h : SB k z t) : SC k z t := ⟨h.pm, h.kd, h.fl⟩
theorem SC.ne {t : SortSt} (h : SC k z t) (nd : NDk f z) {i j : Nat} (hi : i < z.size) (hj : j < z.size) (n : i ≠ j) : ky f (arrOf t) i ≠ ky f (arrOf t) j :=
 SB.ne (t := SortSt.mk' (kindOf t) (arrOf t) #[] (gallopOf t) (failedOf t)) ⟨h.pm, h.kd, h.fl, rfl⟩ nd hi hj n
theorem SC.at {t : SortSt} (h : SC k z t) {i : Nat} (hi : i < z.size) : ∃ p, (arrOf t)[i]? = some p /\ p ∈ z.toList /\ f p.1 = ky f (arrOf t) i := by
 have hi' : i < (arrOf t).size := by rw [h.sz]; exact hi
 refine ⟨(arrOf t)[i], getElem?_pos _ i hi', (Array.perm_iff_toList_perm.mp h.pm).mem_iff.mp (by simp), ?_⟩
 unfold ky
 rw [getElem?_pos _ i hi']
 rfl
section
variable {prog : Program} {w : World} {A : Around} {E : Value -> Shared -> Prop} {s : Shared}
theorem lt_at {t : SortSt} {i j : Nat} {Q : Option Bool -> SortSt -> Prop} (O : OrcE prog w A E s k z f) (nd : NDk f z) (C : SC k z t) (hi : i < z.size) (hj : j < z.size) (n : i ≠ j) (h : Q (some (decide (ky f (arrOf t) i < ky f (arrOf t) j))) t) : wpS (model prog w) A E s (ltAt' i j) Q t := by
 obtain ⟨p, e1, m1, k1⟩ := C.at (f := f) hi
 obtain ⟨q, e2, m2, k2⟩ := C.at (f := f) hj
 have nn := C.ne nd hi hj n
 rw [<- k1, <- k2] at nn h
 rw [ltAt'_eq]
 refine wpS_bind (wpS_get ?_)
 show wpS _ _ _ _ (elem' (arrOf t) i >>= fun c => elem' (arrOf t) j >>= fun d => lt' c d) Q t
 rw [elem'_eq, elem'_eq, e1, e2]
 refine wpS_bind (wpS_pure (wpS_bind (wpS_pure ?_)))
 exact O t p q Q C.kd m1 m2 nn h
theorem orc_of (O : OrcE prog w A E s k z f) (nd : NDk f z) : Orc prog w A E s k z f := fun t i j Q B hi hj n h => lt_at O nd B.sc hi hj n h
theorem run_rest {t : SortSt} {lo nrem : Nat} {Q : Option Nat -> SortSt -> Prop} (O : OrcE prog w A E s k z f) (nd : NDk f z) (C : SC k z t) (hz : lo + nrem <= z.size) (h1 : 1 <= nrem)
   (up : ∀ i j, lo <= i -> i < j -> j < lo + nrem -> ky f (arrOf t) i < ky f (arrOf t) j) (h : Q (some nrem) t) : wpS (model prog w) A E s (countRun' lo nrem) Q t := by
 rw [countRun'_eq]
 refine wpS_bind (wpS_mono (wpS_forRange (I := fun x c t' => t = t' /\ c = (none, x)) (Q := fun c t' => t = t' /\ c = (none, nrem)) ?_ ?_ ⟨rfl, rfl⟩) ?_)
 . rintro x c t' hx hxn ⟨rfl, rfl⟩
   dsimp only
   refine wpS_bind (lt_at O nd C (by omega) (by omega) (by omega) ?_)
   have := up (lo + x - 1) (lo + x) (by omega) (by omega) (by omega)
   simp only [show ¬ ky f (arrOf t) (lo + x) < ky f (arrOf t) (lo + x - 1) by omega, decide_false, Bool.false_eq_true, if_false]
   exact wpS_pure ⟨rfl, rfl⟩
 . rintro c t' ⟨rfl, rfl⟩
   exact ⟨rfl, by rw [show max 1 nrem = nrem by omega]⟩
 . rintro c t' ⟨rfl, rfl⟩
   dsimp only
   rw [if_pos (by simp)]
   exact wpS_pure h
theorem ins_none {t : SortSt} {lo n : Nat} {Q : Bool -> SortSt -> Prop} (h1 : 1 <= n) (h : Q true t) : wpS (model prog w) A E s (binarySort' lo n n) Q t := by
 rw [binarySort'_eq]
 refine wpS_bind (wpS_mono (wpS_forRange (I := fun x c t' => t = t' /\ c = (none, ())) (Q := fun c t' => t = t' /\ c = (none, ())) ?_ (fun _ _ q => q) ⟨rfl, rfl⟩) ?_)
 . rintro x c t' hx hxn _
   omega
 . rintro c t' ⟨rfl, rfl⟩
   exact wpS_pure h
theorem wpS_set {M : Model} {σ : Type} {t t' : σ} {Q : PUnit -> σ -> Prop} (h : Q ⟨⟩ t') : wpS M A E s (set t' : StateT σ Sem PUnit) Q t := by
 unfold wpS
 rw [StateT.run_set]
 exact wpAny_pure ⟨rfl, h⟩
end
theorem put_all (sa : Nat) : ∀ (l : List Keyed) (c : Nat) (a : Array Keyed), sa + c + l.length <= a.size -> ((l.zipIdx c).foldl (fun a p => a.setIfInBounds (sa + p.2) p.1) a).toList = a.toList.take (sa + c) ++ l ++ a.toList.drop (sa + c + l.length)
 | [], c, a, h => by simp
 | p :: l, c, a, h => by
   rw [List.length_cons] at h
   rw [List.zipIdx_cons, List.foldl_cons, put_all sa l (c + 1) _ (by rw [Array.size_setIfInBounds]; omega)]
   simp only [Array.toList_setIfInBounds, List.length_cons]
   have hlt : sa + c < a.toList.length := by rw [Array.length_toList]; omega
   have e : a.toList.set (sa + c) p = (a.toList.take (sa + c) ++ [p]) ++ a.toList.drop (sa + c + 1) := by
     rw [List.set_eq_take_append_cons_drop, if_pos hlt, List.append_assoc]
     rfl
   have l1 : (a.toList.take (sa + c) ++ [p]).length = sa + (c + 1) := by
     rw [List.length_append, List.length_take]
     simp
     rw [Array.length_toList] at hlt
     omega
   rw [e, List.take_left' l1, List.drop_append, l1]
   rw [List.drop_eq_nil_of_le (by rw [l1]; omega), List.nil_append, List.drop_drop]
   rw [show sa + c + 1 + (sa + (c + 1) + l.length - (sa + (c + 1))) = sa + c + (l.length + 1) by omega]
   simp
theorem up_pw {a : Array Keyed} (h : a.toList.Pairwise fun p q => f p.1 < f q.1) : Up f a a.size := fun i j hij hj => by
 have := (List.pairwise_iff_getElem.mp h) i j (by rw [Array.length_toList]; omega) (by rw [Array.length_toList]; exact hj) hij
 unfold ky
 rw [getElem?_pos a i (by omega), getElem?_pos a j hj]
 simpa using this
section
variable {prog : Program} {w : World} {A : Around} {E : Value -> Shared -> Prop} {s : Shared}
theorem xKv (x y c : Nat × Nat × Nat) : ((#[x, y].setIfInBounds 0 c).eraseIdxIfInBounds 1).size = 1 := by
 simp [Array.eraseIdxIfInBounds]
theorem ky_get {a : Array Keyed} {i : Nat} (h : i < a.size) : ky f a i = f (a[i]).1 := by unfold ky; rw [getElem?_pos a i h]; rfl
theorem merge_two {t : SortSt} {n1 pw p2 : Nat} {Q : Bool -> SortSt -> Prop} (O : OrcE prog w A E s k z f) (nd : NDk f z) (C : SC k z t) (hp : pendingOf t = #[(0, n1, pw), (n1, z.size - n1, p2)]) (h0 : 0 < n1) (hn : n1 < z.size)
   (u1 : Up f (arrOf t) n1) (u2 : ∀ i j, n1 <= i -> i < j -> j < z.size -> ky f (arrOf t) i < ky f (arrOf t) j)
   (ab : ∀ i j, i < n1 -> n1 <= j -> j < z.size -> (ky f (arrOf t) i < ky f (arrOf t) n1 -> ky f (arrOf t) i < ky f (arrOf t) j) /\ (ky f (arrOf t) n1 < ky f (arrOf t) i -> ky f (arrOf t) j < ky f (arrOf t) i))
   (h : ∀ t', SC k z t' -> (pendingOf t').size = 1 -> Up f (arrOf t') z.size -> Q true t') : wpS (model prog w) A E s (mergeAt' 0) Q t := by
 have sz := C.sz
 rw [mergeAt'_eq]
 refine wpS_bind (wpS_get ?_)
 rw [hp]
 simp only [List.getElem?_toArray, List.getElem?_cons_zero, List.getElem?_cons_succ, Nat.zero_add]
 refine wpS_bind (wpS_set ?_)
 rw [elem'_eq, getElem?_pos (arrOf t) n1 (by omega)]
 refine wpS_bind (wpS_pure ?_)
 obtain ⟨b1, hb1, q1⟩ := bnd_of (g := fun i => ky f (arrOf t) i) (key := ky f (arrOf t) n1) n1 u1
 have mem : ∀ i (hi : i < (arrOf t).size), (arrOf t)[i] ∈ z.toList := fun i hi => (Array.perm_iff_toList_perm.mp C.pm).mem_iff.mp (by simp)
 have K := fun i (hi : i < (arrOf t).size) => ky_get (f := f) hi
 refine wpS_bind (yWx (b := b1) O C.kd (mem n1 (by omega)) (fun i hi => ⟨(arrOf t)[0 + i]'(by omega), getElem?_pos (arrOf t) (0 + i) (by omega), mem _ _, ?_, ?_⟩) hb1 h0 ?_)
 . rw [<- K, <- K]
   exact C.ne nd (by omega) (by omega) (by omega)
 . rw [<- K, <- K, Nat.zero_add]
   exact q1 i hi
 dsimp only
 by_cases e0 : n1 - b1 = 0
 . rw [if_pos (by simpa using e0)]
   refine wpS_pure (h _ ⟨C.pm, C.kd, C.fl⟩ (xKv _ _ _) fun i j hij hj => ?_)
   by_cases hj1 : j < n1
   . exact u1 i j hij hj1
   . by_cases hi1 : i < n1
     . exact (ab i j hi1 (by omega) hj).1 ((q1 i hi1).mpr (by omega))
     . exact u2 i j (by omega) hij hj
 . rw [if_neg (by simpa using e0)]
   have el : b1 + (n1 - b1) - 1 = n1 - 1 := by omega
   rw [el, elem'_eq, getElem?_pos (arrOf t) (n1 - 1) (by omega)]
   refine wpS_bind (wpS_pure ?_)
   have up : ∀ i, b1 <= i -> i < n1 -> ky f (arrOf t) n1 < ky f (arrOf t) i := fun i h1 h2 => by
     have a1 := C.ne nd (i := i) (j := n1) (by omega) (by omega) (by omega)
     have a2 := (q1 i h2)
     have : ¬ ky f (arrOf t) i < ky f (arrOf t) n1 := fun y => by have := a2.mp y; omega
     omega
   refine wpS_bind (yWx (b := z.size - n1) O C.kd (mem (n1 - 1) (by omega)) (fun i hi => ⟨(arrOf t)[n1 + i]'(by omega), getElem?_pos (arrOf t) (n1 + i) (by omega), mem _ _, ?_, ?_⟩) (Nat.le_refl _) (by omega) ?_)
   . rw [<- K, <- K]
     exact C.ne nd (by omega) (by omega) (by omega)
   . rw [<- K, <- K]
     exact ⟨fun _ => hi, fun _ => (ab (n1 - 1) (n1 + i) (by omega) (by omega) (by omega)).2 (up _ (by omega) (by omega))⟩
   dsimp only
   rw [if_neg (by simp; omega)]
   have exl : ∀ (lo hi : Nat), hi <= (arrOf t).size -> ∀ x ∈ ((arrOf t).extract lo hi).toList, ∃ i, lo <= i /\ i < hi /\ ∃ hh : i < (arrOf t).size, x = (arrOf t)[i] := fun lo hi hh x m => by
     obtain ⟨j, hj, e⟩ := List.mem_iff_getElem.mp m
     have hj' : j < hi - lo := by
       have := hj
       simp at this
       omega
     exact ⟨lo + j, by omega, by omega, by omega, by rw [<- e]; simp⟩
   have ha : ∀ x ∈ ((arrOf t).extract b1 n1).toList, x ∈ z.toList := fun x m => by
     obtain ⟨i, _, _, hh, rfl⟩ := exl b1 n1 (by omega) x m
     exact mem i hh
   have hb : ∀ x ∈ ((arrOf t).extract n1 (n1 + (z.size - n1))).toList, x ∈ z.toList := fun x m => by
     obtain ⟨i, _, _, hh, rfl⟩ := exl n1 _ (by omega) x m
     exact mem i hh
   have lt : ∀ x ∈ ((arrOf t).extract n1 (n1 + (z.size - n1))).toList, ∀ y ∈ ((arrOf t).extract b1 n1).toList, f x.1 < f y.1 := fun x mx y my => by
     obtain ⟨i, i1, i2, hi, rfl⟩ := exl n1 _ (by omega) x mx
     obtain ⟨j, j1, j2, hj, rfl⟩ := exl b1 n1 (by omega) y my
     rw [<- K, <- K]
     exact (ab j i j2 i1 (by omega)).2 (up j j1 j2)
   have a0 : 0 < ((arrOf t).extract b1 n1).size := by rw [Array.size_extract]; omega
   have b0 : 0 < ((arrOf t).extract n1 (n1 + (z.size - n1))).size := by rw [Array.size_extract]; omega
   have fin : ∀ (m : Array Keyed) (t2 : SortSt), m = (arrOf t).extract n1 (n1 + (z.size - n1)) ++ (arrOf t).extract b1 n1 -> arrOf t2 = arrOf t -> kindOf t2 = k -> failedOf t2 = none -> (pendingOf t2).size = 1 ->
       wpS (model prog w) A E s (do
         modify fun s => setArr s (m.toList.zipIdx.foldl (fun a p => a.setIfInBounds (b1 + p.2) p.1) (arrOf s))
         let r <- get
         pure (failedOf r).isNone) Q t2 := fun m t2 em ea ek ef ep => by
     refine wpS_bind (wpS_modify (wpS_bind (wpS_get (wpS_pure ?_))))
     have el : (m.toList.zipIdx.foldl (fun a p => a.setIfInBounds (b1 + p.2) p.1) (arrOf t2)).toList = (arrOf t).toList.take b1 ++ ((arrOf t).toList.drop n1 ++ ((arrOf t).toList.drop b1).take (n1 - b1)) := by
       have ml : m.toList = (arrOf t).toList.drop n1 ++ ((arrOf t).toList.drop b1).take (n1 - b1) := by
         rw [em, Array.toList_append, Array.toList_extract, Array.toList_extract, List.extract_eq_drop_take, List.extract_eq_drop_take]
         congr 1
         exact List.take_of_length_le (by rw [List.length_drop, Array.length_toList]; omega)
       have mlen : m.toList.length = z.size - b1 := by
         rw [ml, List.length_append, List.length_drop, List.length_take, List.length_drop, Array.length_toList]
         omega
       have := put_all b1 m.toList 0 (arrOf t2) (by rw [mlen, ea]; omega)
       rw [ea] at this ⊢
       have d : (arrOf t).toList.drop (b1 + 0 + (z.size - b1)) = [] := List.drop_eq_nil_of_le (by rw [Array.length_toList]; omega)
       rw [this, mlen, d, ml, List.append_nil, Nat.add_zero]
     show Q (failedOf t2).isNone _
     rw [ef]
     have pm : ((arrOf t).toList.take b1 ++ ((arrOf t).toList.drop n1 ++ ((arrOf t).toList.drop b1).take (n1 - b1))).Perm (arrOf t).toList := by
       have e : (arrOf t).toList = (arrOf t).toList.take b1 ++ (((arrOf t).toList.drop b1).take (n1 - b1) ++ (arrOf t).toList.drop n1) := by
         have e1 := (List.take_append_drop b1 (arrOf t).toList).symm
         have e2 := (List.take_append_drop (n1 - b1) ((arrOf t).toList.drop b1)).symm
         rw [List.drop_drop, show b1 + (n1 - b1) = n1 by omega] at e2
         rw [<- e2]
         exact e1
       conv => rhs; rw [e]
       exact List.Perm.append_left _ List.perm_append_comm
     refine h _ ⟨?_, ek, by show failedOf t2 = none; exact ef⟩ (by show (pendingOf t2).size = 1; exact ep) ?_
     . refine Array.Perm.trans (Array.perm_iff_toList_perm.mpr ?_) C.pm
       show ((m.toList.zipIdx.foldl (fun a p => a.setIfInBounds (b1 + p.2) p.1) (arrOf t2)).toList).Perm _
       rw [el]
       exact pm
     . have pw : ((arrOf t).toList.take b1 ++ ((arrOf t).toList.drop n1 ++ ((arrOf t).toList.drop b1).take (n1 - b1))).Pairwise fun p q => f p.1 < f q.1 := by
         have ix : ∀ (lo hi : Nat) (x : Keyed), hi <= (arrOf t).size -> x ∈ ((arrOf t).toList.drop lo).take (hi - lo) -> ∃ i, lo <= i /\ i < hi /\ f x.1 = ky f (arrOf t) i := fun lo hi x hh m => by
           obtain ⟨j, hj, e⟩ := List.mem_iff_getElem.mp m
           rw [List.length_take, List.length_drop, Array.length_toList] at hj
           refine ⟨lo + j, by omega, by omega, ?_⟩
           rw [K _ (by omega), <- e]
           simp
         have px : ∀ (lo hi : Nat), hi <= (arrOf t).size -> (∀ i j, lo <= i -> i < j -> j < hi -> ky f (arrOf t) i < ky f (arrOf t) j) -> (((arrOf t).toList.drop lo).take (hi - lo)).Pairwise fun p q => f p.1 < f q.1 := fun lo hi hh u => by
           refine List.pairwise_iff_getElem.mpr fun i j hi' hj' hij => ?_
           rw [List.length_take, List.length_drop, Array.length_toList] at hi' hj'
           have := u (lo + i) (lo + j) (by omega) (by omega) (by omega)
           rw [K _ (by omega), K _ (by omega)] at this
           simpa using this
         have t0 : (arrOf t).toList.take b1 = ((arrOf t).toList.drop 0).take (b1 - 0) := by simp
         have d0 : (arrOf t).toList.drop n1 = ((arrOf t).toList.drop n1).take (z.size - n1) := (List.take_of_length_le (by rw [List.length_drop, Array.length_toList]; omega)).symm
         rw [t0, d0]
         refine List.pairwise_append.mpr ⟨px 0 b1 (by omega) fun i j _ hij hj => u1 i j hij (by omega), List.pairwise_append.mpr ⟨px n1 z.size (by omega) u2, px b1 n1 (by omega) fun i j _ hij hj => u1 i j hij hj, fun x mx y my => ?_⟩, fun x mx y my => ?_⟩
         . obtain ⟨i, i1, i2, e1⟩ := ix n1 z.size x (by omega) mx
           obtain ⟨j, j1, j2, e2⟩ := ix b1 n1 y (by omega) my
           rw [e1, e2]
           exact (ab j i j2 i1 i2).2 (up j j1 j2)
         . obtain ⟨i, i1, i2, e1⟩ := ix 0 b1 x (by omega) mx
           rcases List.mem_append.mp my with my | my
           . obtain ⟨j, j1, j2, e2⟩ := ix n1 z.size y (by omega) my
             rw [e1, e2]
             exact (ab i j (by omega) j1 j2).1 ((q1 i (by omega)).mpr i2)
           . obtain ⟨j, j1, j2, e2⟩ := ix b1 n1 y (by omega) my
             rw [e1, e2]
             exact u1 i j (by omega) j2
       have := up_pw (f := f) (a := m.toList.zipIdx.foldl (fun a p => a.setIfInBounds (b1 + p.2) p.1) (arrOf t2)) (by rw [el]; exact pw)
       have zs : (m.toList.zipIdx.foldl (fun a p => a.setIfInBounds (b1 + p.2) p.1) (arrOf t2)).size = z.size := by
         rw [<- Array.length_toList, el, pm.length_eq, Array.length_toList]
         exact sz
       rw [zs] at this
       exact this
   by_cases le : n1 - b1 <= z.size - n1
   . rw [if_pos le]
     exact wpS_bind (mergeLo_is O C.kd ha hb lt a0 b0 fun g => fin _ _ rfl rfl C.kd C.fl (xKv _ _ _))
   . rw [if_neg le]
     exact wpS_bind (mergeHi_is O C.kd ha hb lt a0 b0 fun g => fin _ _ rfl rfl C.kd C.fl (xKv _ _ _))
end
variable {k : SortKind} {z : Array Keyed} {f : Value -> Int}
structure Two (f : Value -> Int) (a : Array Keyed) (m : Nat) : Prop where
 le : m <= a.size
 u1 : Up f a m
 u2 : ∀ i j, m <= i -> i < j -> j < a.size -> ky f a i < ky f a j
 ab : ∀ i j, i < m -> m <= j -> j < a.size -> ky f a j < ky f a i
section
variable {prog : Program} {w : World} {A : Around} {E : Value -> Shared -> Prop} {s : Shared}
structure S1 (f : Value -> Int) (k : SortKind) (z : Array Keyed) (a : Array Keyed) (m n1 : Nat) (t : SortSt) : Prop where
 sc : SC k z t
 pd : pendingOf t = #[(0, n1, 0)]
 up : Up f (arrOf t) n1
 kp : ∀ j, n1 <= j -> (arrOf t)[j]? = a[j]?
 m1 : m <= n1
 h1 : 1 <= n1
 hn : n1 <= z.size
structure S2 (f : Value -> Int) (k : SortKind) (z : Array Keyed) (n1 pw : Nat) (t : SortSt) : Prop where
 sc : SC k z t
 pd : pendingOf t = #[(0, n1, pw), (n1, z.size - n1, 0)]
 h1 : 0 < n1
 hn : n1 < z.size
 u1 : Up f (arrOf t) n1
 u2 : ∀ i j, n1 <= i -> i < j -> j < z.size -> ky f (arrOf t) i < ky f (arrOf t) j
 ab : ∀ i j, i < n1 -> n1 <= j -> j < z.size -> (ky f (arrOf t) i < ky f (arrOf t) n1 -> ky f (arrOf t) i < ky f (arrOf t) j) /\ (ky f (arrOf t) n1 < ky f (arrOf t) i -> ky f (arrOf t) j < ky f (arrOf t) i)
structure D1 (f : Value -> Int) (k : SortKind) (z : Array Keyed) (t : SortSt) : Prop where
 sc : SC k z t
 pd : (pendingOf t).size = 1
 up : Up f (arrOf t) z.size
theorem S1.rest {a : Array Keyed} {m n1 : Nat} {t : SortSt} (S : S1 f k z a m n1 t) (nd : NDk f z) (pa : a.Perm z) (T : Two f a m) :
   (∀ i j, n1 <= i -> i < j -> j < z.size -> ky f (arrOf t) i < ky f (arrOf t) j) /\ ∀ i j, i < n1 -> n1 <= j -> j < z.size -> (ky f (arrOf t) i < ky f (arrOf t) n1 -> ky f (arrOf t) i < ky f (arrOf t) j) /\ (ky f (arrOf t) n1 < ky f (arrOf t) i -> ky f (arrOf t) j < ky f (arrOf t) i) := by
 have sz := S.sc.sz
 have az : a.size = z.size := pa.size_eq
 have m1 := S.m1
 have ke : ∀ j, n1 <= j -> ky f (arrOf t) j = ky f a j := fun j hj => ky_of (S.kp j hj)
 refine ⟨fun i j hi hij hj => ?_, fun i j hi hj hjz => ?_⟩
 . rw [ke i hi, ke j (by omega)]
   exact T.u2 i j (by omega) hij (by omega)
 . have pm : (arrOf t).toList.Perm a.toList := (Array.perm_iff_toList_perm.mp S.sc.pm).trans (Array.perm_iff_toList_perm.mp pa).symm
   have hit : i < (arrOf t).size := by omega
   have mi : (arrOf t)[i] ∈ a.toList := pm.mem_iff.mp (by simp)
   obtain ⟨i', hi', e⟩ := List.mem_iff_getElem.mp mi
   rw [Array.length_toList] at hi'
   have e' : a[i']? = (arrOf t)[i]? := by
     rw [getElem?_pos a i' hi', getElem?_pos (arrOf t) i hit]
     exact congrArg some (by simpa using e)
   have ki : ky f (arrOf t) i = ky f a i' := (ky_of e').symm
   have hlt : i' < n1 := by
     apply Classical.byContradiction
     intro c
     have := S.sc.ne nd (i := i) (j := i') (by omega) (by omega) (by omega)
     rw [ke i' (by omega), ki] at this
     exact this rfl
   rw [ki, ke j hj, ke n1 (Nat.le_refl _)]
   by_cases hm : i' < m
   . have a1 := T.ab i' j hm (by omega) (by omega)
     have a2 := T.ab i' n1 hm (by omega) (by omega)
     exact ⟨fun y => by omega, fun _ => a1⟩
   . have a1 := T.u2 i' j (by omega) (by omega) (by omega)
     have a2 := T.u2 i' n1 (by omega) (by omega) (by omega)
     exact ⟨fun _ => a1, fun y => by omega⟩
theorem runs_two {t : SortSt} {m : Nat} {Q : Unit -> SortSt -> Prop} (O : OrcE prog w A E s k z f) (nd : NDk f z) (B : SB k z t) (h2 : 2 <= z.size) (T : Two f (arrOf t) m)
   (h : ∀ t', (arrOf t').Perm z -> failedOf t' = none -> Up f (arrOf t') z.size -> Q () t') : wpS (model prog w) A E s sortRuns' Q t := by
 have Or := orc_of O nd
 have az : (arrOf t).size = z.size := B.sz
 have tle := T.le
 rw [sortRuns'_eq]
 refine wpS_bind (wpS_get ?_)
 dsimp only
 simp only [B.sz]
 generalize minRun' z.size z.size 0 = mr
 refine wpS_bind (wpS_mono (wpS_forRange (I := fun x c t' => (x = 0 /\ c = (none, 0) /\ t = t') \/ (x = 1 /\ ∃ n1, c = (none, n1) /\ S1 f k z (arrOf t) m n1 t') \/ (x = 2 /\ c = (none, z.size) /\ ∃ n1 pw, S2 f k z n1 pw t')) (Q := fun c t' => c = (none, z.size) /\ (D1 f k z t' \/ ∃ n1 pw, S2 f k z n1 pw t')) ?_ ?_ (.inl ⟨rfl, rfl, rfl⟩)) ?_)
 . rintro x c t' _ hx (⟨rfl, rfl, rfl⟩ | ⟨rfl, n1, rfl, S⟩ | ⟨rfl, rfl, n1, pw, S⟩)
   . dsimp only
     rw [if_neg (by omega)]
     simp only [Nat.sub_zero, Nat.zero_add]
     refine wpS_bind (run_of2 Or nd (Nat.le_refl _) (by omega) B (by omega) T.u1 fun r1 t2 B2 r1a r1b r1m u2 kp => ?_)
     dsimp only
     by_cases lt : r1 < mr
     . rw [if_pos lt]
       refine wpS_bind (wpS_lift (wpAny_rule ⟨rfl, ?_⟩))
       refine wpS_bind (put_in2 Or nd (Nat.min_le_left _ _) (by omega) B2 u2 fun t3 B3 u3 kp3 => ?_)
       simp only [Bool.not_true, Bool.false_eq_true, if_false]
       refine wpS_bind (wpS_get ?_)
       rw [show (pendingOf t3).back? = none by rw [B3.pd]; rfl]
       dsimp only
       refine wpS_bind (wpS_modify (wpS_pure (.inr (.inl ⟨trivial, _, rfl, ⟨B3.pm, B3.kd, B3.fl⟩, ?_, u3, fun j hj => (kp3 j hj).trans (kp j (by omega)), by omega, by omega, by omega⟩))))
       show (pendingOf t3).push _ = _
       rw [B3.pd]
       rfl
     . rw [if_neg lt]
       refine wpS_bind (wpS_get ?_)
       rw [show (pendingOf t2).back? = none by rw [B2.pd]; rfl]
       dsimp only
       refine wpS_bind (wpS_modify (wpS_pure (.inr (.inl ⟨trivial, _, rfl, ⟨B2.pm, B2.kd, B2.fl⟩, ?_, u2, kp, by omega, by omega, by omega⟩))))
       show (pendingOf t2).push _ = _
       rw [B2.pd]
       rfl
   . dsimp only
     have h1 := S.h1
     have hn := S.hn
     by_cases full : n1 ≥ z.size
     . rw [if_pos full]
       obtain rfl : n1 = z.size := by omega
       exact wpS_pure ⟨rfl, .inl ⟨S.sc, by rw [S.pd]; rfl, S.up⟩⟩
     . rw [if_neg full]
       obtain ⟨v2, ab⟩ := S.rest nd B.pm T
       refine wpS_bind (run_rest O nd S.sc (by omega) (by omega) (fun i j i1 hij hj => v2 i j i1 hij (by omega)) ?_)
       dsimp only
       by_cases lt : z.size - n1 < mr
       . rw [if_pos lt]
         refine wpS_bind (wpS_lift (wpAny_rule ⟨rfl, ?_⟩))
         rw [show min (z.size - n1) mr = z.size - n1 by omega]
         refine wpS_bind (ins_none (by omega) ?_)
         simp only [Bool.not_true, Bool.false_eq_true, if_false]
         refine wpS_bind (wpS_get ?_)
         rw [S.pd]
         rw [show (#[(0, n1, 0)] : Array (Nat × Nat × Nat)).back? = some (0, n1, 0) from rfl]
         dsimp only
         refine wpS_bind (wpS_mono (wpS_forRange (I := fun x c t2 => t' = t2 /\ c = (none, ())) (Q := fun c t2 => t' = t2 /\ c = (none, ())) ?_ (fun _ _ q => q) ⟨rfl, rfl⟩) ?_)
         . rintro y c t2 _ _ ⟨rfl, rfl⟩
           refine wpS_bind (wpS_get ?_)
           rw [if_neg (by rw [S.pd]; simp)]
           exact wpS_pure ⟨rfl, rfl⟩
         . rintro c t2 ⟨rfl, rfl⟩
           dsimp only
           refine wpS_bind (wpS_modify (wpS_bind (wpS_modify (wpS_pure (.inr (.inr ⟨by trivial, by rw [show n1 + (z.size - n1) = z.size by omega], n1, power' z.size (2 * 0 + n1) (2 * 0 + n1 + n1 + (z.size - n1)) z.size, ⟨S.sc.pm, S.sc.kd, S.sc.fl⟩, ?_, by omega, by omega, S.up, v2, ab⟩))))))
           show ((pendingOf t').modify ((pendingOf t').size - 1) _).push _ = _
           rw [S.pd]
           rfl
       . rw [if_neg lt]
         refine wpS_bind (wpS_get ?_)
         rw [S.pd]
         rw [show (#[(0, n1, 0)] : Array (Nat × Nat × Nat)).back? = some (0, n1, 0) from rfl]
         dsimp only
         refine wpS_bind (wpS_mono (wpS_forRange (I := fun x c t2 => t' = t2 /\ c = (none, ())) (Q := fun c t2 => t' = t2 /\ c = (none, ())) ?_ (fun _ _ q => q) ⟨rfl, rfl⟩) ?_)
         . rintro y c t2 _ _ ⟨rfl, rfl⟩
           refine wpS_bind (wpS_get ?_)
           rw [if_neg (by rw [S.pd]; simp)]
           exact wpS_pure ⟨rfl, rfl⟩
         . rintro c t2 ⟨rfl, rfl⟩
           dsimp only
           refine wpS_bind (wpS_modify (wpS_bind (wpS_modify (wpS_pure (.inr (.inr ⟨by trivial, by rw [show n1 + (z.size - n1) = z.size by omega], n1, power' z.size (2 * 0 + n1) (2 * 0 + n1 + n1 + (z.size - n1)) z.size, ⟨S.sc.pm, S.sc.kd, S.sc.fl⟩, ?_, by omega, by omega, S.up, v2, ab⟩))))))
           show ((pendingOf t').modify ((pendingOf t').size - 1) _).push _ = _
           rw [S.pd]
           rfl
   . dsimp only
     rw [if_pos (Nat.le_refl _)]
     exact wpS_pure ⟨rfl, .inr ⟨n1, pw, S⟩⟩
 . rintro c t' (⟨hx, _, _⟩ | ⟨hx, n1, rfl, S⟩ | ⟨hx, rfl, n1, pw, S⟩)
   . omega
   . omega
   . exact ⟨rfl, .inr ⟨n1, pw, S⟩⟩
 . rintro c t' ⟨rfl, d⟩
   dsimp only
   refine wpS_bind (wpS_mono (wpS_forRange (I := fun x c t2 => c = (none, ()) /\ ((x = 0 /\ ∃ n1 pw, S2 f k z n1 pw t2) \/ D1 f k z t2)) (Q := fun c t2 => c = (none, ()) /\ D1 f k z t2) ?_ ?_ ⟨rfl, d.elim .inr fun y => .inl ⟨rfl, y⟩⟩) ?_)
   . rintro x c t2 _ _ ⟨rfl, ⟨rfl, n1, pw, S⟩ | D⟩
     . refine wpS_bind (wpS_get ?_)
       have sz2 : (pendingOf t2).size = 2 := by rw [S.pd]; rfl
       rw [if_neg (by rw [sz2]; omega)]
       simp only [sz2, Nat.sub_self, gt_iff_lt, Nat.lt_irrefl, if_false, Option.any_none, Bool.false_eq_true]
       refine wpS_bind (merge_two O nd S.sc S.pd S.h1 S.hn S.u1 S.u2 S.ab fun t3 C3 p3 u3 => ?_)
       simp only [Bool.not_true, Bool.false_eq_true, if_false]
       exact wpS_pure ⟨rfl, .inr ⟨C3, p3, u3⟩⟩
     . refine wpS_bind (wpS_get ?_)
       rw [if_pos (by rw [D.pd]; exact Nat.le_refl _)]
       exact wpS_pure ⟨rfl, D⟩
   . rintro c t2 ⟨rfl, ⟨hx, _⟩ | D⟩
     . omega
     . exact ⟨rfl, D⟩
   . rintro c t2 ⟨rfl, D⟩
     exact wpS_pure (h t2 D.sc.pm D.sc.fl D.up)
end
section
variable {prog : Program} {w : World} {A : Around} {E : Value -> Shared -> Prop} {s : Shared}
theorem orcE_tups {z : Array Keyed} (hz : ∀ p ∈ z.toList, ∃ n, TK s.heap p.1 n) : OrcE prog w A E s (tuples' true) z (fstI s.heap) := by
 intro t x y Q kd mx my nn q
 obtain ⟨n, k1⟩ := hz x mx
 obtain ⟨m, k2⟩ := hz y my
 rw [k1.fst, k2.fst] at nn q
 rw [lt'_eq]
 refine wpS_bind (wpS_get ?_)
 rw [kd]
 exact wpS_bind (wpS_lift (wpAny_attempt (keyLt_tk k1 k2 nn ⟨rfl, wpS_pure q⟩)))
theorem sort_tups2 {a : Addr} {vs : List Value} {n : Nat} {P : Fin -> Shared -> Prop} (ho : s.heap.get? a = some (seqObj "list" vs.toArray n)) (hv : ∀ v ∈ vs, ∃ m, TK s.heap v m) (nd : (vs.map (fstI s.heap)).Nodup) (h64 : vs.length <= 1000) (two : ∃ va vb, vs = va ++ vb /\ va.Pairwise (fun u v => fstI s.heap u < fstI s.heap v) /\ vb.Pairwise (fun u v => fstI s.heap u < fstI s.heap v) /\ ∀ u ∈ va, ∀ v ∈ vb, fstI s.heap v < fstI s.heap u)
   (h : ∀ out : List Value, out.Perm vs -> out.Pairwise (fun u v => fstI s.heap u < fstI s.heap v) -> P (.done (.ret .none)) { s with heap := sortedHeap s.heap a vs out.toArray }) :
   wpAny (model prog w) A (Builtin.«list.sort» ⟨[.ref a], []⟩) P E s := by
 rw [list_sort_plain]
 have ha : a < s.heap.objs.size := Heap.lt_size ho
 refine wpAny_bind (listItems_at ho rfl ?_)
 refine wpAny_bind (listUpdate_at ho rfl ?_)
 obtain ⟨e1, ho1⟩ : ∃ e, (s.heap.update a (Obj.mapSeq fun _ => #[])).get? a = some (seqObj "list" #[] e) := ⟨_, get?_update_seq ho (fun _ => #[])⟩
 refine wpAny_bind (seqEpoch_at ho1 rfl ?_)
 refine wpAny_bind (wpAny_newTuple ?_)
 refine wpAny_bind (wpAny_newList ?_)
 refine wpAny_holding ?_
 generalize e6 : ((s.heap.update a (Obj.mapSeq fun _ => #[])).push (seqObj "tuple" vs.toArray 0)).push (seqObj "list" #[] 0) = g6
 have ho6 : g6.get? a = some (seqObj "list" #[] e1) := by
   rw [<- e6, Heap.get?_push_ne _ _ _ (by rw [size_push', Heap.size_update]; exact Nat.ne_of_lt (Nat.lt_succ_of_lt ha)), Heap.get?_push_ne _ _ _ (by rw [Heap.size_update]; exact Nat.ne_of_lt ha)]
   exact ho1
 have kp : ∀ b o, b ≠ a -> s.heap.get? b = some o -> g6.get? b = some o := fun b o nb e => by
   rw [<- e6]
   refine Heap.get?_push_of_some _ (Heap.get?_push_of_some _ ?_)
   rw [Heap.get?_update_other _ _ (Ne.symm nb)]
   exact e
 have hv6 : ∀ v ∈ vs, ∃ m, TK g6 v m /\ TK s.heap v m := fun v mv => by
   obtain ⟨m, k⟩ := hv v mv
   refine ⟨m, k.keep fun b o eb e => kp b o (fun z => ?_) e, k⟩
   subst z
   obtain ⟨b', its, t, e', o', ho', hc', _⟩ := k
   rw [eb] at e'
   cases e'
   rw [ho] at ho'
   cases ho'
   exact absurd (show Value.type "list" = Value.type "tuple" from hc') (by decide)
 have fe : ∀ v ∈ vs, fstI g6 v = fstI s.heap v := fun v mv => by
   obtain ⟨m, k1, k2⟩ := hv6 v mv
   rw [k1.fst, k2.fst]
 show wpAny (model prog w) A _ P E { s with heap := g6 }
 dsimp only
 have hz : vs.toArray.size = vs.length := by simp
 have out_of : ∀ xs : Array Keyed, xs.Perm (pairsOf vs) -> Up (fstI g6) xs (pairsOf vs).size -> P (.done (.ret .none)) { s with heap := sortedHeap s.heap a vs (xs.map (·.2)) } := fun xs hp up => by
   have hl : xs.toList.Perm (vs.zip vs) := by rw [<- pairsOf_toList]; exact Array.perm_iff_toList_perm.mp hp
   have hm : ∀ p ∈ xs.toList, p.1 = p.2 /\ p.1 ∈ vs := fun p m => mem_zip_self (hl.mem_iff.mp m)
   have ee : xs.map (·.2) = (xs.toList.map (·.1)).toArray := by
     apply Array.toList_inj.mp
     rw [Array.toList_map]
     exact List.map_congr_left fun p m => (hm p m).1.symm
   rw [ee]
   refine h _ ?_ ?_
   . have := hl.map Prod.fst
     rwa [List.map_fst_zip (Nat.le_refl _)] at this
   . rw [List.pairwise_iff_getElem]
     intro i j hi hj hij
     have hi' : i < xs.size := by simpa using hi
     have hj' : j < xs.size := by simpa using hj
     have u1 := up i j hij (by rw [<- hp.size_eq]; exact hj')
     unfold ky at u1
     rw [getElem?_pos xs i hi', getElem?_pos xs j hj'] at u1
     simp only [Option.elim_some] at u1
     rw [fe _ (hm xs[i] (by simp)).2, fe _ (hm xs[j] (by simp)).2] at u1
     simpa using u1
 by_cases h2 : vs.toArray.size < 2
 . rw [if_pos h2, if_pos h2]
   refine wpAny_bind (wpAny_pure ?_)
   rw [StateT.run_pure]
   refine wpAny_bind (wpAny_pure ?_)
   dsimp only
   refine wpAny_bind (seqEpoch_at ho6 rfl ?_)
   refine wpAny_bind (listUpdate_at ho6 rfl ?_ (hsz2 := by rw [Array.size_map]; show (pairsOf vs).size <= _; rw [pairsOf_size, sizeLine_eq]; omega))
   simp only [bne_self_eq_false, Bool.false_eq_true, if_false]
   have := out_of (vs.toArray.zip vs.toArray) (Array.Perm.refl _) (fun i j hij hj => by rw [pairsOf_size] at hj; omega)
   unfold sortedHeap at this
   rw [e6] at this
   exact wpAny_pure this
 . rw [if_neg h2, if_neg h2]
   refine wpAny_bind (kind_tups (s := { s with heap := g6 }) (fun z => by rw [z] at h2; exact h2 (by decide)) (fun v mv => let ⟨m, k, _⟩ := hv6 v mv; ⟨m, k⟩) ?_)
   have mz : ∀ p ∈ (pairsOf vs).toList, p.1 ∈ vs := fun p m => by rw [pairsOf_toList] at m; exact (mem_zip_self m).2
   have ndk : NDk (fstI g6) (pairsOf vs) := by
     unfold NDk
     have ez : ((pairsOf vs).toList.map fun p => fstI g6 p.1) = vs.map (fstI s.heap) := by
       have z1 : ((pairsOf vs).toList.map fun p => fstI g6 p.1) = ((vs.zip vs).map Prod.fst).map (fstI g6) := by rw [pairsOf_toList, List.map_map]; rfl
       rw [z1, List.map_fst_zip (Nat.le_refl _)]
       exact List.map_congr_left fe
     rw [ez]
     exact nd
   obtain ⟨va, vb, ev, p1, p2, p12⟩ := two
   have kyv : ∀ i (hi : i < vs.length), ky (fstI g6) (vs.toArray.zip vs.toArray) i = fstI s.heap vs[i] := fun i hi => by
     rw [<- fe vs[i] (List.getElem_mem hi)]
     unfold ky
     have : (vs.toArray.zip vs.toArray)[i]? = some (vs[i], vs[i]) := by
       rw [getElem?_pos _ i (by simpa using hi)]
       simp
     rw [this]
     rfl
   have psz : (vs.toArray.zip vs.toArray).size = vs.length := by simp
   have lv : vs.length = va.length + vb.length := by rw [ev, List.length_append]
   have gA : ∀ i (hi : i < vs.length), i < va.length -> ∃ h : i < va.length, vs[i] = va[i] := fun i hi h => ⟨h, by simp [ev, List.getElem_append_left h]⟩
   have gB : ∀ i (hi : i < vs.length), va.length <= i -> ∃ h : i - va.length < vb.length, vs[i] = vb[i - va.length] := fun i hi h => ⟨by omega, by simp [ev, List.getElem_append_right h]⟩
   have T : Two (fstI g6) (vs.toArray.zip vs.toArray) va.length := by
     refine ⟨by rw [psz]; omega, fun i j hij hj => ?_, fun i j hi hij hj => ?_, fun i j hi hj hjz => ?_⟩
     . obtain ⟨a1, e1⟩ := gA i (by omega) (by omega)
       obtain ⟨a2, e2⟩ := gA j (by omega) hj
       rw [kyv i (by omega), kyv j (by omega), e1, e2]
       exact List.pairwise_iff_getElem.mp p1 i j a1 a2 hij
     . rw [psz] at hj
       obtain ⟨a1, e1⟩ := gB i (by omega) hi
       obtain ⟨a2, e2⟩ := gB j hj (by omega)
       rw [kyv i (by omega), kyv j hj, e1, e2]
       exact List.pairwise_iff_getElem.mp p2 _ _ a1 a2 (by omega)
     . rw [psz] at hjz
       obtain ⟨a1, e1⟩ := gA i (by omega) hi
       obtain ⟨a2, e2⟩ := gB j hjz hj
       rw [kyv i (by omega), kyv j hjz, e1, e2]
       exact p12 _ (List.getElem_mem a1) _ (List.getElem_mem a2)
   refine wpAny_bind (wpAny_mono (runs_two (s := { s with heap := g6 }) (t := SortSt.mk' (tuples' true) (vs.toArray.zip vs.toArray) #[] 7 none) (Q := fun _ t' => (arrOf t').Perm (pairsOf vs) /\ failedOf t' = none /\ Up (fstI g6) (arrOf t') (pairsOf vs).size)
     (orcE_tups (s := { s with heap := g6 }) (fun p m => let ⟨y, k, _⟩ := hv6 p.1 (mz p m); ⟨y, k⟩)) ndk ⟨Array.Perm.refl _, rfl, rfl, rfl⟩ (by rw [pairsOf_size]; omega) T fun t' a1 a2 a3 => ⟨a1, a2, a3⟩) ?_ fun _ _ e => e)
   rintro ⟨⟨⟩, t'⟩ s' ⟨rfl, hp, hf, hs⟩
   dsimp only
   refine wpAny_bind (seqEpoch_at ho6 rfl ?_)
   refine wpAny_bind (listUpdate_at ho6 rfl ?_ (hsz2 := by refine Nat.le_trans (Nat.le_of_eq ((Array.size_map ..).trans (hp.size_eq.trans (pairsOf_size _)))) ?_; rw [sizeLine_eq]; omega))
   rw [hf]
   simp only [bne_self_eq_false, Bool.false_eq_true, if_false]
   have := out_of (arrOf t') hp hs
   unfold sortedHeap at this
   rw [e6] at this
   exact wpAny_pure this
end
section
variable {X : Cx}
theorem call_sortedT2 : CallR X (.builtin "sorted") (fun xs H Q => ∃ (a : Addr) (ps : List Addr) (num : Addr -> Int), xs = [V.ref a] /\ H a = some (.lst (ps.map V.ref)) /\ (∀ p ∈ ps, ∃ rest, H p = some (.tup (V.int (num p) :: rest))) /\ (ps.map num).Nodup /\ (ps.length <= 1000 /\ ∃ pa pb, ps = pa ++ pb /\ pa.Pairwise (fun p q => num p < num q) /\ pb.Pairwise (fun p q => num p < num q) /\ ∀ p ∈ pa, ∀ q ∈ pb, num q < num p) /\
   ∀ (l : Addr) (out : List Addr), H l = none -> out.Perm ps -> out.Pairwise (fun p q => num p < num q) -> Q (.ref l) (upd H l (.lst (out.map V.ref)))) := by
 intro pins s σ H xs us Q I r h
 obtain ⟨a, ps, num, rfl, ha, hp, nd, ⟨h64, two⟩, q⟩ := h
 obtain ⟨u, rfl, ru⟩ := vals1 r
 cases (show u = Value.ref a from ru)
 obtain ⟨z, its, n, rv, hl, e⟩ := I.lstM ha
 obtain rfl := vals_refs rv
 have isl : s.heap.IsList a (ps.map Value.ref).toArray := ⟨_, e, rfl, n, rfl⟩
 have tk : ∀ p ∈ ps, TK s.heap (.ref p) (num p) := fun p m => by
   obtain ⟨rest, hr⟩ := hp p m
   obtain ⟨_, its, ri, it⟩ := (show ObjOk X.prog X.w H s.heap p (.tup (V.int (num p) :: rest)) from I.hok p _ hr)
   cases ri with
   | @cons _ u _ us r0 rt =>
     obtain ⟨t, rfl⟩ := r0
     exact ⟨p, us, t, rfl, it⟩
 have tk' : ∀ v ∈ ps.map Value.ref, ∃ m, TK s.heap v m := fun v m => by
   obtain ⟨p, mp, rfl⟩ := List.mem_map.mp m
   exact ⟨_, tk p mp⟩
 have fe : ∀ p ∈ ps, fstI s.heap (.ref p) = num p := fun p m => (tk p m).fst
 refine Calls.call_function_entry kind_sorted plain_sorted entry_sorted (args_sorted1 _) ?_
 unfold Builtin.«sorted»
 refine wpAny_bind (m := checkCount "sorted" 1 1 _) (wpAny_pure ?_)
 refine wpAny_bind (collect_list isl ?_ (hsz := by rw [List.length_map, sizeLine_eq]; omega))
 refine wpAny_bind (wpAny_newList ?_)
 generalize e2 : (s.heap.push (seqObj "list" #[] 0)).update s.heap.objs.size (Obj.mapSeq (· ++ (ps.map Value.ref).toArray)) = g2
 have z2 : g2.objs.size = s.heap.objs.size + 1 := by rw [<- e2, Heap.size_update, size_push']
 have kp2 : ∀ b o, s.heap.get? b = some o -> g2.get? b = some o := fun b o eb => by
   rw [<- e2, Heap.get?_update_other _ _ (Nat.ne_of_gt (Heap.lt_size eb))]
   exact Heap.get?_push_of_some _ eb
 have hoL : (g2.push (seqObj "list" (ps.map Value.ref).toArray 0)).get? (s.heap.objs.size + 1) = some (seqObj "list" (ps.map Value.ref).toArray 0) := by
   rw [<- z2]; exact Heap.get?_push_size _ rfl
 show wpAny _ _ _ _ _ { s with heap := g2.push (seqObj "list" (ps.map Value.ref).toArray 0) }
 rw [z2]
 have kp3 : ∀ b o, s.heap.get? b = some o -> (g2.push (seqObj "list" (ps.map Value.ref).toArray 0)).get? b = some o := fun b o eb => Heap.get?_push_of_some _ (kp2 b o eb)
 have tk3 : ∀ p ∈ ps, TK (g2.push (seqObj "list" (ps.map Value.ref).toArray 0)) (.ref p) (num p) := fun p m => (tk p m).keep fun b o _ eb => kp3 b o eb
 have nd3 : ((ps.map Value.ref).map (fstI (g2.push (seqObj "list" (ps.map Value.ref).toArray 0)))).Nodup := by
   rw [List.map_map, show ps.map (fstI (g2.push (seqObj "list" (ps.map Value.ref).toArray 0)) ∘ Value.ref) = ps.map num from List.map_congr_left fun p m => (tk3 p m).fst]
   exact nd
 have two3 : ∃ va vb, ps.map Value.ref = va ++ vb /\ va.Pairwise (fun u v => fstI (g2.push (seqObj "list" (ps.map Value.ref).toArray 0)) u < fstI (g2.push (seqObj "list" (ps.map Value.ref).toArray 0)) v) /\ vb.Pairwise (fun u v => fstI (g2.push (seqObj "list" (ps.map Value.ref).toArray 0)) u < fstI (g2.push (seqObj "list" (ps.map Value.ref).toArray 0)) v) /\ ∀ u ∈ va, ∀ v ∈ vb, fstI (g2.push (seqObj "list" (ps.map Value.ref).toArray 0)) v < fstI (g2.push (seqObj "list" (ps.map Value.ref).toArray 0)) u := by
   obtain ⟨pa, pb, ep, q1, q2, q3⟩ := two
   have fa : ∀ p ∈ pa, fstI (g2.push (seqObj "list" (ps.map Value.ref).toArray 0)) (.ref p) = num p := fun p m => (tk3 p (by rw [ep]; simp [m])).fst
   have fb : ∀ p ∈ pb, fstI (g2.push (seqObj "list" (ps.map Value.ref).toArray 0)) (.ref p) = num p := fun p m => (tk3 p (by rw [ep]; simp [m])).fst
   generalize g2.push (seqObj "list" (ps.map Value.ref).toArray 0) = g3 at fa fb ⊢
   refine ⟨pa.map Value.ref, pb.map Value.ref, by rw [ep, List.map_append], ?_, ?_, fun u mu v mv => ?_⟩
   . rw [List.pairwise_map]
     exact q1.imp_of_mem fun {p q} mp mq l => by rw [fa p mp, fa q mq]; exact l
   . rw [List.pairwise_map]
     exact q2.imp_of_mem fun {p q} mp mq l => by rw [fb p mp, fb q mq]; exact l
   . obtain ⟨p, mp, rfl⟩ := List.mem_map.mp mu
     obtain ⟨q, mq, rfl⟩ := List.mem_map.mp mv
     rw [fa p mp, fb q mq]
     exact q3 p mp q mq
 refine wpAny_bind (wpAny_holding (wpAny_call_entry slot_list_sort ⟨_, hoL, rfl⟩ entry_list_sort (sort_tups2 hoL (fun v m => ?_) nd3 (by rw [List.length_map]; exact h64) two3 fun out op os => ⟨_, rfl, ?_⟩) (args_list_sort _)))
 . obtain ⟨p, mp, rfl⟩ := List.mem_map.mp m
   exact ⟨_, tk3 p mp⟩
 . refine wpAny_pure ⟨_, rfl, ?_⟩
   obtain ⟨ps', rfl⟩ : ∃ ps' : List Addr, out = ps'.map Value.ref := by
     have all : ∀ v ∈ out, ∃ p, v = Value.ref p := fun v m => by
       obtain ⟨p, _, rfl⟩ := List.mem_map.mp (op.mem_iff.mp m)
       exact ⟨p, rfl⟩
     have gen : ∀ l : List Value, (∀ v ∈ l, ∃ p, v = Value.ref p) -> ∃ ps' : List Addr, l = ps'.map Value.ref := fun l => by
       induction l with
       | nil => exact fun _ => ⟨[], rfl⟩
       | cons v l ih =>
         intro all
         obtain ⟨p, rfl⟩ := all v (by simp)
         obtain ⟨ps', rfl⟩ := ih fun u m => all u (List.mem_cons_of_mem _ m)
         exact ⟨p :: ps', rfl⟩
     exact gen out all
   have op' : ps'.Perm ps := by
     have e1 : ∀ l : List Addr, (l.map Value.ref).map (fun v => match v with | Value.ref p => p | _ => 0) = l := fun l => by rw [List.map_map]; exact List.map_id _
     have := op.map (fun v => match v with | Value.ref p => p | _ => (0 : Addr))
     rwa [e1, e1] at this
   have os' : ps'.Pairwise (fun p q => num p < num q) := by
     rw [List.pairwise_map] at os
     refine os.imp_of_mem fun {p q} mp mq h => ?_
     rwa [(tk3 p (op'.mem_iff.mp mp)).fst, (tk3 q (op'.mem_iff.mp mq)).fst] at h
   have hall : (sortedAll s.heap (ps.map Value.ref) (ps'.map Value.ref).toArray) = sortedHeap (g2.push (seqObj "list" (ps.map Value.ref).toArray 0)) (s.heap.objs.size + 1) (ps.map Value.ref) (ps'.map Value.ref).toArray := by
     unfold sortedAll; rw [e2]
   obtain ⟨ep, he⟩ := sortedAll_at s.heap (ps.map Value.ref) (ps'.map Value.ref).toArray
   have rv' : Vals (ps'.map V.ref) (ps'.map Value.ref) := by
     have gen : ∀ l : List Addr, Vals (l.map V.ref) (l.map Value.ref) := fun l => by
       induction l with
       | nil => exact .nil
       | cons p l ih => exact .cons rfl ih
     exact gen ps'
   have hlen := op'.length_eq
   show EP X pins σ Q _ { s with heap := sortedHeap (g2.push (seqObj "list" (ps.map Value.ref).toArray 0)) (s.heap.objs.size + 1) (ps.map Value.ref) (ps'.map Value.ref).toArray }
   rw [<- hall]
   refine ⟨.ref (s.heap.objs.size + 1), _, I.laid (t' := s.toks) (fun b o eb => sortedAll_old eb) (Nat.le_succ _) (show ObjOk X.prog X.w _ _ _ (.lst (ps'.map V.ref)) from ⟨by rw [List.length_map, sizeLine_eq]; omega, _, ep, rv', he⟩), rfl, q _ ps' (I.hok.fresh (Nat.le_succ _)) op' os'⟩
end
end L2
namespace L2
open PySem PySem.Spec PyProof.Rows PySem.W
def FnO (f : Addr) (lq : Str) (params : Arguments) (body : Expr) (scope : Scope) (cl : List (Str × Addr)) (c' : Addr) : HO :=
 .ext fun h => ∃ pm ctv, h.get? f = some (kla_obj "<lambda>" lq params body scope cl pm c' ctv)
def CodeO (c' : Addr) (lq : Str) : HO := .ext fun h => h.CodeRec (.ref c') lq
theorem fnO_ok {P : Program} {w : World} {H : Hp} {h : Heap} {f c' : Addr} {lq : Str} {params : Arguments} {body : Expr} {scope : Scope} {cl : List (Str × Addr)} {pm ctv : Value} (e : h.get? f = some (kla_obj "<lambda>" lq params body scope cl pm c' ctv)) :
   ObjOk P w H h f (FnO f lq params body scope cl c') := ⟨⟨pm, ctv, e⟩, ⟨_, e⟩, fun h1 h2 ⟨pm, ctv, q⟩ k => ⟨pm, ctv, k _ q⟩⟩
theorem codeO_ok {P : Program} {w : World} {H : Hp} {h : Heap} {c' : Addr} {lq : Str} (e : h.CodeRec (.ref c') lq) : ObjOk P w H h c' (CodeO c' lq) := by
 obtain ⟨c, o, vs, t, e0, e1, r⟩ := id e
 cases e0
 refine ⟨e, ⟨_, e1⟩, fun h1 h2 q k => ?_⟩
 obtain ⟨c, o, vs, t, e0, e1, r⟩ := q
 cases e0
 exact ⟨_, o, vs, t, rfl, k _ e1, r⟩
def Tab (T : Addr) (lq : Str) (H : Hp) : Prop := ∃ ps : Array Value, H T = some (.tbl ps) /\ TriplesOk ps.toList /\ ∀ pos v, codeAmong pos ps.toList = some v -> ∃ c', v = .ref c' /\ H c' = some (CodeO c' lq)
theorem triples_snoc {a b : Nat} {c : Value} : ∀ l : List Value, TriplesOk l -> TriplesOk (l ++ [rawInt a, rawInt b, c]) := by
 intro l h
 fun_induction TriplesOk l with
 | case1 => exact trivial
 | case2 _ _ _ _ _ r ih => exact ih h
 | case3 l h1 h2 => exact h.elim
theorem among_snoc {pos q : Pos} {c v : Value} : ∀ l : List Value, TriplesOk l -> codeAmong q (l ++ [rawInt pos.line, rawInt pos.col, c]) = some v -> codeAmong q l = some v \/ v = c := by
 intro l h e
 fun_induction TriplesOk l with
 | case1 =>
   rw [List.nil_append] at e
   unfold codeAmong rawInt at e
   simp only at e
   split at e
   . cases e; exact .inr rfl
   . unfold codeAmong at e; cases e
 | case2 i _ j _ u r ih =>
   rw [List.cons_append, List.cons_append, List.cons_append] at e
   unfold codeAmong at e ⊢
   split at e
   . rename_i hc
     rw [if_pos hc]
     exact .inl e
   . rename_i hc
     rw [if_neg hc]
     exact ih h e
 | case3 l h1 h2 => exact h.elim
theorem Tab.same {T : Addr} {lq : Str} {H H' : Hp} (t : Tab T lq H) (s : Same H H') : Tab T lq H' := by
 obtain ⟨ps, e, ht, q⟩ := t
 exact ⟨ps, s _ _ e, ht, fun pos v ev => by obtain ⟨c', e1, e2⟩ := q pos v ev; exact ⟨c', e1, s _ _ e2⟩⟩
theorem Tab.but {T : Addr} {lq : Str} {H H' : Hp} {fp : List Addr} (t : Tab T lq H) (s : SameBut fp H H') (n1 : ∀ b ∈ fp, ∀ ps, H b ≠ some (.tbl ps)) (n2 : ∀ b ∈ fp, ∀ φ, H b ≠ some (.ext φ)) : Tab T lq H' := by
 obtain ⟨ps, e, ht, q⟩ := t
 exact ⟨ps, s _ _ e fun m => n1 _ m _ e, ht, fun pos v ev => by obtain ⟨c', e1, e2⟩ := q pos v ev; exact ⟨c', e1, s _ _ e2 fun m => n2 _ m _ e2⟩⟩
section
variable {X : Cx} {c T : Addr} {lq : Str} {params : Arguments} {body : Expr} {scope : Scope} {pos : Pos} {cl : List (Str × Addr)}
def tLam (T : Addr) (lq : Str) (params : Arguments) (body : Expr) (scope : Scope) (cl : List (Str × Addr)) : TE := fun _ H Q => Tab T lq H /\
 ∀ f c' H', H f = none -> H' f = some (FnO f lq params body scope cl c') -> H' c' = some (CodeO c' lq) -> Tab T lq H' -> SameBut [T] H H' -> Q (.ref f) H'
theorem pe_lam (hcd : X.env.code = .ref c) (C : CodeHd X.base c T) (B : X.base.BuiltinsAt X.mg T) (hcl : closureFor scope X.env = pure cl) (hdef : defaultsOf params X.env = ([], [])) (hq : X.env.qual ++ "<lambda>" = lq) :
   PE X (.Lambda params body scope pos) (tLam T lq params body scope cl) := by
 intro pins s σ H Q I ⟨⟨ps, hP, ht, hc⟩, h⟩
 subst hq
 refine kla_eval hdef ?_
 have hg := I.mod.glob.keeps I.bk
 have hPs : s.heap.get? T = some (tabObj ps) := I.hok T _ hP
 have hB : s.heap.BuiltinsAt X.mg T := by
   obtain ⟨bm, o, b1, b2, b3, b4, b5, b6⟩ := B
   exact ⟨bm, o, b1, b2, b3, b4, I.bk _ _ b5, b6⟩
 have hgT : mainGlobals ≠ T := fun q => by
   obtain ⟨o, es, ep, e, hd, _⟩ := hg
   rw [q, hPs] at e; cases e; cases hd
 cases hf : codeAmong pos ps.toList with
 | some v =>
   obtain ⟨c', rfl, hcc⟩ := hc pos v hf
   refine kla_makeFunctionHit hcl I.ok.glob hg hcd (C.keeps I.bk) hPs ht hf hB fun ctv h' tk hk hsz => ?_
   have hk2 : ∀ b u, s.heap.get? b = some u -> (h'.push (kla_obj "<lambda>" (X.env.qual ++ "<lambda>") params body scope cl ((X.mg "__name__").getD .none) c' ctv)).get? b = some u := fun b u e => Heap.get?_push_of_some _ (hk b u e)
   have nf : H h'.objs.size = none := I.hok.fresh hsz
   have J := I.laid (h' := h'.push (kla_obj "<lambda>" (X.env.qual ++ "<lambda>") params body scope cl ((X.mg "__name__").getD .none) c' ctv)) (a := h'.objs.size) (o := FnO h'.objs.size (X.env.qual ++ "<lambda>") params body scope cl c') (t' := tk) hk2 hsz (fnO_ok (Heap.get?_push_size _ rfl))
   have sm := zWw (o := FnO h'.objs.size (X.env.qual ++ "<lambda>") params body scope cl c') nf
   exact ⟨.ref _, _, J, rfl, h _ c' _ nf zQz (sm _ _ hcc) (Tab.same ⟨ps, hP, ht, hc⟩ sm) (SameBut.of sm)⟩
 | none =>
   refine kla_makeFunction hcl I.ok.glob hg hcd (C.keeps I.bk) hPs ht hf hgT hB fun c' ctv h' tk hx hge hlt hrec htb => ?_
   generalize hob : kla_obj "<lambda>" (X.env.qual ++ "<lambda>") params body scope cl ((X.mg "__name__").getD .none) c' ctv = ob
   generalize hps : ps ++ #[rawInt pos.line, rawInt pos.col, Value.ref c'] = ps' at htb
   have nc : H c' = none := I.hok.fresh hge
   have nf : H h'.objs.size = none := I.hok.fresh (Nat.le_of_lt (Nat.lt_of_le_of_lt hge hlt))
   have cf : c' ≠ h'.objs.size := Nat.ne_of_lt hlt
   have cT : c' ≠ T := fun z => by rw [z, hP] at nc; cases nc
   have fT : h'.objs.size ≠ T := fun z => by rw [z, hP] at nf; cases nf
   let H' : Hp := upd (upd (upd H T (.tbl ps')) c' (CodeO c' (X.env.qual ++ "<lambda>"))) h'.objs.size (FnO h'.objs.size (X.env.qual ++ "<lambda>") params body scope cl c')
   have eT : H' T = some (.tbl ps') := by show upd (upd (upd H T _) c' _) _ _ T = _; rw [zQv (Ne.symm fT), zQv (Ne.symm cT), zQz]
   have ec : H' c' = some (CodeO c' (X.env.qual ++ "<lambda>")) := by show upd (upd (upd H T _) c' _) _ _ c' = _; rw [zQv cf, zQz]
   have ef : H' h'.objs.size = some (FnO h'.objs.size (X.env.qual ++ "<lambda>") params body scope cl c') := zQz
   have en : ∀ b, b ≠ T -> b ≠ c' -> b ≠ h'.objs.size -> H' b = H b := fun b n1 n2 n3 => by show upd (upd (upd H T _) c' _) _ _ b = _; rw [zQv n3, zQv n2, zQv n1]
   have es : SameBut [T] H H' := fun b o e n => by
     rw [en b (fun z => n (by simp [z])) (zWv e nc) (zWv e nf)]
     exact e
   have keep : ∀ b o, b ≠ T -> s.heap.get? b = some o -> (h'.push ob).get? b = some o := fun b o n e => Heap.get?_push_of_some _ (hx b o n e)
   have lt : ∀ b o, s.heap.get? b = some o -> b ≠ c' /\ b ≠ h'.objs.size := fun b o e => by
     have := Heap.lt_size e
     exact ⟨Nat.ne_of_lt (Nat.lt_of_lt_of_le this hge), Nat.ne_of_lt (Nat.lt_of_lt_of_le this (Nat.le_of_lt (Nat.lt_of_le_of_lt hge hlt)))⟩
   have U : Un X.fs [] H H' s.heap (h'.push ob) := by
     have nT : ∀ b, H b = none -> b ≠ T := fun b n z => by rw [z, hP] at n; cases n
     refine ⟨fun b o e n _ _ => keep b o (nT b n) e, fun b o e n _ _ => ⟨o.slots, keep b o (nT b n) e⟩, fun b o e n _ => ?_, fun b o e _ => ?_, fun b xs e => ?_, fun b o u e => ?_, fun b qs e => ?_⟩
     . rw [en b (nT b n) (lt b o e).1 (lt b o e).2]; exact n
     . by_cases z : b = T
       . subst z; exact ⟨_, Heap.get?_push_of_some _ htb⟩
       . exact ⟨o, keep b o z e⟩
     . exact es b _ e fun m => by rw [List.mem_singleton.mp m, hP] at e; cases e
     . exact es b _ e fun m => by rw [List.mem_singleton.mp m, hP] at e; cases e
     . by_cases z : b = T
       . subst z
         rw [hP] at e; cases e
         exact ⟨#[rawInt pos.line, rawInt pos.col, Value.ref c'], by rw [eT, hps]⟩
       . exact ⟨#[], by rw [es b _ e fun m => z (List.mem_singleton.mp m)]; simp⟩
   have hok : HOk X.prog X.w H' (h'.push ob) := fun b o e => by
     by_cases z1 : b = h'.objs.size
     . subst z1
       rw [ef] at e; cases e
       exact fnO_ok (by rw [hob]; exact Heap.get?_push_size _ (by rw [<- hob]; rfl))
     by_cases z2 : b = c'
     . subst z2
       rw [ec] at e; cases e
       exact codeO_ok (hrec.push _)
     by_cases z3 : b = T
     . subst z3
       rw [eT] at e; cases e
       exact Heap.get?_push_of_some _ htb
     rw [en b z3 z2 z1] at e
     have own : ∀ c, H c = some (.own b) -> c ≠ T := fun c q z => by rw [z, hP] at q; cases q
     refine (I.hok b o e).stay (fun d u hd q => keep d u ?_ q) (fun d q => ?_) fun d xs q => ?_
     . rcases hd with hd | hd
       . rw [hd]; exact z3
       . exact own d hd
     . exact es d _ q fun m => own d q (List.mem_singleton.mp m)
     . exact es d _ q fun m => by rw [List.mem_singleton.mp m, hP] at q; cases q
   refine ⟨.ref _, H', I.un U hok, rfl, h _ c' H' nf ef ec ⟨ps', eT, ?_, fun q v ev => ?_⟩ es⟩
   . rw [<- hps, Array.toList_append]
     exact triples_snoc _ ht
   . rw [<- hps, Array.toList_append] at ev
     rcases among_snoc _ ht ev with ev | rfl
     . obtain ⟨c2, e1, e2⟩ := hc q v ev
       refine ⟨c2, e1, es _ _ e2 fun m => ?_⟩
       rw [List.mem_singleton.mp m, hP] at e2; cases e2
     . exact ⟨c', rfl, ec⟩
end
def cxLam (P : Program) (w : World) (K : PySem.W.Frag) (mg : Str -> Option Value) (base : Heap) (N : List Str) (qual : Str) (scope : Scope) (f : Addr) (cd : Value) (cl : List (Str × Addr)) (A : Around) (outer : List Env) (s : Shared) (H : Hp) (E : XK) : Cx where
 prog := P
 w := w
 K := K
 mg := mg
 base := base
 A := A.deeper (envX qual scope s.heap.objs.size f cd cl)
 N := N
 s₀ := s
 H₀ := H
 env := envX qual scope s.heap.objs.size f cd cl
 outer := outer
 stack := envX qual scope s.heap.objs.size f cd cl :: outer
 ex := []
 calm := true
 fn := fun _ => false
 pn := []
 xe := fun e s' => wpAny (model P w) (A.deeper (envX qual scope s.heap.objs.size f cd cl)) (leaving (envX qual scope s.heap.objs.size f cd cl) e) (fun _ s'' => CXw P w outer H s E e s'') (fun e' s'' => CXw P w outer H s E e' s'') s'
structure Cells (N : List Str) (scope : Scope) (cl : List (Str × Addr)) (vs : List V) (h : Heap) (H : Hp) : Prop where
 len : vs.length = N.length
 inj : ∀ x y c, cl.lookup x = some c -> cl.lookup y = some c -> x = y
 has : ∀ x, scope.names.lookup x = some .free -> ∃ c, cl.lookup x = some c
 at_ : ∀ x c, cl.lookup x = some c -> (∃ v, h.IsCell c v) /\ H c = none
 val : ∀ (i : Nat) x v, N[i]? = some x -> vs[i]? = some v -> ∃ u c, RelV v u /\ scope.names.lookup x = some .free /\ cl.lookup x = some c /\ h.IsCell c (some u)
theorem Cells.keep {N : List Str} {scope : Scope} {cl : List (Str × Addr)} {vs : List V} {h h' : Heap} {H H' : Hp} (C : Cells N scope cl vs h H) (k : ∀ c o v, h.get? c = some o -> o.data = .cell v -> H c = none -> h'.get? c = some o) (kH : ∀ c o, h.get? c = some o -> H c = none -> H' c = none) : Cells N scope cl vs h' H' := by
 refine ⟨C.len, C.inj, C.has, fun x c e => ?_, fun i x v e1 e2 => ?_⟩
 . obtain ⟨⟨v, o, eo, ed⟩, n⟩ := C.at_ x c e
   exact ⟨⟨v, o, k c o v eo ed n, ed⟩, kH c o eo n⟩
 . obtain ⟨u, c, r, e3, e4, o, eo, ed⟩ := C.val i x v e1 e2
   exact ⟨u, c, r, e3, e4, o, k c o _ eo ed (C.at_ x c e4).2, ed⟩
section
variable {P : Program} {w : World} {K : PySem.W.Frag} {mg : Str -> Option Value} {base : Heap} {N : List Str} {qual : Str} {scope : Scope} {f : Addr} {cd : Value} {cl : List (Str × Addr)} {A : Around} {outer : List Env} {s : Shared} {H : Hp} {E : XK} {vs : List V}
theorem inv_lam {h1 : Heap} {tk : Tok} {fr : Obj} {m : Str -> Option Value} (hd : A.handled = none) (e0 : Env0 P w K mg base A outer s H) (hk : scope.kind = .function) (nocell : ∀ x, scope.names.lookup x ≠ some .cell) (C : Cells N scope cl vs s.heap H)
   (ns : h1.Ns s.heap.objs.size m) (hs : Heap.SameBut s.heap.objs.size (s.heap.push fr) h1) :
   Inv (cxLam P w K mg base N qual scope f cd cl A outer s H E) [] (vs.map some) H { s with heap := h1, toks := tk } := by
 have hk1 : ∀ b o, s.heap.get? b = some o -> h1.get? b = some o := fun b o e => hs.extBut b o (Nat.ne_of_lt (Heap.lt_size e)) (Heap.get?_push_of_some _ e)
 have noA : ∀ b : Addr, b ∉ (cxLam P w K mg base N qual scope f cd cl A outer s H E).ex := fun b z => absurd (show b ∈ ([] : List Addr) from z) (by simp)
 have cellK : ∀ {c v}, s.heap.IsCell c v -> h1.IsCell c v := fun ⟨o, eo, ed⟩ => ⟨o, hk1 _ _ eo, ed⟩
 refine ⟨⟨e0.mod, hk, rfl, rfl, Nat.le_refl _, C.inj, fun y hy => ?_, fun y c z _ => absurd z Bool.false_ne_true, fun _ => hd, Around.frames_deeper e0.frames, .inr ⟨rfl, rfl⟩, fun b z => absurd z (noA b), e0.bs, e0.bsz, fun b _ _ => noA b, fun b z => absurd z (noA b), e0.funs, e0.frf⟩,
   rfl, e0.bare, Un.kept hk1, ⟨_, ns, fun i y v h1 h2 h3 => ?_⟩, fun y c h => ?_, e0.hok.fresh (Nat.le_refl _), fun y c h => (C.at_ y c h).2, fun p hp => absurd (show p ∈ ([] : List (Addr × Obj)) from hp) (by simp), e0.hok.kept hk1, ?_⟩
 . have hy : scope.names.lookup y = some .cell \/ scope.names.lookup y = some .free := hy
   rcases hy with hy | hy
   . exact absurd hy (nocell y)
   . exact C.has y hy
 . have h2 : (vs.map some)[i]? = some (some v) := h2
   rw [List.getElem?_map] at h2
   cases q : vs[i]? with
   | none => rw [q] at h2; cases h2
   | some v' =>
     rw [q] at h2
     cases h2
     obtain ⟨u, c, r, e3, e4, ic⟩ := C.val i y v h1 q
     exact ⟨u, r, .inr ⟨.inr e3, c, e4, cellK ic⟩⟩
 . obtain ⟨⟨v, ic⟩, _⟩ := C.at_ y c h
   exact ⟨v, cellK ic⟩
 . rw [List.length_map]
   exact C.len
theorem xQq : Passes (CXw P w) (cxLam P w K mg base N qual scope f cd cl A outer s H E) E := by
 rintro pins σ H1 s1 e s' I ⟨x, T, cls, H', rfl, ho, hg, u, hok, nx, nT, hx, hT, X, q⟩
 have hfr : (A.deeper (envX qual scope s.heap.objs.size f cd cl)).frames = some (envX qual scope s.heap.objs.size f cd cl :: outer) := I.ok.frames
 have I1 : Inv (cxLam P w K mg base N qual scope f cd cl A outer s H E) pins σ H' s' := I.call' ho u hok hg fun b z => absurd z (by simp)
 refine leave_next (base := base) hfr I1.stack rfl X fun h2 T' nT' X2 S2 => ?_
 have J : Inv (cxLam P w K mg base N qual scope f cd cl A outer s H E) pins σ H' { s' with heap := h2 } :=
   I.flown (s1 := s') u hok S2 (fun b mb => by
     rcases List.mem_cons.mp mb with z | mb
     . subst z
       exact ⟨nx, hx⟩
     . obtain rfl : b = T := by simpa using mb
       exact ⟨nT, hT⟩) ho hg
 exact ⟨x, T', cls, H', rfl, J.os, J.bare, J.base, J.hok, cx_new I rfl nx, cx_new I1 rfl nT', hx, yZq hok nT', X2, q⟩
theorem lam_run {k : Nat} {params : Arguments} {body : Expr} {c' : Addr} {te : TE} {Q : VK} (hr : Room k A) (h50 : 50 <= k) (e0 : Env0 P w K mg base A outer s H) (hf : H f = some (FnO f qual params body scope cl c')) (hc : H c' = some (CodeO c' qual))
   (hk : scope.kind = .function) (hco : scope.isCoroutine = false) (hgen : scope.isGenerator = false) (hcell : ∀ x ∈ scope.names, x.2 ≠ .cell) (hbind : ∀ pm ctv, bindArgs (kla_fn "<lambda>" qual params body scope cl pm (.ref c') ctv) ⟨[], []⟩ = pure [])
   (C : Cells N scope cl vs s.heap H) (hb : PE (cxLam P w K mg base N qual scope f (.ref c') cl A outer s H E) body te) (h : te (vs.map some) H Q) :
   codeAny (model P w) A (.call (.ref f) ⟨[], []⟩) (CR (CXw P w) outer P w H s Q E) s := by
 obtain ⟨⟨pm, ctv, ef⟩, _⟩ := e0.hok f _ hf
 obtain ⟨rec, _⟩ := e0.hok c' _ hc
 have lim : s.heap.NoLimit := e0.mod.nolimit.keeps fun b o e => (e0.bs b o e).1
 refine kla_callFunE hr.depth ef rfl hco hgen rfl rec ?_
 rw [hbind]
 refine wpAny_pure (wpAny_newFunctionEnv hcell (fun y m => nomatch m) (fun h1 hns hsb => ⟨lim.keeps fun b o e => hsb.extBut b o (Nat.ne_of_lt (Heap.lt_size e)) (Heap.get?_push_of_some _ e), ?_⟩) hk)
 show codeAny _ _ (.expr body (envX qual scope s.heap.objs.size f (.ref c') cl)) _ _
 have I : Inv (cxLam P w K mg base N qual scope f (.ref c') cl A outer s H E) [] (vs.map some) H { s with heap := h1, toks := s.toks + ([] : List (Str × Value)).length } := inv_lam (hr.hd h50) e0 hk (fun x q => hcell _ (PySem.mem_of_lookup q) rfl) C hns hsb
 refine kla_codeExpr (wpAny_mono (hb [] _ _ H Q I h) (fun v s' q => ?_) fun e s' q => q)
 obtain ⟨v', H', J, rv, q⟩ := q
 exact ⟨v', H', J.os, J.bare, J.base, J.hok, rv, q⟩
end
abbrev SpS := List Env -> Shared -> Sp
structure FnOkS (P : Program) (w : World) (K : PySem.W.Frag) (mg : Str -> Option Value) (base : Heap) (k : Nat) (f : Addr) (fd : FuncData) (ps : List Str) (sp : SpS) : Prop where
 len : ∀ o s vs H Q E, sp o s vs H Q E -> vs.length = ps.length
 run : ∀ (A : Around) (outer : List Env) (s : Shared) (H : Hp) (args : Args) (us : List Value) (vs : List V) (Q : VK) (E : XK), Room k A -> Env0 P w K mg base A outer s H -> BindsTo s fd args (ps.zip us) -> Vals vs us -> sp outer s vs H Q E ->
   codeAny (model P w) A (.call (.ref f) args) (CR (CXw P w) outer P w H s Q E) s
structure FnBS (P : Program) (w : World) (K : PySem.W.Frag) (mg : Str -> Option Value) (base : Heap) (k : Nat) (x : Str) (ps : List Str) (sp : SpS) : Prop where
 ex : ∃ (f : Addr) (fd : FuncData), FnOkS P w K mg base k f fd ps sp /\ Binds K fd ps [] /\ mg x = some (.ref f) /\ PySem.W.keepIn K (.ref f) = true
section
variable {P : Program} {w : World} {K : PySem.W.Frag} {mg : Str -> Option Value} {base : Heap}
theorem Fun.okS {x qual : Str} {st : Stmt} {f : Addr} {fd : FuncData} {N ps : List Str} {k : Nat} {sp : SpS} (hk : 50 <= k + 1) (F : Fun K x qual st f fd) (S : FnScope N ps (defScope st)) (len : ∀ o s vs H Q E, sp o s vs H Q E -> vs.length = ps.length)
   (hbody : ∀ (cdv : Value) (A : Around) (outer : List Env) (s : Shared) (H : Hp) (vs : List V) (Q : VK) (E : XK), Room k (A.deeper (envOfC qual (defScope st) s.heap.objs.size f cdv)) -> sp outer s vs H Q E ->
     ∃ t, PSs (cxOf true (CXw P w) P w K mg base N qual (defScope st) f cdv A outer s H E) (defBody st) t /\ t { nx := fun _ H' => Q .non H', rt := Q } (start N vs) H) : FnOkS P w K mg base (k + 1) f fd ps sp := by
 refine ⟨len, fun A outer s H args us vs Q E hr e0 hb rv h => ?_⟩
 obtain ⟨oc, od, kV, doc, pm, an, cdv, ct, osl, rfl, lk, hcd⟩ := F.ex
 have hl := len _ _ _ _ _ _ h
 have KX : K.In s.heap := e0.mod.kin.keeps fun b o e => (e0.bs b o e).1
 have lim : s.heap.NoLimit := e0.mod.nolimit.keeps fun b o e => (e0.bs b o e).1
 have hkind : ∀ y ∈ ps.zip us, (defScope st).names.lookup y.1 = some .local \/ ((defScope st).names.lookup y.1 = some .cell /\ ((cellsFrom (s.heap.objs.size + 1) (defScope st).names []).lookup y.1).isSome = true) := fun ⟨n, v⟩ hy => by
   rcases S.par n (List.of_mem_zip hy).1 with q | q
   . exact .inl q
   . exact .inr ⟨q, PySem.W.cellsFrom_some _ _ _ (.inl q)⟩
 refine codeAny_call_function hr.depth (KX _ _ lk) rfl S.co S.gen rfl (PySem.W.codeRec_of KX hcd) (hb _ _ _ _ ?_)
 refine wpAny_newFunctionEnv_cells S.kind hkind fun env he s1 x => ?_
 subst he
 refine ⟨lim.keeps x.toInCall.keep, codeAny_func ?_⟩
 obtain ⟨t, ht, hq⟩ := hbody cdv A outer s H vs Q E (hr.deeper _) h
 have I : Inv (cxOf true (CXw P w) P w K mg base N qual (defScope st) f cdv A outer s H E) [] (start N vs) H s1 := wQv S (fun _ => hr.hd hk) e0 hl rv x
 refine wpAny_mono (ht [] s1 (start N vs) H _ I hq) (fun fl s' hs => ?_) fun e s' hs => hs
 have fin : ∀ {σ' : St} {H' : Hp} {v : V} {u : Value}, Inv (cxOf true (CXw P w) P w K mg base N qual (defScope st) f cdv A outer s H E) [] σ' H' s' -> RelV v u -> Q v H' -> CE outer P w H s Q u s' :=
   fun {σ' H' v u} J rv q => ⟨v, H', J.os, J.bare, J.base, J.hok, rv, q⟩
 cases fl with
 | ret u =>
   obtain ⟨v, σ', H', J, rv, q⟩ := hs
   exact fin J rv q
 | next =>
   obtain ⟨σ', H', J, q⟩ := hs
   exact fin (v := V.non) (u := Value.none) J rfl q
 | brk =>
   obtain ⟨_, _, _, q⟩ := hs
   exact False.elim q
 | cont =>
   obtain ⟨_, _, _, q⟩ := hs
   exact False.elim q
end
structure LamSc (params : Arguments) (scope : Scope) : Prop where
 kind : scope.kind = .function
 co : scope.isCoroutine = false
 gen : scope.isGenerator = false
 cell : ∀ x ∈ scope.names, x.2 ≠ .cell
 bind : ∀ body qual cl pm cd ctv, bindArgs (kla_fn "<lambda>" qual params body scope cl pm cd ctv) ⟨[], []⟩ = pure []
def spDeed (P : Program) (w : World) (K : PySem.W.Frag) (mg : Str -> Option Value) (base : Heap) (k : Nat) (WD : Value -> VK -> Hp -> Prop) : SpS := fun outer s vs H Q _ =>
 ∃ (f c' : Addr) (lq : Str) (params : Arguments) (body : Expr) (scope : Scope) (cl : List (Str × Addr)) (N : List Str) (ws : List V) (te : TE) (EH : XK), vs = [.ref f] /\ H f = some (FnO f lq params body scope cl c') /\ H c' = some (CodeO c' lq) /\ LamSc params scope /\
   Cells N scope cl ws s.heap H /\ (∀ x c, cl.lookup x = some c -> c ∉ frs outer) /\ (∀ A2 outer2 s2, Room k A2 -> PE (cxLam P w K mg base N lq scope f (.ref c') cl A2 outer2 s2 H EH) body te) /\ te (ws.map some) H Q /\ ∀ cls x H', EH cls x H' -> WD cls Q H'
section
variable {X : Cx} {k : Nat} {x : Str} {p pos lpos : Pos}
def tLCall (i : Nat) (f : Addr) (H₁ : Hp) (ws : List V) (te : TE) : TE := fun σ H Q => σ[i]? = some (some (.ref f)) /\ H = H₁ /\ te (ws.map some) H Q
theorem pe_lcall {E : XK} {f c' : Addr} {lq : Str} {params : Arguments} {body : Expr} {scope : Scope} {cl : List (Str × Addr)} {N : List Str} {ws : List V} {te : TE} (i : Nat) (hP : Passes (CXw X.prog X.w) X E) (hr : Room (k + 1) X.A) (h50 : 50 <= k) (hex : X.ex = [])
   (hf : X.H₀ f = some (FnO f lq params body scope cl c')) (hc : X.H₀ c' = some (CodeO c' lq)) (S : LamSc params scope) (C : Cells N scope cl ws X.s₀.heap X.H₀) (nfr : ∀ x c, cl.lookup x = some c -> c ∉ X.fs)
   (hb : ∀ A2 outer2 s2, Room k A2 -> PE (cxLam X.prog X.w X.K X.mg X.base N lq scope f (.ref c') cl A2 outer2 s2 X.H₀ E) body te) (hv : PE X (.Name x p) (tVar i)) : PE X (.Call (.Name x p) [] [] pos) (tLCall i f X.H₀ ws te) := by
 intro pins s σ H Q I ⟨hσ, hH, h⟩
 subst hH
 refine wpAny_Call_Name_kw (thn (hv pins s σ X.H₀ (fun v H1 => v = .ref f /\ H1 = X.H₀) I ⟨_, hσ, rfl, rfl⟩) fun u s1 ⟨v, H1, I1, rv, hv1, hH1⟩ => ?_)
 subst hv1 hH1
 cases rv
 have at1 : FnAt f s1.heap := by
   obtain ⟨⟨pm, ctv, ef⟩, _⟩ := I1.hok f _ hf
   exact ⟨_, _, _, _, ef⟩
 refine callWith_F0 at1 ?_
 have C1 : Cells N scope cl ws s1.heap X.H₀ := by
   refine ⟨C.len, C.inj, C.has, fun y c e => ?_, fun j y v e1 e2 => ?_⟩
   . obtain ⟨⟨v, o, eo, ed⟩, n⟩ := C.at_ y c e
     exact ⟨⟨v, o, I1.base.keep c o eo n (nfr y c e) (by rw [hex]; simp), ed⟩, n⟩
   . obtain ⟨u, c, r, e3, e4, o, eo, ed⟩ := C.val j y v e1 e2
     exact ⟨u, c, r, e3, e4, o, I1.base.keep c o eo (C.at_ y c e4).2 (nfr y c e4) (by rw [hex]; simp), ed⟩
 refine wpAny_call (codeAny_mono (lam_run (E := E) (hr.mono (Nat.le_succ _)) h50 I1.env0 hf hc S.kind S.co S.gen S.cell (fun pm ctv => S.bind _ _ _ _ _ _) C1 (hb X.A X.stack s1 (hr.mono (Nat.le_succ _))) h) fun r s' hq => ?_)
 cases r with
 | error e => exact hP pins σ X.H₀ s1 e s' I1 hq
 | ok fl =>
   cases fl with
   | ret u => exact I1.after hq
   | next => exact False.elim hq
   | brk => exact False.elim hq
   | cont => exact False.elim hq
theorem pe_lcallH {E : XK} {H₁ : Hp} {f c' : Addr} {lq : Str} {params : Arguments} {body : Expr} {scope : Scope} {cl : List (Str × Addr)} {N : List Str} {ws : List V} {te : TE} (i : Nat) (hP : Passes (CXw X.prog X.w) X E) (hr : Room (k + 1) X.A) (h50 : 50 <= k) (hex : X.ex = []) (hH : X.H₀ = H₁)
   (hf : H₁ f = some (FnO f lq params body scope cl c')) (hc : H₁ c' = some (CodeO c' lq)) (S : LamSc params scope) (C : Cells N scope cl ws X.s₀.heap H₁) (nfr : ∀ x c, cl.lookup x = some c -> c ∉ X.fs)
   (hb : ∀ A2 outer2 s2, Room k A2 -> PE (cxLam X.prog X.w X.K X.mg X.base N lq scope f (.ref c') cl A2 outer2 s2 H₁ E) body te) (hv : PE X (.Name x p) (tVar i)) : PE X (.Call (.Name x p) [] [] pos) (tLCall i f H₁ ws te) := by
 subst hH
 exact pe_lcall i hP hr h50 hex hf hc S C nfr hb hv
def tTold (X : Cx) (k : Nat) (WD : Value -> VK -> Hp -> Prop) (T : Addr) (lq : Str) (scope : Scope) (body : Expr) (ci : List Nat) (caps : List Str) : TE := fun σ H Q => Tab T lq H /\ ∀ H1, Tab T lq H1 -> SameBut [T] H H1 ->
 ∃ (ws : List V) (te : TE) (EH : XK), capt ci σ = ws.map some /\ (∀ f c' cl A2 outer2 s2, Room k A2 -> PE (cxLam X.prog X.w X.K X.mg X.base caps lq scope f (.ref c') cl A2 outer2 s2 H1 EH) body te) /\ te (ws.map some) H1 Q /\ ∀ cls x H', EH cls x H' -> WD cls Q H'
theorem pe_told {k2 : Nat} {ps : List Str} {WD : Value -> VK -> Hp -> Prop} {c T : Addr} {lq : Str} {params : Arguments} {body : Expr} {scope : Scope} (ci : List Nat) (caps : List Str) (B : FnBS X.prog X.w X.K X.mg X.base k2 x ps (spDeed X.prog X.w X.K X.mg X.base k WD)) (hr : Room k2 X.A) (hg : Gl X x)
   (hcd : X.env.code = .ref c) (C : CodeHd X.base c T) (BM : X.base.BuiltinsAt X.mg T) (hdef : defaultsOf params X.env = ([], [])) (hq : X.env.qual ++ "<lambda>" = lq) (S : LamSc params scope)
   (hfree : ∀ y ∈ scope.names, y.2 = .free -> X.env.kindOf y.1 = some .cell) (hcap : ∀ p ∈ caps.zip ci, scope.names.lookup p.1 = some .free /\ X.N[p.2]? = some p.1) (hlen : caps.length = ci.length) (hfn : ∀ y, X.fn y = true)
   (hdb : (x == ("__debug__" : Str)) = false := by decide) : PE X (.Call (.Name x p) [.Lambda params body scope lpos] [] pos) (tTold X k WD T lq scope body ci caps) := by
 intro pins s σ H Q I ⟨tab, h⟩
 obtain ⟨fn, fd, F, hb, hm, hk⟩ := B.ex
 have hfree' : ∀ n, (n, NameKind.free) ∈ scope.names -> X.env.kindOf n = some .cell := fun n m => hfree (n, .free) m rfl
 have hclos : closureFor scope X.env = pure (clAcc X.env scope.names []) := yJk fun n m => I.ok.has n (.inl (hfree' n m))
 have c1 : ∀ n c, (clAcc X.env scope.names []).lookup n = some c -> (n, NameKind.free) ∈ scope.names /\ X.env.cells.lookup n = some c := fun n c e => by
   rcases xZx (PySem.mem_of_lookup e) with z | ⟨z, e'⟩
   . exact absurd z (by simp)
   . obtain ⟨d, hd⟩ := I.ok.has n (.inl (hfree' n z))
     rw [hd] at e'
     exact ⟨z, by rw [hd, e']; rfl⟩
 have c2 : ∀ n, (n, NameKind.free) ∈ scope.names -> ∃ c, (clAcc X.env scope.names []).lookup n = some c := fun n m => by
   obtain ⟨c, hc⟩ := xZz (env := X.env) (cs := []) m
   exact xQw hc
 have ha : PA X [.Lambda params body scope lpos] _ := zQw (pe_lam (pos := lpos) hcd C BM hclos hdef hq) zQk (by exact zQq rfl)
 refine wpAny_Call_Name_kw (xWq I hg hm ?_ hdb)
 refine PySem.W.callWith_K (h₀ := X.base) I.ok.mod.kin hk (thn (ha pos pins s σ H (fun vs H1 => ∃ f c', vs = [.ref f] /\ H1 f = some (FnO f lq params body scope (clAcc X.env scope.names []) c') /\ H1 c' = some (CodeO c' lq) /\ Tab T lq H1 /\ SameBut [T] H H1) I ⟨tab, fun f c' H' nf ef ec t' sb => ⟨f, c', rfl, ef, ec, t', sb⟩⟩) fun us s1 ⟨vs, H1, I1, r, f, c', hvs, ef, ec, t', sb⟩ => ⟨I1.kIn, ?_⟩) (by exact zQq rfl) (by exact zQx rfl)
 subst hvs
 obtain ⟨ws, te, EH, ew, hbody, rd, hw⟩ := h H1 t' sb
 have notfr : ∀ y c, X.env.cells.lookup y = some c -> c ∉ frs X.stack := fun y c e m => by
   rcases List.mem_cons.mp (I1.stkSub c m) with z | z
   . exact I1.cne y c e z
   . obtain ⟨_, o, eo, _⟩ := I1.ok.funs.mem z
     exact absurd (Heap.lt_size eo) (Nat.not_lt.mpr (I1.ok.cab y c (hfn y) e))
 have Cs : Cells caps scope (clAcc X.env scope.names []) ws s1.heap H1 := by
   have lw : ws.length = ci.length := by
     have := congrArg List.length ew
     unfold capt at this
     rw [List.length_map, List.length_map] at this
     exact this.symm
   refine ⟨by rw [lw, hlen], fun y z c e1 e2 => I.ok.inj y z c (c1 y c e1).2 (c1 z c e2).2, fun y hy => c2 y (PySem.mem_of_lookup hy), fun y c e => ⟨I1.cell y c (c1 y c e).2, I1.freeC y c (c1 y c e).2⟩, fun j y v e1 e2 => ?_⟩
   have hj : j < ci.length := by rw [<- lw]; exact (List.getElem?_eq_some_iff.mp e2).1
   have ez : (caps.zip ci)[j]? = some (y, ci[j]) := by
     rw [List.getElem?_zip_eq_some]
     exact ⟨e1, by simp [hj]⟩
   obtain ⟨hl, hn⟩ := hcap _ (List.mem_of_getElem? ez)
   have eσ : σ[ci[j]]? = some (some v) := by
     have q := congrArg (fun l => l[j]?) ew
     simp only [capt, List.getElem?_map, e2] at q
     rw [show ci[j]? = some ci[j] by simp [hj]] at q
     simp only [Option.map_some, Option.some.injEq] at q
     cases q2 : σ[ci[j]]? with
     | none => rw [q2] at q; cases q
     | some o =>
       rw [q2] at q
       have q : o = some v := q
       rw [q]
   have hce : X.env.kindOf y = some .cell := hfree' y (PySem.mem_of_lookup hl)
   obtain ⟨m, _, lk⟩ := I1.loc
   obtain ⟨u, rv, lo⟩ := lk ci[j] y v hn eσ (.inr (.inl hce))
   rcases lo with ⟨z, _⟩ | ⟨_, c, ec', ic⟩
   . rw [hce] at z; cases z
   . obtain ⟨c0, hc0⟩ := c2 y (PySem.mem_of_lookup hl)
     have := (c1 y c0 hc0).2
     rw [ec'] at this; cases this
     exact ⟨u, c, rv, hl, hc0, ic⟩
 have q : spDeed X.prog X.w X.K X.mg X.base k WD X.stack s1 [.ref f] H1 Q E0 := ⟨f, c', lq, params, body, scope, _, caps, ws, te, EH, rfl, ef, ec, S, Cs, fun y c e => notfr y c (c1 y c e).2, fun A2 o2 s2 hr2 => hbody f c' _ A2 o2 s2 hr2, rd, hw⟩
 have hl : (us ++ []).length = ps.length := by rw [List.append_nil, <- r.length]; exact F.len _ _ _ _ _ _ q
 have bb := hb s1 us I1.kIn hl
 rw [List.append_nil] at bb
 refine wpAny_call (codeAny_mono (F.run X.A X.stack s1 H1 ⟨us, []⟩ us [.ref f] Q E0 hr I1.env0 bb r q) fun r s' hq => ?_)
 cases r with
 | error e => exact passE (X := X) pins σ H1 s1 e s' I1 hq
 | ok fl =>
   cases fl with
   | ret u => exact I1.after hq
   | next => exact False.elim hq
   | brk => exact False.elim hq
   | cont => exact False.elim hq
end
theorem law_callT {P : Program} {w : World} {K : PySem.W.Frag} {mg mb : Str -> Option Value} {CX : CXT} {k : Nat} {fa a c T : Addr} {fd : FuncData} {x : Str} {sp : Sp} {s₁ : Shared} {vs : List Value} {ns : List Int}
   (KX : K.In s₁.heap) (hns : s₁.heap.Ns mainGlobals mg) (hb : s₁.heap.Ns builtinsNs mb) (hbb : ∀ x : Str, x ≠ "__name__" -> mb x = bootBuiltins x) (hlim : s₁.heap.NoLimit) (hg : s₁.gens = #[])
   (hC : CodeHd s₁.heap c T) (hT : s₁.heap.get? T = some (tabObj #[])) (hBM : s₁.heap.BuiltinsAt mg T) (hKT : K.lookup T = none)
   (ha : s₁.heap.get? a = some { cls := .type "list", data := .seq vs.toArray }) (hi : IntsAre vs ns) (hl : ns.length <= sizeLine) (hr : Room k callerA)
   (F : ∀ base : Heap, K.In base -> base.Ns mainGlobals mg -> CodeHd base c T -> base.BuiltinsAt mg T -> FnOk P w K mg base CX k fa fd [x] sp) (hbind : ∀ (s : Shared) (u : Value), BindsTo s fd ⟨[u], []⟩ [(x, u)])
   (hsp : ∀ H : Hp, Only H -> SqL K H a (ns.map V.int) -> H T = none -> sp [.ref a] (upd H T (.tbl #[])) (fun v _ => v = .bl true) fun _ _ _ => False)
   (hCX : ∀ H e s', CX [] H s₁ (fun _ _ _ => False) e s' -> False) :
   codeAny (model P w) callerA (.call (.ref fa) ⟨[.ref a], []⟩) (fun r s' => r = .ok (.ret (.bool true)) /\ OldK s₁.heap s'.heap /\ s'.os = s₁.os /\ AllBare s'.gens) s₁ := by
 have rv := vals_ints hi
 have lenV := hi.length
 have aT : a ≠ T := fun z => by rw [z, hT] at ha; cases ha
 have core : ∀ H1 : Hp, Only H1 -> SqL K H1 a (ns.map V.int) -> HOk P w H1 s₁.heap -> (∀ b, H1 b ≠ none -> b = a) -> (H1 a ≠ none -> K.lookup a = none) ->
     codeAny (model P w) callerA (.call (.ref fa) ⟨[.ref a], []⟩) (fun r s' => r = .ok (.ret (.bool true)) /\ OldK s₁.heap s'.heap /\ s'.os = s₁.os /\ AllBare s'.gens) s₁ := by
   intro H1 hO hS hok1 hA1 hK1
   have nT : H1 T = none := by
     cases q : H1 T with
     | none => rfl
     | some u => exact absurd (hA1 T (by rw [q]; simp)).symm aT
   generalize hH : upd H1 T (.tbl #[]) = H
   have eT : H T = some (.tbl #[]) := by rw [<- hH]; exact zQz
   have eN : ∀ b, b ≠ T -> H b = H1 b := fun b n => by rw [<- hH, zQv n]
   have hok : HOk P w H s₁.heap := fun b o e => by
     by_cases z : b = T
     . subst z
       rw [eT] at e; cases e
       exact hT
     . rw [eN b z] at e
       exact (hok1 b o e).stay (fun _ _ _ q => q) (fun d q => by rw [eN d (fun z => by rw [z, nT] at q; cases q)]; exact q) fun d xs q => by rw [eN d (fun z => by rw [z, nT] at q; cases q)]; exact q
   have base_of : ∀ {b : Addr} {o : Obj}, s₁.heap.get? b = some o -> H b = none -> (hidT s₁.heap H).get? b = some o := fun e n => hidT_get e n
   have free : ∀ {b : Addr} {o : Obj}, s₁.heap.get? b = some o -> o ≠ tabObj #[] -> (∀ n, o ≠ { cls := .type "list", data := .seq vs.toArray n }) -> H b = none := fun {b o} e n1 n2 => by
     by_cases z : b = T
     . subst z
       rw [hT] at e; cases e
       exact absurd rfl n1
     . rw [eN b z]
       cases q : H1 b with
       | none => rfl
       | some u =>
         have e' : b = a := hA1 b (by rw [q]; simp)
         subst e'
         rw [ha] at e; cases e
         exact absurd rfl (n2 _)
   have nsK : ∀ {b : Addr} {m : Str -> Option Value}, s₁.heap.Ns b m -> (hidT s₁.heap H).Ns b m := fun {b m} ⟨o, es, ep, e, d, r⟩ => ⟨o, es, ep, base_of e (free e (fun z => by rw [z] at d; cases d) fun n z => by rw [z] at d; cases d), d, r⟩
   have hKb : K.In (hidT s₁.heap H) := fun b o e => base_of (KX b o e) (by
     by_cases z : b = T
     . subst z
       rw [hKT] at e; cases e
     . rw [eN b z]
       cases q : H1 b with
       | none => rfl
       | some u =>
         have e' : b = a := hA1 b (by rw [q]; simp)
         subst e'
         rw [hK1 (by rw [q]; simp)] at e; cases e)
   have hCb : CodeHd (hidT s₁.heap H) c T := by
     obtain ⟨o, us, file, tf, flags, tg, inF, text, tt, e, r1, r2, r3⟩ := hC
     exact ⟨o, us, file, tf, flags, tg, inF, text, tt, base_of e (free e (fun z => by rw [z] at r1; cases r1) fun n z => by rw [z] at r1; exact absurd (Value.type.inj r1) (by decide)), r1, r2, r3⟩
   have hBb : (hidT s₁.heap H).BuiltinsAt mg T := by
     obtain ⟨bm, o, b1, b2, b3, b4, b5, b6, b7⟩ := hBM
     exact ⟨bm, o, b1, b2, b3, b4, base_of b5 (free b5 (fun z => by rw [z] at b6; cases b6) fun n z => by rw [z] at b6; exact absurd (Value.type.inj b6) (by decide)), b6, b7⟩
   have hM : Mod K mg (hidT s₁.heap H) := ⟨hKb, nsK hns, ⟨mb, nsK hb, hbb⟩, let ⟨mc, h1, h2⟩ := hlim; ⟨mc, nsK h1, h2⟩⟩
   have e0 : Env0 P w K mg (hidT s₁.heap H) callerA [] s₁ H := ⟨rfl, hM, fun b o e => of_hidT e, Nat.le_of_eq (hidT_size _ _), trivial, fun b hb => absurd (show b ∈ ([] : List Addr) from hb) (by simp), hok, .of_eq hg⟩
   refine codeAny_mono ((F _ hKb (nsK hns) hCb hBb).run callerA [] s₁ H ⟨[.ref a], []⟩ [.ref a] [.ref a] _ _ hr e0 (hbind s₁ (.ref a)) (.cons rfl .nil) (by rw [<- hH]; exact hsp H1 hO hS nT)) fun r s' h => ?_
   cases r with
   | error e => exact (hCX H e s' h).elim
   | ok fl =>
     cases fl with
     | next => exact False.elim h
     | brk => exact False.elim h
     | cont => exact False.elim h
     | ret u =>
       obtain ⟨v, H', os, bare, un, hok', r', q⟩ := h
       have q' : v = .bl true := q
       subst q'
       obtain rfl : u = Value.bool true := r'
       obtain ⟨more, e2⟩ := un.tbls T _ eT
       have eT' : s'.heap.get? T = some (tabObj (#[] ++ more)) := hok' T _ e2
       have kp : ∀ b o, b ≠ T -> s₁.heap.get? b = some o -> s'.heap.get? b = some o := fun b o nb e => by
         cases q : H b with
         | none => exact un.keep b o e q (by intro z; exact absurd (show b ∈ ([] : List Addr) from z) (by simp)) (by simp)
         | some u =>
           rw [eN b nb] at q
           rcases hO b with z | ⟨ob, xs, z⟩
           . rw [q] at z; cases z
           . have z1 : H b = some (.frz ob (.lst xs)) := by rw [eN b nb]; exact z
             have z2 := un.frzs b ob _ z1
             obtain ⟨e1, _⟩ := hok b _ z1
             obtain ⟨e2, _⟩ := hok' b _ z2
             rw [e] at e1; cases e1
             exact e2
       refine ⟨rfl, ⟨fun b o e => ?_, fun b o e => ?_⟩, os, bare⟩
       . by_cases z : b = T
         . subst z
           rw [hT] at e; cases e
           exact .inr (.inl ⟨(hC.tab hT).isCodeTable, rfl, #[], more, rfl, eT'⟩)
         . exact .inl (kp b o z e)
       . by_cases z : b = T
         . subst z; exact ⟨_, eT'⟩
         . exact ⟨o, kp b o z e⟩
 cases hk : K.lookup a with
 | some o =>
   have e := KX a o hk
   rw [ha] at e
   cases e
   refine core (fun _ => none) (fun _ => .inl rfl) (.inr ⟨_, vs.toArray, _, hk, rfl, rfl, rfl, by rw [List.size_toArray, lenV]; exact hl, by simpa using rv⟩) (fun b u z => by have z' : (none : Option HO) = some u := z; cases z') (fun b z => absurd rfl z) fun z => absurd rfl z
 | none =>
   refine core (fun b => if b = a then some (.frz { cls := .type "list", data := .seq vs.toArray } (.lst (ns.map V.int))) else none) (fun b => ?_) (.inl (.inr ⟨{ cls := .type "list", data := .seq vs.toArray }, if_pos rfl⟩)) (fun b u z => ?_) (fun b z => ?_) fun _ => hk
   . by_cases hb : b = a
     . exact .inr ⟨_, _, if_pos hb⟩
     . exact .inl (if_neg hb)
   . by_cases hb : b = a
     . have z' := (if_pos hb).symm.trans z
       cases z'
       subst hb
       exact ⟨ha, by rw [List.length_map]; exact hl, vs, _, rv, ha⟩
     . have z' := (if_neg hb).symm.trans z
       cases z'
   . by_cases hb : b = a
     . exact hb
     . exact absurd (if_neg hb) z
theorem walk_ofT {l : PySem.W.OpenLaw} {n k : Nat} {q : Program} {loose : List Str} {XP : (Str -> Option Value) -> Heap -> Prop} {YP : World -> Heap -> Prop} {d d0 : DefRec} {K : Params -> PySem.W.Frag} {CX : World -> CXT} {sp : World -> Addr -> Sp} {x nm : Str}
   (hn : l.most = some n) (hn2 : n <= sizeLine) (hdf : d.params.defaults = []) (hr : Room k callerA)
   (hY : ∀ (w : World) (h : Heap), YP w h -> (K w.params).In h) (hrec : (recsOf q).find? (fun e => e.name == nm) = some d0)
   (F : ∀ (w : World) (mg : Str -> Option Value) (fa : Addr) (h : Heap), (K w.params).In h -> h.Ns mainGlobals mg -> mg d.name = some (.ref fa) ->
     ∃ (fd : FuncData) (c T : Addr), tabIn (K w.params) nm = some (c, T) /\ (K w.params).lookup T = none /\ (∀ (s : Shared) (u : Value), BindsTo s fd ⟨[u], []⟩ [(x, u)]) /\
       ∀ base : Heap, (K w.params).In base -> base.Ns mainGlobals mg -> CodeHd base c T -> base.BuiltinsAt mg T -> FnOk l.prog w (K w.params) mg base (CX w) k fa fd [x] (sp w T))
   (hsp : ∀ (w : World) (T : Addr) (H : Hp) (a : Addr) (ns : List Int), ns.length <= n -> Only H -> SqL (K w.params) H a (ns.map V.int) -> H T = none -> sp w T [.ref a] (upd H T (.tbl #[])) (fun v _ => v = .bl true) fun _ _ _ => False)
   (hCX : ∀ (w : World) (H : Hp) (s : Shared) (e : Value) (s' : Shared), CX w [] H s (fun _ _ _ => False) e s' -> False) :
   PySem.W.WalkO q loose XP YP l.row.toRowW d [] (fun f vs => PySem.call f vs) := by
 refine Att.attach_call hn hdf fun w s₀ s₁ mg mb fa o pm cd doc a vs ns G Y ho hd hcd hmg hobj hints hlen hg => ?_
 have KX := hY w _ Y
 obtain ⟨fd, c, T, ht, hKT, hb, hF⟩ := F w mg fa _ KX G.T.g hmg
 obtain ⟨hC, hT⟩ := tab_of G.T KX hrec ht
 obtain ⟨bm, ob, b1, b2, b3, b4, b5, b6⟩ := G.T.bmain
 have hBM : s₁.heap.BuiltinsAt mg T := by
   have hbP : bm ≠ T := fun q => by
     rw [q, hT] at b3; cases b3; cases b4
   have hbG : bm ≠ mainGlobals := fun q => by
     obtain ⟨o, es, ep, e, hd, _⟩ := G.T.g
     rw [q, e] at b3; cases b3; rw [hd] at b6; cases b6
   exact ⟨bm, ob, b1, b2, hbG, hbP, b3, b4, b5, b6⟩
 exact law_callT KX G.T.g G.T.b G.T.builtins G.T.nolimit hg hC hT hBM hKT hobj hints (Nat.le_trans hlen hn2) hr hF hb (fun H hO hS hT => hsp w T H a ns hlen hO hS hT) fun H e s' => hCX w H s₁ e s'
theorem tabIn_of {K : Frag} {x : Str} {f c T : Addr} {oc occ : Value} {od odc : Option Addr} {fd : FuncData} {sl slc : Array (Option Value)} {vs : Array Value} (h1 : nsIn K mainGlobals x = some (some (.ref f))) (h2 : K.lookup f = some ⟨oc, od, .func fd, sl⟩) (h3 : fd.code = .ref c)
   (h4 : K.lookup c = some ⟨occ, odc, .fields vs, slc⟩) (h5 : vs[11]? = some (.ref T)) : tabIn K x = some (c, T) := by
 unfold tabIn
 rw [h1]
 simp only [h2, h3, h4, h5]
end L2
namespace Ev
inductive Pg where
 | er | torn | wh (s : Nat) (c n : Int)
 deriving DecidableEq
structure GS where
 nb : Nat
 np : Nat
 pg : Nat -> Nat -> Pg
 worn : Nat -> Int
 many : Int
 left : Option Int
 dark : Bool
def nx (nb b : Nat) : Nat := if b + 1 = nb then 0 else b + 1
def set2 (f : Nat -> Nat -> Pg) (b i : Nat) (g : Pg) : Nat -> Nat -> Pg := fun b' i' => if b' = b /\ i' = i then g else f b' i'
def setB (f : Nat -> Nat -> Pg) (b : Nat) (g : Pg) : Nat -> Nat -> Pg := fun b' i' => if b' = b then g else f b' i'
def set1 {α : Type} (f : Nat -> α) (b : Nat) (v : α) : Nat -> α := fun b' => if b' = b then v else f b'
def GS.draw (G : GS) : Option (Bool × GS) :=
 if G.dark then none
 else match G.left with
   | none => some (true, G)
   | some k => if k <= 0 then some (false, { G with dark := true }) else some (true, { G with left := some (k - 1) })
def GS.put (G : GS) (b i : Nat) (g : Pg) : Bool × GS := match G.draw with
 | none => (false, G)
 | some (l, G1) => (l, { G1 with many := G1.many + 1, pg := set2 G1.pg b i (if l then g else .torn) })
def GS.era (G : GS) (b : Nat) : Bool × GS := match G.draw with
 | none => (false, G)
 | some (l, G1) => (l, { G1 with worn := set1 G1.worn b (G1.worn b + 1), pg := setB G1.pg b (if l then .er else .torn) })
def GS.Er (G : GS) (b : Nat) : Prop := ∀ i, i < G.np -> G.pg b i = .er
def GS.Wh (G : GS) (b : Nat) : Prop := ∃ i, i < G.np /\ ∃ s c n, G.pg b i = .wh s c n
def GS.Clear (G : GS) (b i : Nat) : Prop := ∀ j, i <= j -> j < G.np -> G.pg b j = .er
def GS.fill (G : GS) (b : Nat) : Nat := ((List.range G.np).filter fun i => decide (G.pg b i ≠ .er)).length
structure DS where
 G : GS
 many : Nat
 pl : Nat -> Option (Nat × Nat)
 h : Nat
 f : Nat
instance (G : GS) (b : Nat) : Decidable (G.Er b) := by unfold GS.Er; exact inferInstanceAs (Decidable (∀ i, i < G.np -> _))
instance (G : GS) (b i : Nat) : Decidable (G.Clear b i) := decidable_of_iff (∀ j, j < G.np -> i <= j -> G.pg b j = .er) ⟨fun h j a b => h j b a, fun h j a b => h j b a⟩
open Classical in
noncomputable def DS.put (D : DS) (s : Nat) (c : Int) : Option (Bool × DS) :=
 if D.h < D.G.nb /\ D.f < D.G.np /\ D.G.Clear D.h D.f /\ s < D.many then
   some (if (D.G.put D.h D.f (.wh s c D.G.many)).1 then (true, { D with G := (D.G.put D.h D.f (.wh s c D.G.many)).2, pl := set1 D.pl s (some (D.h, D.f)), f := D.f + 1 })
     else (false, { D with G := (D.G.put D.h D.f (.wh s c D.G.many)).2 }))
 else none
def DS.Live (D : DS) (b i : Nat) : Prop := ∃ s, s < D.many /\ D.pl s = some (b, i)
open Classical in
noncomputable def DS.move (b : Nat) : Nat -> DS -> Option (Bool × DS)
 | 0, D => some (true, D)
 | n + 1, D =>
   if D.Live b (D.G.np - (n + 1)) then
     match D.G.pg b (D.G.np - (n + 1)) with
     | .wh s c _ => match D.put s c with
       | some (true, D') => DS.move b n D'
       | r => r
     | _ => none
   else DS.move b n D
noncomputable def DS.clean (D : DS) (b : Nat) : Option (Bool × DS) := match D.move b D.G.np with
 | some (true, D') => if b < D'.G.nb then some ((D'.G.era b).1, { D' with G := (D'.G.era b).2 }) else none
 | r => r
open Classical in
noncomputable def DS.begin (D : DS) : Option (Bool × DS) :=
 if D.G.Er (nx D.G.nb (nx D.G.nb D.h)) then some (true, { D with h := nx D.G.nb D.h, f := 0 })
 else DS.clean { D with h := nx D.G.nb D.h, f := 0 } (nx D.G.nb (nx D.G.nb D.h))
noncomputable def DS.write : Nat -> DS -> Nat -> Int -> Option (Bool × DS)
 | 0, _, _, _ => none
 | n + 1, D, s, c => if D.f = D.G.np then match D.begin with
     | some (true, D') => DS.write n D' s c
     | r => r
   else D.put s c
def GS.Newest (G : GS) (N : Nat) : Prop :=
 ((∀ b, b < G.nb -> ¬ G.Wh b) /\ N + 1 = G.nb) \/
   (N < G.nb /\ ∃ i s c n, i < G.np /\ G.pg N i = .wh s c n /\ ∀ b j s' c' n', b < G.nb -> j < G.np -> G.pg b j = .wh s' c' n' -> n' <= n)
open Classical in
noncomputable def GS.mend (G : GS) (N : Nat) : Bool × GS :=
 if ∃ b, b < G.nb /\ G.Er b then (true, G)
 else G.era (if G.Wh (nx G.nb N) then N else nx G.nb N)
def GS.Pl (G : GS) (many : Nat) (pl : Nat -> Option (Nat × Nat)) : Prop := ∀ s, s < many -> match pl s with
 | none => ∀ b i c n, b < G.nb -> i < G.np -> G.pg b i ≠ .wh s c n
 | some (b, i) => b < G.nb /\ i < G.np /\ ∃ c n, G.pg b i = .wh s c n /\ ∀ b' i' c' n', b' < G.nb -> i' < G.np -> G.pg b' i' = .wh s c' n' -> n' <= n
open Classical in
noncomputable def GS.last (G : GS) : Nat := ((List.range G.nb).find? fun b => decide (¬ G.Er b /\ G.Er (nx G.nb b))).getD 0
def DS.read (D : DS) (s : Nat) : Int := match D.pl s with
 | none => 0
 | some (b, i) => match D.G.pg b i with
   | .wh _ c _ => c
   | _ => 0
end Ev
namespace Ev
def GS.wp (G : GS) (b j : Nat) : List (Int × Nat × Nat) := match G.pg b j with
 | .wh _ _ n => [(n, b, j)]
 | _ => []
def GS.wr (G : GS) (b i : Nat) : List (Int × Nat × Nat) := (List.range i).flatMap (G.wp b)
def GS.wb (G : GS) (b : Nat) : List (Int × Nat × Nat) := (List.range b).flatMap fun b => G.wr b G.np
def GS.wl (G : GS) : List (Int × Nat × Nat) := G.wb G.nb
theorem wr_succ {G : GS} {b i : Nat} : G.wr b (i + 1) = G.wr b i ++ G.wp b i := by
 unfold GS.wr; rw [List.range_succ, List.flatMap_append, List.flatMap_singleton]
theorem wb_succ {G : GS} {b : Nat} : G.wb (b + 1) = G.wb b ++ G.wr b G.np := by
 unfold GS.wb; rw [List.range_succ, List.flatMap_append, List.flatMap_singleton]
theorem wQx {G : GS} {b j : Nat} {t : Int × Nat × Nat} : t ∈ G.wp b j ↔ ∃ s c, G.pg b j = .wh s c t.1 /\ t.2 = (b, j) := by
 unfold GS.wp
 split
 . rename_i s c n e
   constructor
   . intro m
     obtain rfl := List.mem_singleton.mp m
     exact ⟨s, c, e, rfl⟩
   . rintro ⟨s', c', e', h⟩
     rw [e] at e'
     injection e' with z1 z2 z3
     obtain ⟨t1, t2⟩ := t
     dsimp only at h z3
     subst h z3
     exact List.mem_singleton.mpr rfl
 . rename_i h
   constructor
   . intro m; cases m
   . rintro ⟨s, c, e, _⟩
     exact absurd e (h s c t.1)
theorem yKk {G : GS} {t : Int × Nat × Nat} : t ∈ G.wl ↔ t.2.1 < G.nb /\ t.2.2 < G.np /\ ∃ s c, G.pg t.2.1 t.2.2 = .wh s c t.1 := by
 unfold GS.wl GS.wb
 rw [List.mem_flatMap]
 constructor
 . rintro ⟨b, mb, m⟩
   unfold GS.wr at m
   obtain ⟨j, mj, m⟩ := List.mem_flatMap.mp m
   obtain ⟨s, c, e, h⟩ := wQx.mp m
   rw [h]
   exact ⟨List.mem_range.mp mb, List.mem_range.mp mj, s, c, e⟩
 . rintro ⟨h1, h2, s, c, e⟩
   refine ⟨t.2.1, List.mem_range.mpr h1, ?_⟩
   unfold GS.wr
   exact List.mem_flatMap.mpr ⟨t.2.2, List.mem_range.mpr h2, wQx.mpr ⟨s, c, e, rfl⟩⟩
def TwoL (ns : List Int) : Prop := ∃ a b, ns = a ++ b /\ a.Pairwise (· < ·) /\ b.Pairwise (· < ·) /\ ∀ x ∈ a, ∀ y ∈ b, y < x
def GS.Few (G : GS) : Prop := TwoL (G.wl.map (·.1)) /\ G.wl.length <= 1000
structure GS.Rdy (G : GS) (many : Nat) : Prop where
 sec : ∀ b i s c n, b < G.nb -> i < G.np -> G.pg b i = .wh s c n -> s < many
 nd : (G.wl.map (·.1)).Nodup
 few : G.Few
theorem newest_of {G : GS} {ts : List (Int × Nat × Nat)} (hp : ts.Perm G.wl) (hs : ts.Pairwise fun a b => a.1 < b.1) {t : Int × Nat × Nat} (hl : ts.getLast? = some t) : G.Newest t.2.1 := by
 have m : t ∈ ts := List.mem_of_getLast? hl
 obtain ⟨h1, h2, s, c, e⟩ := yKk.mp (hp.mem_iff.mp m)
 refine .inr ⟨h1, t.2.2, s, c, t.1, h2, e, fun b j s' c' n' hb hj e' => ?_⟩
 have m' : (n', b, j) ∈ ts := hp.mem_iff.mpr (yKk.mpr ⟨hb, hj, s', c', e'⟩)
 obtain ⟨l', rfl⟩ : ∃ l', ts = l' ++ [t] := List.getLast?_eq_some_iff.mp hl
 rcases List.mem_append.mp m' with m' | m'
 . have := (List.pairwise_append.mp hs).2.2 _ m' t (by simp)
   exact Int.le_of_lt this
 . obtain rfl := List.mem_singleton.mp m'
   exact Int.le_refl _
theorem newest_none {G : GS} {ts : List (Int × Nat × Nat)} (hp : ts.Perm G.wl) (hl : ts = []) {N : Nat} (hN : N + 1 = G.nb) : G.Newest N := by
 subst hl
 have e : G.wl = [] := List.eq_nil_of_length_eq_zero (by simpa using hp.length_eq.symm)
 refine .inl ⟨fun b hb ⟨i, hi, s, c, n, h⟩ => ?_, hN⟩
 have : (n, b, i) ∈ G.wl := yKk.mpr ⟨hb, hi, s, c, h⟩
 rw [e] at this
 cases this
def PlTo (G : GS) (many : Nat) (ts : List (Int × Nat × Nat)) (pl : Nat -> Option (Nat × Nat)) : Prop := ∀ s, s < many -> match pl s with
 | none => ∀ t ∈ ts, ∀ c, G.pg t.2.1 t.2.2 ≠ .wh s c t.1
 | some (b, i) => ∃ n c, (n, b, i) ∈ ts /\ G.pg b i = .wh s c n /\ ∀ t ∈ ts, ∀ c', G.pg t.2.1 t.2.2 = .wh s c' t.1 -> t.1 <= n
theorem PlTo.start {G : GS} {many : Nat} : PlTo G many [] fun _ => none := fun s _ t m => nomatch m
theorem PlTo.step {G : GS} {many : Nat} {ts : List (Int × Nat × Nat)} {pl : Nat -> Option (Nat × Nat)} (h : PlTo G many ts pl) {t : Int × Nat × Nat} {s : Nat} {c : Int} (e : G.pg t.2.1 t.2.2 = .wh s c t.1) (hs : ∀ u ∈ ts, u.1 < t.1) : PlTo G many (ts ++ [t]) (set1 pl s (some t.2)) := by
 intro s' hs'
 unfold set1
 by_cases z : s' = s
 . subst z
   rw [if_pos rfl]
   refine ⟨t.1, c, List.mem_append.mpr (.inr (by simp)), e, fun u mu c' eu => ?_⟩
   rcases List.mem_append.mp mu with mu | mu
   . exact Int.le_of_lt (hs u mu)
   . obtain rfl := List.mem_singleton.mp mu
     exact Int.le_refl _
 . rw [if_neg z]
   have := h s' hs'
   cases hp : pl s' with
   | none =>
     rw [hp] at this
     intro u mu c' eu
     rcases List.mem_append.mp mu with mu | mu
     . exact this u mu c' eu
     . obtain rfl := List.mem_singleton.mp mu
       rw [e] at eu
       injection eu with z1
       exact z z1.symm
   | some bi =>
     rw [hp] at this
     obtain ⟨b, i⟩ := bi
     obtain ⟨n, c2, m2, e2, q⟩ := this
     refine ⟨n, c2, List.mem_append.mpr (.inl m2), e2, fun u mu c' eu => ?_⟩
     rcases List.mem_append.mp mu with mu | mu
     . exact q u mu c' eu
     . obtain rfl := List.mem_singleton.mp mu
       rw [e] at eu
       injection eu with z1
       exact absurd z1.symm z
theorem PlTo.done {G : GS} {many : Nat} {ts : List (Int × Nat × Nat)} {pl : Nat -> Option (Nat × Nat)} (h : PlTo G many ts pl) (hp : ts.Perm G.wl) : G.Pl many pl := by
 intro s hs
 have := h s hs
 cases e : pl s with
 | none =>
   rw [e] at this
   intro b i c n hb hi z
   exact this (n, b, i) (hp.mem_iff.mpr (yKk.mpr ⟨hb, hi, s, c, z⟩)) c z
 | some bi =>
   rw [e] at this
   obtain ⟨b, i⟩ := bi
   obtain ⟨n, c, m, z, q⟩ := this
   obtain ⟨h1, h2, _⟩ := yKk.mp (hp.mem_iff.mp m)
   exact ⟨h1, h2, c, n, z, fun b' i' c' n' hb' hi' z' => q (n', b', i') (hp.mem_iff.mpr (yKk.mpr ⟨hb', hi', s, c', z'⟩)) c' z'⟩
end Ev
namespace Ev
theorem gput_t {G : GS} {b i : Nat} {g : Pg} (h : (G.put b i g).1 = true) : (G.put b i g).2.pg = set2 G.pg b i g /\ (G.put b i g).2.many = G.many + 1 /\ (G.put b i g).2.nb = G.nb /\ (G.put b i g).2.np = G.np /\ (G.put b i g).2.worn = G.worn := by
 unfold GS.put GS.draw at h ⊢
 by_cases hd : G.dark = true
 . rw [if_pos hd] at h; cases h
 . rw [if_neg hd] at h ⊢
   cases hl : G.left with
   | none => exact ⟨rfl, rfl, rfl, rfl, rfl⟩
   | some k =>
     rw [hl] at h
     dsimp only at h ⊢
     by_cases hk : k <= 0
     . rw [if_pos hk] at h; cases h
     . rw [if_neg hk]; exact ⟨rfl, rfl, rfl, rfl, rfl⟩
theorem gput_f {G : GS} {b i : Nat} {g : Pg} (h : (G.put b i g).1 = false) : (G.put b i g).2 = G \/ ((G.put b i g).2.pg = set2 G.pg b i .torn /\ (G.put b i g).2.many = G.many + 1 /\ (G.put b i g).2.nb = G.nb /\ (G.put b i g).2.np = G.np /\ (G.put b i g).2.worn = G.worn) := by
 unfold GS.put GS.draw at h ⊢
 by_cases hd : G.dark = true
 . rw [if_pos hd]; exact .inl rfl
 . rw [if_neg hd] at h ⊢
   cases hl : G.left with
   | none => rw [hl] at h; cases h
   | some k =>
     rw [hl] at h
     dsimp only at h ⊢
     by_cases hk : k <= 0
     . rw [if_pos hk]; exact .inr ⟨rfl, rfl, rfl, rfl, rfl⟩
     . rw [if_neg hk] at h; cases h
theorem gera_t {G : GS} {b : Nat} (h : (G.era b).1 = true) : (G.era b).2.pg = setB G.pg b .er /\ (G.era b).2.many = G.many /\ (G.era b).2.nb = G.nb /\ (G.era b).2.np = G.np /\ (G.era b).2.worn = set1 G.worn b (G.worn b + 1) := by
 unfold GS.era GS.draw at h ⊢
 by_cases hd : G.dark = true
 . rw [if_pos hd] at h; cases h
 . rw [if_neg hd] at h ⊢
   cases hl : G.left with
   | none => exact ⟨rfl, rfl, rfl, rfl, rfl⟩
   | some k =>
     rw [hl] at h
     dsimp only at h ⊢
     by_cases hk : k <= 0
     . rw [if_pos hk] at h; cases h
     . rw [if_neg hk]; exact ⟨rfl, rfl, rfl, rfl, rfl⟩
theorem gera_f {G : GS} {b : Nat} (h : (G.era b).1 = false) : (G.era b).2 = G \/ ((G.era b).2.pg = setB G.pg b .torn /\ (G.era b).2.many = G.many /\ (G.era b).2.nb = G.nb /\ (G.era b).2.np = G.np /\ (G.era b).2.worn = set1 G.worn b (G.worn b + 1)) := by
 unfold GS.era GS.draw at h ⊢
 by_cases hd : G.dark = true
 . rw [if_pos hd]; exact .inl rfl
 . rw [if_neg hd] at h ⊢
   cases hl : G.left with
   | none => rw [hl] at h; cases h
   | some k =>
     rw [hl] at h
     dsimp only at h ⊢
     by_cases hk : k <= 0
     . rw [if_pos hk]; exact .inr ⟨rfl, rfl, rfl, rfl, rfl⟩
     . rw [if_neg hk] at h; cases h
def GS.W (G : GS) (b i s : Nat) (c n : Int) : Prop := b < G.nb /\ i < G.np /\ G.pg b i = .wh s c n
def dst (nb h b : Nat) : Nat := if h < b then b - h - 1 else b + nb - h - 1
structure Base (G : GS) (many : Nat) : Prop where
 b4 : 4 <= G.nb
 p2 : 2 <= G.np
 m1 : 1 <= many
 ms : many <= (G.nb - 2) * G.np
 num : ∀ {b i s c n}, G.W b i s c n -> s < many /\ n < G.many
 dis : ∀ {b i s c b' i' s' c' n}, G.W b i s c n -> G.W b' i' s' c' n -> b = b' /\ i = i'
 gap : ∀ {b i j}, b < G.nb -> i <= j -> j < G.np -> G.pg b i = .er -> G.pg b j = .er
structure Ord (G : GS) (h : Nat) : Prop where
 lt : ∀ {b i s c n b' i' s' c' n'}, G.W b i s c n -> G.W b' i' s' c' n' -> dst G.nb h b < dst G.nb h b' -> n < n'
structure Good (G : GS) (many h : Nat) : Prop where
 base : Base G many
 hh : h < G.nb
 ord : Ord G h
 er1 : G.Er (nx G.nb h)
 run : ∀ {b}, b < G.nb -> b ≠ h -> ¬ G.Er b -> ¬ G.Er (nx G.nb b)
structure Mid (G : GS) (many h : Nat) : Prop where
 base : Base G many
 hh : h < G.nb
 ord : Ord G h
 non : ∀ {b}, b < G.nb -> ¬ G.Er b
 cop : ∀ {i s c n}, G.W h i s c n -> G.Wh (nx G.nb h) -> ∃ b' i' n', b' ≠ h /\ G.W b' i' s c n' /\ ∀ {b'' i'' c'' n''}, b'' ≠ h -> G.W b'' i'' s c'' n'' -> n'' <= n'
def Ok (G : GS) (many : Nat) : Prop := ∃ h, Good G many h \/ Mid G many h
def Val (G : GS) (s : Nat) (v : Int) : Prop := ((∀ b i c n, ¬ G.W b i s c n) /\ v = 0) \/ ∃ b i n, G.W b i s v n /\ ∀ {b' i' c' n'}, G.W b' i' s c' n' -> n' <= n
theorem Val.one {G : GS} {many s : Nat} {v v' : Int} (B : Base G many) (h : Val G s v) (h' : Val G s v') : v = v' := by
 rcases h with ⟨h, rfl⟩ | ⟨b, i, n, w, q⟩
 . rcases h' with ⟨_, rfl⟩ | ⟨b', i', n', w', _⟩
   . rfl
   . exact absurd w' (h _ _ _ _)
 . rcases h' with ⟨h', _⟩ | ⟨b', i', n', w', q'⟩
   . exact absurd w (h' _ _ _ _)
   . have e : n = n' := Int.le_antisymm (q' w) (q w')
     subst e
     obtain ⟨rfl, rfl⟩ := B.dis w w'
     have := w.2.2
     rw [w'.2.2] at this
     injection this with _ z _
     exact z.symm
theorem yWv {n b : Nat} (h : b < n) : nx n b < n := by unfold nx; split <;> omega
theorem nx_inj {n a b : Nat} (ha : a < n) (hb : b < n) (h : nx n a = nx n b) : a = b := by unfold nx at h; split at h <;> split at h <;> omega
theorem nx_ne {n b : Nat} (hn : 2 <= n) (hb : b < n) : nx n b ≠ b := by unfold nx; split <;> omega
def prv (n b : Nat) : Nat := if b = 0 then n - 1 else b - 1
theorem prv_lt {n b : Nat} (h : b < n) : prv n b < n := by unfold prv; split <;> omega
theorem nx_prv {n b : Nat} (h : b < n) : nx n (prv n b) = b := by unfold nx prv; split <;> split <;> omega
theorem prv_nx {n b : Nat} (h : b < n) : prv n (nx n b) = b := by unfold nx prv; split <;> split <;> omega
theorem yWz (n h b : Nat) : (h < b /\ dst n h b = b - h - 1) \/ (b <= h /\ dst n h b = b + n - h - 1) := by unfold dst; split <;> omega
theorem nx_s (n b : Nat) : (b + 1 = n /\ nx n b = 0) \/ (b + 1 ≠ n /\ nx n b = b + 1) := by unfold nx; split <;> omega
theorem prv_s (n b : Nat) : (b = 0 /\ prv n b = n - 1) \/ (b ≠ 0 /\ prv n b = b - 1) := by unfold prv; split <;> omega
theorem xKx {G : GS} {b i s : Nat} {c n : Int} (w : G.W b i s c n) : G.Wh b := ⟨i, w.2.1, s, c, n, w.2.2⟩
theorem er_no {G : GS} {b i s : Nat} {c n : Int} (e : G.Er b) (w : G.W b i s c n) : False := by
 have := e i w.2.1
 rw [w.2.2] at this
 cases this
structure PutW (G G' : GS) (b i : Nat) (g : Pg) : Prop where
 nb : G'.nb = G.nb
 np : G'.np = G.np
 pg : G'.pg = set2 G.pg b i g
 many : G'.many = G.many + 1
structure EraW (G G' : GS) (b : Nat) (g : Pg) : Prop where
 nb : G'.nb = G.nb
 np : G'.np = G.np
 pg : G'.pg = setB G.pg b g
 many : G'.many = G.many
theorem PutW.at_ {G G' : GS} {b i : Nat} {g : Pg} (h : PutW G G' b i g) : G'.pg b i = g := by rw [h.pg]; unfold set2; rw [if_pos ⟨rfl, rfl⟩]
theorem PutW.ne {G G' : GS} {b i : Nat} {g : Pg} (h : PutW G G' b i g) {b' i' : Nat} (n : ¬ (b' = b /\ i' = i)) : G'.pg b' i' = G.pg b' i' := by rw [h.pg]; unfold set2; rw [if_neg n]
theorem EraW.at_ {G G' : GS} {b i : Nat} {g : Pg} (h : EraW G G' b g) : G'.pg b i = g := by rw [h.pg]; unfold setB; rw [if_pos rfl]
theorem EraW.ne {G G' : GS} {b : Nat} {g : Pg} (h : EraW G G' b g) {b' i' : Nat} (n : b' ≠ b) : G'.pg b' i' = G.pg b' i' := by rw [h.pg]; unfold setB; rw [if_neg n]
theorem PutW.torn {G G' : GS} {b i : Nat} (h : PutW G G' b i .torn) (e : G.pg b i = .er) {b' i' s : Nat} {c n : Int} : G'.W b' i' s c n ↔ G.W b' i' s c n := by
 unfold GS.W
 rw [h.nb, h.np]
 by_cases z : b' = b /\ i' = i
 . obtain ⟨rfl, rfl⟩ := z
   rw [h.at_, e]
   constructor <;> (rintro ⟨_, _, q⟩; cases q)
 . rw [h.ne z]
theorem PutW.whole {G G' : GS} {b i s0 : Nat} {c0 n0 : Int} (h : PutW G G' b i (.wh s0 c0 n0)) (e : G.pg b i = .er) (hb : b < G.nb) (hi : i < G.np) {b' i' s : Nat} {c n : Int} : G'.W b' i' s c n ↔ G.W b' i' s c n \/ (b' = b /\ i' = i /\ s = s0 /\ c = c0 /\ n = n0) := by
 unfold GS.W
 rw [h.nb, h.np]
 by_cases z : b' = b /\ i' = i
 . obtain ⟨rfl, rfl⟩ := z
   rw [h.at_, e]
   constructor
   . rintro ⟨_, _, q⟩
     injection q with q1 q2 q3
     exact .inr ⟨rfl, rfl, q1.symm, q2.symm, q3.symm⟩
   . rintro (⟨_, _, q⟩ | ⟨_, _, rfl, rfl, rfl⟩)
     . cases q
     . exact ⟨hb, hi, rfl⟩
 . rw [h.ne z]
   constructor
   . exact .inl
   . rintro (q | ⟨q1, q2, _⟩)
     . exact q
     . exact absurd ⟨q1, q2⟩ z
theorem EraW.whole {G G' : GS} {b : Nat} {g : Pg} (h : EraW G G' b g) (hg : ∀ s c n, g ≠ .wh s c n) {b' i' s : Nat} {c n : Int} : G'.W b' i' s c n ↔ b' ≠ b /\ G.W b' i' s c n := by
 unfold GS.W
 rw [h.nb, h.np]
 by_cases z : b' = b
 . subst z
   rw [h.at_]
   constructor
   . rintro ⟨_, _, q⟩
     exact absurd q (hg _ _ _)
   . rintro ⟨q, _⟩
     exact absurd rfl q
 . rw [h.ne z]
   exact ⟨fun q => ⟨z, q⟩, fun q => q.2⟩
theorem EraW.er {G G' : GS} {b : Nat} {g : Pg} (h : EraW G G' b g) {b' : Nat} (n : b' ≠ b) : G'.Er b' ↔ G.Er b' := by
 unfold GS.Er
 rw [h.np]
 exact ⟨fun q i hi => by rw [<- h.ne n]; exact q i hi, fun q i hi => by rw [h.ne n]; exact q i hi⟩
theorem PutW.er {G G' : GS} {b i : Nat} {g : Pg} (h : PutW G G' b i g) {b' : Nat} (n : b' ≠ b) : G'.Er b' ↔ G.Er b' := by
 unfold GS.Er
 rw [h.np]
 exact ⟨fun q j hj => by rw [<- h.ne fun z => n z.1]; exact q j hj, fun q j hj => by rw [h.ne fun z => n z.1]; exact q j hj⟩
theorem Base.torn {G G' : GS} {many b i : Nat} (B : Base G many) (h : PutW G G' b i .torn) (e : G.pg b i = .er) (hi : i < G.np) (hb : b < G.nb) (pre : ∀ j, j < i -> G.pg b j ≠ .er) : Base G' many := by
 refine ⟨by rw [h.nb]; exact B.b4, by rw [h.np]; exact B.p2, B.m1, by rw [h.nb, h.np]; exact B.ms, fun w => ?_, fun w w' => B.dis ((h.torn e).mp w) ((h.torn e).mp w'), fun {b' i' j} hb' hij hj z => ?_⟩
 . obtain ⟨q1, q2⟩ := B.num ((h.torn e).mp w)
   exact ⟨q1, by rw [h.many]; omega⟩
 . rw [h.nb] at hb'
   rw [h.np] at hj
   by_cases z1 : b' = b /\ i' = i
   . obtain ⟨rfl, rfl⟩ := z1
     rw [h.at_] at z; cases z
   . rw [h.ne z1] at z
     have n2 : ¬ (b' = b /\ j = i) := fun ⟨q1, q2⟩ => by
       subst q1 q2
       by_cases i' = j
       . exact z1 ⟨rfl, by assumption⟩
       . exact pre i' (by omega) z
     rw [h.ne n2]
     exact B.gap hb' hij hj z
theorem Base.put {G G' : GS} {many b i s : Nat} {c : Int} (B : Base G many) (h : PutW G G' b i (.wh s c G.many)) (e : G.pg b i = .er) (hi : i < G.np) (hb : b < G.nb) (hs : s < many) (pre : ∀ j, j < i -> G.pg b j ≠ .er) : Base G' many := by
 refine ⟨by rw [h.nb]; exact B.b4, by rw [h.np]; exact B.p2, B.m1, by rw [h.nb, h.np]; exact B.ms, fun w => ?_, fun w w' => ?_, fun {b' i' j} hb' hij hj z => ?_⟩
 . rw [h.many]
   rcases (h.whole e hb hi).mp w with w | ⟨_, _, rfl, _, rfl⟩
   . obtain ⟨q1, q2⟩ := B.num w
     exact ⟨q1, by omega⟩
   . exact ⟨hs, by omega⟩
 . rcases (h.whole e hb hi).mp w with w | ⟨rfl, rfl, _, _, rfl⟩
   . rcases (h.whole e hb hi).mp w' with w' | ⟨_, _, _, _, rfl⟩
     . exact B.dis w w'
     . have := (B.num w).2; omega
   . rcases (h.whole e hb hi).mp w' with w' | ⟨rfl, rfl, _, _, _⟩
     . have := (B.num w').2; omega
     . exact ⟨rfl, rfl⟩
 . rw [h.nb] at hb'
   rw [h.np] at hj
   by_cases z1 : b' = b /\ i' = i
   . obtain ⟨rfl, rfl⟩ := z1
     rw [h.at_] at z; cases z
   . rw [h.ne z1] at z
     have n2 : ¬ (b' = b /\ j = i) := fun ⟨q1, q2⟩ => by
       subst q1 q2
       by_cases i' = j
       . exact z1 ⟨rfl, by assumption⟩
       . exact pre i' (by omega) z
     rw [h.ne n2]
     exact B.gap hb' hij hj z
theorem Base.era {G G' : GS} {many b : Nat} {g : Pg} (B : Base G many) (h : EraW G G' b g) (hg : ∀ s c n, g ≠ .wh s c n) : Base G' many := by
 refine ⟨by rw [h.nb]; exact B.b4, by rw [h.np]; exact B.p2, B.m1, by rw [h.nb, h.np]; exact B.ms, fun w => ?_, fun w w' => B.dis ((h.whole hg).mp w).2 ((h.whole hg).mp w').2, fun {b' i' j} hb' hij hj z => ?_⟩
 . rw [h.many]
   exact B.num ((h.whole hg).mp w).2
 . rw [h.nb] at hb'
   rw [h.np] at hj
   by_cases z1 : b' = b
   . subst z1
     rw [h.at_] at z ⊢
     exact z
   . rw [h.ne z1] at z ⊢
     exact B.gap hb' hij hj z
theorem Ord.torn {G G' : GS} {b i hd : Nat} (O : Ord G hd) (h : PutW G G' b i .torn) (e : G.pg b i = .er) : Ord G' hd := ⟨fun w w' l => by
 rw [h.nb] at l
 exact O.lt ((h.torn e).mp w) ((h.torn e).mp w') l⟩
theorem Ord.era {G G' : GS} {b hd : Nat} {g : Pg} (O : Ord G hd) (h : EraW G G' b g) (hg : ∀ s c n, g ≠ .wh s c n) : Ord G' hd := ⟨fun w w' l => by
 rw [h.nb] at l
 exact O.lt ((h.whole hg).mp w).2 ((h.whole hg).mp w').2 l⟩
theorem Ord.put {G G' : GS} {many hd i s : Nat} {c : Int} (B : Base G many) (O : Ord G hd) (h : PutW G G' hd i (.wh s c G.many)) (e : G.pg hd i = .er) (hi : i < G.np) (hb : hd < G.nb) : Ord G' hd := ⟨fun {b1 i1 s1 c1 n1 b2 i2 s2 c2 n2} w w' l => by
 rw [h.nb] at l
 rcases (h.whole e hb hi).mp w with w | ⟨rfl, _, _, _, rfl⟩
 . rcases (h.whole e hb hi).mp w' with w' | ⟨_, _, _, _, rfl⟩
   . exact O.lt w w' l
   . exact (B.num w).2
 . rcases (h.whole e hb hi).mp w' with w' | ⟨rfl, _, _, _, rfl⟩
   . have := w'.1
     unfold dst at l
     rw [if_neg (by omega)] at l
     split at l <;> omega
   . omega⟩
theorem Ord.fwd {G : GS} {hd : Nat} (O : Ord G hd) (hh : hd < G.nb) (e : ¬ G.Wh (nx G.nb hd)) : Ord G (nx G.nb hd) := ⟨fun {b1 i1 s1 c1 n1 b2 i2 s2 c2 n2} w w' l => by
 refine O.lt w w' ?_
 have a1 : b1 ≠ nx G.nb hd := fun z => e (z ▸ xKx w)
 have a2 : b2 ≠ nx G.nb hd := fun z => e (z ▸ xKx w')
 have h1 := w.1
 have h2 := w'.1
 have := nx_s G.nb hd
 have := yWz G.nb (nx G.nb hd) b1
 have := yWz G.nb (nx G.nb hd) b2
 have := yWz G.nb hd b1
 have := yWz G.nb hd b2
 omega⟩
theorem Ord.bwd {G : GS} {hd : Nat} (O : Ord G hd) (hh : hd < G.nb) (e : ¬ G.Wh hd) : Ord G (prv G.nb hd) := ⟨fun {b1 i1 s1 c1 n1 b2 i2 s2 c2 n2} w w' l => by
 refine O.lt w w' ?_
 have a1 : b1 ≠ hd := fun z => e (z ▸ xKx w)
 have a2 : b2 ≠ hd := fun z => e (z ▸ xKx w')
 have h1 := w.1
 have h2 := w'.1
 have := prv_s G.nb hd
 have := yWz G.nb (prv G.nb hd) b1
 have := yWz G.nb (prv G.nb hd) b2
 have := yWz G.nb hd b1
 have := yWz G.nb hd b2
 omega⟩
theorem Val.torn {G G' : GS} {b i s : Nat} {v : Int} (V : Val G s v) (h : PutW G G' b i .torn) (e : G.pg b i = .er) : Val G' s v := by
 rcases V with ⟨q, rfl⟩ | ⟨b1, i1, n1, w, q⟩
 . exact .inl ⟨fun b' i' c' n' w => q _ _ _ _ ((h.torn e).mp w), rfl⟩
 . exact .inr ⟨b1, i1, n1, (h.torn e).mpr w, fun w' => q ((h.torn e).mp w')⟩
theorem Val.putO {G G' : GS} {b i s s0 : Nat} {v c0 n0 : Int} (V : Val G s v) (h : PutW G G' b i (.wh s0 c0 n0)) (e : G.pg b i = .er) (hb : b < G.nb) (hi : i < G.np) (ne : s ≠ s0) : Val G' s v := by
 rcases V with ⟨q, rfl⟩ | ⟨b1, i1, n1, w, q⟩
 . refine .inl ⟨fun b' i' c' n' w => ?_, rfl⟩
   rcases (h.whole e hb hi).mp w with w | ⟨_, _, z, _⟩
   . exact q _ _ _ _ w
   . exact ne z
 . refine .inr ⟨b1, i1, n1, (h.whole e hb hi).mpr (.inl w), fun w' => ?_⟩
   rcases (h.whole e hb hi).mp w' with w' | ⟨_, _, z, _⟩
   . exact q w'
   . exact absurd z ne
theorem Val.putS {G G' : GS} {many b i s : Nat} {c : Int} (B : Base G many) (h : PutW G G' b i (.wh s c G.many)) (e : G.pg b i = .er) (hb : b < G.nb) (hi : i < G.np) : Val G' s c := by
 refine .inr ⟨b, i, G.many, (h.whole e hb hi).mpr (.inr ⟨rfl, rfl, rfl, rfl, rfl⟩), fun w' => ?_⟩
 rcases (h.whole e hb hi).mp w' with w' | ⟨_, _, _, _, rfl⟩
 . exact Int.le_of_lt (B.num w').2
 . exact Int.le_refl _
theorem Val.era {G G' : GS} {b s : Nat} {g : Pg} {v : Int} (V : Val G s v) (h : EraW G G' b g) (hg : ∀ s c n, g ≠ .wh s c n) (old : ∀ i c n, G.W b i s c n -> ∃ b' i' n', b' ≠ b /\ G.W b' i' s v n' /\ ∀ {b'' i'' c'' n''}, b'' ≠ b -> G.W b'' i'' s c'' n'' -> n'' <= n') : Val G' s v := by
 rcases V with ⟨q, rfl⟩ | ⟨b1, i1, n1, w, q⟩
 . exact .inl ⟨fun b' i' c' n' w => q _ _ _ _ ((h.whole hg).mp w).2, rfl⟩
 . by_cases z : b1 = b
   . subst z
     obtain ⟨b', i', n', nb, w', q'⟩ := old _ _ _ w
     exact .inr ⟨b', i', n', (h.whole hg).mpr ⟨nb, w'⟩, fun w'' => q' ((h.whole hg).mp w'').1 ((h.whole hg).mp w'').2⟩
   . exact .inr ⟨b1, i1, n1, (h.whole hg).mpr ⟨z, w⟩, fun w'' => q ((h.whole hg).mp w'').2⟩
end Ev
namespace Ev
theorem yJj {G : GS} {many s b i : Nat} {pl : Nat -> Option (Nat × Nat)} (P : G.Pl many pl) (hs : s < many) (e : pl s = some (b, i)) : ∃ c n, G.W b i s c n /\ ∀ {b' i' c' n'}, G.W b' i' s c' n' -> n' <= n := by
 have := P s hs
 rw [e] at this
 obtain ⟨h1, h2, c, n, e1, q⟩ := this
 exact ⟨c, n, ⟨h1, h2, e1⟩, fun w => q _ _ _ _ w.1 w.2.1 w.2.2⟩
theorem xKk {G : GS} {many s : Nat} {pl : Nat -> Option (Nat × Nat)} (P : G.Pl many pl) (hs : s < many) (e : pl s = none) : ∀ b i c n, ¬ G.W b i s c n := by
 have := P s hs
 rw [e] at this
 exact fun b i c n w => this _ _ _ _ w.1 w.2.1 w.2.2
theorem pl_mk {G : GS} {many : Nat} {pl : Nat -> Option (Nat × Nat)} (h1 : ∀ s, s < many -> pl s = none -> ∀ b i c n, ¬ G.W b i s c n) (h2 : ∀ s b i, s < many -> pl s = some (b, i) -> ∃ c n, G.W b i s c n /\ ∀ {b' i' c' n'}, G.W b' i' s c' n' -> n' <= n) : G.Pl many pl := by
 intro s hs
 cases e : pl s with
 | none => exact fun b i c n a b' z => h1 s hs e _ _ _ _ ⟨a, b', z⟩
 | some bi =>
   obtain ⟨b, i⟩ := bi
   obtain ⟨c, n, w, q⟩ := h2 s b i hs e
   exact ⟨w.1, w.2.1, c, n, w.2.2, fun b' i' c' n' a a' z => q ⟨a, a', z⟩⟩
theorem xKq {D : DS} {s : Nat} (P : D.G.Pl D.many D.pl) (hs : s < D.many) : Val D.G s (D.read s) := by
 unfold DS.read
 cases e : D.pl s with
 | none => exact .inl ⟨xKk P hs e, rfl⟩
 | some bi =>
   obtain ⟨b, i⟩ := bi
   obtain ⟨c, n, w, q⟩ := yJj P hs e
   dsimp only
   rw [w.2.2]
   exact .inr ⟨b, i, n, w, q⟩
structure Fill (D : DS) : Prop where
 f1 : D.f <= D.G.np
 fa : ∀ i, i < D.f -> D.G.pg D.h i ≠ .er
 fb : ∀ i, D.f <= i -> i < D.G.np -> D.G.pg D.h i = .er
structure WI (D : DS) : Prop where
 base : Base D.G D.many
 hh : D.h < D.G.nb
 ord : Ord D.G D.h
 pl : D.G.Pl D.many D.pl
 fl : Fill D
 er1 : D.G.Er (nx D.G.nb D.h)
 run : ∀ {b}, b < D.G.nb -> b ≠ D.h -> nx D.G.nb b ≠ D.h -> ¬ D.G.Er b -> ¬ D.G.Er (nx D.G.nb b)
theorem Fill.er {D : DS} (F : Fill D) (z : D.f = 0) : D.G.Er D.h := fun i hi => F.fb i (by omega) hi
theorem Fill.ner {D : DS} (F : Fill D) (z : 0 < D.f) : ¬ D.G.Er D.h := fun e => F.fa 0 z (e 0 (by have := F.f1; omega))
theorem no_wh {G : GS} {b : Nat} (e : G.Er b) : ¬ G.Wh b := fun ⟨i, hi, s, c, n, z⟩ => by
 rw [e i hi] at z; cases z
theorem WI.ok {D : DS} (I : WI D) : Ok D.G D.many := by
 have b4 := I.base.b4
 by_cases z : D.f = 0
 . refine ⟨prv D.G.nb D.h, .inl ⟨I.base, prv_lt I.hh, I.ord.bwd I.hh (no_wh (I.fl.er z)), by rw [nx_prv I.hh]; exact I.fl.er z, fun {b} hb nb ne => ?_⟩⟩
   have n1 : nx D.G.nb b ≠ D.h := fun q => nb (by rw [<- q, prv_nx hb])
   have n2 : b ≠ D.h := fun q => ne (by rw [q]; exact I.fl.er z)
   exact I.run hb n2 n1 ne
 . refine ⟨D.h, .inl ⟨I.base, I.hh, I.ord, I.er1, fun {b} hb nb ne => ?_⟩⟩
   by_cases n1 : nx D.G.nb b = D.h
   . rw [n1]
     exact I.fl.ner (by omega)
   . exact I.run hb nb n1 ne
structure Left (D : DS) (r : Bool × DS) : Prop where
 many : r.2.many = D.many
 ok : r.1 = false -> Ok r.2.G D.many
theorem putw_t {G : GS} {b i : Nat} {g : Pg} (h : (G.put b i g).1 = true) : PutW G (G.put b i g).2 b i g := let ⟨a, b, c, d, _⟩ := gput_t h; ⟨c, d, a, b⟩
theorem wWw {G : GS} {b : Nat} (h : (G.era b).1 = true) : EraW G (G.era b).2 b .er := let ⟨a, b, c, d, _⟩ := gera_t h; ⟨c, d, a, b⟩
theorem putw_f {G : GS} {b i : Nat} {g : Pg} (h : (G.put b i g).1 = false) : (G.put b i g).2 = G \/ PutW G (G.put b i g).2 b i .torn := (gput_f h).imp id fun ⟨a, b, c, d, _⟩ => ⟨c, d, a, b⟩
theorem wWx {G : GS} {b : Nat} (h : (G.era b).1 = false) : (G.era b).2 = G \/ EraW G (G.era b).2 b .torn := (gera_f h).imp id fun ⟨a, b, c, d, _⟩ => ⟨c, d, a, b⟩
theorem ntw : ∀ (s : Nat) (c n : Int), Pg.torn ≠ .wh s c n := fun _ _ _ z => nomatch z
theorem new_ : ∀ (s : Nat) (c n : Int), Pg.er ≠ .wh s c n := fun _ _ _ z => nomatch z
theorem Pl.put {D : DS} {G' : GS} {s : Nat} {c : Int} (B : Base D.G D.many) (P : D.G.Pl D.many D.pl) (h : PutW D.G G' D.h D.f (.wh s c D.G.many)) (e : D.G.pg D.h D.f = .er) (hb : D.h < D.G.nb) (hi : D.f < D.G.np) : G'.Pl D.many (set1 D.pl s (some (D.h, D.f))) := by
 refine pl_mk (fun s' hs' z => ?_) fun s' b i hs' z => ?_
 . unfold set1 at z
   by_cases q : s' = s
   . rw [if_pos q] at z; cases z
   . rw [if_neg q] at z
     intro b i c' n w
     rcases (h.whole e hb hi).mp w with w | ⟨_, _, q', _⟩
     . exact xKk P hs' z _ _ _ _ w
     . exact q q'
 . unfold set1 at z
   by_cases q : s' = s
   . subst q
     rw [if_pos rfl] at z
     cases z
     refine ⟨c, D.G.many, (h.whole e hb hi).mpr (.inr ⟨rfl, rfl, rfl, rfl, rfl⟩), fun w => ?_⟩
     rcases (h.whole e hb hi).mp w with w | ⟨_, _, _, _, rfl⟩
     . exact Int.le_of_lt (B.num w).2
     . exact Int.le_refl _
   . rw [if_neg q] at z
     obtain ⟨c', n', w, q'⟩ := yJj P hs' z
     refine ⟨c', n', (h.whole e hb hi).mpr (.inl w), fun w' => ?_⟩
     rcases (h.whole e hb hi).mp w' with w' | ⟨_, _, q2, _⟩
     . exact q' w'
     . exact absurd q2 q
theorem Fill.put {D : DS} {G' : GS} {g : Pg} {pl : Nat -> Option (Nat × Nat)} (F : Fill D) (h : PutW D.G G' D.h D.f g) (hg : g ≠ .er) (hi : D.f < D.G.np) : Fill { D with G := G', pl := pl, f := D.f + 1 } := by
 refine ⟨by show D.f + 1 <= G'.np; rw [h.np]; omega, fun i hi' => ?_, fun i h1 h2 => ?_⟩
 . show G'.pg D.h i ≠ .er
   by_cases z : i = D.f
   . subst z
     rw [h.at_]; exact hg
   . rw [h.ne fun q => z q.2]
     exact F.fa i (by have : i < D.f + 1 := hi'; omega)
 . show G'.pg D.h i = .er
   have h1' : D.f + 1 <= i := h1
   have h2' : i < D.G.np := by rw [<- h.np]; exact h2
   rw [h.ne fun q => by omega]
   exact F.fb i (by omega) h2'
theorem put_some {D : DS} {s : Nat} {c : Int} (hh : D.h < D.G.nb) (F : Fill D) (hf : D.f < D.G.np) (hs : s < D.many) : ∃ r, D.put s c = some r := by
 unfold DS.put
 rw [if_pos ⟨hh, hf, fun j h1 h2 => F.fb j h1 h2, hs⟩]
 exact ⟨_, rfl⟩
theorem put_is {D : DS} {s : Nat} {c : Int} {r : Bool × DS} (h : D.put s c = some r) : (D.h < D.G.nb /\ D.f < D.G.np /\ D.G.Clear D.h D.f /\ s < D.many) /\
   ((r.1 = true /\ PutW D.G r.2.G D.h D.f (.wh s c D.G.many) /\ r.2 = { D with G := r.2.G, pl := set1 D.pl s (some (D.h, D.f)), f := D.f + 1 }) \/
    (r.1 = false /\ r.2 = { D with G := r.2.G } /\ (r.2.G = D.G \/ PutW D.G r.2.G D.h D.f .torn))) := by
 unfold DS.put at h
 split at h
 . rename_i hc
   refine ⟨hc, ?_⟩
   cases e : (D.G.put D.h D.f (.wh s c D.G.many)).1 with
   | true =>
     rw [if_pos e] at h
     have := (Option.some.inj h).symm
     subst this
     exact .inl ⟨rfl, putw_t e, rfl⟩
   | false =>
     rw [if_neg (by rw [e]; exact Bool.false_ne_true)] at h
     have := (Option.some.inj h).symm
     subst this
     exact .inr ⟨rfl, rfl, putw_f e⟩
 . cases h
theorem WI.put {D : DS} (I : WI D) {s : Nat} {c : Int} {r : Bool × DS} (h : D.put s c = some r) : r.2.many = D.many /\ (r.1 = true -> WI r.2 /\ Val r.2.G s c /\ ∀ s' v, s' ≠ s -> Val D.G s' v -> Val r.2.G s' v) /\ (r.1 = false -> Ok r.2.G D.many /\ ∀ s' v, Val D.G s' v -> Val r.2.G s' v) := by
 have b4 := I.base.b4
 obtain ⟨⟨hh, hf, cl, hs⟩, hr⟩ := put_is h
 have e : D.G.pg D.h D.f = .er := cl _ (Nat.le_refl _) hf
 rcases hr with ⟨rt, pw, er⟩ | ⟨rf, er, hc⟩
 . refine ⟨by rw [er], fun _ => ?_, fun z => (by rw [rt] at z; cases z)⟩
   have nxh : nx D.G.nb D.h ≠ D.h := nx_ne (by omega) hh
   refine ⟨?_, Val.putS I.base pw e hh hf, fun s' v ne V => V.putO pw e hh hf ne⟩
   rw [er]
   refine ⟨I.base.put pw e hf hh hs I.fl.fa, by show D.h < r.2.G.nb; rw [pw.nb]; exact hh, Ord.put I.base I.ord pw e hf hh, Pl.put I.base I.pl pw e hh hf, I.fl.put pw (fun z => nomatch z) hf, ?_, fun {b} hb n1 n2 n3 => ?_⟩
   . show r.2.G.Er (nx r.2.G.nb D.h)
     rw [pw.nb, pw.er nxh]
     exact I.er1
   . have hb' : b < D.G.nb := by rw [<- pw.nb]; exact hb
     show ¬ r.2.G.Er (nx r.2.G.nb b)
     have n2' : nx D.G.nb b ≠ D.h := by rw [<- pw.nb]; exact n2
     rw [pw.nb, pw.er n2']
     have n3' : ¬ D.G.Er b := by rw [<- pw.er n1]; exact n3
     exact I.run hb' n1 n2' n3'
 . refine ⟨by rw [er], fun z => (by rw [rf] at z; cases z), fun _ => ?_⟩
   rcases hc with hc | pw
   . rw [hc]
     exact ⟨I.ok, fun _ _ V => V⟩
   . refine ⟨⟨D.h, .inl ⟨I.base.torn pw e hf hh I.fl.fa, by rw [pw.nb]; exact hh, I.ord.torn pw e, ?_, fun {b} hb n1 n3 => ?_⟩⟩, fun s' v V => V.torn pw e⟩
     . rw [pw.nb, pw.er (nx_ne (by omega) hh)]
       exact I.er1
     . rw [pw.nb] at hb ⊢
       by_cases n2 : nx D.G.nb b = D.h
       . rw [n2]
         intro q
         have := q D.f (by rw [pw.np]; exact hf)
         rw [pw.at_] at this
         cases this
       . rw [pw.er n2]
         exact I.run hb n1 n2 (by rw [<- pw.er n1]; exact n3)
structure CI (D : DS) (j : Nat) : Prop where
 base : Base D.G D.many
 hh : D.h < D.G.nb
 ord : Ord D.G D.h
 pl : D.G.Pl D.many D.pl
 fl : Fill D
 fj : D.f <= j
 live : ∀ {s i}, s < D.many -> D.pl s = some (nx D.G.nb D.h, i) -> j <= i
 lv : ∀ {i}, i < D.f -> D.Live D.h i
 cop : ∀ {i s c n}, D.G.W D.h i s c n -> ∃ b' i' n', b' ≠ D.h /\ D.G.W b' i' s c n' /\ ∀ {b'' i'' c'' n''}, b'' ≠ D.h -> D.G.W b'' i'' s c'' n'' -> n'' <= n'
 ne : ∀ {b}, b < D.G.nb -> b ≠ D.h -> ¬ D.G.Er b
theorem CI.ok {D : DS} {j : Nat} (I : CI D j) : Ok D.G D.many := by
 by_cases z : D.f = 0
 . refine ⟨prv D.G.nb D.h, .inl ⟨I.base, prv_lt I.hh, I.ord.bwd I.hh (no_wh (I.fl.er z)), by rw [nx_prv I.hh]; exact I.fl.er z, fun {b} hb nb ne => ?_⟩⟩
   exact I.ne (yWv hb) fun q => nb (by rw [<- q, prv_nx hb])
 . refine ⟨D.h, .inr ⟨I.base, I.hh, I.ord, fun {b} hb => ?_, fun w _ => I.cop w⟩⟩
   by_cases q : b = D.h
   . rw [q]; exact I.fl.ner (by omega)
   . exact I.ne hb q
theorem CI.put {D : DS} {j s : Nat} {c m : Int} (I : CI D j) (hj : j < D.G.np) (hs : s < D.many) (hp : D.pl s = some (nx D.G.nb D.h, j)) (eg : D.G.pg (nx D.G.nb D.h) j = .wh s c m) {r : Bool × DS} (h : D.put s c = some r) :
   r.2.many = D.many /\ r.2.h = D.h /\ r.2.G.nb = D.G.nb /\ r.2.G.np = D.G.np /\ (∀ s' v, Val D.G s' v -> Val r.2.G s' v) /\ (r.1 = true -> CI r.2 (j + 1) /\ r.2.f = D.f + 1 /\ ∀ b i, b ≠ nx D.G.nb D.h -> D.Live b i -> r.2.Live b i) /\ (r.1 = false -> Ok r.2.G D.many) := by
 have b4 := I.base.b4
 obtain ⟨⟨hh, hf, cl, _⟩, hr⟩ := put_is h
 have e : D.G.pg D.h D.f = .er := cl _ (Nat.le_refl _) hf
 have nxh : nx D.G.nb D.h ≠ D.h := nx_ne (by omega) hh
 obtain ⟨c', n', w', q'⟩ := yJj I.pl hs hp
 have ec : c' = c /\ n' = m := by
   have := w'.2.2
   rw [eg] at this
   injection this with _ z1 z2
   exact ⟨z1.symm, z2.symm⟩
 obtain ⟨rfl, rfl⟩ := ec
 rcases hr with ⟨rt, pw, er⟩ | ⟨rf, er, hc⟩
 . refine ⟨by rw [er], by rw [er], pw.nb, pw.np, fun s' v V => ?_, fun _ => ⟨?_, by rw [er], fun b i nb ⟨s', hs', z⟩ => ?_⟩, fun z => (by rw [rt] at z; cases z)⟩
   . by_cases z : s' = s
     . subst z
       have hv : v = c' := by
         refine Val.one I.base V (.inr ⟨_, _, _, w', q'⟩)
       rw [hv]
       exact Val.putS I.base pw e hh hf
     . exact V.putO pw e hh hf z
   . rw [er]
     refine ⟨I.base.put pw e hf hh hs I.fl.fa, by show D.h < r.2.G.nb; rw [pw.nb]; exact hh, Ord.put I.base I.ord pw e hf hh, Pl.put I.base I.pl pw e hh hf, I.fl.put pw (fun z => nomatch z) hf, by show D.f + 1 <= j + 1; have := I.fj; omega, fun {s' i} hs' z => ?_, fun {i} hi => ?_, fun {i s' c2 n2} w => ?_, fun {b} hb n1 => ?_⟩
     . have z' : set1 D.pl s (some (D.h, D.f)) s' = some (nx r.2.G.nb D.h, i) := z
       unfold set1 at z'
       rw [pw.nb] at z'
       by_cases q : s' = s
       . rw [if_pos q] at z'
         injection z' with z'
         injection z' with z1 z2
         exact absurd z1.symm nxh
       . rw [if_neg q] at z'
         have hs2 : s' < D.many := hs'
         have h1 := I.live hs2 z'
         by_cases q2 : i = j
         . subst q2
           obtain ⟨c3, n3, w3, _⟩ := yJj I.pl hs2 z'
           have := w3.2.2
           rw [eg] at this
           injection this with z1
           exact absurd z1.symm q
         . omega
     . have hi' : i < D.f + 1 := hi
       by_cases q : i = D.f
       . subst q
         exact ⟨s, hs, by show set1 D.pl s (some (D.h, D.f)) s = _; unfold set1; rw [if_pos rfl]⟩
       . obtain ⟨s2, hs2, z2⟩ := I.lv (i := i) (by omega)
         refine ⟨s2, hs2, ?_⟩
         show set1 D.pl s (some (D.h, D.f)) s2 = _
         unfold set1
         rw [if_neg fun q3 => by
           rw [q3, hp] at z2
           injection z2 with z2
           injection z2 with z1 _
           exact nxh z1]
         exact z2
     . have tr : ∀ {b'' i'' c'' n''}, b'' ≠ D.h -> r.2.G.W b'' i'' s' c'' n'' -> D.G.W b'' i'' s' c'' n'' := fun {b'' i'' c'' n''} nb w2 => by
         rcases (pw.whole e hh hf).mp w2 with w2 | ⟨z, _⟩
         . exact w2
         . exact absurd z nb
       rcases (pw.whole e hh hf).mp w with w | ⟨_, _, rfl, rfl, _⟩
       . obtain ⟨b1, i1, n1, nb1, w1, q1⟩ := I.cop w
         exact ⟨b1, i1, n1, nb1, (pw.whole e hh hf).mpr (.inl w1), fun nb w2 => q1 nb (tr nb w2)⟩
       . exact ⟨nx D.G.nb D.h, j, n', nxh, (pw.whole e hh hf).mpr (.inl w'), fun nb w2 => q' (tr nb w2)⟩
     . show ¬ r.2.G.Er b
       rw [pw.er n1]
       exact I.ne (by rw [<- pw.nb]; exact hb) n1
   . rw [er]
     refine ⟨s', hs', ?_⟩
     show set1 D.pl s (some (D.h, D.f)) s' = _
     unfold set1
     rw [if_neg fun q => by
       rw [q, hp] at z
       injection z with z
       injection z with z1 _
       exact nb z1.symm]
     exact z
 . rcases hc with hc | pw
   . refine ⟨by rw [er], by rw [er], by rw [hc], by rw [hc], fun s' v V => by rw [hc]; exact V, fun z => (by rw [rf] at z; cases z), fun _ => ?_⟩
     rw [hc]
     exact I.ok
   . refine ⟨by rw [er], by rw [er], pw.nb, pw.np, fun s' v V => V.torn pw e, fun z => (by rw [rf] at z; cases z), fun _ => ?_⟩
     refine ⟨D.h, .inr ⟨I.base.torn pw e hf hh I.fl.fa, by rw [pw.nb]; exact hh, I.ord.torn pw e, fun {b} hb => ?_, fun {i s' c2 n2} w _ => ?_⟩⟩
     . rw [pw.nb] at hb
       by_cases q : b = D.h
       . subst q
         intro z
         have := z D.f (by rw [pw.np]; exact hf)
         rw [pw.at_] at this
         cases this
       . rw [pw.er q]
         exact I.ne hb q
     . obtain ⟨b1, i1, n1, nb1, w1, q1⟩ := I.cop ((pw.torn e).mp w)
       exact ⟨b1, i1, n1, nb1, (pw.torn e).mpr w1, fun nb w2 => q1 nb ((pw.torn e).mp w2)⟩
end Ev
namespace Ev
theorem move_l {D : DS} {b n : Nat} (h : D.Live b (D.G.np - (n + 1))) {s : Nat} {c m : Int} (eg : D.G.pg b (D.G.np - (n + 1)) = .wh s c m) {r1 : Bool × DS} (ep : D.put s c = some r1) : DS.move b (n + 1) D = if r1.1 = true then DS.move b n r1.2 else some r1 := by
 conv => lhs; unfold DS.move
 rw [if_pos h, eg]
 dsimp only
 rw [ep]
 obtain ⟨k, D1⟩ := r1
 cases k <;> rfl
theorem move_d {D : DS} {b n : Nat} (h : ¬ D.Live b (D.G.np - (n + 1))) : DS.move b (n + 1) D = DS.move b n D := by
 conv => lhs; unfold DS.move
 rw [if_neg h]
theorem CI.move : ∀ (n : Nat) {D : DS} {j : Nat}, CI D j -> j + n = D.G.np -> ∃ r, DS.move (nx D.G.nb D.h) n D = some r /\ r.2.many = D.many /\ r.2.h = D.h /\ r.2.G.nb = D.G.nb /\ r.2.G.np = D.G.np /\ (∀ s' v, Val D.G s' v -> Val r.2.G s' v) /\
   (r.1 = true -> CI r.2 D.G.np /\ ∀ b i, b ≠ nx D.G.nb D.h -> D.Live b i -> r.2.Live b i) /\ (r.1 = false -> Ok r.2.G D.many)
 | 0, D, j, I, hj => by
   refine ⟨(true, D), rfl, rfl, rfl, rfl, rfl, fun _ _ V => V, fun _ => ⟨?_, fun _ _ _ l => l⟩, fun z => nomatch z⟩
   have : j = D.G.np := by omega
   rw [<- this]; exact I
 | n + 1, D, j, I, hj => by
   have hjj : D.G.np - (n + 1) = j := by omega
   by_cases lv : D.Live (nx D.G.nb D.h) j
   . obtain ⟨s, hs, hp⟩ := lv
     obtain ⟨c, m, w, q⟩ := yJj I.pl hs hp
     have hf : D.f < D.G.np := by have := I.fj; omega
     obtain ⟨r1, ep⟩ := put_some (c := c) I.hh I.fl hf hs
     obtain ⟨a1, a2, a3, a4, a5, a6, a7⟩ := I.put (by omega) hs hp w.2.2 ep
     have em := move_l (D := D) (b := nx D.G.nb D.h) (n := n) (by rw [hjj]; exact ⟨s, hs, hp⟩) (by rw [hjj]; exact w.2.2) ep
     cases k : r1.1 with
     | true =>
       rw [if_pos k] at em
       obtain ⟨I1, _, lk⟩ := a6 k
       obtain ⟨r, e, b1, b2, b3, b4, b5, b6, b7⟩ := CI.move n I1 (by rw [a4]; omega)
       rw [a2, a3] at e
       refine ⟨r, by rw [em]; exact e, by omega, by omega, by omega, by omega, fun s' v V => b5 s' v (a5 s' v V), fun z => ?_, fun z => ?_⟩
       . obtain ⟨c1, c2⟩ := b6 z
         rw [a4] at c1
         rw [a2, a3] at c2
         exact ⟨c1, fun b i nb l => c2 b i nb (lk b i nb l)⟩
       . rw [<- a1]; exact b7 z
     | false =>
       rw [if_neg (by rw [k]; exact Bool.false_ne_true)] at em
       exact ⟨r1, em, a1, a2, a3, a4, a5, fun z => (by rw [k] at z; cases z), fun _ => a7 k⟩
   . have em := move_d (D := D) (b := nx D.G.nb D.h) (n := n) (by rw [hjj]; exact lv)
     have I1 : CI D (j + 1) := ⟨I.base, I.hh, I.ord, I.pl, I.fl, by have := I.fj; omega, fun {s i} hs hp => by
       have := I.live hs hp
       by_cases q : i = j
       . subst q; exact absurd ⟨s, hs, hp⟩ lv
       . omega, I.lv, I.cop, I.ne⟩
     obtain ⟨r, e, b⟩ := CI.move n I1 (by omega)
     exact ⟨r, by rw [em]; exact e, b⟩
theorem CI.clean {D : DS} (I : CI D 0) : ∃ r, D.clean (nx D.G.nb D.h) = some r /\ r.2.many = D.many /\ r.2.h = D.h /\ r.2.G.nb = D.G.nb /\ r.2.G.np = D.G.np /\ (∀ s' v, s' < D.many -> Val D.G s' v -> Val r.2.G s' v) /\
   (r.1 = true -> WI r.2 /\ (∀ i, i < r.2.f -> r.2.Live D.h i) /\ ∀ b i, b ≠ nx D.G.nb D.h -> D.Live b i -> r.2.Live b i) /\ (r.1 = false -> Ok r.2.G D.many) := by
 obtain ⟨r, e, a1, a2, a3, a4, a5, a6, a7⟩ := CI.move D.G.np I (by omega)
 unfold DS.clean
 rw [e]
 obtain ⟨k, D1⟩ := r
 dsimp only at a1 a2 a3 a4 a5 a6 a7
 cases k with
 | false => exact ⟨_, rfl, a1, a2, a3, a4, fun s' v _ V => a5 s' v V, fun z => (nomatch z), fun _ => a7 rfl⟩
 | true =>
   obtain ⟨I1, lk⟩ := a6 rfl
   have b4 := I1.base.b4
   have p2 := I1.base.p2
   dsimp only
   have oo : nx D.G.nb D.h = nx D1.G.nb D1.h := by rw [a2, a3]
   have olt : nx D1.G.nb D1.h < D1.G.nb := yWv I1.hh
   have one : nx D1.G.nb D1.h ≠ D1.h := nx_ne (by omega) I1.hh
   rw [oo, if_pos olt]
   have nolive : ∀ s i, s < D1.many -> D1.pl s = some (nx D1.G.nb D1.h, i) -> False := fun s i hs hp => by
     have h1 := I1.live hs hp
     obtain ⟨c, n, w, _⟩ := yJj I1.pl hs hp
     have := w.2.1
     omega
   have old : ∀ {s v}, s < D1.many -> Val D1.G s v -> ∀ i c n, D1.G.W (nx D1.G.nb D1.h) i s c n -> ∃ b' i' n', b' ≠ nx D1.G.nb D1.h /\ D1.G.W b' i' s v n' /\ ∀ {b'' i'' c'' n''}, b'' ≠ nx D1.G.nb D1.h -> D1.G.W b'' i'' s c'' n'' -> n'' <= n' := fun {s v} hs V i c n w => by
     cases hp : D1.pl s with
     | none => exact absurd w (xKk I1.pl hs hp _ _ _ _)
     | some bi =>
       obtain ⟨b, i'⟩ := bi
       obtain ⟨c', n', w', q'⟩ := yJj I1.pl hs hp
       have hv : v = c' := Val.one I1.base V (.inr ⟨_, _, _, w', q'⟩)
       subst hv
       exact ⟨b, i', n', fun z => nolive s i' hs (by rw [<- z]; exact hp), w', fun _ w'' => q' w''⟩
   refine ⟨_, rfl, a1, a2, ?_, ?_, fun s' v hs' V => ?_, fun z => ?_, fun z => ?_⟩
   . show (D1.G.era _).2.nb = _
     cases k : (D1.G.era (nx D1.G.nb D1.h)).1 with
     | true => rw [(wWw k).nb]; exact a3
     | false =>
       rcases wWx k with q | q
       . rw [q]; exact a3
       . rw [q.nb]; exact a3
   . show (D1.G.era _).2.np = _
     cases k : (D1.G.era (nx D1.G.nb D1.h)).1 with
     | true => rw [(wWw k).np]; exact a4
     | false =>
       rcases wWx k with q | q
       . rw [q]; exact a4
       . rw [q.np]; exact a4
   . have V1 := a5 s' v V
     show Val (D1.G.era _).2 s' v
     cases k : (D1.G.era (nx D1.G.nb D1.h)).1 with
     | true => exact V1.era (wWw k) new_ (old (by rw [a1]; exact hs') V1)
     | false =>
       rcases wWx k with q | q
       . rw [q]; exact V1
       . exact V1.era q ntw (old (by rw [a1]; exact hs') V1)
   . have ew := wWw z
     dsimp only at z ⊢
     refine ⟨⟨?_, ?_, ?_, ?_, ?_, ?_, ?_⟩, fun i hi => ?_, fun b i nb l => ?_⟩
     . exact I1.base.era ew new_
     . show D1.h < (D1.G.era _).2.nb
       rw [ew.nb]; exact I1.hh
     . exact I1.ord.era ew new_
     . refine pl_mk (fun s hs hp b i c n w => xKk I1.pl hs hp _ _ _ _ ((ew.whole new_).mp w).2) fun s b i hs hp => ?_
       obtain ⟨c, n, w, q⟩ := yJj I1.pl hs hp
       exact ⟨c, n, (ew.whole new_).mpr ⟨fun z => nolive s i hs (by rw [<- z]; exact hp), w⟩, fun w' => q ((ew.whole new_).mp w').2⟩
     . refine ⟨by show D1.f <= (D1.G.era _).2.np; rw [ew.np]; exact I1.fl.f1, fun i hi => ?_, fun i h1 h2 => ?_⟩
       . show (D1.G.era _).2.pg D1.h i ≠ .er
         rw [ew.ne one.symm]
         exact I1.fl.fa i hi
       . show (D1.G.era _).2.pg D1.h i = .er
         rw [ew.ne one.symm]
         exact I1.fl.fb i h1 (by rw [<- ew.np]; exact h2)
     . show (D1.G.era _).2.Er (nx (D1.G.era _).2.nb D1.h)
       rw [ew.nb]
       exact fun i _ => ew.at_
     . intro b hb n1 n2 n3
       have hb' : b < D1.G.nb := by rw [<- ew.nb]; exact hb
       show ¬ (D1.G.era _).2.Er (nx (D1.G.era _).2.nb b)
       have n2' : nx D1.G.nb b ≠ D1.h := by rw [<- ew.nb]; exact n2
       rw [ew.nb, ew.er fun z => n1 (nx_inj hb' I1.hh z)]
       exact I1.ne (yWv hb') n2'
     . rw [<- a2]; exact I1.lv hi
     . exact lk b i (by rw [oo]; exact nb) l
   . show Ok (D1.G.era _).2 D.many
     rw [<- a1]
     have z' : (D1.G.era (nx D1.G.nb D1.h)).1 = false := z
     rcases wWx z' with q | ew
     . rw [q]; exact I1.ok
     . have oner : ¬ (D1.G.era (nx D1.G.nb D1.h)).2.Er (nx D1.G.nb D1.h) := fun q => by
         have := q 0 (by rw [ew.np]; omega)
         rw [ew.at_] at this
         cases this
       by_cases z0 : D1.f = 0
       . refine ⟨prv D1.G.nb D1.h, .inl ⟨I1.base.era ew ntw, by rw [ew.nb]; exact prv_lt I1.hh, ?_, ?_, fun {b} hb n1 n3 => ?_⟩⟩
         . exact (I1.ord.bwd I1.hh (no_wh (I1.fl.er z0))).era ew ntw
         . rw [ew.nb, nx_prv I1.hh, ew.er one.symm]
           exact I1.fl.er z0
         . rw [ew.nb] at hb ⊢
           by_cases q : nx D1.G.nb b = nx D1.G.nb D1.h
           . rw [q]; exact oner
           . rw [ew.er q]
             exact I1.ne (yWv hb) fun q2 => n1 (by rw [<- q2, prv_nx hb])
       . refine ⟨D1.h, .inr ⟨I1.base.era ew ntw, by rw [ew.nb]; exact I1.hh, I1.ord.era ew ntw, fun {b} hb => ?_, fun {i s c n} w hw => ?_⟩⟩
         . rw [ew.nb] at hb
           by_cases q : b = nx D1.G.nb D1.h
           . rw [q]; exact oner
           . rw [ew.er q]
             by_cases q2 : b = D1.h
             . rw [q2]; exact I1.fl.ner (by omega)
             . exact I1.ne hb q2
         . obtain ⟨i', hi', s', c', n', e'⟩ := hw
           rw [ew.nb, ew.at_] at e'
           cases e'
theorem WI.ring {D : DS} (I : WI D) (hf : D.f = D.G.np) (ne : ¬ D.G.Er (nx D.G.nb (nx D.G.nb D.h))) : ∀ k b, dst D.G.nb (nx D.G.nb D.h) b = k -> b < D.G.nb -> b ≠ nx D.G.nb D.h -> ¬ D.G.Er b := by
 have b4 := I.base.b4
 have p2 := I.base.p2
 have hner : ¬ D.G.Er D.h := I.fl.ner (by omega)
 intro k
 induction k with
 | zero =>
   intro b hd hb nb
   have : b = nx D.G.nb (nx D.G.nb D.h) := by
     have := nx_s D.G.nb D.h
     have := nx_s D.G.nb (nx D.G.nb D.h)
     have := yWz D.G.nb (nx D.G.nb D.h) b
     have := I.hh
     omega
   rw [this]; exact ne
 | succ k ih =>
   intro b hd hb nb
   have e := nx_prv hb
   have l := prv_lt hb
   have := nx_s D.G.nb D.h
   have := yWz D.G.nb (nx D.G.nb D.h) b
   have := yWz D.G.nb (nx D.G.nb D.h) (prv D.G.nb b)
   have := prv_s D.G.nb b
   have := I.hh
   by_cases q : b = D.h
   . rw [q]; exact hner
   . have h1 := ih (prv D.G.nb b) (by omega) l (by omega)
     have := I.run l (by omega) (by rw [e]; exact q) h1
     rwa [e] at this
theorem WI.begin {D : DS} (I : WI D) (hf : D.f = D.G.np) : ∃ r, D.begin = some r /\ r.2.many = D.many /\ r.2.h = nx D.G.nb D.h /\ r.2.G.nb = D.G.nb /\ r.2.G.np = D.G.np /\ (∀ s' v, s' < D.many -> Val D.G s' v -> Val r.2.G s' v) /\
   (r.1 = true -> WI r.2 /\ (∀ i, i < r.2.f -> r.2.Live (nx D.G.nb D.h) i) /\ ∀ b i, b ≠ nx D.G.nb (nx D.G.nb D.h) -> D.Live b i -> r.2.Live b i) /\ (r.1 = false -> Ok r.2.G D.many) := by
 have b4 := I.base.b4
 have p2 := I.base.p2
 have hner : ¬ D.G.Er D.h := I.fl.ner (by omega)
 have h2 := yWv I.hh
 have fl2 : Fill { D with h := nx D.G.nb D.h, f := 0 } := ⟨Nat.zero_le _, fun i hi => absurd hi (Nat.not_lt_zero _), fun i _ hi => I.er1 i hi⟩
 have ord2 : Ord D.G (nx D.G.nb D.h) := I.ord.fwd I.hh (no_wh I.er1)
 unfold DS.begin
 by_cases he : D.G.Er (nx D.G.nb (nx D.G.nb D.h))
 . rw [if_pos he]
   refine ⟨_, rfl, rfl, rfl, rfl, rfl, fun _ _ _ V => V, fun _ => ⟨⟨I.base, h2, ord2, I.pl, fl2, he, fun {b} hb n1 n2 n3 => ?_⟩, fun i hi => absurd hi (Nat.not_lt_zero _), fun _ _ _ l => l⟩, fun z => nomatch z⟩
   have nb : b ≠ D.h := fun q => n2 (by rw [q])
   by_cases q : nx D.G.nb b = D.h
   . show ¬ D.G.Er (nx D.G.nb b)
     rw [q]; exact hner
   . exact I.run hb nb q n3
 . rw [if_neg he]
   have C0 : CI { D with h := nx D.G.nb D.h, f := 0 } 0 := ⟨I.base, h2, ord2, I.pl, fl2, Nat.le_refl _, fun _ _ => Nat.zero_le _, fun hi => absurd hi (Nat.not_lt_zero _), fun w => (er_no I.er1 w).elim, fun {b} hb nb => I.ring hf he _ b rfl hb nb⟩
   exact C0.clean
end Ev
namespace Ev
theorem pigeon : ∀ (M N : Nat) (g : Nat -> Nat), (∀ m, m < N -> g m < M) -> (∀ m m', m < N -> m' < N -> g m = g m' -> m = m') -> N <= M
 | 0, N, g, hb, _ => by
   cases N with
   | zero => exact Nat.le_refl _
   | succ n => exact absurd (hb 0 (by omega)) (Nat.not_lt_zero _)
 | M + 1, N, g, hb, hi => by
   by_cases h : ∃ m, m < N /\ g m = M
   . obtain ⟨m0, h0, e0⟩ := h
     have := pigeon M (N - 1) (fun m => if m < m0 then g m else g (m + 1)) (fun m hm => by
       split
       . have a := hb m (by omega)
         have b : g m ≠ M := fun z => by have := hi m m0 (by omega) h0 (by omega); omega
         omega
       . have a := hb (m + 1) (by omega)
         have b : g (m + 1) ≠ M := fun z => by have := hi (m + 1) m0 (by omega) h0 (by omega); omega
         omega) (fun m m' hm hm' e => by
       split at e <;> split at e
       . exact hi m m' (by omega) (by omega) e
       . have := hi m (m' + 1) (by omega) (by omega) e; omega
       . have := hi (m + 1) m' (by omega) (by omega) e; omega
       . have := hi (m + 1) (m' + 1) (by omega) (by omega) e; omega)
     omega
   . have := pigeon M N g (fun m hm => by
       have a := hb m hm
       have b : g m ≠ M := fun z => h ⟨m, hm, z⟩
       omega) hi
     omega
def bk (nb h t : Nat) : Nat := if t <= h then h - t else h + nb - t
theorem bk_s (nb h t : Nat) : (t <= h /\ bk nb h t = h - t) \/ (h < t /\ bk nb h t = h + nb - t) := by unfold bk; split <;> omega
theorem bk_inj {nb h t t' : Nat} (hh : h < nb) (ht : t < nb) (ht' : t' < nb) (e : bk nb h t = bk nb h t') : t = t' := by
 have := bk_s nb h t
 have := bk_s nb h t'
 omega
def Full (D : DS) (k : Nat) : Prop := ∀ t, t < k -> ∀ i, i < D.G.np -> D.Live (bk D.G.nb D.h t) i
theorem full_few {D : DS} (P : D.G.Pl D.many D.pl) (hh : D.h < D.G.nb) {k : Nat} (hk : k <= D.G.nb) (hp : 0 < D.G.np) (F : Full D k) : k * D.G.np <= D.many := by
 have ex : ∀ m, m < k * D.G.np -> ∃ s, s < D.many /\ D.pl s = some (bk D.G.nb D.h (m / D.G.np), m % D.G.np) := fun m hm => F (m / D.G.np) ((Nat.div_lt_iff_lt_mul hp).mpr hm) (m % D.G.np) (Nat.mod_lt _ hp)
 classical
 refine pigeon D.many (k * D.G.np) (fun m => if h : m < k * D.G.np then (ex m h).choose else 0) (fun m hm => ?_) fun m m' hm hm' e => ?_
 . rw [dif_pos hm]
   exact (ex m hm).choose_spec.1
 . rw [dif_pos hm, dif_pos hm'] at e
   have e1 := (ex m hm).choose_spec.2
   have e2 := (ex m' hm').choose_spec.2
   rw [e, e2] at e1
   injection e1 with e1
   injection e1 with e3 e4
   have d1 : m / D.G.np < k := (Nat.div_lt_iff_lt_mul hp).mpr hm
   have d2 : m' / D.G.np < k := (Nat.div_lt_iff_lt_mul hp).mpr hm'
   have e5 : m / D.G.np = m' / D.G.np := (bk_inj hh (Nat.lt_of_lt_of_le d2 hk) (Nat.lt_of_lt_of_le d1 hk) e3).symm
   rw [<- Nat.div_add_mod m D.G.np, <- Nat.div_add_mod m' D.G.np, e5, e4]
theorem write_r {n : Nat} {D : DS} {s : Nat} {c : Int} (hf : D.f ≠ D.G.np) : DS.write (n + 1) D s c = D.put s c := by
 conv => lhs; unfold DS.write
 rw [if_neg hf]
theorem write_b {n : Nat} {D : DS} {s : Nat} {c : Int} (hf : D.f = D.G.np) {r1 : Bool × DS} (hb : D.begin = some r1) : DS.write (n + 1) D s c = if r1.1 = true then DS.write n r1.2 s c else some r1 := by
 conv => lhs; unfold DS.write
 rw [if_pos hf, hb]
 obtain ⟨k, D1⟩ := r1
 cases k <;> rfl
structure WLeft (D : DS) (s : Nat) (c : Int) (r : Bool × DS) : Prop where
 many : r.2.many = D.many
 nb : r.2.G.nb = D.G.nb
 np : r.2.G.np = D.G.np
 t : r.1 = true -> WI r.2 /\ Val r.2.G s c /\ ∀ s' v, s' < D.many -> s' ≠ s -> Val D.G s' v -> Val r.2.G s' v
 f : r.1 = false -> Ok r.2.G D.many /\ ∀ s' v, s' < D.many -> Val D.G s' v -> Val r.2.G s' v
theorem WI.writeR {D : DS} (I : WI D) (hf : D.f ≠ D.G.np) (n : Nat) {s : Nat} {c : Int} (hs : s < D.many) : ∃ r, DS.write (n + 1) D s c = some r /\ WLeft D s c r := by
 have f1 := I.fl.f1
 obtain ⟨r, ep⟩ := put_some (c := c) I.hh I.fl (by omega) hs
 obtain ⟨a1, a2, a3⟩ := I.put ep
 have nbp : r.2.G.nb = D.G.nb /\ r.2.G.np = D.G.np := by
   obtain ⟨_, ⟨_, pw, _⟩ | ⟨_, _, q | pw⟩⟩ := put_is ep
   . exact ⟨pw.nb, pw.np⟩
   . rw [q]; exact ⟨rfl, rfl⟩
   . exact ⟨pw.nb, pw.np⟩
 refine ⟨r, by rw [write_r hf]; exact ep, a1, nbp.1, nbp.2, fun z => ?_, fun z => ?_⟩
 . obtain ⟨b1, b2, b3⟩ := a2 z
   exact ⟨b1, b2, fun s' v _ ne V => b3 s' v ne V⟩
 . obtain ⟨b1, b2⟩ := a3 z
   exact ⟨b1, fun s' v _ V => b2 s' v V⟩
theorem WI.writeF : ∀ (m : Nat) {D : DS} {k : Nat} (I : WI D) (hf : D.f = D.G.np) (F : Full D k) (hk : k + m = D.G.nb) (hm : 2 <= m) {s : Nat} {c : Int} (hs : s < D.many), ∃ r, DS.write m D s c = some r /\ WLeft D s c r
 | 0, D, k, I, hf, F, hk, hm, s, c, hs => by omega
 | m + 1, D, k, I, hf, F, hk, hm, s, c, hs => by
   have b4 := I.base.b4
   have p2 := I.base.p2
   obtain ⟨r1, hb, a1, a2, a3, a4, a5, a6, a7⟩ := I.begin hf
   have eb := write_b (n := m) (s := s) (c := c) hf hb
   cases q : r1.1 with
   | false =>
     rw [if_neg (by rw [q]; exact Bool.false_ne_true)] at eb
     exact ⟨r1, eb, a1, a3, a4, fun z => (by rw [q] at z; cases z), fun _ => ⟨a7 q, a5⟩⟩
   | true =>
     rw [if_pos q] at eb
     obtain ⟨I1, l1, l2⟩ := a6 q
     have back : ∀ {r}, WLeft r1.2 s c r -> WLeft D s c r := fun {r} L => ⟨by rw [L.many, a1], by rw [L.nb, a3], by rw [L.np, a4], fun z => by
       obtain ⟨b1, b2, b3⟩ := L.t z
       exact ⟨b1, b2, fun s' v hs' ne V => b3 s' v (by rw [a1]; exact hs') ne (a5 s' v hs' V)⟩, fun z => by
       obtain ⟨b1, b2⟩ := L.f z
       exact ⟨by rw [<- a1]; exact b1, fun s' v hs' V => b2 s' v (by rw [a1]; exact hs') (a5 s' v hs' V)⟩⟩
     by_cases hf1 : r1.2.f = r1.2.G.np
     . have F1 : Full r1.2 (k + 1) := fun t ht i hi => by
         rw [a2, a3]
         have hi' : i < D.G.np := by rw [<- a4]; exact hi
         cases t with
         | zero =>
           have : bk D.G.nb (nx D.G.nb D.h) 0 = nx D.G.nb D.h := by unfold bk; rw [if_pos (Nat.zero_le _)]; omega
           rw [this]
           exact l1 i (by rw [hf1]; exact hi)
         | succ t =>
           have := nx_s D.G.nb D.h
           have := nx_s D.G.nb (nx D.G.nb D.h)
           have := bk_s D.G.nb (nx D.G.nb D.h) (t + 1)
           have := bk_s D.G.nb D.h t
           have := I.hh
           have e : bk D.G.nb (nx D.G.nb D.h) (t + 1) = bk D.G.nb D.h t := by omega
           rw [e]
           exact l2 _ _ (by omega) (F t (by omega) i hi')
       have few := full_few I1.pl I1.hh (k := k + 1) (by rw [a3]; omega) (by rw [a4]; omega) F1
       have ms := I1.base.ms
       rw [a1, a4] at few
       rw [a1, a3, a4] at ms
       have hk1 : k + 1 <= D.G.nb - 2 := Nat.le_of_mul_le_mul_right (Nat.le_trans few ms) (by omega)
       obtain ⟨r, e, L⟩ := WI.writeF m (k := k + 1) I1 hf1 F1 (by rw [a3]; omega) (by omega) (s := s) (c := c) (by rw [a1]; exact hs)
       exact ⟨r, by rw [eb]; exact e, back L⟩
     . obtain ⟨m', rfl⟩ : ∃ m', m = m' + 1 := ⟨m - 1, by omega⟩
       obtain ⟨r, e, L⟩ := I1.writeR hf1 m' (c := c) (by rw [a1]; exact hs)
       exact ⟨r, by rw [eb]; exact e, back L⟩
theorem WI.write {D : DS} (I : WI D) {s : Nat} {c : Int} (hs : s < D.many) : ∃ r, DS.write D.G.nb D s c = some r /\ WLeft D s c r := by
 have b4 := I.base.b4
 by_cases hf : D.f = D.G.np
 . exact WI.writeF D.G.nb (k := 0) I hf (fun t ht => absurd ht (Nat.not_lt_zero _)) (by omega) (by omega) hs
 . obtain ⟨r, e, L⟩ := I.writeR hf (D.G.nb - 1) (c := c) hs
   rw [show D.G.nb - 1 + 1 = D.G.nb by omega] at e
   exact ⟨r, e, L⟩
theorem Newest.blk {G : GS} {N : Nat} (h : G.Newest N) : N < G.nb := by
 rcases h with ⟨_, h⟩ | ⟨h, _⟩ <;> omega
theorem last_is {G : GS} {b : Nat} (hb : b < G.nb) (h : ¬ G.Er b /\ G.Er (nx G.nb b)) (one : ∀ b', b' < G.nb -> ¬ G.Er b' -> G.Er (nx G.nb b') -> b' = b) : G.last = b := by
 unfold GS.last
 cases e : (List.range G.nb).find? fun b => decide (¬ G.Er b /\ G.Er (nx G.nb b)) with
 | none =>
   have := List.find?_eq_none.mp e b (List.mem_range.mpr hb)
   rw [decide_eq_true h] at this
   exact absurd rfl this
 | some b' =>
   have h0 := List.find?_some e
   have h1 : ¬ G.Er b' /\ G.Er (nx G.nb b') := of_decide_eq_true h0
   have h2 := List.mem_range.mp (List.mem_of_find?_eq_some e)
   exact one b' h2 h1.1 h1.2
theorem last_zero {G : GS} (h : ∀ b, b < G.nb -> G.Er b) : G.last = 0 := by
 unfold GS.last
 cases e : (List.range G.nb).find? fun b => decide (¬ G.Er b /\ G.Er (nx G.nb b)) with
 | none => rfl
 | some b' =>
   have h0 := List.find?_some e
   have h1 : ¬ G.Er b' /\ G.Er (nx G.nb b') := of_decide_eq_true h0
   exact absurd (h b' (List.mem_range.mp (List.mem_of_find?_eq_some e))) h1.1
theorem fill_is {G : GS} {many b : Nat} (B : Base G many) (hb : b < G.nb) : G.fill b <= G.np /\ (∀ i, i < G.fill b -> G.pg b i ≠ .er) /\ ∀ i, G.fill b <= i -> i < G.np -> G.pg b i = .er := by
 have key : ∀ n, n <= G.np -> ∃ k, k <= n /\ ((List.range n).filter fun i => decide (G.pg b i ≠ .er)).length = k /\ (∀ i, i < k -> G.pg b i ≠ .er) /\ ∀ i, k <= i -> i < n -> G.pg b i = .er := fun n => by
   induction n with
   | zero => intro _; exact ⟨0, Nat.le_refl _, rfl, fun i hi => absurd hi (Nat.not_lt_zero _), fun i _ hi => absurd hi (Nat.not_lt_zero _)⟩
   | succ n ih =>
     intro hn
     obtain ⟨k, hk, e, h1, h2⟩ := ih (by omega)
     rw [List.range_succ, List.filter_append, List.length_append, e]
     by_cases q : G.pg b n = .er
     . refine ⟨k, by omega, by simp [q], h1, fun i hi1 hi2 => ?_⟩
       by_cases z : i = n
       . rw [z]; exact q
       . exact h2 i hi1 (by omega)
     . have hkn : k = n := by
         by_cases z : k = n
         . exact z
         . exact absurd (B.gap hb (i := k) (j := n) hk (by omega) (h2 k (Nat.le_refl _) (by omega))) q
       subst hkn
       refine ⟨k + 1, Nat.le_refl _, by simp [q], fun i hi => ?_, fun i hi1 hi2 => by omega⟩
       by_cases z : i = k
       . rw [z]; exact q
       . exact h1 i (by omega)
 obtain ⟨k, hk, e, h1, h2⟩ := key G.np (Nat.le_refl _)
 have e' : G.fill b = k := e
 rw [e']
 exact ⟨hk, h1, h2⟩
theorem Good.around {G : GS} {many h : Nat} (g : Good G many h) (he : G.Er h) : ∀ b, b < G.nb -> G.Er b := by
 have b4 := g.base.b4
 have hh := g.hh
 have key : ∀ k b, G.nb - 1 - dst G.nb h b = k -> b < G.nb -> G.Er b := fun k => by
   induction k with
   | zero =>
     intro b hd hb
     have := yWz G.nb h b
     have : b = h := by omega
     rw [this]; exact he
   | succ k ih =>
     intro b hd hb
     have := yWz G.nb h b
     have := nx_s G.nb b
     have := yWz G.nb h (nx G.nb b)
     have := yWv hb
     have h1 := ih (nx G.nb b) (by omega) this
     exact Decidable.byContradiction fun ne => g.run hb (by omega) ne h1
 exact fun b hb => key _ b rfl hb
theorem Good.mount {G : GS} {many h : Nat} (g : Good G many h) {pl : Nat -> Option (Nat × Nat)} (P : G.Pl many pl) : WI { G := G, many := many, pl := pl, h := G.last, f := G.fill G.last } := by
 have b4 := g.base.b4
 by_cases he : G.Er h
 . have all := g.around he
   have e0 : G.last = 0 := last_zero all
   have h0 : 0 < G.nb := by omega
   obtain ⟨f1, f2, f3⟩ := fill_is g.base h0
   rw [e0]
   exact ⟨g.base, h0, ⟨fun w => (er_no (all _ w.1) w).elim⟩, P, ⟨f1, f2, f3⟩, all _ (yWv h0), fun {b} hb _ _ ne => absurd (all b hb) ne⟩
 . have el : G.last = h := last_is g.hh ⟨he, g.er1⟩ fun b' hb' ne e => Decidable.byContradiction fun q => g.run hb' q ne e
   obtain ⟨f1, f2, f3⟩ := fill_is g.base g.hh
   rw [el]
   exact ⟨g.base, g.hh, g.ord, P, ⟨f1, f2, f3⟩, g.er1, fun hb n1 _ ne => g.run hb n1 ne⟩
theorem mend_go {G : GS} {N b : Nat} (hb : b < G.nb) (e : G.Er b) : G.mend N = (true, G) := by unfold GS.mend; rw [if_pos ⟨b, hb, e⟩]
theorem Mid.newest {G : GS} {many h N : Nat} (m : Mid G many h) (hN : G.Newest N) : (N = h /\ G.Wh h) \/ (¬ G.Wh (nx G.nb N) /\ Ord G N) := by
 have hh := m.hh
 rcases hN with ⟨no, hN⟩ | ⟨hN, i, s, c, n, hi, e, q⟩
 . exact .inr ⟨no _ (yWv (by omega)), ⟨fun w => absurd (xKx w) (no _ w.1)⟩⟩
 . have w : G.W N i s c n := ⟨hN, hi, e⟩
   by_cases z : N = h
   . exact .inl ⟨z, z ▸ xKx w⟩
   . -- no whole page lies behind N in the ring
     have none : ∀ b, b < G.nb -> dst G.nb h N < dst G.nb h b -> ¬ G.Wh b := fun b hb l ⟨i', hi', s', c', n', e'⟩ => by
       have := m.ord.lt w (⟨hb, hi', e'⟩ : G.W b i' s' c' n') l
       have := q b i' s' c' n' hb hi' e'
       omega
     have := nx_s G.nb N
     have := yWv hN
     have := yWz G.nb h N
     have := yWz G.nb h (nx G.nb N)
     refine .inr ⟨none _ (yWv hN) (by omega), ⟨fun {b1 i1 s1 c1 n1 b2 i2 s2 c2 n2} w1 w2 l => m.ord.lt w1 w2 ?_⟩⟩
     have a1 : ¬ dst G.nb h N < dst G.nb h b1 := fun l => none _ w1.1 l (xKx w1)
     have a2 : ¬ dst G.nb h N < dst G.nb h b2 := fun l => none _ w2.1 l (xKx w2)
     have := w1.1
     have := w2.1
     have := yWz G.nb h b1
     have := yWz G.nb h b2
     have := yWz G.nb N b1
     have := yWz G.nb N b2
     omega
theorem Ok.mend {G : GS} {many N : Nat} (o : Ok G many) (hN : G.Newest N) : (G.mend N).2.nb = G.nb /\ (G.mend N).2.np = G.np /\ (∀ s v, Val G s v -> Val (G.mend N).2 s v) /\ ((G.mend N).1 = true -> ∃ h, Good (G.mend N).2 many h) /\ Ok (G.mend N).2 many := by
 obtain ⟨h, g | m⟩ := o
 . have e := mend_go (N := N) (yWv g.hh) g.er1
   rw [e]
   exact ⟨rfl, rfl, fun _ _ V => V, fun _ => ⟨h, g⟩, h, .inl g⟩
 . have b4 := m.base.b4
   have p2 := m.base.p2
   have hh := m.hh
   have hNl := Newest.blk hN
   have no : ¬ ∃ b, b < G.nb /\ G.Er b := fun ⟨b, hb, e⟩ => m.non hb e
   have torner : ∀ {b : Nat}, EraW G (G.era b).2 b .torn -> ∀ {b'}, b' < (G.era b).2.nb -> ¬ (G.era b).2.Er b' := fun {b} ew {b'} hb' z => by
     rw [ew.nb] at hb'
     by_cases q : b' = b
     . subst q
       have := z 0 (by rw [ew.np]; omega)
       rw [ew.at_] at this; cases this
     . exact m.non hb' ((ew.er q).mp z)
   unfold GS.mend
   rw [if_neg no]
   by_cases hw : G.Wh (nx G.nb N)
   . rw [if_pos hw]
     rcases m.newest hN with ⟨rfl, hwh⟩ | ⟨q, _⟩
     rotate_left
     . exact absurd hw q
     have old : ∀ {s v}, Val G s v -> ∀ i c n, G.W N i s c n -> ∃ b' i' n', b' ≠ N /\ G.W b' i' s v n' /\ ∀ {b'' i'' c'' n''}, b'' ≠ N -> G.W b'' i'' s c'' n'' -> n'' <= n' := fun {s v} V i c n w => by
       rcases V with ⟨q, _⟩ | ⟨b1, i1, n1, w1, q1⟩
       . exact absurd w (q _ _ _ _)
       . by_cases z : b1 = N
         . subst z
           obtain ⟨b', i', n', nb, w', q'⟩ := m.cop w1 hw
           exact ⟨b', i', n', nb, w', q'⟩
         . exact ⟨b1, i1, n1, z, w1, fun _ w'' => q1 w''⟩
     cases k : (G.era N).1 with
     | true =>
       have ew := wWw k
       have gd : Good (G.era N).2 many (prv G.nb N) := by
         refine ⟨m.base.era ew new_, by rw [ew.nb]; exact prv_lt hh, ?_, ?_, fun {b} hb nb ne => ?_⟩
         . have o1 := m.ord.era ew new_
           have := o1.bwd (by rw [ew.nb]; exact hh) (fun ⟨i, hi, s, c, n, e⟩ => by rw [ew.at_] at e; cases e)
           rwa [ew.nb] at this
         . rw [ew.nb, nx_prv hh]
           exact fun i _ => ew.at_
         . rw [ew.nb] at hb ⊢
           have n1 : nx G.nb b ≠ N := fun q => nb (by rw [<- q, prv_nx hb])
           rw [ew.er n1]
           exact m.non (yWv hb)
       exact ⟨ew.nb, ew.np, fun s v V => V.era ew new_ (old V), fun _ => ⟨_, gd⟩, _, .inl gd⟩
     | false =>
       rcases wWx k with q | ew
       . rw [q]
         exact ⟨rfl, rfl, fun _ _ V => V, fun z => (nomatch z), N, .inr m⟩
       . refine ⟨ew.nb, ew.np, fun s v V => V.era ew ntw (old V), fun z => (nomatch z), N, .inr ⟨m.base.era ew ntw, by rw [ew.nb]; exact hh, m.ord.era ew ntw, fun hb => torner ew hb, fun w => absurd rfl ((ew.whole ntw).mp w).1⟩⟩
   . rw [if_neg hw]
     have ord : Ord G N := by
       rcases m.newest hN with ⟨rfl, _⟩ | ⟨_, q⟩
       . exact m.ord
       . exact q
     have old : ∀ {s v}, ∀ i c n, G.W (nx G.nb N) i s c n -> ∃ b' i' n', b' ≠ nx G.nb N /\ G.W b' i' s v n' /\ ∀ {b'' i'' c'' n''}, b'' ≠ nx G.nb N -> G.W b'' i'' s c'' n'' -> n'' <= n' := fun i c n w => absurd (xKx w) hw
     cases k : (G.era (nx G.nb N)).1 with
     | true =>
       have ew := wWw k
       have gd : Good (G.era (nx G.nb N)).2 many N := by
         refine ⟨m.base.era ew new_, by rw [ew.nb]; exact hNl, ord.era ew new_, ?_, fun {b} hb nb ne => ?_⟩
         . rw [ew.nb]
           exact fun i _ => ew.at_
         . rw [ew.nb] at hb ⊢
           rw [ew.er fun q => nb (nx_inj hb hNl q)]
           exact m.non (yWv hb)
       exact ⟨ew.nb, ew.np, fun s v V => V.era ew new_ old, fun _ => ⟨_, gd⟩, _, .inl gd⟩
     | false =>
       rcases wWx k with q | ew
       . rw [q]
         exact ⟨rfl, rfl, fun _ _ V => V, fun z => (nomatch z), h, .inr m⟩
       . refine ⟨ew.nb, ew.np, fun s v V => V.era ew ntw old, fun z => (nomatch z), h, .inr ⟨m.base.era ew ntw, by rw [ew.nb]; exact hh, m.ord.era ew ntw, fun hb => torner ew hb, fun {i s c n} w hw2 => ?_⟩⟩
         have w0 := ((ew.whole ntw).mp w)
         have hw3 : G.Wh (nx G.nb h) := by
           obtain ⟨i', hi', s', c', n', e'⟩ := hw2
           rw [ew.nb] at e'
           have hn : nx G.nb h < G.nb := yWv hh
           have := (ew.whole ntw).mp (⟨by rw [ew.nb]; exact hn, hi', e'⟩ : (G.era (nx G.nb N)).2.W (nx G.nb h) i' s' c' n')
           exact xKx this.2
         obtain ⟨b', i', n', nb, w', q'⟩ := m.cop w0.2 hw3
         refine ⟨b', i', n', nb, (ew.whole ntw).mpr ⟨fun z => hw (z ▸ xKx w'), w'⟩, fun nb2 w2 => q' nb2 ((ew.whole ntw).mp w2).2⟩
theorem Base.rdy {G : GS} {many : Nat} (B : Base G many) (few : G.Few) : G.Rdy many := by
 refine ⟨fun b i s c n hb hi e => (B.num ⟨hb, hi, e⟩).1, ?_, few⟩
 have key : G.wl.Pairwise fun x y => x.1 ≠ y.1 := by
   unfold GS.wl GS.wb
   rw [List.pairwise_flatMap]
   refine ⟨fun b mb => ?_, ?_⟩
   . unfold GS.wr
     rw [List.pairwise_flatMap]
     refine ⟨fun j mj => ?_, ?_⟩
     . unfold GS.wp
       split
       . exact List.pairwise_singleton _ _
       . exact List.Pairwise.nil
     . refine List.Pairwise.imp_of_mem (fun {j j'} m1 m2 l => ?_) (List.pairwise_lt_range (n := G.np))
       intro x hx y hy e
       obtain ⟨s, c, e1, h1⟩ := wQx.mp hx
       obtain ⟨s', c', e2, h2⟩ := wQx.mp hy
       rw [<- e] at e2
       have := (B.dis (⟨List.mem_range.mp mb, List.mem_range.mp m1, e1⟩ : G.W b j s c x.1) (⟨List.mem_range.mp mb, List.mem_range.mp m2, e2⟩ : G.W b j' s' c' x.1)).2
       omega
   . refine List.Pairwise.imp_of_mem (fun {b b'} m1 m2 l => ?_) (List.pairwise_lt_range (n := G.nb))
     intro x hx y hy e
     unfold GS.wr at hx hy
     obtain ⟨j, mj, hx⟩ := List.mem_flatMap.mp hx
     obtain ⟨j', mj', hy⟩ := List.mem_flatMap.mp hy
     obtain ⟨s, c, e1, h1⟩ := wQx.mp hx
     obtain ⟨s', c', e2, h2⟩ := wQx.mp hy
     rw [<- e] at e2
     have := (B.dis (⟨List.mem_range.mp m1, List.mem_range.mp mj, e1⟩ : G.W b j s c x.1) (⟨List.mem_range.mp m2, List.mem_range.mp mj', e2⟩ : G.W b' j' s' c' x.1)).1
     omega
 unfold List.Nodup
 rw [List.pairwise_map]
 exact key
end Ev
namespace Ev
def Lit (G : GS) : Prop := G.left = none /\ G.dark = false
theorem Lit.draw {G : GS} (h : Lit G) : G.draw = some (true, G) := by
 unfold GS.draw
 rw [h.2, h.1]
 rfl
theorem Lit.put {G : GS} (h : Lit G) {b i : Nat} {g : Pg} : (G.put b i g).1 = true /\ Lit (G.put b i g).2 := by
 unfold GS.put
 rw [h.draw]
 exact ⟨rfl, h⟩
theorem Lit.era {G : GS} (h : Lit G) {b : Nat} : (G.era b).1 = true /\ Lit (G.era b).2 := by
 unfold GS.era
 rw [h.draw]
 exact ⟨rfl, h⟩
theorem Lit.dput {D : DS} (h : Lit D.G) {s : Nat} {c : Int} {r : Bool × DS} (e : D.put s c = some r) : r.1 = true /\ Lit r.2.G := by
 unfold DS.put at e
 split at e
 . have := (Option.some.inj e).symm
   subst this
   rw [if_pos h.put.1]
   exact ⟨rfl, h.put.2⟩
 . cases e
theorem Lit.move {b : Nat} : ∀ {n : Nat} {D : DS} {r : Bool × DS}, Lit D.G -> DS.move b n D = some r -> r.1 = true /\ Lit r.2.G
 | 0, D, r, h, e => by cases e; exact ⟨rfl, h⟩
 | n + 1, D, r, h, e => by
   unfold DS.move at e
   split at e
   . split at e
     . split at e
       . rename_i ep
         exact Lit.move (h.dput ep).2 e
       . rename_i x hx
         have := h.dput e
         obtain ⟨k, D'⟩ := r
         cases k with
         | true => exact absurd e (hx D')
         | false => exact absurd this.1 Bool.false_ne_true
     . cases e
   . exact Lit.move h e
theorem Lit.clean {b : Nat} {D : DS} {r : Bool × DS} (h : Lit D.G) (e : D.clean b = some r) : r.1 = true /\ Lit r.2.G := by
 unfold DS.clean at e
 split at e
 . rename_i D' em
   have h1 := (Lit.move h em).2
   split at e
   . have := (Option.some.inj e).symm
     subst this
     exact h1.era
   . cases e
 . rename_i x hx
   have := Lit.move h e
   obtain ⟨k, D'⟩ := r
   cases k with
   | true => exact absurd e (hx D')
   | false => exact absurd this.1 Bool.false_ne_true
theorem Lit.begin {D : DS} {r : Bool × DS} (h : Lit D.G) (e : D.begin = some r) : r.1 = true /\ Lit r.2.G := by
 unfold DS.begin at e
 split at e
 . have := (Option.some.inj e).symm
   subst this
   exact ⟨rfl, h⟩
 . exact Lit.clean (D := { D with h := nx D.G.nb D.h, f := 0 }) h e
theorem Lit.write {s : Nat} {c : Int} : ∀ {n : Nat} {D : DS} {r : Bool × DS}, Lit D.G -> DS.write n D s c = some r -> r.1 = true /\ Lit r.2.G
 | 0, D, r, h, e => by cases e
 | n + 1, D, r, h, e => by
   unfold DS.write at e
   split at e
   . split at e
     . rename_i eb
       exact Lit.write (h.begin eb).2 e
     . rename_i x hx
       have := h.begin e
       obtain ⟨k, D'⟩ := r
       cases k with
       | true => exact absurd e (hx D')
       | false => exact absurd this.1 Bool.false_ne_true
   . exact h.dput e
theorem Lit.mend {G : GS} {N : Nat} (h : Lit G) : (G.mend N).1 = true /\ Lit (G.mend N).2 := by
 unfold GS.mend
 split
 . exact ⟨rfl, h⟩
 . exact h.era
structure SameG (G G' : GS) : Prop where
 nb : G'.nb = G.nb
 np : G'.np = G.np
 pg : G'.pg = G.pg
 many : G'.many = G.many
theorem SameG.w {G G' : GS} (h : SameG G G') {b i s : Nat} {c n : Int} : G'.W b i s c n ↔ G.W b i s c n := by unfold GS.W; rw [h.nb, h.np, h.pg]
theorem SameG.er {G G' : GS} (h : SameG G G') {b : Nat} : G'.Er b ↔ G.Er b := by unfold GS.Er; rw [h.np, h.pg]
theorem SameG.wh {G G' : GS} (h : SameG G G') {b : Nat} : G'.Wh b ↔ G.Wh b := by unfold GS.Wh; rw [h.np, h.pg]
theorem SameG.base {G G' : GS} (h : SameG G G') {many : Nat} (B : Base G many) : Base G' many :=
 ⟨by rw [h.nb]; exact B.b4, by rw [h.np]; exact B.p2, B.m1, by rw [h.nb, h.np]; exact B.ms, fun w => by rw [h.many]; exact B.num (h.w.mp w), fun w w' => B.dis (h.w.mp w) (h.w.mp w'), fun hb hij hj e => by
   rw [h.nb] at hb
   rw [h.np] at hj
   rw [h.pg] at e ⊢
   exact B.gap hb hij hj e⟩
theorem SameG.ord {G G' : GS} (h : SameG G G') {hd : Nat} (O : Ord G hd) : Ord G' hd := ⟨fun w w' l => by rw [h.nb] at l; exact O.lt (h.w.mp w) (h.w.mp w') l⟩
theorem SameG.good {G G' : GS} (h : SameG G G') {many hd : Nat} (g : Good G many hd) : Good G' many hd :=
 ⟨h.base g.base, by rw [h.nb]; exact g.hh, h.ord g.ord, by rw [h.nb, h.er]; exact g.er1, fun hb nb ne => by
   rw [h.nb] at hb ⊢
   rw [h.er] at ne ⊢
   exact g.run hb nb ne⟩
theorem SameG.mid {G G' : GS} (h : SameG G G') {many hd : Nat} (g : Mid G many hd) : Mid G' many hd :=
 ⟨h.base g.base, by rw [h.nb]; exact g.hh, h.ord g.ord, fun hb => by rw [h.nb] at hb; rw [h.er]; exact g.non hb, fun w hw => by
   rw [h.nb, h.wh] at hw
   obtain ⟨b', i', n', nb, w', q⟩ := g.cop (h.w.mp w) hw
   exact ⟨b', i', n', nb, h.w.mpr w', fun nb2 w2 => q nb2 (h.w.mp w2)⟩⟩
theorem SameG.ok {G G' : GS} (h : SameG G G') {many : Nat} (o : Ok G many) : Ok G' many := by
 obtain ⟨hd, g | g⟩ := o
 . exact ⟨hd, .inl (h.good g)⟩
 . exact ⟨hd, .inr (h.mid g)⟩
theorem SameG.val {G G' : GS} (h : SameG G G') {s : Nat} {v : Int} (V : Val G s v) : Val G' s v := by
 rcases V with ⟨q, rfl⟩ | ⟨b, i, n, w, q⟩
 . exact .inl ⟨fun b i c n w => q _ _ _ _ (h.w.mp w), rfl⟩
 . exact .inr ⟨b, i, n, h.w.mpr w, fun w' => q (h.w.mp w')⟩
theorem SameG.pl {G G' : GS} (h : SameG G G') {many : Nat} {pl : Nat -> Option (Nat × Nat)} (P : G.Pl many pl) : G'.Pl many pl :=
 pl_mk (fun s hs e b i c n w => xKk P hs e _ _ _ _ (h.w.mp w)) fun s b i hs e => by
   obtain ⟨c, n, w, q⟩ := yJj P hs e
   exact ⟨c, n, h.w.mpr w, fun w' => q (h.w.mp w')⟩
theorem SameG.wi {D : DS} {G' : GS} (h : SameG D.G G') (I : WI D) : WI { D with G := G' } :=
 ⟨h.base I.base, by show D.h < G'.nb; rw [h.nb]; exact I.hh, h.ord I.ord, h.pl I.pl, ⟨by show D.f <= G'.np; rw [h.np]; exact I.fl.f1, fun i hi => by show G'.pg D.h i ≠ .er; rw [h.pg]; exact I.fl.fa i hi, fun i h1 h2 => by
     have h2' : i < G'.np := h2
     rw [h.np] at h2'
     show G'.pg D.h i = .er
     rw [h.pg]
     exact I.fl.fb i h1 h2'⟩, by show G'.Er (nx G'.nb D.h); rw [h.nb, h.er]; exact I.er1, fun {b} hb n1 n2 n3 => by
     have hb' : b < G'.nb := hb
     have n2' : nx G'.nb b ≠ D.h := n2
     have n3' : ¬ G'.Er b := n3
     show ¬ G'.Er (nx G'.nb b)
     rw [h.nb] at hb' n2' ⊢
     rw [h.er] at n3' ⊢
     exact I.run hb' n1 n2' n3'⟩
theorem fresh_good {G : GS} {many : Nat} (b4 : 4 <= G.nb) (p2 : 2 <= G.np) (m1 : 1 <= many) (ms : many <= (G.nb - 2) * G.np) (h : ∀ b i, G.pg b i = .er) : Good G many 0 /\ ∀ s, Val G s 0 := by
 have no : ∀ {b i s c n}, ¬ G.W b i s c n := fun {b i s c n} w => by
   have := w.2.2
   rw [h] at this
   cases this
 refine ⟨⟨⟨b4, p2, m1, ms, fun w => absurd w no, fun w => absurd w no, fun _ _ _ _ => h _ _⟩, by omega, ⟨fun w => absurd w no⟩, fun i _ => h _ i, fun _ _ ne => absurd (fun i _ => h _ i) ne⟩, fun s => .inl ⟨fun b i c n => no, rfl⟩⟩
end Ev
namespace Ev
structure Inc (G : GS) : Prop where
 up : ∀ {b i j s c n s' c' n'}, G.W b i s c n -> G.W b j s' c' n' -> i < j -> n < n'
 num : ∀ {b i s c n}, G.W b i s c n -> n < G.many
theorem Inc.torn {G G' : GS} {b i : Nat} (h : Inc G) (p : PutW G G' b i .torn) (e : G.pg b i = .er) : Inc G' :=
 ⟨fun w w' l => h.up ((p.torn e).mp w) ((p.torn e).mp w') l, fun w => by have := h.num ((p.torn e).mp w); have := p.many; omega⟩
theorem Inc.put {G G' : GS} {b i s : Nat} {c : Int} (h : Inc G) (p : PutW G G' b i (.wh s c G.many)) (cl : G.Clear b i) (hb : b < G.nb) (hi : i < G.np) : Inc G' := by
 have e : G.pg b i = .er := cl i (Nat.le_refl _) hi
 have many := p.many
 refine ⟨fun {b1 i1 j1 s1 c1 n1 s2 c2 n2} w w' l => ?_, fun w => ?_⟩
 . rcases (p.whole e hb hi).mp w with w | ⟨z1, z2, z3, z4, z5⟩ <;> rcases (p.whole e hb hi).mp w' with w' | ⟨y1, y2, y3, y4, y5⟩
   . exact h.up w w' l
   . have := h.num w; omega
   . exfalso
     have := cl j1 (by omega) w'.2.1
     rw [<- z1, w'.2.2] at this
     cases this
   . omega
 . rcases (p.whole e hb hi).mp w with w | ⟨_, _, _, _, z⟩
   . have := h.num w; omega
   . omega
theorem Inc.era {G G' : GS} {b : Nat} {g : Pg} (h : Inc G) (p : EraW G G' b g) (hg : ∀ s c n, g ≠ .wh s c n) : Inc G' :=
 ⟨fun w w' l => h.up ((p.whole hg).mp w).2 ((p.whole hg).mp w').2 l, fun w => by have := h.num ((p.whole hg).mp w).2; have := p.many; omega⟩
theorem Inc.gera {G : GS} {b : Nat} (h : Inc G) : Inc (G.era b).2 := by
 cases q : (G.era b).1 with
 | true => exact h.era (wWw q) new_
 | false =>
   rcases wWx q with z | z
   . rw [z]; exact h
   . exact h.era z ntw
theorem Inc.dput {D : DS} {s : Nat} {c : Int} {r : Bool × DS} (h : Inc D.G) (e : D.put s c = some r) : Inc r.2.G := by
 obtain ⟨⟨hh, hf, cl, _⟩, ⟨_, pw, _⟩ | ⟨_, _, q | pw⟩⟩ := put_is e
 . exact h.put pw cl hh hf
 . rw [q]; exact h
 . exact h.torn pw (cl _ (Nat.le_refl _) hf)
theorem Inc.move {b : Nat} : ∀ {n : Nat} {D : DS} {r : Bool × DS}, Inc D.G -> DS.move b n D = some r -> Inc r.2.G
 | 0, D, r, h, e => by
   unfold DS.move at e
   cases e
   exact h
 | n + 1, D, r, h, e => by
   unfold DS.move at e
   split at e
   . split at e
     . split at e
       . rename_i D' e'
         exact Inc.move (h.dput e') e
       . exact h.dput e
     . cases e
   . exact Inc.move h e
theorem Inc.clean {b : Nat} {D : DS} {r : Bool × DS} (h : Inc D.G) (e : D.clean b = some r) : Inc r.2.G := by
 unfold DS.clean at e
 split at e
 . rename_i D' e'
   split at e
   . cases e
     exact (h.move e').gera
   . cases e
 . exact h.move e
theorem Inc.begin {D : DS} {r : Bool × DS} (h : Inc D.G) (e : D.begin = some r) : Inc r.2.G := by
 unfold DS.begin at e
 split at e
 . cases e; exact h
 . exact Inc.clean (D := { D with h := nx D.G.nb D.h, f := 0 }) h e
theorem Inc.write {s : Nat} {c : Int} : ∀ {n : Nat} {D : DS} {r : Bool × DS}, Inc D.G -> DS.write n D s c = some r -> Inc r.2.G
 | 0, D, r, h, e => by unfold DS.write at e; cases e
 | n + 1, D, r, h, e => by
   unfold DS.write at e
   split at e
   . split at e
     . rename_i D' e'
       exact Inc.write (h.begin e') e
     . exact h.begin e
   . exact h.dput e
theorem Inc.mend {G : GS} {N : Nat} (h : Inc G) : Inc (G.mend N).2 := by
 unfold GS.mend
 split
 . exact h
 . exact h.gera
theorem Inc.fresh {G : GS} (h : ∀ b i, G.pg b i = .er) : Inc G := by
 have no : ∀ {b i s c n}, ¬ G.W b i s c n := fun {b i s c n} w => by
   have := w.2.2
   rw [h] at this
   cases this
 exact ⟨fun w => absurd w no, fun w => absurd w no⟩
def Lx (t u : Int × Nat × Nat) : Prop := t.2.1 < u.2.1 \/ (t.2.1 = u.2.1 /\ t.2.2 < u.2.2)
theorem wp_at {G : GS} {b j : Nat} {t : Int × Nat × Nat} (m : t ∈ G.wp b j) : t.2 = (b, j) := (wQx.mp m).choose_spec.choose_spec.2
theorem wr_at {G : GS} {b i : Nat} {t : Int × Nat × Nat} (m : t ∈ G.wr b i) : t.2.1 = b /\ t.2.2 < i := by
 unfold GS.wr at m
 obtain ⟨j, mj, m⟩ := List.mem_flatMap.mp m
 have := wp_at m
 rw [this]
 exact ⟨rfl, List.mem_range.mp mj⟩
theorem wr_lx {G : GS} {b : Nat} : ∀ i, (G.wr b i).Pairwise Lx
 | 0 => by unfold GS.wr; simp
 | i + 1 => by
   rw [wr_succ]
   refine List.pairwise_append.mpr ⟨wr_lx i, ?_, fun t mt u mu => ?_⟩
   . unfold GS.wp
     split <;> simp
   . have a := wr_at mt
     have c := wp_at mu
     unfold Lx
     rw [c]
     exact .inr ⟨a.1, a.2⟩
theorem wb_at {G : GS} {b : Nat} {t : Int × Nat × Nat} (m : t ∈ G.wb b) : t.2.1 < b := by
 unfold GS.wb at m
 obtain ⟨c, mc, m⟩ := List.mem_flatMap.mp m
 have := (wr_at m).1
 have := List.mem_range.mp mc
 omega
theorem wb_lx {G : GS} : ∀ b, (G.wb b).Pairwise Lx
 | 0 => by unfold GS.wb; simp
 | b + 1 => by
   rw [wb_succ]
   exact List.pairwise_append.mpr ⟨wb_lx b, wr_lx _, fun t mt u mu => .inl (by have := wb_at mt; have := (wr_at mu).1; omega)⟩
theorem split_at (h : Nat) : ∀ l : List (Int × Nat × Nat), l.Pairwise Lx -> l = (l.filter fun t => decide (t.2.1 <= h)) ++ l.filter fun t => !decide (t.2.1 <= h)
 | [], _ => rfl
 | t :: l, p => by
   obtain ⟨p1, p2⟩ := List.pairwise_cons.mp p
   have ih := split_at h l p2
   by_cases c : t.2.1 <= h
   . rw [List.filter_cons_of_pos (by simpa using c), List.filter_cons_of_neg (by simpa using c), List.cons_append, <- ih]
   . have none : (l.filter fun t => decide (t.2.1 <= h)) = [] := List.filter_eq_nil_iff.mpr fun u mu z => by
       have z : u.2.1 <= h := by simpa using z
       rcases p1 u mu with y | y <;> omega
     rw [List.filter_cons_of_neg (by simpa using c), List.filter_cons_of_pos (by simpa using c), none, List.nil_append]
     have : l = l.filter fun t => !decide (t.2.1 <= h) := by rw [none, List.nil_append] at ih; exact ih
     rw [<- this]
theorem two_of {G : GS} {h : Nat} (O : Ord G h) (hh : h < G.nb) (I : Inc G) : TwoL (G.wl.map (·.1)) := by
 have lx := wb_lx (G := G) G.nb
 have e := split_at h G.wl lx
 have W : ∀ t ∈ G.wl, ∃ s c, G.W t.2.1 t.2.2 s c t.1 := fun t m => by
   obtain ⟨a1, a2, s, c, e⟩ := yKk.mp m
   exact ⟨s, c, a1, a2, e⟩
 refine ⟨(G.wl.filter fun t => decide (t.2.1 <= h)).map (·.1), (G.wl.filter fun t => !decide (t.2.1 <= h)).map (·.1), by rw [<- List.map_append, <- e], ?_, ?_, fun x mx y my => ?_⟩
 . rw [List.pairwise_map]
   refine (lx.filter _).imp_of_mem fun {t u} mt mu l => ?_
   obtain ⟨m1, c1⟩ := List.mem_filter.mp mt
   obtain ⟨m2, c2⟩ := List.mem_filter.mp mu
   have c1 : t.2.1 <= h := by simpa using c1
   have c2 : u.2.1 <= h := by simpa using c2
   obtain ⟨s, c, w⟩ := W t m1
   obtain ⟨s', c', w'⟩ := W u m2
   rcases l with l | ⟨l1, l2⟩
   . exact O.lt w w' (by have := yWz G.nb h t.2.1; have := yWz G.nb h u.2.1; omega)
   . rw [l1] at w
     exact I.up w w' l2
 . rw [List.pairwise_map]
   refine (lx.filter _).imp_of_mem fun {t u} mt mu l => ?_
   obtain ⟨m1, c1⟩ := List.mem_filter.mp mt
   obtain ⟨m2, c2⟩ := List.mem_filter.mp mu
   have c1 : ¬ t.2.1 <= h := by simpa using c1
   have c2 : ¬ u.2.1 <= h := by simpa using c2
   obtain ⟨s, c, w⟩ := W t m1
   obtain ⟨s', c', w'⟩ := W u m2
   rcases l with l | ⟨l1, l2⟩
   . exact O.lt w w' (by have := yWz G.nb h t.2.1; have := yWz G.nb h u.2.1; omega)
   . rw [l1] at w
     exact I.up w w' l2
 . obtain ⟨t, mt, rfl⟩ := List.mem_map.mp mx
   obtain ⟨u, mu, rfl⟩ := List.mem_map.mp my
   obtain ⟨m1, c1⟩ := List.mem_filter.mp mt
   obtain ⟨m2, c2⟩ := List.mem_filter.mp mu
   have c1 : t.2.1 <= h := by simpa using c1
   have c2 : ¬ u.2.1 <= h := by simpa using c2
   obtain ⟨s, c, w⟩ := W t m1
   obtain ⟨s', c', w'⟩ := W u m2
   exact O.lt w' w (by have := yWz G.nb h t.2.1; have := yWz G.nb h u.2.1; have := w'.1; have := w.1; omega)
theorem wl_len {G : GS} : G.wl.length <= G.nb * G.np := by
 have l1 : ∀ b i, (G.wr b i).length <= i := fun b i => by
   induction i with
   | zero => unfold GS.wr; simp
   | succ i ih =>
     rw [wr_succ, List.length_append]
     have : (G.wp b i).length <= 1 := by unfold GS.wp; split <;> simp
     omega
 have l2 : ∀ b, (G.wb b).length <= b * G.np := fun b => by
   induction b with
   | zero => unfold GS.wb; simp
   | succ b ih =>
     rw [wb_succ, List.length_append, Nat.succ_mul]
     have := l1 b G.np
     omega
 exact l2 G.nb
theorem few_of {G : GS} {many : Nat} (o : Ok G many) (I : Inc G) (hl : G.nb * G.np <= 1000) : G.Few /\ ∀ N, G.Newest N -> (G.mend N).2.Few := by
 have key : ∀ {G : GS}, Ok G many -> Inc G -> G.nb * G.np <= 1000 -> G.Few := fun {G} o I hl => by
   refine ⟨?_, Nat.le_trans wl_len hl⟩
   obtain ⟨h, g | g⟩ := o
   . exact two_of g.ord g.hh I
   . exact two_of g.ord g.hh I
 refine ⟨key o I hl, fun N hN => ?_⟩
 obtain ⟨e1, e2, _, _, o2⟩ := Ok.mend o hN
 exact key o2 I.mend (by rw [e1, e2]; exact hl)
end Ev
namespace Ev
open PySem L2
def top (i : Nat) : Stmt := PySem.Challenge.pw_evenwear_k11_refused_at_the_disk.main.body.getD i (.Pass ⟨0, 0, 0, 0⟩)
abbrev sInit : Stmt := inClass (top 28) 0
abbrev sSize : Stmt := inClass (top 28) 1
abbrev sPage : Stmt := inClass (top 28) 2
abbrev sWorn : Stmt := inClass (top 28) 3
abbrev sWritten : Stmt := inClass (top 28) 4
abbrev sPower : Stmt := inClass (top 28) 5
abbrev sWrite : Stmt := inClass (top 28) 6
abbrev sErase : Stmt := inClass (top 28) 7
abbrev sCB : Stmt := inClass (top 28) 8
abbrev sCP : Stmt := inClass (top 28) 9
abbrev sCE : Stmt := inClass (top 28) 10
abbrev sDraw : Stmt := inClass (top 28) 11
structure CS where
 nb : Nat
 np : Nat
 rows : List (List V)
 worn : List Int
 many : Int
 left : Option Int
 dark : Bool
def leftV : Option Int -> V
 | none => .non
 | some k => .int k
def torn : V := .str "torn"
def chipF (S : CS) (hl el : Addr) : List (Str × V) := [("blocks", .int S.nb), ("pages", .int S.np), ("held", .ref hl), ("erasures", .ref el), ("writes", .int S.many), ("left", leftV S.left), ("dark", .bl S.dark)]
structure Wf (S : CS) : Prop where
 b1 : 4 <= S.nb
 b2 : S.nb <= 32
 p1 : 2 <= S.np
 p2 : S.np <= 16
 rl : S.rows.length = S.nb
 rp : ∀ r ∈ S.rows, r.length = S.np /\ r.all plainV = true
 wl : S.worn.length = S.nb
 lf : ∀ k, S.left = some k -> 0 <= k
structure RowsAt (H : Hp) (rl : List Addr) (rows : List (List V)) : Prop where
 ln : rl.length = rows.length
 at_ : ∀ (i : Nat) (a : Addr), rl[i]? = some a -> ∃ r, rows[i]? = some r /\ H a = some (.lst r)
theorem RowsAt.row {H : Hp} {rl : List Addr} {rows : List (List V)} (R : RowsAt H rl rows) {i : Nat} {r : List V} (e : rows[i]? = some r) : ∃ a, rl[i]? = some a /\ H a = some (.lst r) := by
 have hi : i < rl.length := by rw [R.ln]; exact (List.getElem?_eq_some_iff.mp e).1
 obtain ⟨r', e', h⟩ := R.at_ i rl[i] (by simp [hi])
 rw [e] at e'
 cases e'
 exact ⟨rl[i], by simp [hi], h⟩
theorem RowsAt.keep {H H' : Hp} {rl : List Addr} {rows : List (List V)} (R : RowsAt H rl rows) (k : ∀ b ∈ rl, ∀ o, H b = some o -> H' b = some o) : RowsAt H' rl rows :=
 ⟨R.ln, fun i a e => let ⟨r, e', h⟩ := R.at_ i a e; ⟨r, e', k a (List.mem_of_getElem? e) _ h⟩⟩
theorem RowsAt.put {H : Hp} {rl : List Addr} {rows : List (List V)} (R : RowsAt H rl rows) (nd : rl.Nodup) {i : Nat} {a : Addr} (e : rl[i]? = some a) (r : List V) : RowsAt (upd H a (.lst r)) rl (rows.set i r) := by
 refine ⟨by rw [List.length_set]; exact R.ln, fun j b ej => ?_⟩
 have hi : i < rows.length := by rw [<- R.ln]; exact (List.getElem?_eq_some_iff.mp e).1
 by_cases z : j = i
 . subst z
   rw [e] at ej
   cases ej
   exact ⟨r, List.getElem?_set_self hi, zQz⟩
 . have nb : b ≠ a := fun q => z (nodup_at nd ej (q ▸ e))
   obtain ⟨r', e', h⟩ := R.at_ j b ej
   exact ⟨r', by rw [List.getElem?_set_ne (Ne.symm z)]; exact e', by rw [zQv nb]; exact h⟩
where
 nodup_at {l : List Addr} (hn : l.Nodup) {i j : Nat} {x : Addr} (a : l[i]? = some x) (b : l[j]? = some x) : i = j := by
   obtain ⟨h1, e1⟩ := List.getElem?_eq_some_iff.mp a
   obtain ⟨h2, e2⟩ := List.getElem?_eq_some_iff.mp b
   exact (List.getElem_inj hn).mp (e1.trans e2.symm)
theorem RowsAt.swap {H : Hp} {rl : List Addr} {rows : List (List V)} (R : RowsAt H rl rows) {i : Nat} (hi : i < rl.length) {a : Addr} {r : List V} (h : H a = some (.lst r)) : RowsAt H (rl.set i a) (rows.set i r) := by
 refine ⟨by rw [List.length_set, List.length_set]; exact R.ln, fun j b ej => ?_⟩
 by_cases z : j = i
 . subst z
   rw [List.getElem?_set_self hi] at ej
   cases ej
   exact ⟨r, List.getElem?_set_self (by rw [<- R.ln]; exact hi), h⟩
 . rw [List.getElem?_set_ne (Ne.symm z)] at ej
   obtain ⟨r', e', h'⟩ := R.at_ j b ej
   exact ⟨r', by rw [List.getElem?_set_ne (Ne.symm z)]; exact e', h'⟩
structure ChipAt (C : Addr) (H : Hp) (p : Addr) (S : CS) (hl el : Addr) (rl : List Addr) : Prop where
 ob : ∃ dx, H p = some (.ins C dx (chipF S hl el))
 hd : H hl = some (.lst (rl.map V.ref))
 er : H el = some (.lst (S.worn.map V.int))
 rw : RowsAt H rl S.rows
 nd : (hl :: el :: rl).Nodup
 wf : Wf S
abbrev fpC (p hl el : Addr) (rl : List Addr) : List Addr := p :: hl :: el :: rl
theorem ChipAt.keep {C : Addr} {H H' : Hp} {p : Addr} {S : CS} {hl el : Addr} {rl : List Addr} (A : ChipAt C H p S hl el rl) (k : ∀ b ∈ fpC p hl el rl, ∀ o, H b = some o -> H' b = some o) : ChipAt C H' p S hl el rl := by
 obtain ⟨dx, e⟩ := A.ob
 exact ⟨⟨dx, k p (by simp) _ e⟩, k hl (by simp) _ A.hd, k el (by simp) _ A.er, A.rw.keep fun b m => k b (by simp [m]), A.nd, A.wf⟩
theorem ChipAt.same {C : Addr} {H H' : Hp} {p : Addr} {S : CS} {hl el : Addr} {rl : List Addr} (A : ChipAt C H p S hl el rl) (k : Same H H') : ChipAt C H' p S hl el rl := A.keep fun b _ o e => k b o e
section
variable {C : Addr} {H : Hp} {p : Addr} {S : CS} {hl el : Addr} {rl : List Addr} (A : ChipAt C H p S hl el rl)
include A
theorem ChipAt.tr {b : Addr} (m : b ∈ fpC p hl el rl) : ∃ o, H b = some o := by
 rcases List.mem_cons.mp m with z | m
 . subst z; obtain ⟨dx, e⟩ := A.ob; exact ⟨_, e⟩
 rcases List.mem_cons.mp m with z | m
 . subst z; exact ⟨_, A.hd⟩
 rcases List.mem_cons.mp m with z | m
 . subst z; exact ⟨_, A.er⟩
 obtain ⟨i, hi, e⟩ := List.mem_iff_getElem.mp m
 obtain ⟨r, _, h⟩ := A.rw.at_ i b (by rw [<- e]; simp [hi])
 exact ⟨_, h⟩
theorem ChipAt.np_ {b : Addr} (m : b ∈ hl :: el :: rl) : b ≠ p := by
 obtain ⟨dx, e⟩ := A.ob
 rcases List.mem_cons.mp m with z | m
 . subst z; exact xQk A.hd e (by intro z; cases z)
 rcases List.mem_cons.mp m with z | m
 . subst z; exact xQk A.er e (by intro z; cases z)
 obtain ⟨i, hi, e'⟩ := List.mem_iff_getElem.mp m
 obtain ⟨r, _, h⟩ := A.rw.at_ i b (by rw [<- e']; simp [hi])
 exact xQk h e (by intro z; cases z)
end
structure Did (H H' : Hp) (fp fp' : List Addr) : Prop where
 keep : SameBut fp H H'
 new : ∀ b ∈ fp', b ∈ fp \/ H b = none
theorem Did.refl {H : Hp} {fp : List Addr} : Did H H fp fp := ⟨SameBut.refl _ _, fun _ m => .inl m⟩
theorem Did.same {H H' : Hp} {fp : List Addr} (h : Same H H') : Did H H' fp fp := ⟨SameBut.of h, fun _ m => .inl m⟩
inductive Ref where
 | bs | np | ne | cut
 deriving DecidableEq
def CS.okB (S : CS) (b : Int) : Prop := 0 <= b /\ b < S.nb
def CS.okP (S : CS) (b g : Int) : Prop := S.okB b /\ 0 <= g /\ g < S.np
instance (S : CS) (b : Int) : Decidable (S.okB b) := by unfold CS.okB; infer_instance
instance (S : CS) (b g : Int) : Decidable (S.okP b g) := by unfold CS.okP; infer_instance
def CS.row (S : CS) (b : Int) : List V := S.rows.getD b.toNat []
def CS.draw (S : CS) : Option (Bool × CS) :=
 if S.dark then none
 else match S.left with
   | none => some (true, S)
   | some k => if k <= 0 then some (false, { S with dark := true }) else some (true, { S with left := some (k - 1) })
def CS.clear (S : CS) (b g : Int) : Bool := ((S.row b).drop g.toNat).all fun v => decide (v = .non)
def CS.write (S : CS) (b g : Int) (t : V) : Option Ref × CS :=
 if ¬ S.okP b g then (some .np, S)
 else if S.clear b g = false then (some .ne, S)
 else match S.draw with
   | none => (some .cut, S)
   | some (l, S1) => (if l then none else some .cut, { S1 with many := S1.many + 1, rows := S1.rows.set b.toNat ((S1.row b).set g.toNat (if l then t else torn)) })
def CS.erase (S : CS) (b : Int) : Option Ref × CS :=
 if ¬ S.okB b then (some .np, S)
 else match S.draw with
   | none => (some .cut, S)
   | some (l, S1) => (if l then none else some .cut, { S1 with worn := S1.worn.set b.toNat (S1.worn.getD b.toNat 0 + 1), rows := S1.rows.set b.toNat (List.replicate S1.np (if l then V.non else torn)) })
structure Txt (K : PySem.W.Frag) (mg : Str -> Option Value) (C cBS cNP cNE cNS cBC cCu cWE : Addr) : Prop where
 cl : Cls K C
 aB : NoAttr K C "blocks"
 aP : NoAttr K C "pages"
 aH : NoAttr K C "held"
 aE : NoAttr K C "erasures"
 aW : NoAttr K C "writes"
 aL : NoAttr K C "left"
 aD : NoAttr K C "dark"
 g_Chip : mg "Chip" = some (.ref C)
 g_BadSize : mg "BadSize" = some (.ref cBS)
 g_NoPage : mg "NoPage" = some (.ref cNP)
 g_NotErased : mg "NotErased" = some (.ref cNE)
 g_NoSector : mg "NoSector" = some (.ref cNS)
 g_BadContent : mg "BadContent" = some (.ref cBC)
 g_Cut : mg "Cut" = some (.ref cCu)
 g_WearError : mg "WearError" = some (.ref cWE)
 x_BadSize : XCls K cBS
 x_NoPage : XCls K cNP
 x_NotErased : XCls K cNE
 x_Cut : XCls K cCu
 g_LB : ∃ u, mg "LEAST_BLOCKS" = some u /\ RelV (.int 4) u
 g_MB : ∃ u, mg "MOST_BLOCKS" = some u /\ RelV (.int 32) u
 g_LP : ∃ u, mg "LEAST_PAGES" = some u /\ RelV (.int 2) u
 g_MP : ∃ u, mg "MOST_PAGES" = some u /\ RelV (.int 16) u
 g_TO : ∃ u, mg "TORN" = some u /\ RelV (.str "torn") u
 n_len : mg "len" = none
 n_range : mg "range" = none
 n_int : mg "int" = none
 n_list : mg "list" = none
 n_sum : mg "sum" = none
 n_max : mg "max" = none
 n_min : mg "min" = none
 n_isinstance : mg "isinstance" = none
 n_ValueError : mg "ValueError" = none
theorem pe_gl {X : Cx} {x : Str} {v : V} {pos : Pos} (hg : Gl X x) (h : ∃ u, X.mg x = some u /\ RelV v u) (hd : (x == ("__debug__" : Str)) = false := by decide) : PE X (.Name x pos) (tC v) := by
 obtain ⟨u, a, b⟩ := h
 exact yKz hg a b hd
section
variable {P : Program} {w : World} {K : PySem.W.Frag} {mg : Str -> Option Value} {base : Heap} {C cBS cNP cNE cNS cBC cCu cWE : Addr}
def spCB (C cNP : Addr) : Sp := fun vs H Q E => ∃ (p : Addr) (b : Int) (S : CS) (hl el : Addr) (rl : List Addr), vs = [.ref p, .int b] /\ ChipAt C H p S hl el rl /\ if S.okB b then Q .non H else ∀ x, E (.ref cNP) (some x) H
theorem scCB : FnScope ["self", "block"] ["self", "block"] (defScope sCB) := ⟨rfl, rfl, rfl, by decide +kernel, rfl, by decide +kernel, by decide +kernel⟩
theorem wWk {f : Addr} {fd : FuncData} (F : Fun K "check_block" "Chip.check_block" sCB f fd) (T : Txt K mg C cBS cNP cNE cNS cBC cCu cWE) : FnOk P w K mg base (CXw P w) 51 f fd ["self", "block"] (spCB C cNP) := by
 refine F.okX (by decide) scCB (fun vs H Q E h => ?_) (fun cdv A outer s H vs Q E hr h => ?_)
 . obtain ⟨p, b, S, hl, el, rl, rfl, _⟩ := h
   rfl
 . obtain ⟨p, b, S, hl, el, rl, rfl, A1, h⟩ := h
   obtain ⟨dx, h1⟩ := A1.ob
   refine ⟨_, (@zWq _ _ _ (@yQz _ _ _ _ _ _ _ _ (@yJq _ _ _ _ (@yJz _ _ _ _ _ _ _ _ _ _ _ _ (@xJz _) (@op_lt _) zWx (pv 1) (@zZq _ _ _ _ _ (pv 0) rfl) (by with_unfolding_all rfl))) (@zWq _ _ _ (@yQx _ _ _ _ _ _ _ _ _ _ yQw T.x_NoPage rfl rfl T.g_NoPage (@zQw _ _ _ _ _ (@zKw _ _ _ _) zQk (by exact zQq rfl)) (by decide) (by exact zQq rfl) (by exact zQx rfl))) (@zZw _))), ?_⟩
   refine ⟨_, rfl, _, _, rfl, rfl, _, rfl, ite2 (fun h0 => ?_) fun h0 => ?_⟩
   . refine ⟨_, rfl, p, C, dx, _, _, rfl, h1, T.cl, T.aB, rfl, _, _, rfl, rfl, _, rfl, ?_⟩
     have h0' : 0 <= b := by simpa using h0
     by_cases hb : b < S.nb
     . rw [decide_eq_true hb]
       rw [if_pos ⟨h0', hb⟩] at h
       exact iteF h
     . rw [decide_eq_false hb]
       rw [if_neg fun z => hb z.2] at h
       exact iteT ⟨by decide, h⟩
   . have h0' : ¬ 0 <= b := by simpa using h0
     rw [if_neg fun z => h0' z.1] at h
     exact ⟨_, rfl, iteT ⟨by decide, h⟩⟩
end
theorem ChipAt.put {C : Addr} {H : Hp} {p dx : Addr} {S S' : CS} {hl el : Addr} {rl : List Addr} (A : ChipAt C H p S hl el rl) (hr : S'.rows = S.rows) (hw : S'.worn = S.worn) (wf : Wf S') : ChipAt C (upd H p (.ins C dx (chipF S' hl el))) p S' hl el rl := by
 have ne : ∀ b ∈ hl :: el :: rl, ∀ o, H b = some o -> upd H p (.ins C dx (chipF S' hl el)) b = some o := fun b m o e => by rw [zQv (A.np_ m)]; exact e
 refine ⟨⟨dx, zQz⟩, ne _ (by simp) _ A.hd, ?_, ?_, A.nd, wf⟩
 . rw [hw]
   exact ne _ (by simp) _ A.er
 . rw [hr]
   exact A.rw.keep fun b m => ne b (by simp [m])
theorem yKq {α : Type} {xs : List α} {i : Int} {v : α} (h0 : 0 <= i) (h : xs[i.toNat]? = some v) : atI xs i = some v := by
 obtain ⟨n, rfl⟩ := Int.eq_ofNat_of_zero_le h0
 exact atI_nat h
theorem ixN_of {n : Nat} {i : Int} (h0 : 0 <= i) (h : i < n) : ixN n i = some i.toNat := by
 unfold ixN
 rw [if_pos h0, if_pos h]
theorem Wf.row {S : CS} (W : Wf S) {b : Int} (h : S.okB b) : S.rows[b.toNat]? = some (S.row b) /\ (S.row b).length = S.np /\ (S.row b).all plainV = true := by
 have hb : b.toNat < S.rows.length := by
   rw [W.rl]
   have := h.1
   have := h.2
   omega
 have e : S.rows[b.toNat]? = some (S.row b) := by
   unfold CS.row
   rw [List.getD_eq_getElem?_getD, List.getElem?_eq_getElem hb]
   rfl
 exact ⟨e, W.rp _ (List.mem_of_getElem? e)⟩
section
variable {P : Program} {w : World} {K : PySem.W.Frag} {mg : Str -> Option Value} {base : Heap} {C cBS cNP cNE cNS cBC cCu cWE : Addr}
def spCP (C cNP : Addr) : Sp := fun vs H Q E => ∃ (p : Addr) (b g : Int) (S : CS) (hl el : Addr) (rl : List Addr), vs = [.ref p, .int b, .int g] /\ ChipAt C H p S hl el rl /\ if S.okP b g then Q .non H else ∀ x, E (.ref cNP) (some x) H
theorem scCP : FnScope ["self", "block", "page"] ["self", "block", "page"] (defScope sCP) := ⟨rfl, rfl, rfl, by decide +kernel, rfl, by decide +kernel, by decide +kernel⟩
theorem ok_check_page {f : Addr} {fd : FuncData} (F : Fun K "check_page" "Chip.check_page" sCP f fd) (T : Txt K mg C cBS cNP cNE cNS cBC cCu cWE)
   (M_check_block : MtB P w K mg base C 51 "check_block" ["self", "block"] (spCB C cNP)) : FnOk P w K mg base (CXw P w) 52 f fd ["self", "block", "page"] (spCP C cNP) := by
 refine F.okX (by decide) scCP (fun vs H Q E h => ?_) (fun cdv A outer s H vs Q E hr h => ?_)
 . obtain ⟨p, b, g, S, hl, el, rl, rfl, _⟩ := h
   rfl
 . obtain ⟨p, b, g, S, hl, el, rl, rfl, A1, h⟩ := h
   obtain ⟨dx, h1⟩ := A1.ob
   refine ⟨_, (@zQj _ _ _ _ _ (@zJv _ _ _ _ (@zWj _ _ _ _ _ _ _ _ _ _ _ _ _ _ _ T.cl M_check_block (hr.mono (by decide)) zWz (pv 0) (@zQw _ _ _ _ _ (pv 1) zQk (by exact zQq rfl)) (by exact zQq rfl) (by exact zQx rfl) (by rfl)) (by rfl)) (@zWq _ _ _ (@yQz _ _ _ _ _ _ _ _ (@yJq _ _ _ _ (@yJz _ _ _ _ _ _ _ _ _ _ _ _ (@xJz _) (@op_lt _) zWx (pv 2) (@zZq _ _ _ _ _ (pv 0) rfl) (by with_unfolding_all rfl))) (@zWq _ _ _ (@yQx _ _ _ _ _ _ _ _ _ _ yQw T.x_NoPage rfl rfl T.g_NoPage (@zQw _ _ _ _ _ (@zKw _ _ _ _) zQk (by exact zQq rfl)) (by decide) (by exact zQq rfl) (by exact zQx rfl))) (@zZw _)))), ?_⟩
   refine ⟨_, rfl, p, dx, _, rfl, h1, rfl, _, rfl, p, b, S, hl, el, rl, rfl, A1, ?_⟩
   by_cases hb : S.okB b
   . rw [if_pos hb]
     refine ⟨_, rfl, _, _, rfl, rfl, _, rfl, ite2 (fun h0 => ?_) fun h0 => ?_⟩
     . refine ⟨_, rfl, p, C, dx, _, _, rfl, h1, T.cl, T.aP, rfl, _, _, rfl, rfl, _, rfl, ?_⟩
       have h0' : 0 <= g := by simpa using h0
       by_cases hg : g < S.np
       . rw [decide_eq_true hg]
         rw [if_pos ⟨hb, h0', hg⟩] at h
         exact iteF h
       . rw [decide_eq_false hg]
         rw [if_neg fun z => hg z.2.2] at h
         exact iteT ⟨by decide, h⟩
     . have h0' : ¬ 0 <= g := by simpa using h0
       rw [if_neg fun z => h0' z.2.1] at h
       exact ⟨_, rfl, iteT ⟨by decide, h⟩⟩
   . rw [if_neg hb]
     rw [if_neg fun z => hb z.1] at h
     exact h
def spSize (C : Addr) : Sp := fun vs H Q _ => ∃ (p : Addr) (S : CS) (hl el : Addr) (rl : List Addr), vs = [.ref p] /\ ChipAt C H p S hl el rl /\ ∀ t, H t = none -> Q (.ref t) (upd H t (.tup [.int S.nb, .int S.np]))
theorem scSz : FnScope ["self"] ["self"] (defScope sSize) := ⟨rfl, rfl, rfl, by decide +kernel, rfl, by decide +kernel, by decide +kernel⟩
theorem ok_size {f : Addr} {fd : FuncData} (F : Fun K "size" "Chip.size" sSize f fd) (T : Txt K mg C cBS cNP cNE cNS cBC cCu cWE) : FnOk P w K mg base (CXw P w) 51 f fd ["self"] (spSize C) := by
 refine F.okX (by decide) scSz (fun vs H Q E h => ?_) (fun cdv A outer s H vs Q E hr h => ?_)
 . obtain ⟨p, S, hl, el, rl, rfl, _⟩ := h
   rfl
 . obtain ⟨p, S, hl, el, rl, rfl, A1, h⟩ := h
   obtain ⟨dx, h1⟩ := A1.ob
   refine ⟨_, (@zWq _ _ _ (@zZz _ _ _ _ (@xJx _ _ _ _ _ (@zQw _ _ _ _ _ (@zZq _ _ _ _ _ (pv 0) rfl) (@zQw _ _ _ _ _ (@zZq _ _ _ _ _ (pv 0) rfl) zQk (by exact zQq rfl)) (by exact zQq rfl))))), ?_⟩
   exact ⟨_, rfl, p, C, dx, _, _, rfl, h1, T.cl, T.aB, rfl, _, rfl, p, C, dx, _, _, rfl, h1, T.cl, T.aP, rfl, by show 2 <= sizeLine; decide, fun t ht => h t ht⟩
def spWritten (C : Addr) : Sp := fun vs H Q _ => ∃ (p : Addr) (S : CS) (hl el : Addr) (rl : List Addr), vs = [.ref p] /\ ChipAt C H p S hl el rl /\ Q (.int S.many) H
theorem scWn : FnScope ["self"] ["self"] (defScope sWritten) := ⟨rfl, rfl, rfl, by decide +kernel, rfl, by decide +kernel, by decide +kernel⟩
theorem ok_written {f : Addr} {fd : FuncData} (F : Fun K "written" "Chip.written" sWritten f fd) (T : Txt K mg C cBS cNP cNE cNS cBC cCu cWE) : FnOk P w K mg base (CXw P w) 51 f fd ["self"] (spWritten C) := by
 refine F.okX (by decide) scWn (fun vs H Q E h => ?_) (fun cdv A outer s H vs Q E hr h => ?_)
 . obtain ⟨p, S, hl, el, rl, rfl, _⟩ := h
   rfl
 . obtain ⟨p, S, hl, el, rl, rfl, A1, h⟩ := h
   obtain ⟨dx, h1⟩ := A1.ob
   exact ⟨_, (@zWq _ _ _ (@zZz _ _ _ _ (@zZq _ _ _ _ _ (pv 0) rfl))), _, rfl, p, C, dx, _, _, rfl, h1, T.cl, T.aW, rfl, h⟩
def spPage (C cNP : Addr) : Sp := fun vs H Q E => ∃ (p : Addr) (b g : Int) (S : CS) (hl el : Addr) (rl : List Addr), vs = [.ref p, .int b, .int g] /\ ChipAt C H p S hl el rl /\ if S.okP b g then Q ((S.row b).getD g.toNat .non) H else ∀ x, E (.ref cNP) (some x) H
theorem scPg : FnScope ["self", "block", "page"] ["self", "block", "page"] (defScope sPage) := ⟨rfl, rfl, rfl, by decide +kernel, rfl, by decide +kernel, by decide +kernel⟩
theorem ok_page {f : Addr} {fd : FuncData} (F : Fun K "page" "Chip.page" sPage f fd) (T : Txt K mg C cBS cNP cNE cNS cBC cCu cWE)
   (M_check_page : MtB P w K mg base C 52 "check_page" ["self", "block", "page"] (spCP C cNP)) : FnOk P w K mg base (CXw P w) 53 f fd ["self", "block", "page"] (spPage C cNP) := by
 refine F.okX (by decide) scPg (fun vs H Q E h => ?_) (fun cdv A outer s H vs Q E hr h => ?_)
 . obtain ⟨p, b, g, S, hl, el, rl, rfl, _⟩ := h
   rfl
 . obtain ⟨p, b, g, S, hl, el, rl, rfl, A1, h⟩ := h
   obtain ⟨dx, h1⟩ := A1.ob
   refine ⟨_, (@zQj _ _ _ _ _ (@zJv _ _ _ _ (@zWj _ _ _ _ _ _ _ _ _ _ _ _ _ _ _ T.cl M_check_page (hr.mono (by decide)) zWz (pv 0) (@zQw _ _ _ _ _ (pv 1) (@zQw _ _ _ _ _ (pv 2) zQk (by exact zQq rfl)) (by exact zQq rfl)) (by exact zQq rfl) (by exact zQx rfl) (by rfl)) (by rfl)) (@zWq _ _ _ (@zZz _ _ _ _ (@zJz _ _ _ _ _ _ _ (@zKz _) (@zJz _ _ _ _ _ _ _ (@zKz _) (@zZq _ _ _ _ _ (pv 0) rfl) (pv 1) (fun _ _ => rfl)) (pv 2) (fun _ _ => rfl))))), ?_⟩
   refine ⟨_, rfl, p, dx, _, rfl, h1, rfl, _, rfl, _, rfl, p, b, g, S, hl, el, rl, rfl, A1, ?_⟩
   by_cases hb : S.okP b g
   . rw [if_pos hb]
     rw [if_pos hb] at h
     obtain ⟨r1, r2, _⟩ := A1.wf.row hb.1
     obtain ⟨a, ea, ha⟩ := A1.rw.row r1
     have eg : (S.row b)[g.toNat]? = some ((S.row b).getD g.toNat .non) := by
       have : g.toNat < (S.row b).length := by
         rw [r2]
         have := hb.2.1
         have := hb.2.2
         omega
       rw [List.getD_eq_getElem?_getD, List.getElem?_eq_getElem this]
       rfl
     exact ⟨_, rfl, p, C, dx, _, _, rfl, h1, T.cl, T.aH, rfl, _, rfl, hl, _, b, _, rfl, rfl, SqL.of A1.hd, yKq hb.1.1 (by rw [List.getElem?_map, ea]; rfl), _, rfl, a, _, g, _, rfl, rfl, SqL.of ha, yKq hb.2.1 eg, h⟩
   . rw [if_neg hb]
     rw [if_neg hb] at h
     exact h
def spWorn (C cNP : Addr) : Sp := fun vs H Q E => ∃ (p : Addr) (b : Int) (S : CS) (hl el : Addr) (rl : List Addr), vs = [.ref p, .int b] /\ ChipAt C H p S hl el rl /\ if S.okB b then Q (.int (S.worn.getD b.toNat 0)) H else ∀ x, E (.ref cNP) (some x) H
theorem scWo : FnScope ["self", "block"] ["self", "block"] (defScope sWorn) := ⟨rfl, rfl, rfl, by decide +kernel, rfl, by decide +kernel, by decide +kernel⟩
theorem Wf.worn_at {S : CS} (W : Wf S) {b : Int} (h : S.okB b) : S.worn[b.toNat]? = some (S.worn.getD b.toNat 0) := by
 have hb : b.toNat < S.worn.length := by
   rw [W.wl]
   have := h.1
   have := h.2
   omega
 rw [List.getD_eq_getElem?_getD, List.getElem?_eq_getElem hb]
 rfl
theorem ok_worn {f : Addr} {fd : FuncData} (F : Fun K "worn" "Chip.worn" sWorn f fd) (T : Txt K mg C cBS cNP cNE cNS cBC cCu cWE)
   (M_check_block : MtB P w K mg base C 51 "check_block" ["self", "block"] (spCB C cNP)) : FnOk P w K mg base (CXw P w) 52 f fd ["self", "block"] (spWorn C cNP) := by
 refine F.okX (by decide) scWo (fun vs H Q E h => ?_) (fun cdv A outer s H vs Q E hr h => ?_)
 . obtain ⟨p, b, S, hl, el, rl, rfl, _⟩ := h
   rfl
 . obtain ⟨p, b, S, hl, el, rl, rfl, A1, h⟩ := h
   obtain ⟨dx, h1⟩ := A1.ob
   refine ⟨_, (@zQj _ _ _ _ _ (@zJv _ _ _ _ (@zWj _ _ _ _ _ _ _ _ _ _ _ _ _ _ _ T.cl M_check_block (hr.mono (by decide)) zWz (pv 0) (@zQw _ _ _ _ _ (pv 1) zQk (by exact zQq rfl)) (by exact zQq rfl) (by exact zQx rfl) (by rfl)) (by rfl)) (@zWq _ _ _ (@zZz _ _ _ _ (@zJz _ _ _ _ _ _ _ (@zKz _) (@zZq _ _ _ _ _ (pv 0) rfl) (pv 1) (fun _ _ => rfl))))), ?_⟩
   refine ⟨_, rfl, p, dx, _, rfl, h1, rfl, _, rfl, p, b, S, hl, el, rl, rfl, A1, ?_⟩
   by_cases hb : S.okB b
   . rw [if_pos hb]
     rw [if_pos hb] at h
     exact ⟨_, rfl, p, C, dx, _, _, rfl, h1, T.cl, T.aE, rfl, _, rfl, el, _, b, _, rfl, rfl, SqL.of A1.er, yKq hb.1 (by rw [List.getElem?_map, A1.wf.worn_at hb]; rfl), h⟩
   . rw [if_neg hb]
     rw [if_neg hb] at h
     exact h
def CS.powered (S : CS) (l : Option Int) : CS := { S with left := l, dark := false }
theorem Wf.powered {S : CS} (W : Wf S) {l : Option Int} (h : ∀ k, l = some k -> 0 <= k) : Wf (S.powered l) := ⟨W.b1, W.b2, W.p1, W.p2, W.rl, W.rp, W.wl, h⟩
def spPower (C : Addr) : Sp := fun vs H Q _ => ∃ (p : Addr) (l : Option Int) (S : CS) (hl el : Addr) (rl : List Addr), vs = [.ref p, leftV l] /\ (∀ k, l = some k -> 0 <= k) /\ ChipAt C H p S hl el rl /\
 ∀ H', ChipAt C H' p (S.powered l) hl el rl -> SameBut [p] H H' -> Q .non H'
theorem scPw : FnScope ["self", "many"] ["self", "many"] (defScope sPower) := ⟨rfl, rfl, rfl, by decide +kernel, rfl, by decide +kernel, by decide +kernel⟩
theorem ok_power {f : Addr} {fd : FuncData} (F : Fun K "power" "Chip.power" sPower f fd) (T : Txt K mg C cBS cNP cNE cNS cBC cCu cWE) : FnOk P w K mg base (CXw P w) 51 f fd ["self", "many"] (spPower C) := by
 refine F.okX (by decide) scPw (fun vs H Q E h => ?_) (fun cdv A outer s H vs Q E hr h => ?_)
 . obtain ⟨p, l, S, hl, el, rl, rfl, _⟩ := h
   rfl
 . obtain ⟨p, l, S, hl, el, rl, rfl, hk, A1, h⟩ := h
   obtain ⟨dx, h1⟩ := A1.ob
   refine ⟨_, (@zQj _ _ _ _ _ (@zKj _ _ _ _ _ _ _ _ (pv 0) (pv 1) rfl) (@zWq _ _ _ (@zKj _ _ _ _ _ _ _ _ (pv 0) (@xQz _ _ _ _) rfl))), ?_⟩
   refine ⟨_, rfl, _, rfl, p, C, dx, _, rfl, h1, T.cl, T.aL, by show 7 < 1000; decide, _, rfl, p, C, dx, _, rfl, zQz, T.cl, T.aD, by show 7 < 1000; decide, ?_⟩
   rw [yKw]
   exact h _ (A1.put (S' := S.powered l) rfl rfl (A1.wf.powered hk)) (yZk (by simp))
def spDraw (C cCu : Addr) : Sp := fun vs H Q E => ∃ (p : Addr) (S : CS) (hl el : Addr) (rl : List Addr), vs = [.ref p] /\ ChipAt C H p S hl el rl /\ match S.draw with
 | none => ∀ x, E (.ref cCu) (some x) H
 | some (l, S1) => ∀ H', ChipAt C H' p S1 hl el rl -> SameBut [p] H H' -> Q (.bl l) H'
theorem scDr : FnScope ["self"] ["self"] (defScope sDraw) := ⟨rfl, rfl, rfl, by decide +kernel, rfl, by decide +kernel, by decide +kernel⟩
theorem ok_draw {f : Addr} {fd : FuncData} (F : Fun K "draw_power" "Chip.draw_power" sDraw f fd) (T : Txt K mg C cBS cNP cNE cNS cBC cCu cWE) : FnOk P w K mg base (CXw P w) 51 f fd ["self"] (spDraw C cCu) := by
 refine F.okX (by decide) scDr (fun vs H Q E h => ?_) (fun cdv A outer s H vs Q E hr h => ?_)
 . obtain ⟨p, S, hl, el, rl, rfl, _⟩ := h
   rfl
 . obtain ⟨p, S, hl, el, rl, rfl, A1, h⟩ := h
   obtain ⟨dx, h1⟩ := A1.ob
   have W := A1.wf
   refine ⟨_, (@zQj _ _ _ _ _ (@yQz _ _ _ _ _ _ _ _ (@yZv _ _ _ (@zZq _ _ _ _ _ (pv 0) rfl) (by intro _; rfl)) (@zWq _ _ _ (@yQx _ _ _ _ _ _ _ _ _ _ yQw T.x_Cut rfl rfl T.g_Cut (@zQw _ _ _ _ _ (@zKw _ _ _ _) zQk (by exact zQq rfl)) (by decide) (by exact zQq rfl) (by exact zQx rfl))) (@zZw _)) (@zQj _ _ _ _ _ (@yQz _ _ _ _ _ _ _ _ (@pt_cmp _ _ _ _ _ _ (@pc_isN _ _ _ _ _ (@zZq _ _ _ _ _ (pv 0) rfl)) (by first | exact nobehind _ (by decide) (by decide) | rfl)) (@zWq _ _ _ (@zZz _ _ _ _ (@xQz _ _ _ _))) (@zZw _)) (@zQj _ _ _ _ _ (@yQz _ _ _ _ _ _ _ _ (@yQj _ _ _ _ _ _ _ _ (@xJz _) (@zZq _ _ _ _ _ (pv 0) rfl) zWx (@nomark _ _ (by decide) (by decide))) (@zQj _ _ _ _ _ (@zKj _ _ _ _ _ _ _ _ (pv 0) (@xQz _ _ _ _) rfl) (@zWq _ _ _ (@zZz _ _ _ _ (@xQz _ _ _ _)))) (@zZw _)) (@zQj _ _ _ _ _ (@zKj _ _ _ _ _ _ _ _ (pv 0) (@zZx _ _ _ _ _ _ _ _ (@op_sub _) (@zZq _ _ _ _ _ (pv 0) rfl) zWx) rfl) (@zWq _ _ _ (@zZz _ _ _ _ (@xQz _ _ _ _))))))), ?_⟩
   obtain ⟨nb, np, rows, worn, many, left, dark⟩ := S
   refine ⟨_, rfl, p, C, dx, _, _, rfl, h1, T.cl, T.aD, rfl, _, rfl, ?_⟩
   unfold CS.draw at h
   cases dark with
   | true => exact iteT ⟨by decide, h⟩
   | false =>
     rw [if_neg Bool.false_ne_true] at h
     refine iteF ⟨_, rfl, p, C, dx, _, _, rfl, h1, T.cl, T.aL, rfl, _, rfl, ?_⟩
     cases left with
     | none => exact iteT (h H A1 (SameBut.refl _ _))
     | some k =>
       refine iteF ⟨_, rfl, p, C, dx, _, _, rfl, h1, T.cl, T.aL, rfl, k, 0, rfl, rfl, _, rfl, ?_⟩
       by_cases h0 : k <= 0
       . rw [decide_eq_true h0]
         simp only [h0, if_true] at h
         refine iteT ⟨_, rfl, p, C, dx, _, rfl, h1, T.cl, T.aD, by show 7 < 1000; decide, ?_⟩
         exact h _ (A1.put (S' := ⟨nb, np, rows, worn, many, some k, true⟩) rfl rfl ⟨W.b1, W.b2, W.p1, W.p2, W.rl, W.rp, W.wl, W.lf⟩) (yZk (by simp))
       . rw [decide_eq_false h0]
         simp only [h0, if_false] at h
         refine iteF ⟨_, rfl, p, C, dx, _, _, rfl, h1, T.cl, T.aL, rfl, k, 1, rfl, rfl, _, rfl, p, C, dx, _, rfl, h1, T.cl, T.aL, by show 7 < 1000; decide, ?_⟩
         exact h _ (A1.put (S' := ⟨nb, np, rows, worn, many, some (k - 1), false⟩) rfl rfl ⟨W.b1, W.b2, W.p1, W.p2, W.rl, W.rp, W.wl, fun j e => by cases e; omega⟩) (yZk (by simp))
end
theorem cut_from (xs : List V) {g : Int} (h : 0 <= g) : cutV xs (some g) none = xs.drop g.toNat := by
 obtain ⟨n, rfl⟩ := Int.eq_ofNat_of_zero_le h
 unfold cutV
 rw [HT.sIx_none, HT.sIx_nat, Int.toNat_natCast]
 by_cases hn : n <= xs.length
 . rw [Nat.min_eq_left hn]
   exact List.take_of_length_le (by rw [List.length_drop]; exact Nat.le_refl _)
 . have hn' : xs.length <= n := by omega
   rw [Nat.min_eq_right hn', List.drop_of_length_le (Nat.le_refl _), List.drop_of_length_le hn']
   simp
section
variable {P : Program} {w : World} {K : PySem.W.Frag} {mg : Str -> Option Value} {base : Heap} {C cBS cNP cNE cNS cBC cCu cWE : Addr}
def spCE (C cNE : Addr) : Sp := fun vs H Q E => ∃ (p : Addr) (b g : Int) (S : CS) (hl el : Addr) (rl : List Addr), vs = [.ref p, .int b, .int g] /\ ChipAt C H p S hl el rl /\ S.okP b g /\
 ∀ H', Same H H' -> if S.clear b g = true then Q .non H' else ∀ x, E (.ref cNE) (some x) H'
theorem scCE : FnScope ["self", "block", "page", "thing"] ["self", "block", "page"] (defScope sCE) := ⟨rfl, rfl, rfl, by decide +kernel, rfl, by decide +kernel, by decide +kernel⟩
theorem wQq {f : Addr} {fd : FuncData} (F : Fun K "check_erased_from" "Chip.check_erased_from" sCE f fd) (T : Txt K mg C cBS cNP cNE cNS cBC cCu cWE) : FnOk P w K mg base (CXw P w) 51 f fd ["self", "block", "page"] (spCE C cNE) := by
 refine F.okX (by decide) scCE (fun vs H Q E h => ?_) (fun cdv A outer s H vs Q E hr h => ?_)
 . obtain ⟨p, b, g, S, hl, el, rl, rfl, _⟩ := h
   rfl
 . obtain ⟨p, b, g, S, hl, el, rl, rfl, A1, hb, h⟩ := h
   obtain ⟨dx, h1⟩ := A1.ob
   obtain ⟨r1, r2, _⟩ := A1.wf.row hb.1
   obtain ⟨a, ea, ha⟩ := A1.rw.row r1
   refine ⟨_, (@zWq _ _ _ (@yJv _ _ _ _ _ _ _ _ PassesOwn.leaving rfl (@yKx _ _ _ _ (@pe_slice _ _ _ _ _ _ _ _ _ _ (@sl_list _) (@zJz _ _ _ _ _ _ _ (@zKz _) (@zZq _ _ _ _ _ (pv 0) rfl) (pv 1) (fun _ _ => rfl)) (@po_some _ _ _ (pv 2)) (@po_none _))) (@yWj _ _ (3) _ scCE.nd rfl (Or.inl rfl) (by first | exact .inl rfl | exact .inr rfl | assumption)) (@zWq _ _ _ (@yQz _ _ _ _ _ _ _ _ (@pt_cmp _ _ _ _ _ _ (@pc_notN _ _ _ _ _ (pv 3)) (by first | exact nobehind _ (by decide) (by decide) | rfl)) (@zWq _ _ _ (@yQx _ _ _ _ _ _ _ _ _ _ yQw T.x_NotErased rfl rfl T.g_NotErased (@zQw _ _ _ _ _ (@zKw _ _ _ _) zQk (by exact zQq rfl)) (by decide) (by exact zQq rfl) (by exact zQx rfl))) (@zZw _))) (by intro _; rfl))), ?_⟩
   refine ⟨_, rfl, p, C, dx, _, _, rfl, h1, T.cl, T.aH, rfl, _, rfl, hl, _, b, _, rfl, rfl, SqL.of A1.hd, yKq hb.1.1 (by rw [List.getElem?_map, ea]; rfl), _, rfl, g, rfl, a, _, rfl, SqL.of ha, fun l nl => ?_⟩
   rw [cut_from _ hb.2.1]
   have s1 : Same H (upd H l (.lst ((S.row b).drop g.toNat))) := zWw nl
   have hh := h _ s1
   refine ⟨l, rfl, ⟨_, SqL.of zQz⟩, xWj (K := K) (a := l) (xs := (S.row b).drop g.toNat) (fun i σ H2 => H2 = upd H l (.lst ((S.row b).drop g.toNat)) /\ (∃ v, σ = [some (.ref p), some (.int b), some (.int g), v]) /\ ∀ j v, j < i -> ((S.row b).drop g.toNat)[j]? = some v -> v = .non)
     ⟨rfl, ⟨none, rfl⟩, fun j _ z => absurd z (Nat.not_lt_zero _)⟩ (fun i σ H2 _ ⟨e, _⟩ => by rw [e]; exact SqL.of zQz) ?_ ?_⟩
   . rintro i x σ H2 hi ⟨rfl, ⟨v, rfl⟩, hall⟩
     refine ⟨_, rfl, _, rfl, ?_⟩
     by_cases hx : x = .non
     . rw [decide_eq_true hx]
       refine iteF ⟨rfl, ⟨_, rfl⟩, fun j v hj ev => ?_⟩
       rcases Nat.lt_succ_iff_lt_or_eq.mp hj with z | z
       . exact hall j v z ev
       . rw [z, hi] at ev
         cases ev
         exact hx
     . rw [decide_eq_false hx]
       have nc : S.clear b g = false := by
         unfold CS.clear
         refine Bool.eq_false_iff.mpr fun z => ?_
         have := List.all_eq_true.mp z x (List.mem_of_getElem? hi)
         exact hx (of_decide_eq_true this)
       rw [if_neg (by rw [nc]; exact Bool.false_ne_true)] at hh
       exact iteT ⟨by decide, hh⟩
   . rintro σ H2 ⟨rfl, _, hall⟩
     have yc : S.clear b g = true := by
       unfold CS.clear
       refine List.all_eq_true.mpr fun v hv => ?_
       obtain ⟨j, hj, e⟩ := List.mem_iff_getElem.mp hv
       exact decide_eq_true (hall j v hj (by rw [<- e]; simp [hj]))
     rw [if_pos yc] at hh
     exact hh
end
def CompW (H1 : Hp) (acc : Addr) (n : Nat) (f : Nat -> List V) (i m : Nat) (ys : List V) (H2 : Hp) : Prop := m = n - i /\ i <= n /\ ∃ rl : List Addr, ys = rl.map V.ref /\ rl.length = i /\ rl.Nodup /\ acc ∉ rl /\ (∀ j a, rl[j]? = some a -> H2 a = some (.lst (f j)) /\ H1 a = none) /\ H2 acc = some (.lst ys) /\ Same H1 H2
theorem comp_lists {J : It} {H1 : Hp} {acc : Addr} {tt : TT} {te : TE} {Q : VK} {σc : St} (n : Nat) (hn : n < 1000) (f : Nat -> List V) (nacc : H1 acc = none)
   (stop : ∀ H2, Same H1 H2 -> J.stop n H2) (go : ∀ i H2, i < n -> Same H1 H2 -> J.go i H2)
   (elt : ∀ i x H2 H3 (R : V -> Hp -> Prop), i < n -> Same H1 H2 -> J.yld i H2 x H3 -> (∀ p H5, H2 p = none -> H5 p = some (.lst (f i)) -> Same H2 H5 -> R (.ref p) H5) -> tt (some x :: σc) H3 fun b H4 =>
     if b = true then te (some x :: σc) H4 R else False)
   (mono : ∀ σ H (R R' : Bool -> Hp -> Prop), (∀ b H', R b H' -> R' b H') -> tt σ H R -> tt σ H R')
   (fin : ∀ (rl : List Addr) (H2 : Hp), rl.length = n -> rl.Nodup -> acc ∉ rl -> (∀ i a, rl[i]? = some a -> H2 a = some (.lst (f i)) /\ H1 a = none) -> H2 acc = some (.lst (rl.map V.ref)) -> Same H1 H2 -> Q (.ref acc) H2) :
   ∃ W : Nat -> Nat -> List V -> Hp -> Prop, (∃ m, W 0 m [] (upd H1 acc (.lst []))) /\
     ∀ i m ys H2, W i m ys H2 -> (J.stop i H2 /\ Q (.ref acc) H2) \/ (J.go i H2 /\ ∀ x H3, J.yld i H2 x H3 -> tt (some x :: σc) H3 fun b H4 =>
       if b = true then te (some x :: σc) H4 fun y H5 => H5 acc = some (.lst ys) /\ ys.length < sizeLine /\ ∃ m', m' < m /\ W (i + 1) m' (ys ++ [y]) (upd H5 acc (.lst (ys ++ [y])))
       else ∃ m', m' < m /\ W (i + 1) m' ys H4) := by
 refine ⟨CompW H1 acc n f,
   ⟨n, by simp, Nat.zero_le _, [], rfl, rfl, List.nodup_nil, by simp, fun j a e => by simp at e, zQz, zWw nacc⟩, ?_⟩
 rintro i m ys H2 ⟨rfl, hi, rl, rfl, hl, nd, na, hat, hacc, s2⟩
 by_cases hlt : i < n
 . refine .inr ⟨go i H2 hlt s2, fun x H3 y => mono _ _ _ _ (fun b H4 q => ?_) (elt i x H2 H3 (fun y H5 => H5 acc = some (.lst (rl.map V.ref)) /\ (rl.map V.ref).length < sizeLine /\ ∃ m', m' < n - i /\ CompW H1 acc n f (i + 1) m' (rl.map V.ref ++ [y]) (upd H5 acc (.lst (rl.map V.ref ++ [y])))) hlt s2 y fun p H5 np hp s5 => ?_)⟩
   . by_cases hb : b = true
     . rw [if_pos hb] at q ⊢
       exact q
     . rw [if_neg hb] at q
       exact q.elim
   . have pa : p ≠ acc := (zWv hacc np).symm
     have prl : p ∉ rl := fun m => by
       obtain ⟨j, hj, e⟩ := List.mem_iff_getElem.mp m
       have := (hat j p (by rw [<- e]; simp [hj])).1
       rw [np] at this
       cases this
     refine ⟨s5 _ _ hacc, by rw [List.length_map, hl]; exact small1000 (by omega), n - (i + 1), by omega, rfl, hlt, rl ++ [p], by rw [List.map_append]; rfl, by rw [List.length_append, hl]; rfl, ?_, ?_, ?_, zQz, fun b o e => ?_⟩
     . refine List.nodup_append.mpr ⟨nd, by simp, fun a ha b hb => ?_⟩
       obtain rfl : b = p := by simpa using hb
       exact fun z => prl (z ▸ ha)
     . intro m
       rcases List.mem_append.mp m with z | z
       . exact na z
       . exact pa (by simpa using z : acc = p).symm
     . intro j a e
       have aacc : a ≠ acc := by
         intro z
         have m := List.mem_of_getElem? e
         rcases List.mem_append.mp m with q | q
         . exact na (z ▸ q)
         . exact pa (by rw [<- z]; exact (by simpa using q : a = p).symm)
       rw [zQv aacc]
       by_cases hj : j < rl.length
       . rw [List.getElem?_append_left hj] at e
         obtain ⟨q1, q2⟩ := hat j a e
         exact ⟨s5 _ _ q1, q2⟩
       . have ej : j = rl.length := by
           have := (List.getElem?_eq_some_iff.mp e).1
           rw [List.length_append] at this
           simp at this
           omega
         rw [ej, List.getElem?_append_right (Nat.le_refl _)] at e
         simp at e
         subst e
         rw [ej, hl]
         exact ⟨hp, s2.free np⟩
     . have ba : b ≠ acc := zWv e nacc
       rw [zQv ba]
       exact s5 _ _ (s2 _ _ e)
 . have e : i = n := by omega
   subst e
   exact .inl ⟨stop H2 s2, fin rl H2 hl nd na hat hacc s2⟩
theorem xJj {ta : TA} {ci : List Nat} {tt : TT} {te : TE} {σ : St} {H : Hp} {Q : VK} (j : Int) (h1 : 0 <= j) (h2 : j < 1000) (hta : ∀ R : List V -> Hp -> Prop, R [.int j] H -> ta σ H R) (f : Nat -> List V)
   (mono : ∀ σ H (R R' : Bool -> Hp -> Prop), (∀ b H', R b H' -> R' b H') -> tt σ H R -> tt σ H R')
   (elt : ∀ (i : Nat) H2 (R : V -> Hp -> Prop), (i : Int) < j -> Same H H2 -> (∀ p H5, H2 p = none -> H5 p = some (.lst (f i)) -> Same H2 H5 -> R (.ref p) H5) -> tt (some (.int (0 + (i : Int))) :: capt ci σ) H2 fun b H4 =>
     if b = true then te (some (.int (0 + (i : Int))) :: capt ci σ) H4 R else False)
   (fin : ∀ (acc : Addr) (rl : List Addr) (H2 : Hp), H acc = none -> (rl.length : Int) = j -> rl.Nodup -> acc ∉ rl -> (∀ i a, rl[i]? = some a -> H2 a = some (.lst (f i)) /\ H a = none) -> H2 acc = some (.lst (rl.map V.ref)) -> Same H H2 -> Q (.ref acc) H2) :
   tComp (iRng1 ta) ci tt te σ H Q := by
 unfold tComp
 refine hta _ ⟨j, rfl, by omega, by omega, fun acc nacc => ?_⟩
 refine comp_lists (Q := Q) (J := Itr 0 j.toNat) (σc := capt ci σ) j.toNat (by omega) f nacc (fun _ _ => Nat.le_refl _) (fun _ _ h _ => h) (fun i x H2 H3 R hi s2 y k => ?_) mono fun rl H2 a b c d e g => fin acc rl H2 nacc (by omega) b c d e g
 obtain ⟨rfl, rfl⟩ := y
 exact elt i _ R (by omega) s2 k
theorem tyes {σ : St} {H : Hp} {A : Hp -> Prop} (h : A H) : tYes σ H (fun b H4 => if b = true then A H4 else False) := iteT (B := False) h
theorem yes_mono : ∀ σ H (R R' : Bool -> Hp -> Prop), (∀ b H', R b H' -> R' b H') -> tYes σ H R -> tYes σ H R' := fun _ H _ _ k h => k true H h
theorem rep_one (k : Nat) (v : V) : (List.replicate k [v]).flatten = List.replicate k v := by
 induction k with
 | zero => rfl
 | succ k ih => rw [List.replicate_succ, List.flatten_cons, ih, List.replicate_succ]; rfl
def fresh (nb np : Nat) : CS := ⟨nb, np, List.replicate nb (List.replicate np .non), List.replicate nb 0, 0, none, false⟩
theorem rep_get {α : Type} {n i : Nat} {v : α} (h : i < n) : (List.replicate n v)[i]? = some v := by rw [List.getElem?_replicate, if_pos h]
theorem wf_fresh {nb np : Nat} (b1 : 4 <= nb) (b2 : nb <= 32) (p1 : 2 <= np) (p2 : np <= 16) : Wf (fresh nb np) :=
 ⟨b1, b2, p1, p2, List.length_replicate, fun r m => by
   obtain rfl := (List.mem_replicate.mp m).2
   exact ⟨List.length_replicate, List.all_eq_true.mpr fun v hv => by rw [(List.mem_replicate.mp hv).2]; rfl⟩, List.length_replicate, fun k e => by cases e⟩
section
variable {P : Program} {w : World} {K : PySem.W.Frag} {mg : Str -> Option Value} {base : Heap} {C cBS cNP cNE cNS cBC cCu cWE : Addr}
def spInit (C cBS : Addr) : Sp := fun vs H Q E => ∃ (p dx : Addr) (b g : Int), vs = [.ref p, .int b, .int g] /\ H p = some (.ins C dx []) /\
 if 4 <= b /\ b <= 32 /\ 2 <= g /\ g <= 16 then ∀ H' hl el rl, ChipAt C H' p (fresh b.toNat g.toNat) hl el rl -> Did H H' [p] (fpC p hl el rl) -> Q .non H' else ∀ x, E (.ref cBS) (some x) H
theorem scIn : FnScope ["self", "blocks", "pages"] ["self", "blocks", "pages"] (defScope sInit) := ⟨rfl, rfl, rfl, by decide +kernel, rfl, by decide +kernel, by decide +kernel⟩
theorem ok_init {f : Addr} {fd : FuncData} (F : Fun K "__init__" "Chip.__init__" sInit f fd) (T : Txt K mg C cBS cNP cNE cNS cBC cCu cWE) : FnOk P w K mg base (CXw P w) 51 f fd ["self", "blocks", "pages"] (spInit C cBS) := by
 refine F.okX (by decide) scIn (fun vs H Q E h => ?_) (fun cdv A outer s H vs Q E hr h => ?_)
 . obtain ⟨p, dx, b, g, rfl, _⟩ := h
   rfl
 . obtain ⟨p, dx, b, g, rfl, h1, h⟩ := h
   refine ⟨_, (@zQj _ _ _ _ _ (@yQz _ _ _ _ _ _ _ _ (@yJq _ _ _ _ (@yJz _ _ _ _ _ _ _ _ _ _ _ _ (@xJz _) (@xJz _) (pe_gl rfl T.g_LB) (pv 1) (pe_gl rfl T.g_MB) (by with_unfolding_all rfl))) (@zWq _ _ _ (@yQx _ _ _ _ _ _ _ _ _ _ yQw T.x_BadSize rfl rfl T.g_BadSize (@zQw _ _ _ _ _ (@zKw _ _ _ _) zQk (by exact zQq rfl)) (by decide) (by exact zQq rfl) (by exact zQx rfl))) (@zZw _)) (@zQj _ _ _ _ _ (@yQz _ _ _ _ _ _ _ _ (@yJq _ _ _ _ (@yJz _ _ _ _ _ _ _ _ _ _ _ _ (@xJz _) (@xJz _) (pe_gl rfl T.g_LP) (pv 2) (pe_gl rfl T.g_MP) (by with_unfolding_all rfl))) (@zWq _ _ _ (@yQx _ _ _ _ _ _ _ _ _ _ yQw T.x_BadSize rfl rfl T.g_BadSize (@zQw _ _ _ _ _ (@zKw _ _ _ _) zQk (by exact zQq rfl)) (by decide) (by exact zQq rfl) (by exact zQx rfl))) (@zZw _)) (@zQj _ _ _ _ _ (@zKj _ _ _ _ _ _ _ _ (pv 0) (pv 1) rfl) (@zQj _ _ _ _ _ (@zKj _ _ _ _ _ _ _ _ (pv 0) (pv 2) rfl) (@zQj _ _ _ _ _ (@zKj _ _ _ _ _ _ _ _ (pv 0) (@yKj _ _ _ _ _ _ _ _ ([2]) (["pages"]) _ _ _ rfl (@zJx _ _ _ _ _ _ rfl T.n_range (@zQw _ _ _ _ _ (pv 1) zQk (by exact zQq rfl)) (by exact zQq rfl)) rfl (by decide +kernel) (by decide +kernel) (by decide +kernel) (by show ∀ y : Str × NameKind, y ∈ _ -> y.2 = NameKind.free -> List.lookup y.1 (defScope sInit).names = some NameKind.cell; decide +kernel) (by show ∀ p : Str × Nat, p ∈ _ -> List.lookup p.1 _ = some NameKind.free /\ (["self", "blocks", "pages"] : List Str)[p.2]? = some p.1; decide +kernel) rfl (by decide +kernel) (fun _ _ _ _ _ => (@yJx _)) (fun _ _ _ _ _ => (@zZx _ _ _ _ _ _ _ _ (@op_rep _) (@yWq _ _ _ _ (@zQw _ _ _ _ _ (@pe_non _ _ _) zQk (by exact zQq rfl))) (pv 1))) (by intro _; rfl)) rfl) (@zQj _ _ _ _ _ (@zKj _ _ _ _ _ _ _ _ (pv 0) (@zZx _ _ _ _ _ _ _ _ (@op_rep _) (@yWq _ _ _ _ (@zQw _ _ _ _ _ zWx zQk (by exact zQq rfl))) (pv 1)) rfl) (@zQj _ _ _ _ _ (@zKj _ _ _ _ _ _ _ _ (pv 0) zWx rfl) (@zQj _ _ _ _ _ (@zKj _ _ _ _ _ _ _ _ (pv 0) (@pe_non _ _ _) rfl) (@zWq _ _ _ (@zKj _ _ _ _ _ _ _ _ (pv 0) (@xQz _ _ _ _) rfl)))))))))), ?_⟩
   refine ⟨_, rfl, _, _, rfl, rfl, _, rfl, ite2 (fun h0 => ?_) fun h0 => ?_⟩
   rotate_left
   . rw [if_neg fun z => h0 (decide_eq_true z.1)] at h
     exact ⟨_, rfl, iteT ⟨by decide, h⟩⟩
   refine ⟨_, _, rfl, rfl, _, rfl, ?_⟩
   have b1 : 4 <= b := of_decide_eq_true h0
   by_cases b2 : b <= 32
   rotate_left
   . rw [decide_eq_false b2]
     rw [if_neg fun z => b2 z.2.1] at h
     exact iteT ⟨by decide, h⟩
   rw [decide_eq_true b2]
   refine iteF ?_
   refine ⟨_, rfl, _, _, rfl, rfl, _, rfl, ite2 (fun h0 => ?_) fun h0 => ?_⟩
   rotate_left
   . rw [if_neg fun z => h0 (decide_eq_true z.2.2.1)] at h
     exact ⟨_, rfl, iteT ⟨by decide, h⟩⟩
   refine ⟨_, _, rfl, rfl, _, rfl, ?_⟩
   have p1 : 2 <= g := of_decide_eq_true h0
   by_cases p2 : g <= 16
   rotate_left
   . rw [decide_eq_false p2]
     rw [if_neg fun z => p2 z.2.2.2] at h
     exact iteT ⟨by decide, h⟩
   rw [decide_eq_true p2]
   refine iteF ?_
   rw [if_pos ⟨b1, b2, p1, p2⟩] at h
   obtain ⟨bn, rfl⟩ := Int.eq_ofNat_of_zero_le (show 0 <= b by omega)
   obtain ⟨gn, rfl⟩ := Int.eq_ofNat_of_zero_le (show 0 <= g by omega)
   rw [Int.toNat_natCast, Int.toNat_natCast] at h
   refine ⟨_, rfl, _, rfl, p, C, dx, _, rfl, h1, T.cl, T.aB, by show 0 < 1000; decide, _, rfl, _, rfl, p, C, dx, _, rfl, zQz, T.cl, T.aP, by show 1 < 1000; decide, ?_⟩
   rw [yKw]
   generalize hH1 : upd H p _ = H1
   have e1 : H1 p = some (.ins C dx [("blocks", .int bn), ("pages", .int gn)]) := by rw [<- hH1]; exact zQz
   have s1 : SameBut [p] H H1 := by rw [<- hH1]; exact yZk (by simp)
   have f1 : ∀ a, H1 a = none -> H a = none := fun a e => by
     rw [<- hH1] at e
     by_cases z : a = p
     . rw [z, zQz] at e; cases e
     . rw [zQv z] at e; exact e
   refine xJj (bn : Int) (by omega) (by omega) (fun R h => ⟨_, rfl, h⟩) (fun _ => List.replicate gn V.non) yes_mono (fun i H2 R hi s2 k => ?_) fun acc rl H2 nacc hl2 nd2 na2 hat2 hacc2 s2 => ?_
   . refine tyes ⟨by show 1 <= sizeLine; decide, fun l nl => ⟨_, rfl, l, (gn : Int), [.non], rfl, rfl, zQz, by omega, by omega, ?_, fun q nq => ?_⟩⟩
     . show 1 * gn <= sizeLine
       exact Nat.le_of_lt (small1000 (by omega))
     . rw [rep_one]
       exact k q _ ((zWw nl).free nq) zQz ((zWw nl).trans (zWw nq))
   have e2 := s2 _ _ e1
   have pacc : p ≠ acc := zWv e1 nacc
   refine ⟨_, rfl, p, C, dx, _, rfl, e2, T.cl, T.aH, by show 2 < 1000; decide, ?_⟩
   refine ⟨by show 1 <= sizeLine; decide, fun l nl => ⟨_, rfl, l, (bn : Int), [.int 0], rfl, rfl, zQz, by omega, by omega, ?_, fun el nel => ?_⟩⟩
   . show 1 * bn <= sizeLine
     exact Nat.le_of_lt (small1000 (by omega))
   rw [rep_one]
   have npl : p ≠ l := fun z => by
     rw [<- z, zQz] at nl
     cases nl
   have npe : p ≠ el := fun z => by
     rw [<- z, zQv npl, zQz] at nel
     cases nel
   have pH2 : upd (upd (upd H2 p (HO.ins C dx (putF "held" (V.ref acc) [("blocks", V.int bn), ("pages", V.int gn)]))) l (.lst [.int 0])) el (.lst (List.replicate bn (.int 0))) p = some (.ins C dx [("blocks", V.int bn), ("pages", V.int gn), ("held", V.ref acc)]) := by
     rw [zQv npe, zQv npl, zQz]
     rfl
   refine ⟨_, rfl, p, C, dx, _, rfl, pH2, T.cl, T.aE, by show 3 < 1000; decide, _, rfl, p, C, dx, _, rfl, zQz, T.cl, T.aW, by show 4 < 1000; decide, _, rfl, p, C, dx, _, rfl, zQz, T.cl, T.aL, by show 5 < 1000; decide, _, rfl, p, C, dx, _, rfl, zQz, T.cl, T.aD, by show 6 < 1000; decide, ?_⟩
   rw [yKw, yKw, yKw]
   have tr2 : ∀ a o, H2 a = some o -> a ≠ p -> (upd (upd (upd H2 p (HO.ins C dx (putF "held" (V.ref acc) [("blocks", V.int bn), ("pages", V.int gn)]))) l (.lst [.int 0])) el (.lst (List.replicate bn (.int 0)))) a = some o := fun a o e na => by
     have al : a ≠ l := fun z => by
       rw [z] at na e
       rw [zQv na, e] at nl
       cases nl
     have ae : a ≠ el := fun z => by
       rw [z] at na e al
       rw [zQv al, zQv na, e] at nel
       cases nel
     rw [zQv ae, zQv al, zQv na]
     exact e
   have elacc : el ≠ acc := fun z => by
     rw [z, zQv (fun q => by rw [<- q, zQv (Ne.symm pacc), hacc2] at nl; cases nl), zQv (Ne.symm pacc), hacc2] at nel
     cases nel
   have elrl : el ∉ rl := fun m => by
     obtain ⟨j, hj, e⟩ := List.mem_iff_getElem.mp m
     have q := (hat2 j el (by rw [<- e]; simp [hj])).1
     have nq : el ≠ p := Ne.symm npe
     have ql : el ≠ l := fun z => by
       rw [<- z, zQv nq, q] at nl
       cases nl
     rw [zQv ql, zQv nq, q] at nel
     cases nel
   have nprl : ∀ a ∈ rl, a ≠ p := fun a m z => by
     obtain ⟨j, hj, e⟩ := List.mem_iff_getElem.mp m
     have q := (hat2 j a (by rw [<- e]; simp [hj])).2
     rw [z, e1] at q
     cases q
   have H2n : ∀ a, H2 a = none -> H1 a = none := fun a e => s2.free e
   refine h _ acc el rl ⟨⟨dx, zQz⟩, ?_, ?_, ⟨?_, fun i a e => ?_⟩, ?_, wf_fresh (by omega) (by omega) (by omega) (by omega)⟩ ⟨fun a o e na => ?_, fun a m => ?_⟩
   . rw [zQv (Ne.symm pacc)]
     exact tr2 _ _ hacc2 (Ne.symm pacc)
   . rw [zQv (Ne.symm npe), zQz]
     show _ = some (HO.lst ((List.replicate bn 0).map V.int))
     rw [List.map_replicate]
     rfl
   . show rl.length = (List.replicate bn _).length
     rw [List.length_replicate]
     exact Int.ofNat.inj hl2
   . have hi : i < bn := by rw [<- Int.ofNat.inj hl2]; exact (List.getElem?_eq_some_iff.mp e).1
     refine ⟨_, rep_get hi, ?_⟩
     rw [zQv (nprl a (List.mem_of_getElem? e))]
     exact tr2 _ _ (hat2 i a e).1 (nprl a (List.mem_of_getElem? e))
   . refine List.nodup_cons.mpr ⟨fun m => ?_, List.nodup_cons.mpr ⟨elrl, nd2⟩⟩
     rcases List.mem_cons.mp m with z | z
     . exact elacc z.symm
     . exact na2 z
   . have nap : a ≠ p := by simpa using na
     rw [zQv nap]
     exact tr2 _ _ (s2 _ _ (s1 a o e (by simpa using na))) nap
   . rcases List.mem_cons.mp m with z | m
     . exact .inl (by simp [z])
     rcases List.mem_cons.mp m with z | m
     . exact .inr (by rw [z]; exact f1 _ nacc)
     rcases List.mem_cons.mp m with z | m
     . refine .inr (by
         rw [z]
         refine f1 _ (H2n _ ?_)
         have nq : el ≠ p := Ne.symm npe
         by_cases ql : el = l
         . rw [ql, zQv (fun q => npl q.symm)] at *
           exact nl
         . rw [zQv ql, zQv nq] at nel
           exact nel)
     . obtain ⟨j, hj, e⟩ := List.mem_iff_getElem.mp m
       exact .inr (f1 _ (hat2 j a (by rw [<- e]; simp [hj])).2)
end
def clsOf (cBS cNP cNE cCu : Addr) : Ref -> Addr
 | .bs => cBS
 | .np => cNP
 | .ne => cNE
 | .cut => cCu
theorem draw_eq {S S1 : CS} {l : Bool} (h : S.draw = some (l, S1)) : S1.nb = S.nb /\ S1.np = S.np /\ S1.rows = S.rows /\ S1.worn = S.worn /\ S1.many = S.many := by
 unfold CS.draw at h
 split at h
 . cases h
 . split at h
   . cases h; exact ⟨rfl, rfl, rfl, rfl, rfl⟩
   . split at h
     . cases h; exact ⟨rfl, rfl, rfl, rfl, rfl⟩
     . cases h; exact ⟨rfl, rfl, rfl, rfl, rfl⟩
theorem Wf.setRow {S : CS} (W : Wf S) {i : Nat} {r : List V} (h1 : r.length = S.np) (h2 : r.all plainV = true) : Wf { S with rows := S.rows.set i r } :=
 ⟨W.b1, W.b2, W.p1, W.p2, by rw [List.length_set]; exact W.rl, fun q m => by
   rcases List.mem_or_eq_of_mem_set m with z | z
   . exact W.rp q z
   . rw [z]; exact ⟨h1, h2⟩, W.wl, W.lf⟩
theorem ChipAt.putRow {C : Addr} {H : Hp} {p : Addr} {S : CS} {hl el : Addr} {rl : List Addr} (A : ChipAt C H p S hl el rl) {i : Nat} {a : Addr} (e : rl[i]? = some a) {r : List V} (h1 : r.length = S.np) (h2 : r.all plainV = true) :
   ChipAt C (upd H a (.lst r)) p { S with rows := S.rows.set i r } hl el rl := by
 obtain ⟨dx, h⟩ := A.ob
 have nd := A.nd
 obtain ⟨n1, n2⟩ := List.nodup_cons.mp nd
 obtain ⟨n3, n4⟩ := List.nodup_cons.mp n2
 have m := List.mem_of_getElem? e
 have pa : p ≠ a := (A.np_ (by simp [m])).symm
 have ha : hl ≠ a := fun z => n1 (by rw [z]; simp [m])
 have ea : el ≠ a := fun z => n3 (by rw [z]; exact m)
 exact ⟨⟨dx, by rw [zQv pa]; exact h⟩, by rw [zQv ha]; exact A.hd, by rw [zQv ea]; exact A.er, A.rw.put n4 e r, nd, A.wf.setRow h1 h2⟩
theorem all_set {l : List V} {i : Nat} {v : V} (h : l.all plainV = true) (hv : plainV v = true) : (l.set i v).all plainV = true :=
 List.all_eq_true.mpr fun x m => by
   rcases List.mem_or_eq_of_mem_set m with z | z
   . exact List.all_eq_true.mp h x z
   . rw [z]; exact hv
section
variable {P : Program} {w : World} {K : PySem.W.Frag} {mg : Str -> Option Value} {base : Heap} {C cBS cNP cNE cNS cBC cCu cWE : Addr}
def EndsAs (cl : Ref -> Addr) (Q : VK) (E : XK) (H' : Hp) : Option Ref -> Prop
 | none => Q .non H'
 | some k => ∀ x, E (.ref (cl k)) (some x) H'
def spWrite (C : Addr) (cl : Ref -> Addr) : Sp := fun vs H Q E => ∃ (p : Addr) (b g : Int) (t : V) (S : CS) (hl el : Addr) (rl : List Addr), vs = [.ref p, .int b, .int g, t] /\ plainV t = true /\ ChipAt C H p S hl el rl /\
 ∀ H', ChipAt C H' p (S.write b g t).2 hl el rl -> SameBut (fpC p hl el rl) H H' -> EndsAs cl Q E H' (S.write b g t).1
theorem scWr : FnScope ["self", "block", "page", "thing", "lasts"] ["self", "block", "page", "thing"] (defScope sWrite) := ⟨rfl, rfl, rfl, by decide +kernel, rfl, by decide +kernel, by decide +kernel⟩
theorem ok_write {f : Addr} {fd : FuncData} (F : Fun K "write" "Chip.write" sWrite f fd) (T : Txt K mg C cBS cNP cNE cNS cBC cCu cWE)
   (M_check_page : MtB P w K mg base C 52 "check_page" ["self", "block", "page"] (spCP C cNP)) (M_check_erased_from : MtB P w K mg base C 51 "check_erased_from" ["self", "block", "page"] (spCE C cNE)) (M_draw_power : MtB P w K mg base C 51 "draw_power" ["self"] (spDraw C cCu)) :
   FnOk P w K mg base (CXw P w) 53 f fd ["self", "block", "page", "thing"] (spWrite C (clsOf cBS cNP cNE cCu)) := by
 refine F.okX (by decide) scWr (fun vs H Q E h => ?_) (fun cdv A outer s H vs Q E hr h => ?_)
 . obtain ⟨p, b, g, t, S, hl, el, rl, rfl, _⟩ := h
   rfl
 . obtain ⟨p, b, g, t, S, hl, el, rl, rfl, ht, A1, h⟩ := h
   obtain ⟨dx, h1⟩ := A1.ob
   refine ⟨_, (@zQj _ _ _ _ _ (@zJv _ _ _ _ (@zWj _ _ _ _ _ _ _ _ _ _ _ _ _ _ _ T.cl M_check_page (hr.mono (by decide)) zWz (pv 0) (@zQw _ _ _ _ _ (pv 1) (@zQw _ _ _ _ _ (pv 2) zQk (by exact zQq rfl)) (by exact zQq rfl)) (by exact zQq rfl) (by exact zQx rfl) (by rfl)) (by rfl)) (@zQj _ _ _ _ _ (@zJv _ _ _ _ (@zWj _ _ _ _ _ _ _ _ _ _ _ _ _ _ _ T.cl M_check_erased_from (hr.mono (by decide)) zWz (pv 0) (@zQw _ _ _ _ _ (pv 1) (@zQw _ _ _ _ _ (pv 2) zQk (by exact zQq rfl)) (by exact zQq rfl)) (by exact zQq rfl) (by exact zQx rfl) (by rfl)) (by rfl)) (@zQj _ _ _ _ _ (@zJw _ _ (4) _ _ _ _ scWr.nd rfl (Or.inl rfl) (@zZj _ _ _ _ _ _ _ _ _ _ _ _ T.cl M_draw_power (hr.mono (by decide)) zWz (pv 0) (by rfl)) (by rfl) (by first | exact .inl rfl | exact .inr rfl | assumption)) (@zQj _ _ _ _ _ (@zKj _ _ _ _ _ _ _ _ (pv 0) (@zZx _ _ _ _ _ _ _ _ (@yJw _) (@zZq _ _ _ _ _ (pv 0) rfl) zWx) rfl) (@zQj _ _ _ _ _ (@ps_asg _ _ _ _ _ _ (@xKw _ _ _ _ _ _ _ _ (@yZv _ _ _ (pv 4) (by intro _; rfl)) (pv 3) (pe_gl rfl T.g_TO)) (@pg_sub _ _ _ _ _ _ _ (@zJz _ _ _ _ _ _ _ (@zKz _) (@zZq _ _ _ _ _ (pv 0) rfl) (pv 1) (fun _ _ => rfl)) (pv 2) (@xWz _) (by intro _; rfl)) (by rfl) (by rfl) (by rfl)) (@zWq _ _ _ (@yQz _ _ _ _ _ _ _ _ (@yJq _ _ _ _ (@yZv _ _ _ (pv 4) (by intro _; rfl))) (@zWq _ _ _ (@yQx _ _ _ _ _ _ _ _ _ _ yQw T.x_Cut rfl rfl T.g_Cut (@zQw _ _ _ _ _ (@zKw _ _ _ _) zQk (by exact zQq rfl)) (by decide) (by exact zQq rfl) (by exact zQx rfl))) (@zZw _)))))))), ?_⟩
   refine ⟨_, rfl, p, dx, _, rfl, h1, rfl, _, rfl, _, rfl, p, b, g, S, hl, el, rl, rfl, A1, ?_⟩
   by_cases hb : S.okP b g
   rotate_left
   . rw [if_neg hb]
     have e : S.write b g t = (some .np, S) := by unfold CS.write; rw [if_pos hb]
     rw [e] at h
     exact h H A1 (SameBut.refl _ _)
   rw [if_pos hb]
   refine ⟨_, rfl, p, dx, _, rfl, h1, rfl, _, rfl, _, rfl, p, b, g, S, hl, el, rl, rfl, A1, hb, fun H1 s1 => ?_⟩
   have A2 := A1.same s1
   obtain ⟨dx2, h2⟩ := A2.ob
   by_cases hc : S.clear b g = true
   rotate_left
   . rw [if_neg hc]
     have e : S.write b g t = (some .ne, S) := by unfold CS.write; rw [if_neg (fun z => z hb), if_pos (by simpa using hc)]
     rw [e] at h
     exact h H1 A2 (SameBut.of s1)
   rw [if_pos hc]
   refine ⟨_, rfl, p, dx2, _, rfl, h2, rfl, p, S, hl, el, rl, rfl, A2, ?_⟩
   cases hd : S.draw with
   | none =>
     have e : S.write b g t = (some .cut, S) := by unfold CS.write; rw [if_neg (fun z => z hb), if_neg (by rw [hc]; decide), hd]
     rw [e] at h
     exact h H1 A2 (SameBut.of s1)
   | some q =>
     obtain ⟨l, S1⟩ := q
     obtain ⟨d1, d2, d3, d4, d5⟩ := draw_eq hd
     intro H2 A3 s2
     have e : S.write b g t = (if l then none else some .cut, { S1 with many := S1.many + 1, rows := S1.rows.set b.toNat ((S1.row b).set g.toNat (if l then t else torn)) }) := by
       unfold CS.write; rw [if_neg (fun z => z hb), if_neg (by rw [hc]; decide), hd]
     rw [e] at h
     obtain ⟨dx3, h3⟩ := A3.ob
     have W := A3.wf
     refine ⟨_, rfl, p, C, dx3, _, _, rfl, h3, T.cl, T.aW, rfl, _, _, rfl, rfl, _, rfl, p, C, dx3, _, rfl, h3, T.cl, T.aW, by show 7 < 1000; decide, ?_⟩
     have A4 : ChipAt C (upd H2 p (.ins C dx3 (chipF { S1 with many := S1.many + 1 } hl el))) p { S1 with many := S1.many + 1 } hl el rl := A3.put rfl rfl ⟨W.b1, W.b2, W.p1, W.p2, W.rl, W.rp, W.wl, W.lf⟩
     have hb1 : S1.okB b := ⟨hb.1.1, by rw [d1]; exact hb.1.2⟩
     obtain ⟨r1, r2, r3⟩ := W.row hb1
     obtain ⟨a, ea, ha⟩ := A4.rw.row (i := b.toNat) (r := S1.row b) r1
     have hg : g < (S1.row b).length := by rw [r2, d2]; exact hb.2.2
     refine ⟨_, rfl, _, rfl, ?_⟩
     have store : ∀ v : V, plainV v = true -> v = (if l then t else torn) -> gSub (tOp (rIxL K) (tFld K (tVar 0) "held") (tVar 1)) (tVar 2) rSetL v [some (.ref p), some (.int b), some (.int g), some t, some (.bl l)] (upd H2 p (.ins C dx3 (chipF { S1 with many := S1.many + 1 } hl el)))
         (fun σ H3 => ∃ y, σ[4]? = some (some y) /\ ∃ c, y = .bl c /\ if (!c) = true then (1 : Nat) <= sizeLine /\ (∀ x, E (.ref cCu) (some x) H3) else Q .non H3) := by
       intro v hv ev
       refine ⟨_, rfl, p, C, dx3, _, _, rfl, zQz, T.cl, T.aH, rfl, _, rfl, hl, _, b, _, rfl, rfl, SqL.of A4.hd, yKq hb.1.1 (by rw [List.getElem?_map, ea]; rfl), _, rfl, a, _, g, _, rfl, rfl, ha, ixN_of hb.2.1 hg, _, rfl, _, rfl, ?_⟩
       have A5 := A4.putRow ea (r := (S1.row b).set g.toNat v) (by rw [List.length_set]; exact r2) (all_set r3 hv)
       rw [<- ev] at h
       have q := h _ A5 (fun c o z n => by
         have nc : c ≠ a := fun y => n (by rw [y]; simp [List.mem_of_getElem? ea])
         have np : c ≠ p := fun y => n (by rw [y]; simp)
         rw [zQv nc, zQv np]
         exact s2 c o (s1 c o z) (by simpa using np))
       cases l with
       | true => exact iteF q
       | false => exact iteT ⟨by decide, q⟩
     cases l with
     | true => exact iteT ⟨_, rfl, store t ht rfl⟩
     | false => exact iteF (store torn rfl rfl)
end
theorem nodup_set {l : List Addr} (nd : l.Nodup) {q : Addr} (nq : q ∉ l) (i : Nat) : (l.set i q).Nodup := by
 induction l generalizing i with
 | nil => exact List.nodup_nil
 | cons a r ih =>
   obtain ⟨n1, n2⟩ := List.nodup_cons.mp nd
   cases i with
   | zero => exact List.nodup_cons.mpr ⟨fun m => nq (List.mem_cons_of_mem _ m), n2⟩
   | succ i =>
     refine List.nodup_cons.mpr ⟨fun m => ?_, ih n2 (fun m => nq (List.mem_cons_of_mem _ m)) i⟩
     rcases List.mem_or_eq_of_mem_set m with z | z
     . exact n1 z
     . exact nq (by rw [<- z]; exact List.mem_cons_self)
section
variable {P : Program} {w : World} {K : PySem.W.Frag} {mg : Str -> Option Value} {base : Heap} {C cBS cNP cNE cNS cBC cCu cWE : Addr}
def spErase (C : Addr) (cl : Ref -> Addr) : Sp := fun vs H Q E => ∃ (p : Addr) (b : Int) (S : CS) (hl el : Addr) (rl : List Addr), vs = [.ref p, .int b] /\ ChipAt C H p S hl el rl /\
 ∀ H' rl', ChipAt C H' p (S.erase b).2 hl el rl' -> Did H H' (fpC p hl el rl) (fpC p hl el rl') -> EndsAs cl Q E H' (S.erase b).1
theorem scEr : FnScope ["self", "block", "lasts"] ["self", "block"] (defScope sErase) := ⟨rfl, rfl, rfl, by decide +kernel, rfl, by decide +kernel, by decide +kernel⟩
theorem erased_at {H H1 H2 : Hp} {p dx hl el l1 q : Addr} {rl : List Addr} {S S1 : CS} {b : Int} {v : V} (A3 : ChipAt C H2 p S1 hl el rl) (hv : plainV v = true) (hb : S1.okB b) (s1 : SameBut (fpC p hl el rl) H H2)
   (nl : upd H2 el (.lst ((S1.worn.map V.int).set b.toNat (.int (S1.worn.getD b.toNat 0 + 1)))) l1 = none)
   (nq : upd (upd H2 el (.lst ((S1.worn.map V.int).set b.toNat (.int (S1.worn.getD b.toNat 0 + 1))))) l1 (.lst [v]) q = none) (H5 : Hp)
   (e5 : H5 = upd (upd (upd (upd H2 el (.lst ((S1.worn.map V.int).set b.toNat (.int (S1.worn.getD b.toNat 0 + 1))))) l1 (.lst [v])) q (.lst (List.replicate S1.np v))) hl (.lst ((rl.map V.ref).set b.toNat (.ref q)))) :
   ChipAt C H5 p { S1 with worn := S1.worn.set b.toNat (S1.worn.getD b.toNat 0 + 1), rows := S1.rows.set b.toNat (List.replicate S1.np v) } hl el (rl.set b.toNat q) /\ Did H H5 (fpC p hl el rl) (fpC p hl el (rl.set b.toNat q)) := by
 have W := A3.wf
 have tr : ∀ a o, H2 a = some o -> a ≠ l1 /\ a ≠ q := fun a o e => by
   have h1 : a ≠ l1 := fun z => by
     rw [<- z] at nl
     by_cases y : a = el
     . rw [y, zQz] at nl; cases nl
     . rw [zQv y, e] at nl; cases nl
   refine ⟨h1, fun z => ?_⟩
   rw [<- z, zQv h1] at nq
   by_cases y : a = el
   . rw [y, zQz] at nq; cases nq
   . rw [zQv y, e] at nq; cases nq
 obtain ⟨dx, h3⟩ := A3.ob
 obtain ⟨n1, n2⟩ := List.nodup_cons.mp A3.nd
 obtain ⟨n3, n4⟩ := List.nodup_cons.mp n2
 have hle : hl ≠ el := fun z => n1 (by rw [z]; simp)
 have keep : ∀ a o, H2 a = some o -> a ≠ el -> a ≠ hl -> H5 a = some o := fun a o e y1 y2 => by
   obtain ⟨z1, z2⟩ := tr a o e
   rw [e5, zQv y2, zQv z2, zQv z1, zQv y1]
   exact e
 have nh : p ≠ hl := (A3.np_ (by simp)).symm
 have ne : p ≠ el := (A3.np_ (by simp)).symm
 have qhl : q ≠ hl := fun z => (tr _ _ A3.hd).2 z.symm
 have qel : q ≠ el := fun z => (tr _ _ A3.er).2 z.symm
 have qrl : q ∉ rl := fun m => by
   obtain ⟨o, e⟩ := A3.tr (b := q) (by simp [m])
   exact (tr _ _ e).2 rfl
 have bl : b.toNat < rl.length := by
   rw [A3.rw.ln, W.rl]
   have := hb.1
   have := hb.2
   omega
 have q5 : H5 q = some (.lst (List.replicate S1.np v)) := by rw [e5, zQv qhl, zQz]
 have rk : RowsAt H5 rl S1.rows := A3.rw.keep fun a m o e => keep a o e (fun z => n3 (by rw [<- z]; exact m)) (fun z => n1 (by rw [<- z]; simp [m]))
 refine ⟨⟨⟨dx, keep _ _ h3 ne nh⟩, ?_, ?_, rk.swap bl q5, ?_, ?_⟩, fun a o e n => ?_, fun a m => ?_⟩
 . rw [e5, zQz, List.map_set]
 . have z := tr _ _ A3.er
   rw [e5, zQv (Ne.symm hle), zQv z.2, zQv z.1, zQz, List.map_set]
 . refine List.nodup_cons.mpr ⟨fun m => ?_, List.nodup_cons.mpr ⟨fun m => ?_, nodup_set n4 qrl _⟩⟩
   . rcases List.mem_cons.mp m with z | m
     . exact hle z
     . rcases List.mem_or_eq_of_mem_set m with z | z
       . exact n1 (by simp [z])
       . exact qhl z.symm
   . rcases List.mem_or_eq_of_mem_set m with z | z
     . exact n3 z
     . exact qel z.symm
 . have w1 := W.setRow (i := b.toNat) (r := List.replicate S1.np v) List.length_replicate (List.all_eq_true.mpr fun x m => by rw [(List.mem_replicate.mp m).2]; exact hv)
   exact ⟨w1.b1, w1.b2, w1.p1, w1.p2, w1.rl, w1.rp, by rw [List.length_set]; exact w1.wl, w1.lf⟩
 . have n' : ∀ c, a = c -> c ∈ fpC p hl el rl -> False := fun c z m => n (by rw [z]; exact m)
   exact keep a o (s1 a o e n) (fun z => n' el z (by simp)) (fun z => n' hl z (by simp))
 . rcases List.mem_cons.mp m with z | m
   . exact .inl (by simp [z])
   rcases List.mem_cons.mp m with z | m
   . exact .inl (by simp [z])
   rcases List.mem_cons.mp m with z | m
   . exact .inl (by simp [z])
   rcases List.mem_or_eq_of_mem_set m with z | z
   . exact .inl (by simp [z])
   . by_cases y : a ∈ fpC p hl el rl
     . exact .inl y
     . refine .inr ?_
       cases e : H a with
       | none => rfl
       | some o =>
         have := (tr a o (s1 a o e y)).2
         exact absurd z this
theorem ok_erase {f : Addr} {fd : FuncData} (F : Fun K "erase" "Chip.erase" sErase f fd) (T : Txt K mg C cBS cNP cNE cNS cBC cCu cWE)
   (M_check_block : MtB P w K mg base C 51 "check_block" ["self", "block"] (spCB C cNP)) (M_draw_power : MtB P w K mg base C 51 "draw_power" ["self"] (spDraw C cCu)) :
   FnOk P w K mg base (CXw P w) 52 f fd ["self", "block"] (spErase C (clsOf cBS cNP cNE cCu)) := by
 refine F.okX (by decide) scEr (fun vs H Q E h => ?_) (fun cdv A outer s H vs Q E hr h => ?_)
 . obtain ⟨p, b, S, hl, el, rl, rfl, _⟩ := h
   rfl
 . obtain ⟨p, b, S, hl, el, rl, rfl, A1, h⟩ := h
   obtain ⟨dx, h1⟩ := A1.ob
   refine ⟨_, (@zQj _ _ _ _ _ (@zJv _ _ _ _ (@zWj _ _ _ _ _ _ _ _ _ _ _ _ _ _ _ T.cl M_check_block (hr.mono (by decide)) zWz (pv 0) (@zQw _ _ _ _ _ (pv 1) zQk (by exact zQq rfl)) (by exact zQq rfl) (by exact zQx rfl) (by rfl)) (by rfl)) (@zQj _ _ _ _ _ (@zJw _ _ (2) _ _ _ _ scEr.nd rfl (Or.inl rfl) (@zZj _ _ _ _ _ _ _ _ _ _ _ _ T.cl M_draw_power (hr.mono (by decide)) zWz (pv 0) (by rfl)) (by rfl) (by first | exact .inl rfl | exact .inr rfl | assumption)) (@zQj _ _ _ _ _ (@ps_asg _ _ _ _ _ _ (@zZx _ _ _ _ _ _ _ _ (@yJw _) (@zJz _ _ _ _ _ _ _ (@zKz _) (@zZq _ _ _ _ _ (pv 0) rfl) (pv 1) (fun _ _ => rfl)) zWx) (@pg_sub _ _ _ _ _ _ _ (@zZq _ _ _ _ _ (pv 0) rfl) (pv 1) (@xWz _) (by intro _; rfl)) (by rfl) (by rfl) (by rfl)) (@zQj _ _ _ _ _ (@ps_asg _ _ _ _ _ _ (@zZx _ _ _ _ _ _ _ _ (@op_rep _) (@yWq _ _ _ _ (@zQw _ _ _ _ _ (@xKw _ _ _ _ _ _ _ _ (@yZv _ _ _ (pv 2) (by intro _; rfl)) (@pe_non _ _ _) (pe_gl rfl T.g_TO)) zQk (by exact zQq rfl))) (@zZq _ _ _ _ _ (pv 0) rfl)) (@pg_sub _ _ _ _ _ _ _ (@zZq _ _ _ _ _ (pv 0) rfl) (pv 1) (@xWz _) (by intro _; rfl)) (by rfl) (by rfl) (by rfl)) (@zWq _ _ _ (@yQz _ _ _ _ _ _ _ _ (@yJq _ _ _ _ (@yZv _ _ _ (pv 2) (by intro _; rfl))) (@zWq _ _ _ (@yQx _ _ _ _ _ _ _ _ _ _ yQw T.x_Cut rfl rfl T.g_Cut (@zQw _ _ _ _ _ (@zKw _ _ _ _) zQk (by exact zQq rfl)) (by decide) (by exact zQq rfl) (by exact zQx rfl))) (@zZw _))))))), ?_⟩
   refine ⟨_, rfl, p, dx, _, rfl, h1, rfl, _, rfl, p, b, S, hl, el, rl, rfl, A1, ?_⟩
   by_cases hb : S.okB b
   rotate_left
   . rw [if_neg hb]
     have e : S.erase b = (some .np, S) := by unfold CS.erase; rw [if_pos hb]
     rw [e] at h
     exact h H rl A1 Did.refl
   rw [if_pos hb]
   refine ⟨_, rfl, p, dx, _, rfl, h1, rfl, p, S, hl, el, rl, rfl, A1, ?_⟩
   cases hd : S.draw with
   | none =>
     have e : S.erase b = (some .cut, S) := by unfold CS.erase; rw [if_neg (fun z => z hb), hd]
     rw [e] at h
     exact h H rl A1 Did.refl
   | some q =>
     obtain ⟨l, S1⟩ := q
     obtain ⟨d1, d2, d3, d4, d5⟩ := draw_eq hd
     intro H2 A3 s2
     have e : S.erase b = (if l then none else some .cut, { S1 with worn := S1.worn.set b.toNat (S1.worn.getD b.toNat 0 + 1), rows := S1.rows.set b.toNat (List.replicate S1.np (if l then V.non else torn)) }) := by
       unfold CS.erase; rw [if_neg (fun z => z hb), hd]
     rw [e] at h
     obtain ⟨dx3, h3⟩ := A3.ob
     have W := A3.wf
     have hb1 : S1.okB b := ⟨hb.1, by rw [d1]; exact hb.2⟩
     have wl : b < (S1.worn.map V.int).length := by rw [List.length_map, W.wl]; exact hb1.2
     have rll : b < (rl.map V.ref).length := by rw [List.length_map, A3.rw.ln, W.rl]; exact hb1.2
     refine ⟨_, rfl, p, C, dx3, _, _, rfl, h3, T.cl, T.aE, rfl, _, rfl, el, _, b, _, rfl, rfl, SqL.of A3.er, yKq hb.1 (by rw [List.getElem?_map, W.worn_at hb1]; rfl), _, _, rfl, rfl, _, rfl, p, C, dx3, _, _, rfl, h3, T.cl, T.aE, rfl, _, rfl, el, _, b, _, rfl, rfl, A3.er, ixN_of hb.1 wl, ?_⟩
     have pel : p ≠ el := (A3.np_ (by simp)).symm
     have phl : p ≠ hl := (A3.np_ (by simp)).symm
     have hle : hl ≠ el := fun z => (List.nodup_cons.mp A3.nd).1 (by rw [z]; simp)
     refine ⟨_, rfl, _, rfl, ?_⟩
     have two : ∀ v : V, v = (if l then V.non else torn) -> (1 : Nat) <= sizeLine /\ ∀ l1, upd H2 el (.lst ((S1.worn.map V.int).set b.toNat (.int (S1.worn.getD b.toNat 0 + 1)))) l1 = none ->
         tFld K (tVar 0) "pages" [some (.ref p), some (.int b), some (.bl l)] (upd (upd H2 el (.lst ((S1.worn.map V.int).set b.toNat (.int (S1.worn.getD b.toNat 0 + 1))))) l1 (.lst [v])) fun y H4 => rRep (.ref l1) y H4 fun z H6 =>
           gSub (tFld K (tVar 0) "held") (tVar 1) rSetL z [some (.ref p), some (.int b), some (.bl l)] H6 (fun σ H3 => ∃ y, σ[2]? = some (some y) /\ ∃ c, y = .bl c /\ if (!c) = true then (1 : Nat) <= sizeLine /\ (∀ x, E (.ref cCu) (some x) H3) else Q .non H3) := by
       intro v ev
       refine ⟨by decide, fun l1 nl => ?_⟩
       have pl : p ≠ l1 := fun z => by
         rw [<- z, zQv pel, h3] at nl
         cases nl
       refine ⟨_, rfl, p, C, dx3, _, _, rfl, by rw [zQv pl, zQv pel]; exact h3, T.cl, T.aP, rfl, l1, (S1.np : Int), [v], rfl, rfl, zQz, by omega, by have := W.p2; omega, ?_, fun q nq => ?_⟩
       . show 1 * (S1.np : Int).toNat <= sizeLine
         have := W.p2
         exact Nat.le_of_lt (small1000 (by omega))
       rw [rep_one, Int.toNat_natCast]
       have pq : p ≠ q := fun z => by
         rw [<- z, zQv pl, zQv pel, h3] at nq
         cases nq
       have hll : hl ≠ l1 := fun z => by
         rw [<- z, zQv hle, A3.hd] at nl
         cases nl
       have hlq : hl ≠ q := fun z => by
         rw [<- z, zQv hll, zQv hle, A3.hd] at nq
         cases nq
       refine ⟨_, rfl, p, C, dx3, _, _, rfl, by rw [zQv pq, zQv pl, zQv pel]; exact h3, T.cl, T.aH, rfl, _, rfl, hl, _, b, _, rfl, rfl, by rw [zQv hlq, zQv hll, zQv hle]; exact A3.hd, ixN_of hb.1 rll, _, rfl, _, rfl, ?_⟩
       have pv : plainV v = true := by rw [ev]; cases l <;> rfl
       obtain ⟨A5, D5⟩ := erased_at (S := S) (H1 := H) (dx := dx3) A3 pv hb1 (fun c o z n => s2 c o z (by intro m; exact n (by simp at m; simp [m]))) nl nq _ rfl
       rw [<- ev] at h
       have q := h _ _ A5 D5
       cases l with
       | true => exact iteF q
       | false => exact iteT ⟨by decide, q⟩
     cases l with
     | true => exact iteT (two _ rfl)
     | false => exact iteF (two _ rfl)
end
inductive PgV (H : Hp) : V -> Pg -> Prop
 | er : PgV H .non .er
 | torn : PgV H torn .torn
 | wh {a : Addr} {s : Nat} {c n : Int} (e : H a = some (.tup [.int s, .int c, .int n])) : PgV H (.ref a) (.wh s c n)
def Tups (H H' : Hp) : Prop := ∀ a xs, H a = some (.tup xs) -> H' a = some (.tup xs)
theorem Tups.of {H H' : Hp} (h : Same H H') : Tups H H' := fun a xs e => h a _ e
theorem PgV.keep {H H' : Hp} {v : V} {g : Pg} (h : PgV H v g) (k : Tups H H') : PgV H' v g := by
 cases h with
 | er => exact .er
 | torn => exact .torn
 | wh e => exact .wh (k _ _ e)
structure AbsG (H : Hp) (S : CS) (G : GS) : Prop where
 nb : S.nb = G.nb
 np : S.np = G.np
 many : S.many = G.many
 left : S.left = G.left
 dark : S.dark = G.dark
 worn : ∀ b, b < G.nb -> S.worn[b]? = some (G.worn b)
 pg : ∀ b i, b < G.nb -> i < G.np -> ∃ r v, S.rows[b]? = some r /\ r[i]? = some v /\ PgV H v (G.pg b i)
theorem AbsG.keep {H H' : Hp} {S : CS} {G : GS} (A : AbsG H S G) (k : Tups H H') : AbsG H' S G :=
 ⟨A.nb, A.np, A.many, A.left, A.dark, A.worn, fun b i hb hi => let ⟨r, v, e1, e2, q⟩ := A.pg b i hb hi; ⟨r, v, e1, e2, q.keep k⟩⟩
def ChipX (C : Addr) (H : Hp) (p : Addr) (G : GS) (fp : List Addr) : Prop := ∃ hl el rl S, fp = fpC p hl el rl /\ ChipAt C H p S hl el rl /\ AbsG H S G
theorem ChipX.mem {C : Addr} {H : Hp} {p : Addr} {G : GS} {fp : List Addr} (A : ChipX C H p G fp) {b : Addr} (m : b ∈ fp) : (∃ xs, H b = some (.lst xs)) \/ b = p := by
 obtain ⟨hl, el, rl, S, rfl, A, _⟩ := A
 rcases List.mem_cons.mp m with z | m
 . exact .inr z
 rcases List.mem_cons.mp m with z | m
 . exact .inl ⟨_, by rw [z]; exact A.hd⟩
 rcases List.mem_cons.mp m with z | m
 . exact .inl ⟨_, by rw [z]; exact A.er⟩
 obtain ⟨i, hi, e⟩ := List.mem_iff_getElem.mp m
 obtain ⟨r, _, h⟩ := A.rw.at_ i b (by rw [<- e]; simp [hi])
 exact .inl ⟨r, h⟩
theorem ChipX.at_ {C : Addr} {H : Hp} {p : Addr} {G : GS} {fp : List Addr} (A : ChipX C H p G fp) : ∃ dx S hl el, H p = some (.ins C dx (chipF S hl el)) := by
 obtain ⟨hl, el, rl, S, rfl, A, _⟩ := A
 obtain ⟨dx, e⟩ := A.ob
 exact ⟨dx, S, hl, el, e⟩
theorem ChipX.pin {C : Addr} {H : Hp} {p : Addr} {G : GS} {fp : List Addr} (A : ChipX C H p G fp) : p ∈ fp := by
 obtain ⟨hl, el, rl, S, rfl, A, _⟩ := A
 simp
theorem ChipX.tr {C : Addr} {H : Hp} {p : Addr} {G : GS} {fp : List Addr} (A : ChipX C H p G fp) {b : Addr} (m : b ∈ fp) : ∃ o, H b = some o := by
 rcases A.mem m with ⟨xs, e⟩ | z
 . exact ⟨_, e⟩
 . obtain ⟨dx, S, hl, el, e⟩ := A.at_; exact ⟨_, by rw [z]; exact e⟩
theorem ChipX.noTup {C : Addr} {H : Hp} {p : Addr} {G : GS} {fp : List Addr} (A : ChipX C H p G fp) {a : Addr} {xs : List V} (e : H a = some (.tup xs)) : a ∉ fp := fun m => by
 rcases A.mem m with ⟨ys, z⟩ | z
 . rw [e] at z; cases z
 . obtain ⟨dx, S, hl, el, z'⟩ := A.at_
   rw [z, z'] at e; cases e
theorem ChipX.noIns {C C' dx : Addr} {H : Hp} {p : Addr} {G : GS} {fp : List Addr} {fs : List (Str × V)} (A : ChipX C H p G fp) {a : Addr} (e : H a = some (.ins C' dx fs)) (n : a ≠ p) : a ∉ fp := fun m => by
 rcases A.mem m with ⟨ys, z⟩ | z
 . rw [e] at z; cases z
 . exact n z
theorem ChipX.keep {C : Addr} {H H' : Hp} {p : Addr} {G : GS} {fp : List Addr} (A : ChipX C H p G fp) (k : ∀ b ∈ fp, ∀ o, H b = some o -> H' b = some o) (kt : Tups H H') : ChipX C H' p G fp := by
 obtain ⟨hl, el, rl, S, rfl, A, B⟩ := A
 exact ⟨hl, el, rl, S, rfl, A.keep k, B.keep kt⟩
theorem ChipX.same {C : Addr} {H H' : Hp} {p : Addr} {G : GS} {fp : List Addr} (A : ChipX C H p G fp) (k : Same H H') : ChipX C H' p G fp := A.keep (fun b _ o e => k b o e) (.of k)
theorem ChipX.but {C : Addr} {H H' : Hp} {p : Addr} {G : GS} {fp fp' : List Addr} (A : ChipX C H p G fp) (k : SameBut fp' H H') (d : ∀ b ∈ fp', b ∉ fp) (kt : Tups H H') : ChipX C H' p G fp := A.keep (fun b m o e => k b o e fun z => d b z m) kt
theorem ChipX.tups {C : Addr} {H H' : Hp} {p : Addr} {G : GS} {fp : List Addr} (A : ChipX C H p G fp) (k : SameBut fp H H') : Tups H H' := fun a xs e => k a _ e (A.noTup e)
theorem ChipX.lim {C : Addr} {H : Hp} {p : Addr} {G : GS} {fp : List Addr} (A : ChipX C H p G fp) : 4 <= G.nb /\ G.nb <= 32 /\ 2 <= G.np /\ G.np <= 16 := by
 obtain ⟨hl, el, rl, S, rfl, A, B⟩ := A
 have := A.wf.b1
 have := A.wf.b2
 have := A.wf.p1
 have := A.wf.p2
 rw [B.nb] at *
 rw [B.np] at *
 exact ⟨by assumption, by assumption, by assumption, by assumption⟩
theorem draw_abs {H : Hp} {S : CS} {G : GS} (B : AbsG H S G) : (S.draw = none /\ G.draw = none) \/ ∃ l S1 G1, S.draw = some (l, S1) /\ G.draw = some (l, G1) /\ AbsG H S1 G1 /\ S1.rows = S.rows /\ S1.worn = S.worn /\ S1.np = S.np /\ G1.pg = G.pg /\ G1.nb = G.nb /\ G1.np = G.np /\ G1.worn = G.worn := by
 unfold CS.draw GS.draw
 rw [<- B.dark, <- B.left]
 cases S.dark with
 | true => exact .inl ⟨rfl, rfl⟩
 | false =>
   refine .inr ?_
   cases e : S.left with
   | none => exact ⟨_, _, _, rfl, rfl, B, rfl, rfl, rfl, rfl, rfl, rfl, rfl⟩
   | some k =>
     show ∃ l S1 G1, (if k <= 0 then _ else _) = _ /\ (if k <= 0 then _ else _) = _ /\ _
     by_cases hk : k <= 0
     . rw [if_pos hk, if_pos hk]
       exact ⟨_, _, _, rfl, rfl, ⟨B.nb, B.np, B.many, rfl, rfl, B.worn, B.pg⟩, rfl, rfl, rfl, rfl, rfl, rfl, rfl⟩
     . rw [if_neg hk, if_neg hk]
       exact ⟨_, _, _, rfl, rfl, ⟨B.nb, B.np, B.many, rfl, rfl, B.worn, B.pg⟩, rfl, rfl, rfl, rfl, rfl, rfl, rfl⟩
@[irreducible] def xpSize (C : Addr) : Sp := spSize C
theorem xpSize_eq {C : Addr} : xpSize C = spSize C := by unfold xpSize; rfl
@[irreducible] def xpPage (C cNP : Addr) : Sp := spPage C cNP
theorem xpPage_eq {C cNP : Addr} : xpPage C cNP = spPage C cNP := by unfold xpPage; rfl
@[irreducible] def xpWritten (C : Addr) : Sp := spWritten C
theorem xpWritten_eq {C : Addr} : xpWritten C = spWritten C := by unfold xpWritten; rfl
@[irreducible] def xpWorn (C cNP : Addr) : Sp := spWorn C cNP
theorem xpWorn_eq {C cNP : Addr} : xpWorn C cNP = spWorn C cNP := by unfold xpWorn; rfl
@[irreducible] def xpPower (C : Addr) : Sp := spPower C
theorem xpPower_eq {C : Addr} : xpPower C = spPower C := by unfold xpPower; rfl
@[irreducible] def xpWrite (C : Addr) (cl : Ref -> Addr) : Sp := spWrite C cl
theorem xpWrite_eq {C : Addr} {cl : Ref -> Addr} : xpWrite C cl = spWrite C cl := by unfold xpWrite; rfl
@[irreducible] def xpErase (C : Addr) (cl : Ref -> Addr) : Sp := spErase C cl
theorem xpErase_eq {C : Addr} {cl : Ref -> Addr} : xpErase C cl = spErase C cl := by unfold xpErase; rfl
@[irreducible] def xpInit (C cBS : Addr) : Sp := spInit C cBS
theorem xpInit_eq {C cBS : Addr} : xpInit C cBS = spInit C cBS := by unfold xpInit; rfl
section
variable {C cBS cNP cNE cCu : Addr} {H : Hp} {p : Addr} {G : GS} {fp : List Addr} {Q : VK} {E : XK}
theorem yQq (A : ChipX C H p G fp) (q : ∀ t H', H' t = some (.tup [.int G.nb, .int G.np]) -> Same H H' -> Q (.ref t) H') : xpSize C [.ref p] H Q E := by
 unfold xpSize
 obtain ⟨hl, el, rl, S, rfl, A, B⟩ := A
 refine ⟨p, S, hl, el, rl, rfl, A, fun t ht => q t _ ?_ (zWw ht)⟩
 rw [<- B.nb, <- B.np]
 exact zQz
theorem xQj (A : ChipX C H p G fp) (q : Q (.int G.many) H) : xpWritten C [.ref p] H Q E := by
 unfold xpWritten
 obtain ⟨hl, el, rl, S, rfl, A, B⟩ := A
 rw [<- B.many] at q
 exact ⟨p, S, hl, el, rl, rfl, A, q⟩
theorem use_worn (A : ChipX C H p G fp) {b : Nat} (hb : b < G.nb) (q : Q (.int (G.worn b)) H) : xpWorn C cNP [.ref p, .int b] H Q E := by
 unfold xpWorn
 obtain ⟨hl, el, rl, S, rfl, A, B⟩ := A
 refine ⟨p, b, S, hl, el, rl, rfl, A, ?_⟩
 have := B.nb
 rw [if_pos ⟨by omega, by omega⟩, List.getD_eq_getElem?_getD, Int.toNat_natCast, B.worn b hb]
 exact q
theorem xJv (A : ChipX C H p G fp) {b i : Nat} (hb : b < G.nb) (hi : i < G.np) (q : ∀ v, PgV H v (G.pg b i) -> Q v H) : xpPage C cNP [.ref p, .int b, .int i] H Q E := by
 unfold xpPage
 obtain ⟨hl, el, rl, S, rfl, A, B⟩ := A
 refine ⟨p, b, i, S, hl, el, rl, rfl, A, ?_⟩
 have := B.nb
 have := B.np
 rw [if_pos ⟨⟨by omega, by omega⟩, by omega, by omega⟩]
 obtain ⟨r, v, e1, e2, pv⟩ := B.pg b i hb hi
 unfold CS.row
 rw [List.getD_eq_getElem?_getD (l := S.rows), Int.toNat_natCast, Int.toNat_natCast, e1, Option.getD_some, List.getD_eq_getElem?_getD, e2]
 exact q v pv
theorem use_pageS {S : CS} {hl el : Addr} {rl : List Addr} (A : ChipAt C H p S hl el rl) {b i : Nat} (h : S.okP b i) (q : Q ((S.row b).getD i .non) H) : xpPage C cNP [.ref p, .int b, .int i] H Q E := by
 unfold xpPage
 refine ⟨p, b, i, S, hl, el, rl, rfl, A, ?_⟩
 rw [if_pos h, Int.toNat_natCast]
 exact q
def GS.powered (G : GS) (l : Option Int) : GS := { G with left := l, dark := false }
theorem use_write (A : ChipX C H p G fp) {b i : Nat} {t : Addr} {s : Nat} {c n : Int} (hb : b < G.nb) (hi : i < G.np) (cl : G.Clear b i) (ht : H t = some (.tup [.int s, .int c, .int n]))
   (q1 : ∀ H', (G.put b i (.wh s c n)).1 = true -> ChipX C H' p (G.put b i (.wh s c n)).2 fp -> SameBut fp H H' -> Q .non H')
   (q2 : ∀ H' x, (G.put b i (.wh s c n)).1 = false -> ChipX C H' p (G.put b i (.wh s c n)).2 fp -> SameBut fp H H' -> E (.ref cCu) (some x) H') : xpWrite C (clsOf cBS cNP cNE cCu) [.ref p, .int b, .int i, .ref t] H Q E := by
 unfold xpWrite
 have A0 := A
 obtain ⟨hl, el, rl, S, rfl, A, B⟩ := A
 refine ⟨p, b, i, .ref t, S, hl, el, rl, rfl, rfl, A, fun H' A' k => ?_⟩
 have kt := A0.tups k
 have e1 := B.nb
 have e2 := B.np
 have okp : S.okP b i := ⟨⟨by omega, by omega⟩, by omega, by omega⟩
 obtain ⟨r0, v0, er0, ev0, _⟩ := B.pg b i hb hi
 have rw0 : S.row b = r0 := by
   unfold CS.row
   rw [List.getD_eq_getElem?_getD, Int.toNat_natCast, er0]
   rfl
 have r0l : r0.length = S.np := (A.wf.rp r0 (List.mem_of_getElem? er0)).1
 have clr : S.clear b i = true := by
   unfold CS.clear
   rw [rw0, Int.toNat_natCast, List.all_eq_true]
   intro v m
   obtain ⟨j, hj, ej⟩ := List.mem_iff_getElem.mp m
   rw [List.getElem_drop] at ej
   have hj' : i + j < S.np := by rw [List.length_drop] at hj; omega
   obtain ⟨r1, v1, er1, ev1, pv1⟩ := B.pg b (i + j) hb (by omega)
   rw [er0] at er1
   cases er1
   rw [cl (i + j) (by omega) (by omega)] at pv1
   have : v = v1 := by
     have := (List.getElem?_eq_some_iff.mp ev1).2
     rw [<- ej, <- this]
   rw [this]
   cases pv1
   rfl
 unfold CS.write at A' ⊢
 rw [if_neg (by simpa using okp), if_neg (by rw [clr]; decide)] at A' ⊢
 unfold GS.put at q1 q2
 rcases draw_abs B with ⟨d1, d2⟩ | ⟨l, S1, G1, d1, d2, B1, f1, f2, f3, f4, f5, f6, f7⟩
 . rw [d1] at A' ⊢
   rw [d2] at q1 q2
   exact fun x => q2 H' x rfl ⟨hl, el, rl, _, rfl, A', B.keep kt⟩ k
 . rw [d1] at A' ⊢
   rw [d2] at q1 q2
   dsimp only at A' q1 q2 ⊢
   have row1 : S1.row b = r0 := by
     unfold CS.row at rw0 ⊢
     rw [f1]; exact rw0
   have abs : AbsG H' { S1 with many := S1.many + 1, rows := S1.rows.set (b : Int).toNat ((S1.row b).set (i : Int).toNat (if l = true then V.ref t else torn)) } { G1 with many := G1.many + 1, pg := set2 G1.pg b i (if l = true then .wh s c n else .torn) } := by
     refine ⟨B1.nb, B1.np, by show S1.many + 1 = G1.many + 1; rw [B1.many], B1.left, B1.dark, B1.worn, fun b' i' hb' hi' => ?_⟩
     have hb'' : b' < G.nb := by rw [<- f5]; exact hb'
     have hi'' : i' < G.np := by rw [<- f6]; exact hi'
     obtain ⟨r2, v2, er2, ev2, pv2⟩ := B.pg b' i' hb'' hi''
     rw [row1, f1, Int.toNat_natCast, Int.toNat_natCast]
     show ∃ r v, (S.rows.set b (r0.set i _))[b']? = some r /\ r[i']? = some v /\ PgV H' v (set2 G1.pg b i _ b' i')
     unfold set2
     rw [f4]
     by_cases hbb : b' = b
     . subst hbb
       rw [er0] at er2
       cases er2
       have hlen : b' < S.rows.length := (List.getElem?_eq_some_iff.mp er0).1
       by_cases hii : i' = i
       . subst hii
         refine ⟨_, if l = true then V.ref t else torn, List.getElem?_set_self hlen, List.getElem?_set_self (by omega), ?_⟩
         rw [if_pos (show b' = b' /\ i' = i' from ⟨rfl, rfl⟩)]
         cases l with
         | true => exact .wh (kt _ _ ht)
         | false => exact .torn
       . refine ⟨_, v2, List.getElem?_set_self hlen, by rw [List.getElem?_set_ne (Ne.symm hii)]; exact ev2, ?_⟩
         rw [if_neg fun z => hii z.2]
         exact pv2.keep kt
     . refine ⟨r2, v2, by rw [List.getElem?_set_ne (Ne.symm hbb)]; exact er2, ev2, ?_⟩
       rw [if_neg fun z => hbb z.1]
       exact pv2.keep kt
   cases l with
   | true => exact q1 H' rfl ⟨hl, el, rl, _, rfl, A', abs⟩ k
   | false => exact fun x => q2 H' x rfl ⟨hl, el, rl, _, rfl, A', abs⟩ k
theorem use_erase (A : ChipX C H p G fp) {b : Nat} (hb : b < G.nb)
   (q1 : ∀ H' fp', (G.era b).1 = true -> ChipX C H' p (G.era b).2 fp' -> Did H H' fp fp' -> Q .non H')
   (q2 : ∀ H' fp' x, (G.era b).1 = false -> ChipX C H' p (G.era b).2 fp' -> Did H H' fp fp' -> E (.ref cCu) (some x) H') : xpErase C (clsOf cBS cNP cNE cCu) [.ref p, .int b] H Q E := by
 unfold xpErase
 have A0 := A
 obtain ⟨hl, el, rl, S, rfl, A, B⟩ := A
 refine ⟨p, b, S, hl, el, rl, rfl, A, fun H' rl' A' k => ?_⟩
 have kt := A0.tups k.keep
 have e1 := B.nb
 have e2 := B.np
 have okb : S.okB b := ⟨by omega, by omega⟩
 unfold CS.erase at A' ⊢
 rw [if_neg (by simpa using okb)] at A' ⊢
 unfold GS.era at q1 q2
 rcases draw_abs B with ⟨d1, d2⟩ | ⟨l, S1, G1, d1, d2, B1, f1, f2, f3, f4, f5, f6, f7⟩
 . rw [d1] at A' ⊢
   rw [d2] at q1 q2
   exact fun x => q2 H' _ x rfl ⟨hl, el, rl', _, rfl, A', B.keep kt⟩ k
 . rw [d1] at A' ⊢
   rw [d2] at q1 q2
   dsimp only at A' q1 q2 ⊢
   have hlen : b < S.rows.length := by rw [A.wf.rl]; omega
   have wlen : b < S.worn.length := by rw [A.wf.wl]; omega
   have abs : AbsG H' { S1 with worn := S1.worn.set (b : Int).toNat (S1.worn.getD (b : Int).toNat 0 + 1), rows := S1.rows.set (b : Int).toNat (List.replicate S1.np (if l = true then V.non else torn)) } { G1 with worn := set1 G1.worn b (G1.worn b + 1), pg := setB G1.pg b (if l = true then .er else .torn) } := by
     refine ⟨B1.nb, B1.np, B1.many, B1.left, B1.dark, fun b' hb' => ?_, fun b' i' hb' hi' => ?_⟩
     . have hb'' : b' < G.nb := by rw [<- f5]; exact hb'
       show (S1.worn.set (b : Int).toNat (S1.worn.getD (b : Int).toNat 0 + 1))[b']? = some (set1 G1.worn b (G1.worn b + 1) b')
       rw [Int.toNat_natCast, f2, f7]
       unfold set1
       by_cases hbb : b' = b
       . subst hbb
         rw [List.getElem?_set_self wlen, if_pos rfl, List.getD_eq_getElem?_getD, B.worn b' hb'']
         rfl
       . rw [List.getElem?_set_ne (Ne.symm hbb), if_neg hbb]
         exact B.worn b' hb''
     . have hb'' : b' < G.nb := by rw [<- f5]; exact hb'
       have hi'' : i' < G.np := by rw [<- f6]; exact hi'
       obtain ⟨r2, v2, er2, ev2, pv2⟩ := B.pg b' i' hb'' hi''
       show ∃ r v, (S1.rows.set (b : Int).toNat _)[b']? = some r /\ r[i']? = some v /\ PgV H' v (setB G1.pg b _ b' i')
       rw [Int.toNat_natCast, f1, f3]
       unfold setB
       by_cases hbb : b' = b
       . subst hbb
         refine ⟨_, if l = true then V.non else torn, List.getElem?_set_self hlen, by rw [List.getElem?_replicate, if_pos (by omega)], ?_⟩
         rw [if_pos rfl]
         cases l with
         | true => exact .er
         | false => exact .torn
       . refine ⟨r2, v2, by rw [List.getElem?_set_ne (Ne.symm hbb)]; exact er2, ev2, ?_⟩
         rw [if_neg hbb, f4]
         exact pv2.keep kt
   cases l with
   | true => exact q1 H' _ rfl ⟨hl, el, rl', _, rfl, A', abs⟩ k
   | false => exact fun x => q2 H' _ x rfl ⟨hl, el, rl', _, rfl, A', abs⟩ k
def GS.fresh (nb np : Nat) : GS := { nb := nb, np := np, pg := fun _ _ => .er, worn := fun _ => 0, many := 0, left := none, dark := false }
theorem use_init {dx : Addr} {nb np : Nat} (h : H p = some (.ins C dx [])) (h1 : 4 <= nb) (h2 : nb <= 32) (h3 : 2 <= np) (h4 : np <= 16) (q : ∀ H' fp', ChipX C H' p (GS.fresh nb np) fp' -> Did H H' [p] fp' -> Q .non H') : xpInit C cBS [.ref p, .int nb, .int np] H Q E := by
 unfold xpInit
 refine ⟨p, dx, nb, np, rfl, h, ?_⟩
 rw [if_pos ⟨by omega, by omega, by omega, by omega⟩]
 intro H' hl el rl A k
 refine q H' _ ⟨hl, el, rl, _, rfl, A, ?_⟩ k
 rw [Int.toNat_natCast, Int.toNat_natCast]
 refine ⟨rfl, rfl, rfl, rfl, rfl, fun b hb => ?_, fun b i hb hi => ⟨List.replicate np .non, .non, ?_, ?_, .er⟩⟩
 . show (List.replicate nb (0 : Int))[b]? = _
   rw [List.getElem?_replicate, if_pos (show b < nb from hb)]
   rfl
 . show (List.replicate nb (List.replicate np V.non))[b]? = _
   rw [List.getElem?_replicate, if_pos (show b < nb from hb)]
 . rw [List.getElem?_replicate, if_pos (show i < np from hi)]
end
def CompP (H1 : Hp) (acc : Addr) (xs : List V) (p : V -> Bool) (g : V -> V) (i m : Nat) (ys : List V) (H2 : Hp) : Prop := m = xs.length - i /\ i <= xs.length /\ ys = ((xs.take i).filter p).map g /\ H2 = upd H1 acc (.lst ys)
theorem xZw {J : It} {H1 : Hp} {acc : Addr} {tt : TT} {te : TE} {Q : VK} {σc : St} (xs : List V) (hn : xs.length < 1000) (p : V -> Bool) (g : V -> V) (nacc : H1 acc = none)
   (stop : ∀ H2, Same H1 H2 -> J.stop xs.length H2) (go : ∀ i H2, i < xs.length -> Same H1 H2 -> J.go i H2) (yld : ∀ i x H2 H3, i < xs.length -> Same H1 H2 -> J.yld i H2 x H3 -> H3 = H2 /\ xs[i]? = some x)
   (test : ∀ (i : Nat) x H2 (R : Bool -> Hp -> Prop), xs[i]? = some x -> Same H1 H2 -> R (p x) H2 -> tt (some x :: σc) H2 R)
   (elt : ∀ (i : Nat) x H2 (R : V -> Hp -> Prop), xs[i]? = some x -> p x = true -> Same H1 H2 -> R (g x) H2 -> te (some x :: σc) H2 R)
   (fin : Q (.ref acc) (upd H1 acc (.lst ((xs.filter p).map g)))) :
   ∃ W : Nat -> Nat -> List V -> Hp -> Prop, (∃ m, W 0 m [] (upd H1 acc (.lst []))) /\
     ∀ i m ys H2, W i m ys H2 -> (J.stop i H2 /\ Q (.ref acc) H2) \/ (J.go i H2 /\ ∀ x H3, J.yld i H2 x H3 -> tt (some x :: σc) H3 fun b H4 =>
       if b = true then te (some x :: σc) H4 fun y H5 => H5 acc = some (.lst ys) /\ ys.length < sizeLine /\ ∃ m', m' < m /\ W (i + 1) m' (ys ++ [y]) (upd H5 acc (.lst (ys ++ [y])))
       else ∃ m', m' < m /\ W (i + 1) m' ys H4) := by
 refine ⟨CompP H1 acc xs p g, ⟨xs.length, by simp, Nat.zero_le _, rfl, rfl⟩, ?_⟩
 rintro i m ys H2 ⟨rfl, hi, hys, hH⟩
 have s2 : Same H1 H2 := by rw [hH]; exact zWw nacc
 by_cases hlt : i < xs.length
 . refine .inr ⟨go i H2 hlt s2, fun x H3 y => ?_⟩
   obtain ⟨rfl, ex⟩ := yld i x H2 H3 hlt s2 y
   have tk : xs.take (i + 1) = xs.take i ++ [x] := by rw [List.take_add_one, ex]; rfl
   refine test i x H3 _ ex s2 ?_
   cases hp : p x with
   | false =>
     refine iteF ⟨xs.length - (i + 1), by omega, rfl, hlt, ?_, hH⟩
     rw [hys, tk, List.filter_append]
     simp [hp]
   | true =>
     have hl : ys.length <= xs.length := by
       rw [hys, List.length_map]
       exact Nat.le_trans (List.length_filter_le _ _) (by rw [List.length_take]; omega)
     refine iteT (elt i x H3 _ ex hp s2 ⟨by rw [hH]; exact zQz, small1000 (by omega), xs.length - (i + 1), by omega, rfl, hlt, ?_, ?_⟩)
     . rw [hys, tk, List.filter_append]
       simp [hp]
     . rw [hH, yKw]
 . have e : i = xs.length := by omega
   subst e
   rw [List.take_length] at hys
   refine .inl ⟨stop H2 s2, ?_⟩
   rw [hH, hys]
   exact fin
theorem comp_pure_range {ta : TA} {ci : List Nat} {tt : TT} {te : TE} {σ : St} {H : Hp} {Q : VK} (n : Nat) (hn : n < 1000) (hta : ∀ R : List V -> Hp -> Prop, R [.int n] H -> ta σ H R) (p : V -> Bool) (g : V -> V)
   (test : ∀ (i : Nat) H2 (R : Bool -> Hp -> Prop), i < n -> Same H H2 -> R (p (.int i)) H2 -> tt (some (.int i) :: capt ci σ) H2 R)
   (elt : ∀ (i : Nat) H2 (R : V -> Hp -> Prop), i < n -> p (.int i) = true -> Same H H2 -> R (g (.int i)) H2 -> te (some (.int i) :: capt ci σ) H2 R)
   (fin : ∀ acc, H acc = none -> Q (.ref acc) (upd H acc (.lst ((((List.range n).map fun i : Nat => V.int i).filter p).map g)))) : tComp (iRng1 ta) ci tt te σ H Q := by
 unfold tComp
 have len : ((List.range n).map fun i : Nat => V.int (i : Int)).length = n := by simp
 have get : ∀ {i : Nat} {x : V}, ((List.range n).map fun i : Nat => V.int (i : Int))[i]? = some x -> i < n /\ x = .int i := fun {i x} e => by
   have hi := (List.getElem?_eq_some_iff.mp e).1
   rw [len] at hi
   rw [List.getElem?_map, List.getElem?_range hi] at e
   exact ⟨hi, (Option.some.inj e).symm⟩
 refine hta _ ⟨n, rfl, by omega, by omega, fun acc nacc => ?_⟩
 refine xZw (Q := Q) (J := Itr 0 (n : Int).toNat) (σc := capt ci σ) _ (by rw [len]; exact hn) p g nacc (fun _ _ => by show (n : Int).toNat <= _; rw [len]; omega) (fun i _ h _ => by show i < (n : Int).toNat; rw [len] at h; omega) (fun i x H2 H3 hi s2 y => ?_) (fun i x H2 R e s2 r => ?_) (fun i x H2 R e hp s2 r => ?_) (fin acc nacc)
 . obtain ⟨e, y⟩ := y
   rw [len] at hi
   refine ⟨e, ?_⟩
   rw [y, List.getElem?_map, List.getElem?_range hi, Int.zero_add]
   rfl
 . obtain ⟨hi, rfl⟩ := get e
   exact test i H2 R hi s2 r
 . obtain ⟨hi, rfl⟩ := get e
   exact elt i H2 R hi hp s2 r
theorem wWj {K : PySem.W.Frag} {eh : Addr} {cls : Value} {tl : TE} {ci : List Nat} {tt : TT} {te : TE} {σ : St} {H H0 : Hp} {Q : VK} (a : Addr) (xs : List V) (hn : xs.length < 1000) (hs : SqL K H a xs) (htl : ∀ R : V -> Hp -> Prop, R (.ref a) H -> tl σ H0 R) (p : V -> Bool) (g : V -> V) (he : H eh = some (excO eh cls))
   (test : ∀ (i : Nat) x H2 (R : Bool -> Hp -> Prop), xs[i]? = some x -> Same H H2 -> R (p x) H2 -> tt (some x :: capt ci σ) H2 R)
   (elt : ∀ (i : Nat) x H2 (R : V -> Hp -> Prop), xs[i]? = some x -> p x = true -> Same H H2 -> R (g x) H2 -> te (some x :: capt ci σ) H2 R)
   (fin : ∀ acc, H acc = none -> Q (.ref acc) (upd H acc (.lst ((xs.filter p).map g)))) : tCompH eh cls (iList K tl) ci tt te σ H0 Q := by
 unfold tCompH
 refine htl _ ⟨a, rfl, ⟨_, hs⟩, fun acc nacc => ?_⟩
 refine xZw (Q := fun v H2 => H2 eh = some (excO eh cls) /\ Q v H2) (J := Itl K a) (σc := capt ci σ) xs hn p g nacc (fun _ s => ⟨xs, s.seq hs, Nat.le_refl _⟩) (fun i _ h s => ⟨xs, xs[i], s.seq hs, by simp [h]⟩) (fun i x H2 H3 hi s2 y => ?_) test elt ⟨zWw nacc _ _ he, fin acc nacc⟩
 obtain ⟨e, y⟩ := y
 exact ⟨e, y xs (s2.seq hs)⟩
theorem iteD {c A B : Prop} [Decidable c] (h : c) (a : A) : if decide c = true then A else B := by rw [decide_eq_true h]; exact iteT a
theorem iteDn {c A B : Prop} [Decidable c] (h : ¬ c) (b : B) : if decide c = true then A else B := by rw [decide_eq_false h]; exact iteF b
theorem iteN {c A B : Prop} [Decidable c] (h : c) (b : B) : if (!decide c) = true then A else B := by rw [decide_eq_true h]; exact iteF b
theorem at0 {α : Type} {a : α} {l : List α} : atI (a :: l) 0 = some a := yKq (i := 0) (by decide) rfl
theorem at1 {α : Type} {a b : α} {l : List α} : atI (a :: b :: l) 1 = some b := yKq (i := 1) (by decide) rfl
theorem at2 {α : Type} {a b c : α} {l : List α} : atI (a :: b :: c :: l) 2 = some c := yKq (i := 2) (by decide) rfl
theorem zJk {ta : TA} {ci : List Nat} {tt : TT} {te : TE} {σ : St} {H : Hp} {Q : VK} (n : Nat) (hn : n < 1000) (hta : ∀ R : List V -> Hp -> Prop, (∀ H1, Same H H1 -> R [.int n] H1) -> ta σ H R) (p : V -> Bool) (g : V -> V)
   (test : ∀ (i : Nat) H2 (R : Bool -> Hp -> Prop), i < n -> Same H H2 -> R (p (.int i)) H2 -> tt (some (.int i) :: capt ci σ) H2 R)
   (elt : ∀ (i : Nat) H2 (R : V -> Hp -> Prop), i < n -> p (.int i) = true -> Same H H2 -> R (g (.int i)) H2 -> te (some (.int i) :: capt ci σ) H2 R)
   (fin : ∀ acc H2, H2 acc = some (.lst ((((List.range n).map fun i : Nat => V.int i).filter p).map g)) -> Same H H2 -> H acc = none -> Q (.ref acc) H2) : tComp (iRng1 ta) ci tt te σ H Q := by
 unfold tComp
 have len : ((List.range n).map fun i : Nat => V.int (i : Int)).length = n := by simp
 have get : ∀ {i : Nat} {x : V}, ((List.range n).map fun i : Nat => V.int (i : Int))[i]? = some x -> i < n /\ x = .int i := fun {i x} e => by
   have hi := (List.getElem?_eq_some_iff.mp e).1
   rw [len] at hi
   rw [List.getElem?_map, List.getElem?_range hi] at e
   exact ⟨hi, (Option.some.inj e).symm⟩
 refine hta _ fun H1 s1 => ⟨n, rfl, by omega, by omega, fun acc nacc => ?_⟩
 refine xZw (Q := Q) (J := Itr 0 (n : Int).toNat) (σc := capt ci σ) _ (by rw [len]; exact hn) p g nacc (fun _ _ => by show (n : Int).toNat <= _; rw [len]; omega) (fun i _ h _ => by show i < (n : Int).toNat; rw [len] at h; omega) (fun i x H2 H3 hi s2 y => ?_) (fun i x H2 R e s2 r => ?_) (fun i x H2 R e hp s2 r => ?_) (fin acc _ zQz (s1.trans (zWw nacc)) (s1.free nacc))
 . obtain ⟨e, y⟩ := y
   rw [len] at hi
   refine ⟨e, ?_⟩
   rw [y, List.getElem?_map, List.getElem?_range hi, Int.zero_add]
   rfl
 . obtain ⟨hi, rfl⟩ := get e
   exact test i H2 R hi (s1.trans s2) r
 . obtain ⟨hi, rfl⟩ := get e
   exact elt i H2 R hi hp (s1.trans s2) r
theorem yZj {K : PySem.W.Frag} {tl : TE} {ci : List Nat} {tt : TT} {te : TE} {σ : St} {H : Hp} {Q : VK} (Wx : Addr -> Hp -> Prop) (htl : ∀ R : V -> Hp -> Prop, (∀ a H1, Wx a H1 -> R (.ref a) H1) -> tl σ H R)
   (main : ∀ a H1, Wx a H1 -> ∃ xs p g, H1 a = some (.lst xs) /\ xs.length < 1000 /\
     (∀ (i : Nat) x H2 (R : Bool -> Hp -> Prop), xs[i]? = some x -> Same H1 H2 -> R (p x) H2 -> tt (some x :: capt ci σ) H2 R) /\
     (∀ (i : Nat) x H2 (R : V -> Hp -> Prop), xs[i]? = some x -> p x = true -> Same H1 H2 -> R (g x) H2 -> te (some x :: capt ci σ) H2 R) /\
     ∀ acc H2, H2 acc = some (.lst ((xs.filter p).map g)) -> Same H1 H2 -> Q (.ref acc) H2) : tComp (iList K tl) ci tt te σ H Q := by
 unfold tComp
 refine htl _ fun a H1 hw => ?_
 obtain ⟨xs, p, g, ha, hn, test, elt, fin⟩ := main a H1 hw
 have hs : SqL K H1 a xs := SqL.of ha
 refine ⟨a, rfl, ⟨_, hs⟩, fun acc nacc => ?_⟩
 refine xZw (Q := Q) (J := Itl K a) (σc := capt ci σ) xs hn p g nacc (fun _ s => ⟨xs, s.seq hs, Nat.le_refl _⟩) (fun i _ h s => ⟨xs, xs[i], s.seq hs, by simp [h]⟩) (fun i x H2 H3 hi s2 y => ?_) test elt (fin acc _ zQz (zWw nacc))
 obtain ⟨e, y⟩ := y
 exact ⟨e, y xs (s2.seq hs)⟩
abbrev sThings : Stmt := top 14
abbrev sIsEr : Stmt := top 15
abbrev sHasW : Stmt := top 16
abbrev sBehind : Stmt := top 17
structure TxtD (K : PySem.W.Frag) (mg : Str -> Option Value) (D cNS cBC : Addr) : Prop where
 cl : Cls K D
 aC : NoAttr K D "chip"
 aM : NoAttr K D "many"
 aP : NoAttr K D "places"
 aB : NoAttr K D "block"
 aF : NoAttr K D "filled"
 x_NoSector : XCls K cNS
 x_BadContent : XCls K cBC
 g_SB : ∃ u, mg "SPARE_BLOCKS" = some u /\ RelV (.int 2) u
 g_MC : ∃ u, mg "MOST_CONTENT" = some u /\ RelV (.int 999999999999) u
 n_sorted : mg "sorted" = none
 n_all : mg "all" = none
 n_any : mg "any" = none
 n_tuple : mg "tuple" = none
 kt_non : PySem.W.kitOne K (.type "NoneType") (.type "tuple") = some false
 kt_str : PySem.W.kitOne K (.type "str") (.type "tuple") = some false
 kt_tup : PySem.W.kitOne K (.type "tuple") (.type "tuple") = some true
section
variable {P : Program} {w : World} {K : PySem.W.Frag} {mg : Str -> Option Value} {base : Heap} {C D cBS cNP cNE cNS cBC cCu cWE : Addr}
def RowV (H : Hp) (xs : List V) (G : GS) (b : Nat) : Prop := xs.length = G.np /\ ∀ i v, xs[i]? = some v -> PgV H v (G.pg b i)
def spThings (C : Addr) : Sp := fun vs H Q _ => ∃ (p : Addr) (b : Nat) (G : GS) (fp : List Addr), vs = [.ref p, .int b] /\ ChipX C H p G fp /\ b < G.nb /\ ∀ l H' xs, H' l = some (.lst xs) -> RowV H' xs G b -> Same H H' -> Q (.ref l) H'
theorem scTh : FnScope ["chip", "block"] ["chip", "block"] (defScope sThings) := ⟨rfl, rfl, rfl, by decide +kernel, rfl, by decide +kernel, by decide +kernel⟩
theorem row_all {S : CS} {b : Int} (h : (S.row b).length = S.np) : ((((List.range S.np).map fun i : Nat => V.int (i : Int)).filter fun _ => true).map fun v => match v with | .int i => (S.row b).getD i.toNat .non | _ => .non) = S.row b := by
 rw [List.filter_eq_self.mpr fun _ _ => rfl, List.map_map]
 refine List.ext_getElem? fun i => ?_
 by_cases hi : i < S.np
 . rw [List.getElem?_map, List.getElem?_range hi]
   have hi' : i < (S.row b).length := by rw [h]; exact hi
   show some ((S.row b).getD (i : Int).toNat .non) = _
   rw [Int.toNat_natCast, List.getD_eq_getElem?_getD, List.getElem?_eq_getElem hi']
   rfl
 . rw [List.getElem?_eq_none (by simp; omega), List.getElem?_eq_none (by omega)]
theorem ok_things {f : Addr} {fd : FuncData} (F : Fun K "things_on" "things_on" sThings f fd) (T : Txt K mg C cBS cNP cNE cNS cBC cCu cWE)
   (M_size : MtB P w K mg base C 51 "size" ["self"] (xpSize C)) (M_page : MtB P w K mg base C 53 "page" ["self", "block", "page"] (xpPage C cNP)) : FnOk P w K mg base (CXw P w) 54 f fd ["chip", "block"] (spThings C) := by
 refine F.okX (by decide) scTh (fun vs H Q E h => ?_) (fun cdv A outer s H vs Q E hr h => ?_)
 . obtain ⟨p, b, G, fp, rfl, _⟩ := h
   rfl
 . obtain ⟨p, b, G, fp, rfl, A1, hb, h⟩ := h
   obtain ⟨dx, S0, hl0, el0, h1⟩ := A1.at_
   have lim := A1.lim
   refine ⟨_, (@zWq _ _ _ (@zZz _ _ _ _ (@yKj _ _ _ _ _ _ _ _ ([1, 0]) (["block", "chip"]) _ _ _ rfl (@zJx _ _ _ _ _ _ rfl T.n_range (@zQw _ _ _ _ _ (@zJz _ _ _ _ _ _ _ (@zKq _) (@zZj _ _ _ _ _ _ _ _ _ _ _ _ T.cl M_size (hr.mono (by decide)) (@passE _ _ _) (pv 0) (by rfl)) zWx (fun _ _ => rfl)) zQk (by exact zQq rfl)) (by exact zQq rfl)) rfl (by decide +kernel) (by decide +kernel) (by decide +kernel) (by show ∀ y : Str × NameKind, y ∈ _ -> y.2 = NameKind.free -> List.lookup y.1 (defScope sThings).names = some NameKind.cell; decide +kernel) (by show ∀ p : Str × Nat, p ∈ _ -> List.lookup p.1 _ = some NameKind.free /\ (["chip", "block"] : List Str)[p.2]? = some p.1; decide +kernel) rfl (by decide +kernel) (fun _ _ _ _ _ => (@yJx _)) (fun _ _ _ _ _ => (@zWj _ _ _ _ _ _ _ _ _ _ _ _ _ _ _ T.cl M_page (hr.mono (by decide)) (@passE _ _ _) (pv 2) (@zQw _ _ _ _ _ (pv 1) (@zQw _ _ _ _ _ (pv 0) zQk (by exact zQq rfl)) (by exact zQq rfl)) (by exact zQq rfl) (by exact zQx rfl) (by rfl))) (by intro _; rfl)))), ?_⟩
   have A0 := A1
   obtain ⟨hl, el, rl, S, rfl, AS, B⟩ := A1
   have okb : S.okB b := ⟨by omega, by have := B.nb; omega⟩
   obtain ⟨r1, r2, _⟩ := AS.wf.row okb
   have hnp := B.np
   refine zJk S.np (by omega) (fun R q => ?_) (fun _ => true) (fun v => match v with | .int j => (S.row b).getD j.toNat .non | _ => .non) (fun j H4 R hj s4 q => q) (fun j H4 R hj _ s4 q => ?_) fun acc H2 hacc s2 _ => ?_
   . refine ⟨_, rfl, p, dx, _, rfl, h1, rfl, yQq A0 fun t H' ht s' => ⟨t, _, _, _, rfl, rfl, SqT.of ht, at1, ?_⟩⟩
     rw [<- hnp]
     exact q H' s'
   . refine ⟨_, rfl, p, dx, _, rfl, s4 _ _ h1, rfl, _, rfl, _, rfl, use_pageS (AS.same s4) ⟨okb, by omega, by omega⟩ q⟩
   . rw [row_all r2] at hacc
     refine h acc H2 _ hacc ⟨by rw [r2]; exact hnp, fun i v e => ?_⟩ s2
     have hi : i < G.np := by
       have := (List.getElem?_eq_some_iff.mp e).1
       omega
     obtain ⟨r, v', e1, e2, pv⟩ := B.pg b i hb hi
     rw [Int.toNat_natCast] at r1
     rw [r1] at e1
     cases e1
     rw [e] at e2
     cases e2
     exact pv.keep (.of s2)
def spIsEr (C : Addr) : Sp := fun vs H Q _ => ∃ (p : Addr) (b : Nat) (G : GS) (fp : List Addr), vs = [.ref p, .int b] /\ ChipX C H p G fp /\ b < G.nb /\ ∀ H', Same H H' -> Q (.bl (decide (G.Er b))) H'
theorem scIE : FnScope ["chip", "block"] ["chip", "block"] (defScope sIsEr) := ⟨rfl, rfl, rfl, by decide +kernel, rfl, by decide +kernel, by decide +kernel⟩
theorem PgV.isEr {H : Hp} {v : V} {g : Pg} (h : PgV H v g) : decide (v = .non) = decide (g = .er) := by
 cases h <;> rfl
theorem RowV.er {H : Hp} {xs : List V} {G : GS} {b : Nat} (R : RowV H xs G b) : ((xs.map fun v => decide (v = V.non)).all id) = decide (G.Er b) := by
 rw [Bool.eq_iff_iff, decide_eq_true_iff, List.all_eq_true]
 constructor
 . intro h i hi
   have hi' : i < xs.length := by rw [R.1]; exact hi
   have e : xs[i]? = some xs[i] := by simp [hi']
   have := h (decide (xs[i] = .non)) (List.mem_map.mpr ⟨_, List.getElem_mem hi', rfl⟩)
   have pv := R.2 i _ e
   rw [pv.isEr] at this
   simpa using this
 . intro h c m
   obtain ⟨v, mv, rfl⟩ := List.mem_map.mp m
   obtain ⟨i, hi, e⟩ := List.mem_iff_getElem.mp mv
   have pv := R.2 i v (by rw [<- e]; simp [hi])
   have := h i (by rw [<- R.1]; exact hi)
   simp [pv.isEr, this]
theorem bools_of {xs : List V} {f : V -> Bool} : (xs.filter fun _ => true).map (fun v => V.bl (f v)) = (xs.map f).map V.bl := by
 rw [List.filter_eq_self.mpr fun _ _ => rfl, List.map_map]
 rfl
theorem ok_isEr {f : Addr} {fd : FuncData} (F : Fun K "is_erased" "is_erased" sIsEr f fd) (T : Txt K mg C cBS cNP cNE cNS cBC cCu cWE) (TD : TxtD K mg D cNS cBC)
   (B_things_on : FnB P w K mg base 54 "things_on" ["chip", "block"] (spThings C)) : FnOk P w K mg base (CXw P w) 55 f fd ["chip", "block"] (spIsEr C) := by
 refine F.okX (by decide) scIE (fun vs H Q E h => ?_) (fun cdv A outer s H vs Q E hr h => ?_)
 . obtain ⟨p, b, G, fp, rfl, _⟩ := h
   rfl
 . obtain ⟨p, b, G, fp, rfl, A1, hb, h⟩ := h
   have lim := A1.lim
   refine ⟨_, (@zWq _ _ _ (@zZz _ _ _ _ (@zZv _ _ _ _ _ _ _ _ _ (@call_allB _ rfl) rfl TD.n_all PyProof.Rows.Boot.«all» (@zQw _ _ _ _ _ (@yKj _ _ _ _ _ _ _ _ ([]) ([]) _ _ _ rfl (@yKx _ _ _ _ (@zWk _ _ _ _ _ _ _ _ _ _ _ B_things_on (hr.mono (by decide)) rfl (@passE _ _ _) (@zQw _ _ _ _ _ (pv 0) (@zQw _ _ _ _ _ (pv 1) zQk (by exact zQq rfl)) (by exact zQq rfl)) (by decide) (by exact zQq rfl) (by exact zQx rfl))) rfl (by decide +kernel) (by decide +kernel) (by decide +kernel) (by show ∀ y : Str × NameKind, y ∈ _ -> y.2 = NameKind.free -> List.lookup y.1 (defScope sIsEr).names = some NameKind.cell; decide +kernel) (by show ∀ p : Str × Nat, p ∈ _ -> List.lookup p.1 _ = some NameKind.free /\ (["chip", "block"] : List Str)[p.2]? = some p.1; decide +kernel) rfl (by decide +kernel) (fun _ _ _ _ _ => (@yJx _)) (fun _ _ _ _ _ => (@pe_cmp _ _ _ _ _ _ (@pc_isN _ _ _ _ _ (pv 0)) (by first | exact nobehind _ (by decide) (by decide) | rfl))) (by intro _; rfl)) zQk (by exact zQq rfl)) (by decide) (by decide) (by exact zQq rfl) (by exact zQx rfl)))), ?_⟩
   refine yZj (fun l H' => ∃ xs, H' l = some (.lst xs) /\ RowV H' xs G b /\ Same H H') (fun R q => ⟨_, rfl, _, rfl, p, b, G, fp, rfl, A1, hb, fun l H' xs e1 e2 e3 => q l H' ⟨xs, e1, e2, e3⟩⟩) ?_
   rintro a H1 ⟨xs, e1, rv, s1⟩
   refine ⟨xs, fun _ => true, fun v => .bl (decide (v = .non)), e1, by have := rv.1; omega, fun i x H2 R _ _ q => q, fun i x H2 R _ _ _ q => ⟨_, rfl, q⟩, fun acc H2 hacc s2 => ⟨acc, _, rfl, by rw [hacc, bools_of], ?_⟩⟩
   rw [rv.er]
   exact h H2 (s1.trans s2)
def spHasW (C : Addr) : Sp := fun vs H Q _ => ∃ (p : Addr) (b : Nat) (G : GS) (fp : List Addr), vs = [.ref p, .int b] /\ ChipX C H p G fp /\ b < G.nb /\ ∀ H' k, (k = true ↔ G.Wh b) -> Same H H' -> Q (.bl k) H'
theorem scHW : FnScope ["chip", "block"] ["chip", "block"] (defScope sHasW) := ⟨rfl, rfl, rfl, by decide +kernel, rfl, by decide +kernel, by decide +kernel⟩
def isTupV : V -> Bool
 | .ref _ => true
 | _ => false
theorem PgV.isWh {H : Hp} {v : V} {g : Pg} (h : PgV H v g) : isTupV v = true ↔ ∃ s c n, g = .wh s c n := by
 cases h with
 | er => exact ⟨fun z => (nomatch z), fun ⟨_, _, _, z⟩ => (nomatch z)⟩
 | torn => exact ⟨fun z => (nomatch z), fun ⟨_, _, _, z⟩ => (nomatch z)⟩
 | wh e => exact ⟨fun _ => ⟨_, _, _, rfl⟩, fun _ => rfl⟩
theorem PgV.ask {H : Hp} {v : V} {g : Pg} (h : PgV H v g) (TD : TxtD K mg D cNS cBC) : ∃ t, TyOf K H v t /\ PySem.W.kitOne K t (.type "tuple") = some (isTupV v) := by
 cases h with
 | er => exact ⟨_, .non, TD.kt_non⟩
 | torn => exact ⟨_, .str _, TD.kt_str⟩
 | wh e => exact ⟨_, .tup e, TD.kt_tup⟩
theorem RowV.wh {H : Hp} {xs : List V} {G : GS} {b : Nat} (R : RowV H xs G b) : ((xs.map isTupV).any id) = true ↔ G.Wh b := by
 rw [List.any_eq_true]
 constructor
 . rintro ⟨c, m, hc⟩
   obtain ⟨v, mv, rfl⟩ := List.mem_map.mp m
   obtain ⟨i, hi, e⟩ := List.mem_iff_getElem.mp mv
   have pv := R.2 i v (by rw [<- e]; simp [hi])
   exact ⟨i, by rw [<- R.1]; exact hi, pv.isWh.mp hc⟩
 . rintro ⟨i, hi, q⟩
   have hi' : i < xs.length := by rw [R.1]; exact hi
   have pv := R.2 i xs[i] (by simp [hi'])
   exact ⟨isTupV xs[i], List.mem_map.mpr ⟨_, List.getElem_mem hi', rfl⟩, pv.isWh.mpr q⟩
theorem ok_hasW {f : Addr} {fd : FuncData} (F : Fun K "has_whole_page" "has_whole_page" sHasW f fd) (T : Txt K mg C cBS cNP cNE cNS cBC cCu cWE) (TD : TxtD K mg D cNS cBC)
   (B_things_on : FnB P w K mg base 54 "things_on" ["chip", "block"] (spThings C)) : FnOk P w K mg base (CXw P w) 55 f fd ["chip", "block"] (spHasW C) := by
 refine F.okX (by decide) scHW (fun vs H Q E h => ?_) (fun cdv A outer s H vs Q E hr h => ?_)
 . obtain ⟨p, b, G, fp, rfl, _⟩ := h
   rfl
 . obtain ⟨p, b, G, fp, rfl, A1, hb, h⟩ := h
   have lim := A1.lim
   refine ⟨_, (@zWq _ _ _ (@zZz _ _ _ _ (@zZv _ _ _ _ _ _ _ _ _ (@call_anyB _ rfl) rfl TD.n_any PyProof.Rows.Boot.«any» (@zQw _ _ _ _ _ (@yKj _ _ _ _ _ _ _ _ ([]) ([]) _ _ _ rfl (@yKx _ _ _ _ (@zWk _ _ _ _ _ _ _ _ _ _ _ B_things_on (hr.mono (by decide)) rfl (@passE _ _ _) (@zQw _ _ _ _ _ (pv 0) (@zQw _ _ _ _ _ (pv 1) zQk (by exact zQq rfl)) (by exact zQq rfl)) (by decide) (by exact zQq rfl) (by exact zQx rfl))) rfl (by decide +kernel) (by decide +kernel) (by decide +kernel) (by show ∀ y : Str × NameKind, y ∈ _ -> y.2 = NameKind.free -> List.lookup y.1 (defScope sHasW).names = some NameKind.cell; decide +kernel) (by show ∀ p : Str × Nat, p ∈ _ -> List.lookup p.1 _ = some NameKind.free /\ (["chip", "block"] : List Str)[p.2]? = some p.1; decide +kernel) rfl (by decide +kernel) (fun _ _ _ _ _ => (@yJx _)) (fun _ _ _ _ _ => (@zZv _ _ _ _ _ _ _ _ _ (@yKv _ (K) rfl) rfl T.n_isinstance PyProof.Rows.Boot.«isinstance» (@zQw _ _ _ _ _ (pv 0) (@zQw _ _ _ _ _ (@pe_bltn _ _ (.ty "tuple") _ _ rfl TD.n_tuple PyProof.Rows.Boot.«tuple» rfl (by decide) (by decide)) zQk (by exact zQq rfl)) (by exact zQq rfl)) (by decide) (by decide) (by exact zQq rfl) (by exact zQx rfl))) (by intro _; rfl)) zQk (by exact zQq rfl)) (by decide) (by decide) (by exact zQq rfl) (by exact zQx rfl)))), ?_⟩
   refine yZj (fun l H' => ∃ xs, H' l = some (.lst xs) /\ RowV H' xs G b /\ Same H H') (fun R q => ⟨_, rfl, _, rfl, p, b, G, fp, rfl, A1, hb, fun l H' xs e1 e2 e3 => q l H' ⟨xs, e1, e2, e3⟩⟩) ?_
   rintro a H1 ⟨xs, e1, rv, s1⟩
   refine ⟨xs, fun _ => true, fun v => .bl (isTupV v), e1, by have := rv.1; omega, fun i x H2 R _ _ q => q, fun i x H2 R ei _ s2 q => ?_, fun acc H2 hacc s2 => ⟨acc, _, rfl, by rw [hacc, bools_of], h H2 _ rv.wh (s1.trans s2)⟩⟩
   obtain ⟨t, ty, k⟩ := ((rv.2 i x ei).keep (.of s2)).ask TD
   exact ⟨_, rfl, x, _, _, t, _, rfl, fun u' r => r, ty, k, q⟩
def spBehind (C : Addr) : Sp := fun vs H Q _ => ∃ (p : Addr) (b : Nat) (G : GS) (fp : List Addr), vs = [.ref p, .int b] /\ ChipX C H p G fp /\ b < G.nb /\ ∀ H', Same H H' -> Q (.int (nx G.nb b)) H'
theorem scBh : FnScope ["chip", "block"] ["chip", "block"] (defScope sBehind) := ⟨rfl, rfl, rfl, by decide +kernel, rfl, by decide +kernel, by decide +kernel⟩
theorem nx_mod {n b : Nat} (h : b < n) : ((b : Int) + 1) % (n : Int) = (nx n b : Int) := by
 unfold nx
 by_cases e : b + 1 = n
 . rw [if_pos e]
   have : (b : Int) + 1 = n := by omega
   rw [this, Int.emod_self]
   rfl
 . rw [if_neg e, Int.emod_eq_of_lt (by omega) (by omega)]
   rfl
theorem ok_behind {f : Addr} {fd : FuncData} (F : Fun K "block_behind" "block_behind" sBehind f fd) (T : Txt K mg C cBS cNP cNE cNS cBC cCu cWE)
   (M_size : MtB P w K mg base C 51 "size" ["self"] (xpSize C)) : FnOk P w K mg base (CXw P w) 52 f fd ["chip", "block"] (spBehind C) := by
 refine F.okX (by decide) scBh (fun vs H Q E h => ?_) (fun cdv A outer s H vs Q E hr h => ?_)
 . obtain ⟨p, b, G, fp, rfl, _⟩ := h
   rfl
 . obtain ⟨p, b, G, fp, rfl, A1, hb, h⟩ := h
   have lim := A1.lim
   obtain ⟨dx, S0, hl0, el0, h1⟩ := A1.at_
   refine ⟨_, (@zWq _ _ _ (@zZz _ _ _ _ (@zZx _ _ _ _ _ _ _ _ (@yWw _) (@zZx _ _ _ _ _ _ _ _ (@yJw _) (pv 1) zWx) (@zJz _ _ _ _ _ _ _ (@zKq _) (@zZj _ _ _ _ _ _ _ _ _ _ _ _ T.cl M_size (hr.mono (by decide)) (@passE _ _ _) (pv 0) (by rfl)) zWx (fun _ _ => rfl))))), ?_⟩
   refine ⟨_, rfl, _, _, rfl, rfl, _, rfl, p, dx, _, rfl, h1, rfl, yQq A1 fun t H' ht s' => ⟨t, _, _, _, rfl, rfl, SqT.of ht, at0, _, _, rfl, rfl, by show (0 : Int) < (G.nb : Int); omega, ?_⟩⟩
   have := h H' s'
   rw [<- nx_mod hb] at this
   exact this
end
abbrev sWholeP : Stmt := top 18
abbrev sNewB : Stmt := top 19
abbrev sNewP : Stmt := top 20
abbrev sLast : Stmt := top 21
def TrP (H : Hp) (a : Addr) (t : Int × Nat × Nat) : Prop := H a = some (.tup [.int t.1, .int t.2.1, .int t.2.2])
def TrAll (H : Hp) (ps : List Addr) (ts : List (Int × Nat × Nat)) : Prop := ps.length = ts.length /\ ∀ (i : Nat) (a : Addr) (t : Int × Nat × Nat), ps[i]? = some a -> ts[i]? = some t -> TrP H a t
theorem TrAll.keep {H H' : Hp} {ps : List Addr} {ts : List (Int × Nat × Nat)} (h : TrAll H ps ts) (k : Tups H H') : TrAll H' ps ts := ⟨h.1, fun i a t e1 e2 => k _ _ (h.2 i a t e1 e2)⟩
theorem TrAll.snoc {H : Hp} {ps : List Addr} {ts : List (Int × Nat × Nat)} (h : TrAll H ps ts) {a : Addr} {t : Int × Nat × Nat} (e : TrP H a t) : TrAll H (ps ++ [a]) (ts ++ [t]) := by
 refine ⟨by rw [List.length_append, List.length_append, h.1]; rfl, fun i b u e1 e2 => ?_⟩
 by_cases hi : i < ps.length
 . rw [List.getElem?_append_left hi] at e1
   rw [List.getElem?_append_left (by rw [<- h.1]; exact hi)] at e2
   exact h.2 i b u e1 e2
 . rw [List.getElem?_append_right (by omega)] at e1
   rw [List.getElem?_append_right (by rw [<- h.1]; omega), <- h.1] at e2
   cases hk : i - ps.length with
   | zero =>
     rw [hk] at e1 e2
     cases e1
     cases e2
     exact e
   | succ k =>
     rw [hk] at e1
     cases e1
def tripOf (H : Hp) (a : Addr) : Int × Nat × Nat := match H a with
 | some (.tup [.int n, .int b, .int i]) => (n, b.toNat, i.toNat)
 | _ => (0, 0, 0)
theorem TrP.of {H : Hp} {a : Addr} {t : Int × Nat × Nat} (h : TrP H a t) : tripOf H a = t := by
 unfold tripOf
 rw [h]
 obtain ⟨n, b, i⟩ := t
 simp
theorem TrAll.map {H : Hp} {ps : List Addr} {ts : List (Int × Nat × Nat)} (h : TrAll H ps ts) : ps.map (tripOf H) = ts := by
 refine List.ext_getElem? fun i => ?_
 rw [List.getElem?_map]
 by_cases hi : i < ps.length
 . have hi' : i < ts.length := by rw [<- h.1]; exact hi
   have e1 : ps[i]? = some ps[i] := by simp [hi]
   have e2 : ts[i]? = some ts[i] := by simp [hi']
   rw [e1, e2]
   exact congrArg some (h.2 i _ _ e1 e2).of
 . rw [List.getElem?_eq_none (by omega), List.getElem?_eq_none (by rw [<- h.1]; omega)]
   rfl
theorem TrAll.mem {H : Hp} {ps : List Addr} {ts : List (Int × Nat × Nat)} (h : TrAll H ps ts) {a : Addr} (m : a ∈ ps) : TrP H a (tripOf H a) := by
 obtain ⟨i, hi, e⟩ := List.mem_iff_getElem.mp m
 have hi' : i < ts.length := by rw [<- h.1]; exact hi
 have := h.2 i a ts[i] (by rw [<- e]; simp [hi]) (by simp [hi'])
 rw [this.of]
 exact this
section
variable {P : Program} {w : World} {K : PySem.W.Frag} {mg : Str -> Option Value} {base : Heap} {C D cBS cNP cNE cNS cBC cCu cWE : Addr}
theorem two_ps {ps : List Addr} {num : Addr -> Int} {ns : List Int} (e : ps.map num = ns) (t : TwoL ns) : ∃ pa pb, ps = pa ++ pb /\ pa.Pairwise (fun p q => num p < num q) /\ pb.Pairwise (fun p q => num p < num q) /\ ∀ p ∈ pa, ∀ q ∈ pb, num q < num p := by
 obtain ⟨a, b, rfl, h1, h2, h3⟩ := t
 obtain ⟨pa, pb, rfl, e1, e2⟩ := List.map_eq_append_iff.mp e
 subst e1 e2
 rw [List.pairwise_map] at h1 h2
 exact ⟨pa, pb, rfl, h1, h2, fun p mp q mq => h3 _ (List.mem_map.mpr ⟨p, mp, rfl⟩) _ (List.mem_map.mpr ⟨q, mq, rfl⟩)⟩
def spWhole (C : Addr) : Sp := fun vs H Q _ => ∃ (p : Addr) (G : GS) (fp : List Addr) (many : Nat), vs = [.ref p] /\ ChipX C H p G fp /\ G.Rdy many /\ ∀ l H' ps ts, H l = none -> H' l = some (.lst (ps.map V.ref)) -> TrAll H' ps ts -> ts.Perm G.wl -> (ts.Pairwise fun a b => a.1 < b.1) -> Same H H' -> Q (.ref l) H'
theorem scWP : FnScope ["chip", "found", "block", "page", "thing"] ["chip"] (defScope sWholeP) := ⟨rfl, rfl, rfl, by decide +kernel, rfl, by decide +kernel, by decide +kernel⟩
theorem wr_len {G : GS} {b : Nat} : ∀ i, (G.wr b i).length <= i
 | 0 => by unfold GS.wr; simp
 | i + 1 => by
   rw [wr_succ, List.length_append]
   have := wr_len (G := G) (b := b) i
   have : (G.wp b i).length <= 1 := by unfold GS.wp; split <;> simp
   omega
theorem wb_len {G : GS} : ∀ b, (G.wb b).length <= b * G.np
 | 0 => by unfold GS.wb; simp
 | b + 1 => by
   rw [wb_succ, List.length_append]
   have := wb_len (G := G) b
   have := wr_len (G := G) (b := b) G.np
   rw [Nat.succ_mul]
   omega
theorem ok_whole {f : Addr} {fd : FuncData} (F : Fun K "whole_pages" "whole_pages" sWholeP f fd) (T : Txt K mg C cBS cNP cNE cNS cBC cCu cWE) (TD : TxtD K mg D cNS cBC)
   (M_size : MtB P w K mg base C 51 "size" ["self"] (xpSize C)) (M_page : MtB P w K mg base C 53 "page" ["self", "block", "page"] (xpPage C cNP)) : FnOk P w K mg base (CXw P w) 54 f fd ["chip"] (spWhole C) := by
 refine F.okX (by decide) scWP (fun vs H Q E h => ?_) (fun cdv A outer s H vs Q E hr h => ?_)
 . obtain ⟨p, G, fp, many, rfl, _⟩ := h
   rfl
 . obtain ⟨p, G, fp, many, rfl, A1, rdy, h⟩ := h
   have lim := A1.lim
   obtain ⟨dx, S0, hl0, el0, h1⟩ := A1.at_
   refine ⟨_, (@zQj _ _ _ _ _ (@zJw _ _ (1) _ _ _ _ scWP.nd rfl (Or.inl rfl) (@yWq _ _ _ _ zQk) (by rfl) (by first | exact .inl rfl | exact .inr rfl | assumption)) (@zQj _ _ _ _ _ (@yJv _ _ _ _ _ _ _ _ PassesOwn.leaving rfl (@zJx _ _ _ _ _ _ rfl T.n_range (@zQw _ _ _ _ _ (@zJz _ _ _ _ _ _ _ (@zKq _) (@zZj _ _ _ _ _ _ _ _ _ _ _ _ T.cl M_size (hr.mono (by decide)) (@passE _ _ _) (pv 0) (by rfl)) zWx (fun _ _ => rfl)) zQk (by exact zQq rfl)) (by exact zQq rfl)) (@yWj _ _ (2) _ scWP.nd rfl (Or.inl rfl) (by first | exact .inl rfl | exact .inr rfl | assumption)) (@zWq _ _ _ (@yJv _ _ _ _ _ _ _ _ PassesOwn.leaving rfl (@zJx _ _ _ _ _ _ rfl T.n_range (@zQw _ _ _ _ _ (@zJz _ _ _ _ _ _ _ (@zKq _) (@zZj _ _ _ _ _ _ _ _ _ _ _ _ T.cl M_size (hr.mono (by decide)) (@passE _ _ _) (pv 0) (by rfl)) zWx (fun _ _ => rfl)) zQk (by exact zQq rfl)) (by exact zQq rfl)) (@yWj _ _ (3) _ scWP.nd rfl (Or.inl rfl) (by first | exact .inl rfl | exact .inr rfl | assumption)) (@zQj _ _ _ _ _ (@zJw _ _ (4) _ _ _ _ scWP.nd rfl (Or.inl rfl) (@zWj _ _ _ _ _ _ _ _ _ _ _ _ _ _ _ T.cl M_page (hr.mono (by decide)) zWz (pv 0) (@zQw _ _ _ _ _ (pv 2) (@zQw _ _ _ _ _ (pv 3) zQk (by exact zQq rfl)) (by exact zQq rfl)) (by exact zQq rfl) (by exact zQx rfl) (by rfl)) (by rfl) (by first | exact .inl rfl | exact .inr rfl | assumption)) (@zWq _ _ _ (@yQz _ _ _ _ _ _ _ _ (@yZv _ _ _ (@zZv _ _ _ _ _ _ _ _ _ (@yKv _ (K) rfl) rfl T.n_isinstance PyProof.Rows.Boot.«isinstance» (@zQw _ _ _ _ _ (pv 4) (@zQw _ _ _ _ _ (@pe_bltn _ _ (.ty "tuple") _ _ rfl TD.n_tuple PyProof.Rows.Boot.«tuple» rfl (by decide) (by decide)) zQk (by exact zQq rfl)) (by exact zQq rfl)) (by decide) (by decide) (by exact zQq rfl) (by exact zQx rfl)) (by intro _; rfl)) (@zWq _ _ _ (@zJv _ _ _ _ (@pe_bm _ _ _ _ _ _ _ _ _ _ _ _ PySem.F.plainAttrs_list PySem.F.slot_list_append PySem.F.type_list_append (@wQw _) (pv 1) (@zQw _ _ _ _ _ (@xJx _ _ _ _ _ (@zQw _ _ _ _ _ (@zJz _ _ _ _ _ _ _ (@zKq _) (pv 4) zWx (fun _ _ => rfl)) (@zQw _ _ _ _ _ (pv 2) (@zQw _ _ _ _ _ (pv 3) zQk (by exact zQq rfl)) (by exact zQq rfl)) (by exact zQq rfl))) zQk (by exact zQq rfl)) (by rfl) (by rfl) (by rfl) (by exact zQq rfl) (by exact zQx rfl)) (by rfl))) (@zZw _)))) (by intro _; rfl))) (by intro _; rfl)) (@zWq _ _ _ (@zZz _ _ _ _ (@zZv _ _ _ _ _ _ _ _ _ (@call_sortedT2 _) rfl TD.n_sorted PyProof.Rows.Boot.«sorted» (@zQw _ _ _ _ _ (pv 1) zQk (by exact zQq rfl)) (by decide) (by decide) (by exact zQq rfl) (by exact zQx rfl)))))), ?_⟩
   refine ⟨Nat.zero_le _, fun fl nfl => ?_⟩
   have s1 := zWw (o := .lst []) nfl
   have hf : upd H fl (.lst []) fl = some (.lst []) := zQz
   generalize upd H fl (.lst []) = H1 at s1 hf ⊢
   refine ⟨_, rfl, p, dx, _, rfl, s1 _ _ h1, rfl, yQq (A1.same s1) fun t H2 ht s2 => ⟨t, _, _, _, rfl, rfl, SqT.of ht, at0, (G.nb : Int), rfl, by omega, by omega, ?_⟩⟩
   have step : ∀ {H3 H4 : Hp} {ps : List Addr} {ts : List (Int × Nat × Nat)}, Same H3 H4 -> (H3 fl = some (.lst (ps.map V.ref)) /\ TrAll H3 ps ts) -> H4 fl = some (.lst (ps.map V.ref)) /\ TrAll H4 ps ts := fun s ⟨a, b⟩ => ⟨s _ _ a, b.keep (.of s)⟩
   have len2 : ∀ b i, b < G.nb -> i < G.np -> (G.wb b ++ G.wr b i).length < 1000 := fun b i hb hi => by
     rw [List.length_append]
     have q1 := wb_len (G := G) b
     have q2 := wr_len (G := G) (b := b) i
     have q3 : b * G.np <= 31 * 16 := Nat.mul_le_mul (by omega) (by omega)
     omega
   refine yZw (lo := 0) (n := (G.nb : Int).toNat) (fun b σ H3 => Same H H3 /\ (∃ ps, H3 fl = some (.lst (ps.map V.ref)) /\ TrAll H3 ps (G.wb b)) /\ ∃ v1 v2 v3, σ = [some (.ref p), some (.ref fl), v1, v2, v3]) ⟨s1.trans s2, ⟨[], s2 _ _ hf, rfl, fun i a t e => by cases e⟩, _, _, _, rfl⟩ ?_ ?_
   . rintro b σ H3 hb ⟨s3, ⟨ps, hps, tr⟩, v1, v2, v3, rfl⟩
     rw [Int.zero_add]
     have A3 := A1.same s3
     refine ⟨_, rfl, p, dx, _, rfl, s3 _ _ h1, rfl, yQq A3 fun t H4 ht4 s4 => ⟨t, _, _, _, rfl, rfl, SqT.of ht4, at1, (G.np : Int), rfl, by omega, by omega, ?_⟩⟩
     refine yZw (lo := 0) (n := (G.np : Int).toNat) (fun i σ H5 => Same H H5 /\ (∃ ps, H5 fl = some (.lst (ps.map V.ref)) /\ TrAll H5 ps (G.wb b ++ G.wr b i)) /\ ∃ v2 v3, σ = [some (.ref p), some (.ref fl), some (.int (b : Int)), v2, v3]) ⟨s3.trans s4, ⟨ps, s4 _ _ hps, by
         have e : G.wb b ++ G.wr b 0 = G.wb b := by unfold GS.wr; simp
         rw [e]; exact tr.keep (.of s4)⟩, _, _, rfl⟩ ?_ ?_
     . rintro i σ H5 hi ⟨s5, ⟨ps5, hps5, tr5⟩, v2, v3, rfl⟩
       rw [Int.zero_add]
       have A5 := A1.same s5
       have hb' : b < G.nb := by omega
       have hi' : i < G.np := by omega
       refine ⟨_, rfl, p, dx, _, rfl, s5 _ _ h1, rfl, _, rfl, _, rfl, xJv A5 hb' hi' fun v pv => ?_⟩
       obtain ⟨ty, hty, hk⟩ := pv.ask TD
       refine ⟨_, rfl, v, _, _, ty, _, rfl, fun u' r => r, hty, hk, _, rfl, ?_⟩
       have eW : G.wb b ++ G.wr b (i + 1) = (G.wb b ++ G.wr b i) ++ G.wp b i := by rw [wr_succ, List.append_assoc]
       cases hg : G.pg b i with
       | er =>
         rw [hg] at pv
         cases pv
         refine iteF ⟨s5, ⟨ps5, hps5, ?_⟩, _, _, rfl⟩
         rw [eW]
         unfold GS.wp
         rw [hg, List.append_nil]
         exact tr5
       | torn =>
         rw [hg] at pv
         cases pv
         refine iteF ⟨s5, ⟨ps5, hps5, ?_⟩, _, _, rfl⟩
         rw [eW]
         unfold GS.wp
         rw [hg, List.append_nil]
         exact tr5
       | wh sc c n =>
         rw [hg] at pv
         cases pv with
         | @wh a _ _ _ e =>
           refine iteT ⟨_, rfl, .inl ⟨rfl, _, SqL.of hps5⟩, _, rfl, a, _, _, _, rfl, rfl, SqT.of e, at2, _, rfl, _, rfl, by show 3 <= sizeLine; decide, fun tt ntt => ⟨fl, _, _, rfl, rfl, zWw ntt _ _ hps5, ?_, ?_⟩⟩
           . rw [List.length_map, tr5.1]
             exact small1000 (Nat.le_of_lt (len2 b i hb' hi'))
           . have s6 := zWw (o := .tup [.int n, .int (b : Int), .int (i : Int)]) ntt
             have tt6 : TrP (upd H5 tt (.tup [.int n, .int (b : Int), .int (i : Int)])) tt (n, b, i) := zQz
             have hps6 := s6 _ _ hps5
             generalize upd H5 tt (.tup [.int n, .int (b : Int), .int (i : Int)]) = H6 at s6 tt6 hps6 ⊢
             have kt : Tups H6 (upd H6 fl (.lst (ps5.map V.ref ++ [.ref tt]))) := fun c xs ec => by
               rw [zQv (xQk ec hps6 (by intro z; cases z))]
               exact ec
             have sH : Same H (upd H6 fl (.lst (ps5.map V.ref ++ [.ref tt]))) := fun c o ec => by
               rw [zQv (zWv ec nfl)]
               exact s6 _ _ (s5 _ _ ec)
             refine ⟨sH, ⟨ps5 ++ [tt], by rw [List.map_append]; exact zQz, ?_⟩, _, _, rfl⟩
             rw [eW]
             have ew : G.wp b i = [(n, b, i)] := by unfold GS.wp; rw [hg]
             rw [ew]
             exact ((tr5.keep (.of s6)).snoc tt6).keep kt
     . rintro σ H5 ⟨s5, ⟨ps5, hps5, tr5⟩, v2, v3, rfl⟩
       rw [Int.toNat_natCast] at tr5
       exact ⟨s5, ⟨ps5, hps5, by rw [wb_succ]; exact tr5⟩, _, _, _, rfl⟩
   . rintro σ H3 ⟨s3, ⟨ps, hps, tr⟩, v1, v2, v3, rfl⟩
     rw [Int.toNat_natCast] at tr
     have trm := tr.map
     refine ⟨_, rfl, fl, ps, fun a => (tripOf H3 a).1, rfl, hps, fun a m => ⟨_, tr.mem m⟩, ?_, ?_, fun l out nl op os => ?_⟩
     . have e : ps.map (fun a => (tripOf H3 a).1) = G.wl.map (·.1) := by
         rw [show G.wl = ps.map (tripOf H3) from trm.symm, List.map_map]
         rfl
       rw [e]
       exact rdy.nd
     . have e : ps.map (fun a => (tripOf H3 a).1) = G.wl.map (·.1) := by
         rw [show G.wl = ps.map (tripOf H3) from trm.symm, List.map_map]
         rfl
       exact ⟨by rw [tr.1]; exact rdy.few.2, two_ps e rdy.few.1⟩
     . have s4 := zWw (o := .lst (out.map V.ref)) nl
       have tro : TrAll H3 out (out.map (tripOf H3)) := ⟨by rw [List.length_map], fun i a t e1 e2 => by
         rw [List.getElem?_map, e1] at e2
         cases e2
         exact tr.mem (op.mem_iff.mp (List.mem_of_getElem? e1))⟩
       refine h l _ out (out.map (tripOf H3)) (s3.free nl) zQz (tro.keep (.of s4)) ?_ ?_ (s3.trans s4)
       . rw [show G.wl = ps.map (tripOf H3) from trm.symm]
         exact op.map _
       . rw [List.pairwise_map]
         exact os
end
theorem atI_last {α : Type} {xs : List α} {v : α} (h : xs.getLast? = some v) : atI xs (-1) = some v := by
 have hne : xs ≠ [] := by intro z; rw [z] at h; cases h
 have hl : 0 < xs.length := List.length_pos_iff.mpr hne
 unfold atI ixN
 rw [if_neg (by decide), if_pos (by omega)]
 show xs[((-1 : Int) + (xs.length : Int)).toNat]? = some v
 rw [show ((-1 : Int) + (xs.length : Int)).toNat = xs.length - 1 by omega, <- List.getLast?_eq_getElem?]
 exact h
theorem last_of {G : GS} {b : Nat} (hb : b < G.nb) (h : ¬ G.Er b /\ G.Er (nx G.nb b)) (first : ∀ b', b' < b -> ¬ (¬ G.Er b' /\ G.Er (nx G.nb b'))) : G.last = b := by
 unfold GS.last
 have e : (List.range G.nb).find? (fun b => decide (¬ G.Er b /\ G.Er (nx G.nb b))) = some b := by
   rw [List.find?_range_eq_some]
   exact ⟨decide_eq_true h, List.mem_range.mpr hb, fun j hj => by rw [decide_eq_false (first j hj)]; rfl⟩
 rw [e]
 rfl
theorem last_none {G : GS} (first : ∀ b', b' < G.nb -> ¬ (¬ G.Er b' /\ G.Er (nx G.nb b'))) : G.last = 0 := by
 unfold GS.last
 have e2 : ((List.range G.nb).find? fun b => decide (¬ G.Er b /\ G.Er (nx G.nb b))) = none := by
   rw [List.find?_eq_none]
   intro b m
   rw [decide_eq_false (first b (List.mem_range.mp m))]
   exact Bool.false_ne_true
 rw [e2]
 rfl
def PlAt (H : Hp) (xs : List V) (many : Nat) (pl : Nat -> Option (Nat × Nat)) : Prop := xs.length = many /\ ∀ (s : Nat) (v : V), xs[s]? = some v -> PlV H v ((pl s).map fun q => ((q.1 : Int), (q.2 : Int)))
theorem _root_.L2.PlV.keep {H H' : Hp} {v : V} {o : Option (Int × Int)} (h : PlV H v o) (k : Tups H H') : PlV H' v o := by
 cases h with
 | non => exact .non
 | at_ e => exact .at_ (k _ _ e)
theorem PlAt.keep {H H' : Hp} {xs : List V} {many : Nat} {pl : Nat -> Option (Nat × Nat)} (h : PlAt H xs many pl) (k : Tups H H') : PlAt H' xs many pl := ⟨h.1, fun s v e => (h.2 s v e).keep k⟩
theorem PlAt.set {H : Hp} {xs : List V} {many : Nat} {pl : Nat -> Option (Nat × Nat)} (h : PlAt H xs many pl) {s : Nat} {a : Addr} {b i : Nat} (e : H a = some (.tup [.int b, .int i])) : PlAt H (xs.set s (.ref a)) many (set1 pl s (some (b, i))) := by
 refine ⟨by rw [List.length_set]; exact h.1, fun s' v ev => ?_⟩
 unfold set1
 by_cases z : s' = s
 . subst z
   rw [if_pos rfl]
   have hl : s' < xs.length := by
     have := (List.getElem?_eq_some_iff.mp ev).1
     rwa [List.length_set] at this
   rw [List.getElem?_set_self hl] at ev
   cases ev
   exact .at_ e
 . rw [if_neg z]
   rw [List.getElem?_set_ne (Ne.symm z)] at ev
   exact h.2 s' v ev
section
variable {P : Program} {w : World} {K : PySem.W.Frag} {mg : Str -> Option Value} {base : Heap} {C D cBS cNP cNE cNS cBC cCu cWE : Addr}
def spNewB (C : Addr) : Sp := fun vs H Q _ => ∃ (p : Addr) (G : GS) (fp : List Addr) (many : Nat), vs = [.ref p] /\ ChipX C H p G fp /\ G.Rdy many /\ ∀ H' N, G.Newest N -> Same H H' -> Q (.int (N : Int)) H'
theorem scNB : FnScope ["chip", "found"] ["chip"] (defScope sNewB) := ⟨rfl, rfl, rfl, by decide +kernel, rfl, by decide +kernel, by decide +kernel⟩
theorem ok_newB {f : Addr} {fd : FuncData} (F : Fun K "newest_block" "newest_block" sNewB f fd) (T : Txt K mg C cBS cNP cNE cNS cBC cCu cWE)
   (M_size : MtB P w K mg base C 51 "size" ["self"] (xpSize C)) (B_whole_pages : FnB P w K mg base 54 "whole_pages" ["chip"] (spWhole C)) : FnOk P w K mg base (CXw P w) 55 f fd ["chip"] (spNewB C) := by
 refine F.okX (by decide) scNB (fun vs H Q E h => ?_) (fun cdv A outer s H vs Q E hr h => ?_)
 . obtain ⟨p, G, fp, many, rfl, _⟩ := h
   rfl
 . obtain ⟨p, G, fp, many, rfl, A1, rdy, h⟩ := h
   have lim := A1.lim
   obtain ⟨dx, S0, hl0, el0, h1⟩ := A1.at_
   refine ⟨_, (@zQj _ _ _ _ _ (@zJw _ _ (1) _ _ _ _ scNB.nd rfl (Or.inl rfl) (@zWk _ _ _ _ _ _ _ _ _ _ _ B_whole_pages (hr.mono (by decide)) rfl (@passE _ _ _) (@zQw _ _ _ _ _ (pv 0) zQk (by exact zQq rfl)) (by decide) (by exact zQq rfl) (by exact zQx rfl)) (by rfl) (by first | exact .inl rfl | exact .inr rfl | assumption)) (@zWq _ _ _ (@zZz _ _ _ _ (@xKw _ _ _ _ _ _ _ _ (@pt_truth _ _ _ (pv 1) (fun _ => rfl)) (@zJz _ _ _ _ _ _ _ (@zKq _) (@zJz _ _ _ _ _ _ _ (@zKz _) (pv 1) (@pe_un _ _ _ _ _ _ (@un_neg _) zWx) (fun _ _ => rfl)) zWx (fun _ _ => rfl)) (@zZx _ _ _ _ _ _ _ _ (@op_sub _) (@zJz _ _ _ _ _ _ _ (@zKq _) (@zZj _ _ _ _ _ _ _ _ _ _ _ _ T.cl M_size (hr.mono (by decide)) (@passE _ _ _) (pv 0) (by rfl)) zWx (fun _ _ => rfl)) zWx))))), ?_⟩
   refine ⟨_, rfl, p, G, fp, many, rfl, A1, rdy, fun l H1 ps ts _ e1 tr pm so s1 => ?_⟩
   refine ⟨_, rfl, _, .inl ⟨_, SqL.of e1, rfl⟩, ?_⟩
   cases hps : ps.getLast? with
   | none =>
     have hp0 : ps = [] := List.getLast?_eq_none_iff.mp hps
     subst hp0
     have hts : ts = [] := List.eq_nil_of_length_eq_zero (by rw [<- tr.1]; rfl)
     refine iteF ⟨_, rfl, p, dx, _, rfl, s1 _ _ h1, rfl, yQq (A1.same s1) fun t H2 ht s2 => ⟨t, _, _, _, rfl, rfl, SqT.of ht, at0, _, _, rfl, rfl, ?_⟩⟩
     have := h H2 (G.nb - 1) (newest_none pm hts (by omega)) (s1.trans s2)
     rw [show ((G.nb - 1 : Nat) : Int) = (G.nb : Int) - 1 by omega] at this
     exact this
   | some a =>
     have hne : (!(ps.map V.ref).isEmpty) = true := by
       cases ps with
       | nil => cases hps
       | cons _ _ => rfl
     rw [hne]
     obtain ⟨l', rfl⟩ := List.getLast?_eq_some_iff.mp hps
     obtain ⟨t, ht⟩ : ∃ t, ts.getLast? = some t := by
       cases hh : ts.getLast? with
       | some t => exact ⟨t, rfl⟩
       | none =>
         have z := List.getLast?_eq_none_iff.mp hh
         have := tr.1
         rw [z] at this
         simp at this
     have hat : TrP H1 a t := by
       refine tr.2 (ts.length - 1) a t ?_ (by rw [<- List.getLast?_eq_getElem?]; exact ht)
       rw [<- tr.1, <- List.getLast?_eq_getElem?]
       exact hps
     refine iteT ⟨_, rfl, _, rfl, l, _, _, _, rfl, rfl, SqL.of e1, atI_last (v := .ref a) (by rw [List.getLast?_map, hps]; rfl), a, _, _, _, rfl, rfl, SqT.of hat, at1, ?_⟩
     exact h H1 _ (newest_of pm so ht) s1
def spNewP (C : Addr) : Sp := fun vs H Q _ => ∃ (p : Addr) (G : GS) (fp : List Addr) (many : Nat), vs = [.ref p, .int many] /\ ChipX C H p G fp /\ G.Rdy many /\ many <= 480 /\ ∀ l H' xs pl, H l = none -> H' l = some (.lst xs) -> PlAt H' xs many pl -> G.Pl many pl -> Same H H' -> Q (.ref l) H'
theorem scNP : FnScope ["chip", "many", "places", "found", "sector"] ["chip", "many"] (defScope sNewP) := ⟨rfl, rfl, rfl, by decide +kernel, rfl, by decide +kernel, by decide +kernel⟩
theorem ok_newP {f : Addr} {fd : FuncData} (F : Fun K "newest_places" "newest_places" sNewP f fd) (T : Txt K mg C cBS cNP cNE cNS cBC cCu cWE)
   (M_page : MtB P w K mg base C 53 "page" ["self", "block", "page"] (xpPage C cNP)) (B_whole_pages : FnB P w K mg base 54 "whole_pages" ["chip"] (spWhole C)) : FnOk P w K mg base (CXw P w) 55 f fd ["chip", "many"] (spNewP C) := by
 refine F.okX (by decide) scNP (fun vs H Q E h => ?_) (fun cdv A outer s H vs Q E hr h => ?_)
 . obtain ⟨p, G, fp, many, rfl, _⟩ := h
   rfl
 . obtain ⟨p, G, fp, many, rfl, A1, rdy, hm, h⟩ := h
   have lim := A1.lim
   obtain ⟨dx, S0, hl0, el0, h1⟩ := A1.at_
   refine ⟨_, (@zQj _ _ _ _ _ (@zJw _ _ (2) _ _ _ _ scNP.nd rfl (Or.inl rfl) (@zZx _ _ _ _ _ _ _ _ (@op_rep _) (@yWq _ _ _ _ (@zQw _ _ _ _ _ (@pe_non _ _ _) zQk (by exact zQq rfl))) (pv 1)) (by rfl) (by first | exact .inl rfl | exact .inr rfl | assumption)) (@zQj _ _ _ _ _ (@yJv _ _ _ _ _ _ _ _ PassesOwn.leaving rfl (@yKx _ _ _ _ (@zWk _ _ _ _ _ _ _ _ _ _ _ B_whole_pages (hr.mono (by decide)) rfl (@passE _ _ _) (@zQw _ _ _ _ _ (pv 0) zQk (by exact zQq rfl)) (by decide) (by exact zQq rfl) (by exact zQx rfl))) (@yWj _ _ (3) _ scNP.nd rfl (Or.inl rfl) (by first | exact .inl rfl | exact .inr rfl | assumption)) (@zQj _ _ _ _ _ (@zJw _ _ (4) _ _ _ _ scNP.nd rfl (Or.inl rfl) (@zJz _ _ _ _ _ _ _ (@zKq _) (@zWj _ _ _ _ _ _ _ _ _ _ _ _ _ _ _ T.cl M_page (hr.mono (by decide)) zWz (pv 0) (@zQw _ _ _ _ _ (@zJz _ _ _ _ _ _ _ (@zKq _) (pv 3) zWx (fun _ _ => rfl)) (@zQw _ _ _ _ _ (@zJz _ _ _ _ _ _ _ (@zKq _) (pv 3) zWx (fun _ _ => rfl)) zQk (by exact zQq rfl)) (by exact zQq rfl)) (by exact zQq rfl) (by exact zQx rfl) (by rfl)) zWx (fun _ _ => rfl)) (by rfl) (by first | exact .inl rfl | exact .inr rfl | assumption)) (@zWq _ _ _ (@ps_asg _ _ _ _ _ _ (@xJx _ _ _ _ _ (@zQw _ _ _ _ _ (@zJz _ _ _ _ _ _ _ (@zKq _) (pv 3) zWx (fun _ _ => rfl)) (@zQw _ _ _ _ _ (@zJz _ _ _ _ _ _ _ (@zKq _) (pv 3) zWx (fun _ _ => rfl)) zQk (by exact zQq rfl)) (by exact zQq rfl))) (@pg_sub _ _ _ _ _ _ _ (pv 2) (pv 4) (@xWz _) (by intro _; rfl)) (by rfl) (by rfl) (by rfl)))) (by intro _; rfl)) (@zWq _ _ _ (@zZz _ _ _ _ (pv 2))))), ?_⟩
   refine ⟨by show 1 <= sizeLine; decide, fun l1 nl1 => ⟨_, rfl, l1, (many : Int), [.non], rfl, rfl, zQz, by omega, by omega, ?_, fun pa npa => ?_⟩⟩
   . rw [Int.toNat_natCast]
     exact Nat.le_of_lt (small1000 (by show 1 * many <= 1000; omega))
   have s1 := zWw (o := .lst [.non]) nl1
   have hpa0 := s1.free npa
   have s2 := s1.trans (zWw (o := .lst (List.replicate (many : Int).toNat [V.non]).flatten) npa)
   have e2 : upd (upd H l1 (.lst [.non])) pa (.lst (List.replicate (many : Int).toNat [V.non]).flatten) pa = some (.lst (List.replicate many .non)) := by rw [zQz, rep_one, Int.toNat_natCast]
   generalize upd (upd H l1 (.lst [.non])) pa (.lst (List.replicate (many : Int).toNat [V.non]).flatten) = H2 at s2 e2 ⊢
   refine ⟨_, rfl, p, G, fp, many, rfl, A1.same s2, rdy, fun l H3 ps ts nl e3 tr pm so s3 => ⟨l, rfl, ⟨_, SqL.of e3⟩, ?_⟩⟩
   have pal : pa ≠ l := zWv e2 nl
   refine xWj (xs := ps.map V.ref) (fun j σ H4 => Same H H4 /\ TrAll H4 ps ts /\ H4 l = some (.lst (ps.map V.ref)) /\ (∃ xs pl, H4 pa = some (.lst xs) /\ PlAt H4 xs many pl /\ PlTo G many (ts.take j) pl) /\ ∃ v1 v2, σ = [some (.ref p), some (.int many), some (.ref pa), v1, v2]) ?_ ?_ ?_ ?_
   . refine ⟨s2.trans s3, tr, e3, ⟨_, fun _ => none, s3 _ _ e2, ⟨List.length_replicate, fun s v ev => ?_⟩, by rw [List.take_zero]; exact PlTo.start⟩, _, _, rfl⟩
     obtain rfl := (List.mem_replicate.mp (List.mem_of_getElem? ev)).2
     exact .non
   . rintro j σ H4 _ ⟨_, _, e4, _⟩
     exact SqL.of e4
   . rintro j x σ H4 ex ⟨s4, tr4, e4, ⟨xs, pl, hpa, pat, plt⟩, v1, v2, rfl⟩
     rw [List.getElem?_map] at ex
     obtain ⟨a, ea, rfl⟩ := Option.map_eq_some_iff.mp ex
     have hj : j < ts.length := by
       rw [<- tr4.1]
       exact (List.getElem?_eq_some_iff.mp ea).1
     have et : ts[j]? = some ts[j] := by simp [hj]
     have ta := tr4.2 j a _ ea et
     obtain ⟨q1, q2, sc, c, eg⟩ := yKk.mp (pm.mem_iff.mp (List.mem_of_getElem? et))
     have hsc := rdy.sec _ _ _ _ _ q1 q2 eg
     refine ⟨_, rfl, p, dx, _, rfl, s4 _ _ h1, rfl, _, rfl, a, _, _, _, rfl, rfl, SqT.of ta, at1, _, rfl, a, _, _, _, rfl, rfl, SqT.of ta, at2, xJv (A1.same s4) q1 q2 fun v pv => ?_⟩
     rw [eg] at pv
     cases pv with
     | @wh ap _ _ _ ep =>
       refine ⟨ap, _, _, _, rfl, rfl, SqT.of ep, at0, _, rfl, a, _, _, _, rfl, rfl, SqT.of ta, at1, _, rfl, a, _, _, _, rfl, rfl, SqT.of ta, at2, by show 2 <= sizeLine; decide, fun tt ntt => ⟨_, rfl, _, rfl, pa, xs, _, sc, rfl, rfl, zWw ntt _ _ hpa, by rw [pat.1]; exact ixN_of (by omega) (by omega), ?_⟩⟩
       have s5 := zWw (o := .tup [.int (ts[j].2.1 : Int), .int (ts[j].2.2 : Int)]) ntt
       have tt5 : upd H4 tt (.tup [.int (ts[j].2.1 : Int), .int (ts[j].2.2 : Int)]) tt = some (.tup [.int (ts[j].2.1 : Int), .int (ts[j].2.2 : Int)]) := zQz
       have hpa5 := s5 _ _ hpa
       generalize upd H4 tt (.tup [.int (ts[j].2.1 : Int), .int (ts[j].2.2 : Int)]) = H5 at s5 tt5 hpa5 ⊢
       have kt : Tups H5 (upd H5 pa (.lst (xs.set sc (.ref tt)))) := fun c ys ec => by
         rw [zQv (xQk ec hpa5 (by intro z; cases z))]
         exact ec
       refine ⟨fun c o ec => ?_, (tr4.keep (.of s5)).keep kt, ?_, ⟨_, set1 pl sc (some ts[j].2), zQz, ?_, ?_⟩, _, _, rfl⟩
       . rw [zQv (zWv ec hpa0)]
         exact s5 _ _ (s4 _ _ ec)
       . rw [zQv pal.symm]
         exact s5 _ _ e4
       . exact ((pat.keep (.of s5)).set (b := ts[j].2.1) (i := ts[j].2.2) tt5).keep kt
       . rw [List.take_add_one, et]
         refine plt.step eg fun u mu => ?_
         obtain ⟨i, hi, ei⟩ := List.mem_iff_getElem.mp mu
         rw [List.length_take] at hi
         rw [List.getElem_take] at ei
         rw [<- ei]
         exact List.pairwise_iff_getElem.mp so i j (by omega) hj (by omega)
   . rintro σ H4 ⟨s4, tr4, e4, ⟨xs, pl, hpa, pat, plt⟩, v1, v2, rfl⟩
     refine ⟨_, rfl, h pa H4 xs pl hpa0 hpa pat (PlTo.done ?_ pm) s4⟩
     rw [List.length_map, tr4.1, List.take_length] at plt
     exact plt
def spLast (C : Addr) : Sp := fun vs H Q _ => ∃ (p : Addr) (G : GS) (fp : List Addr), vs = [.ref p] /\ ChipX C H p G fp /\ ∀ H', Same H H' -> Q (.int (G.last : Int)) H'
theorem scLa : FnScope ["chip", "block"] ["chip"] (defScope sLast) := ⟨rfl, rfl, rfl, by decide +kernel, rfl, by decide +kernel, by decide +kernel⟩
theorem nx_lt {n b : Nat} (h : b < n) : nx n b < n := by unfold nx; split <;> omega
theorem ok_last {f : Addr} {fd : FuncData} (F : Fun K "last_block" "last_block" sLast f fd) (T : Txt K mg C cBS cNP cNE cNS cBC cCu cWE)
   (M_size : MtB P w K mg base C 51 "size" ["self"] (xpSize C)) (B_is_erased : FnB P w K mg base 55 "is_erased" ["chip", "block"] (spIsEr C)) (B_block_behind : FnB P w K mg base 52 "block_behind" ["chip", "block"] (spBehind C)) : FnOk P w K mg base (CXw P w) 56 f fd ["chip"] (spLast C) := by
 refine F.okX (by decide) scLa (fun vs H Q E h => ?_) (fun cdv A outer s H vs Q E hr h => ?_)
 . obtain ⟨p, G, fp, rfl, _⟩ := h
   rfl
 . obtain ⟨p, G, fp, rfl, A1, h⟩ := h
   have lim := A1.lim
   obtain ⟨dx, S0, hl0, el0, h1⟩ := A1.at_
   refine ⟨_, (@zQj _ _ _ _ _ (@yJv _ _ _ _ _ _ _ _ PassesOwn.leaving rfl (@zJx _ _ _ _ _ _ rfl T.n_range (@zQw _ _ _ _ _ (@zJz _ _ _ _ _ _ _ (@zKq _) (@zZj _ _ _ _ _ _ _ _ _ _ _ _ T.cl M_size (hr.mono (by decide)) (@passE _ _ _) (pv 0) (by rfl)) zWx (fun _ _ => rfl)) zQk (by exact zQq rfl)) (by exact zQq rfl)) (@yWj _ _ (1) _ scLa.nd rfl (Or.inl rfl) (by first | exact .inl rfl | exact .inr rfl | assumption)) (@zWq _ _ _ (@yQz _ _ _ _ _ _ _ _ (PW.pt (@pw_and _ _ _ _ _ _ _ (@yJq _ _ _ _ (@yZv _ _ _ (@zWk _ _ _ _ _ _ _ _ _ _ _ B_is_erased (hr.mono (by decide)) rfl (@passE _ _ _) (@zQw _ _ _ _ _ (pv 0) (@zQw _ _ _ _ _ (pv 1) zQk (by exact zQq rfl)) (by exact zQq rfl)) (by decide) (by exact zQq rfl) (by exact zQx rfl)) (by intro _; rfl))) (@pw_and1 _ _ _ _ (@yZv _ _ _ (@zWk _ _ _ _ _ _ _ _ _ _ _ B_is_erased (hr.mono (by decide)) rfl (@passE _ _ _) (@zQw _ _ _ _ _ (pv 0) (@zQw _ _ _ _ _ (@zWk _ _ _ _ _ _ _ _ _ _ _ B_block_behind (hr.mono (by decide)) rfl (@passE _ _ _) (@zQw _ _ _ _ _ (pv 0) (@zQw _ _ _ _ _ (pv 1) zQk (by exact zQq rfl)) (by exact zQq rfl)) (by decide) (by exact zQq rfl) (by exact zQx rfl)) zQk (by exact zQq rfl)) (by exact zQq rfl)) (by decide) (by exact zQq rfl) (by exact zQx rfl)) (by intro _; rfl))))) (@zWq _ _ _ (@zZz _ _ _ _ (pv 1))) (@zZw _))) (by intro _; rfl)) (@zWq _ _ _ (@zZz _ _ _ _ zWx))), ?_⟩
   refine ⟨_, rfl, p, dx, _, rfl, h1, rfl, yQq A1 fun t H2 ht s2 => ⟨t, _, _, _, rfl, rfl, SqT.of ht, at0, (G.nb : Int), rfl, by omega, by omega, ?_⟩⟩
   refine yZw (lo := 0) (n := (G.nb : Int).toNat) (fun b σ H3 => Same H H3 /\ (∀ b', b' < b -> ¬ (¬ G.Er b' /\ G.Er (nx G.nb b'))) /\ ∃ v1, σ = [some (.ref p), v1]) ⟨s2, fun b' hb' => absurd hb' (Nat.not_lt_zero _), _, rfl⟩ ?_ ?_
   . rintro b σ H3 hb ⟨s3, first, v1, rfl⟩
     rw [Int.zero_add]
     have hb' : b < G.nb := by omega
     refine ⟨_, rfl, _, rfl, p, b, G, fp, rfl, A1.same s3, hb', fun H4 s4 => ⟨_, rfl, ?_⟩⟩
     have go : ∀ {H4 : Hp}, Same H3 H4 -> ¬ (¬ G.Er b /\ G.Er (nx G.nb b)) -> Same H H4 /\ (∀ b', b' < b + 1 -> ¬ (¬ G.Er b' /\ G.Er (nx G.nb b'))) /\ ∃ v1, [some (V.ref p), some (.int (b : Int))] = [some (.ref p), v1] := fun s4 hn => ⟨s3.trans s4, fun b' hb' => by
       by_cases z : b' = b
       . rw [z]; exact hn
       . exact first b' (by omega), _, rfl⟩
     by_cases he : G.Er b
     . rw [decide_eq_true he]
       exact iteF (iteF (go s4 fun z => z.1 he))
     . rw [decide_eq_false he]
       refine iteT ⟨_, rfl, _, rfl, _, rfl, p, b, G, fp, rfl, A1.same (s3.trans s4), hb', fun H5 s5 => ⟨p, nx G.nb b, G, fp, rfl, A1.same (s3.trans (s4.trans s5)), nx_lt hb', fun H6 s6 => ⟨_, rfl, ?_⟩⟩⟩
       by_cases he2 : G.Er (nx G.nb b)
       . rw [decide_eq_true he2]
         refine iteT ⟨_, rfl, ?_⟩
         have := h H6 (s3.trans (s4.trans (s5.trans s6)))
         rw [last_of hb' ⟨he, he2⟩ first] at this
         exact this
       . rw [decide_eq_false he2]
         exact iteF (go (s4.trans (s5.trans s6)) fun z => he2 z.2)
   . rintro σ H3 ⟨s3, first, v1, rfl⟩
     have := h H3 s3
     rw [Int.toNat_natCast] at first
     rw [last_none first] at this
     exact this
end
abbrev sMend : Stmt := top 13
abbrev sMounted : Stmt := top 12
abbrev sDInit : Stmt := inClass (top 11) 0
abbrev sDSectors : Stmt := inClass (top 11) 1
abbrev sDRead : Stmt := inClass (top 11) 2
abbrev sDWrite : Stmt := inClass (top 11) 3
abbrev sDCheck : Stmt := inClass (top 11) 4
abbrev sDBegin : Stmt := inClass (top 11) 5
abbrev sDClean : Stmt := inClass (top 11) 6
abbrev sDPut : Stmt := inClass (top 11) 7
def diskF (p pa : Addr) (many h f : Nat) : List (Str × V) := [("chip", .ref p), ("many", .int (many : Int)), ("places", .ref pa), ("block", .int (h : Int)), ("filled", .int (f : Int))]
structure DiskX (C DK : Addr) (H : Hp) (d p : Addr) (D : DS) (pa : Addr) (fp : List Addr) : Prop where
 ob : ∃ dx, H d = some (.ins DK dx (diskF p pa D.many D.h D.f))
 pl : ∃ xs, H pa = some (.lst xs) /\ PlAt H xs D.many D.pl
 ch : ChipX C H p D.G fp
 dp : d ≠ p
 pf : pa ∉ fp
 ms : D.many <= 480
theorem DiskX.df {C DK : Addr} {H : Hp} {d p : Addr} {D : DS} {pa : Addr} {fp : List Addr} (X : DiskX C DK H d p D pa fp) : d ∉ fp := by
 obtain ⟨dx, e⟩ := X.ob
 exact X.ch.noIns e X.dp
theorem DiskX.dpa {C DK : Addr} {H : Hp} {d p : Addr} {D : DS} {pa : Addr} {fp : List Addr} (X : DiskX C DK H d p D pa fp) : d ≠ pa := by
 obtain ⟨dx, e⟩ := X.ob
 obtain ⟨xs, e2, _⟩ := X.pl
 exact xQk e e2 (by intro z; cases z)
theorem DiskX.same {C DK : Addr} {H H' : Hp} {d p : Addr} {D : DS} {pa : Addr} {fp : List Addr} (X : DiskX C DK H d p D pa fp) (k : Same H H') : DiskX C DK H' d p D pa fp := by
 obtain ⟨dx, e⟩ := X.ob
 obtain ⟨xs, e2, q⟩ := X.pl
 exact ⟨⟨dx, k _ _ e⟩, ⟨xs, k _ _ e2, q.keep (.of k)⟩, X.ch.same k, X.dp, X.pf, X.ms⟩
theorem DiskX.chip {C DK : Addr} {H H' : Hp} {d p : Addr} {D : DS} {pa : Addr} {fp fp' : List Addr} {G' : GS} (X : DiskX C DK H d p D pa fp) (A' : ChipX C H' p G' fp') (k : Did H H' fp fp') : DiskX C DK H' d p { D with G := G' } pa fp' := by
 have kt := X.ch.tups k.keep
 obtain ⟨dx, e⟩ := X.ob
 obtain ⟨xs, e2, q⟩ := X.pl
 refine ⟨⟨dx, k.keep _ _ e X.df⟩, ⟨xs, k.keep _ _ e2 X.pf, q.keep kt⟩, A', X.dp, fun m => ?_, X.ms⟩
 rcases k.new _ m with m | z
 . exact X.pf m
 . rw [e2] at z; cases z
abbrev fpD (d pa : Addr) (fp : List Addr) : List Addr := d :: pa :: fp
theorem DiskX.tups {C DK : Addr} {H H' : Hp} {d p : Addr} {D : DS} {pa : Addr} {fp : List Addr} (X : DiskX C DK H d p D pa fp) (k : SameBut (fpD d pa fp) H H') : Tups H H' := fun a xs e => k a _ e fun m => by
 obtain ⟨dx, e1⟩ := X.ob
 obtain ⟨ys, e2, _⟩ := X.pl
 rcases List.mem_cons.mp m with z | m
 . rw [z, e1] at e; cases e
 rcases List.mem_cons.mp m with z | m
 . rw [z, e2] at e; cases e
 exact X.ch.noTup e m
section
variable {P : Program} {w : World} {K : PySem.W.Frag} {mg : Str -> Option Value} {base : Heap} {C DK cBS cNP cNE cNS cBC cCu cWE : Addr}
def spMend (C cCu : Addr) : Sp := fun vs H Q E => ∃ (p : Addr) (G : GS) (fp : List Addr) (many : Nat), vs = [.ref p] /\ ChipX C H p G fp /\ G.Rdy many /\ ∀ N, G.Newest N -> ∀ H' fp', ChipX C H' p (G.mend N).2 fp' -> Did H H' fp fp' -> if (G.mend N).1 = true then Q .non H' else ∀ x, E (.ref cCu) (some x) H'
theorem scMe : FnScope ["chip", "block", "newest", "behind"] ["chip"] (defScope sMend) := ⟨rfl, rfl, rfl, by decide +kernel, rfl, by decide +kernel, by decide +kernel⟩
theorem Newest.lt {G : GS} {N : Nat} (h : G.Newest N) : N < G.nb := by
 rcases h with ⟨_, h⟩ | ⟨h, _⟩ <;> omega
theorem newest_ex {G : GS} (h : 0 < G.nb) : ∃ N, G.Newest N := by
 by_cases e : ∃ t, t ∈ G.wl
 . obtain ⟨t, mt⟩ := e
   have mx : ∀ l : List (Int × Nat × Nat), l ≠ [] -> ∃ t ∈ l, ∀ u ∈ l, u.1 <= t.1 := fun l => by
     induction l with
     | nil => intro z; exact absurd rfl z
     | cons a l ih =>
       intro _
       cases l with
       | nil => exact ⟨a, by simp, fun u m => by obtain rfl := List.mem_singleton.mp m; exact Int.le_refl _⟩
       | cons b l =>
         obtain ⟨t, mt, q⟩ := ih (by simp)
         by_cases ht : t.1 <= a.1
         . refine ⟨a, by simp, fun u m => ?_⟩
           rcases List.mem_cons.mp m with rfl | m
           . exact Int.le_refl _
           . exact Int.le_trans (q u m) ht
         . refine ⟨t, List.mem_cons_of_mem _ mt, fun u m => ?_⟩
           rcases List.mem_cons.mp m with rfl | m
           . omega
           . exact q u m
   obtain ⟨t, mt, q⟩ := mx G.wl (List.ne_nil_of_mem mt)
   obtain ⟨h1, h2, s, c, e⟩ := yKk.mp mt
   exact ⟨t.2.1, .inr ⟨h1, t.2.2, s, c, t.1, h2, e, fun b j s' c' n' hb hj e' => q (n', b, j) (yKk.mpr ⟨hb, hj, s', c', e'⟩)⟩⟩
 . refine ⟨G.nb - 1, .inl ⟨fun b hb ⟨i, hi, s, c, n, e'⟩ => e ⟨(n, b, i), yKk.mpr ⟨hb, hi, s, c, e'⟩⟩, by omega⟩⟩
theorem mend_wh {G : GS} {N : Nat} (h : ∀ b, b < G.nb -> ¬ G.Er b) (hw : G.Wh (nx G.nb N)) : G.mend N = G.era N := by
 unfold GS.mend
 rw [if_neg fun ⟨b, hb, he⟩ => h b hb he, if_pos hw]
theorem mend_no {G : GS} {N : Nat} (h : ∀ b, b < G.nb -> ¬ G.Er b) (hw : ¬ G.Wh (nx G.nb N)) : G.mend N = G.era (nx G.nb N) := by
 unfold GS.mend
 rw [if_neg fun ⟨b, hb, he⟩ => h b hb he, if_neg hw]
theorem ok_mend {f : Addr} {fd : FuncData} (F : Fun K "mend" "mend" sMend f fd) (T : Txt K mg C cBS cNP cNE cNS cBC cCu cWE)
   (M_size : MtB P w K mg base C 51 "size" ["self"] (xpSize C)) (M_erase : MtB P w K mg base C 52 "erase" ["self", "block"] (xpErase C (clsOf cBS cNP cNE cCu))) (B_is_erased : FnB P w K mg base 55 "is_erased" ["chip", "block"] (spIsEr C)) (B_has_whole_page : FnB P w K mg base 55 "has_whole_page" ["chip", "block"] (spHasW C))
   (B_block_behind : FnB P w K mg base 52 "block_behind" ["chip", "block"] (spBehind C)) (B_newest_block : FnB P w K mg base 55 "newest_block" ["chip"] (spNewB C)) : FnOk P w K mg base (CXw P w) 57 f fd ["chip"] (spMend C cCu) := by
 refine F.okX (by decide) scMe (fun vs H Q E h => ?_) (fun cdv A outer s H vs Q E hr h => ?_)
 . obtain ⟨p, G, fp, many, rfl, _⟩ := h
   rfl
 . obtain ⟨p, G, fp, many, rfl, A1, rdy, h⟩ := h
   have lim := A1.lim
   obtain ⟨dx, S0, hl0, el0, h1⟩ := A1.at_
   refine ⟨_, (@zQj _ _ _ _ _ (@yJv _ _ _ _ _ _ _ _ PassesOwn.leaving rfl (@zJx _ _ _ _ _ _ rfl T.n_range (@zQw _ _ _ _ _ (@zJz _ _ _ _ _ _ _ (@zKq _) (@zZj _ _ _ _ _ _ _ _ _ _ _ _ T.cl M_size (hr.mono (by decide)) (@passE _ _ _) (pv 0) (by rfl)) zWx (fun _ _ => rfl)) zQk (by exact zQq rfl)) (by exact zQq rfl)) (@yWj _ _ (1) _ scMe.nd rfl (Or.inl rfl) (by first | exact .inl rfl | exact .inr rfl | assumption)) (@zWq _ _ _ (@yQz _ _ _ _ _ _ _ _ (@yZv _ _ _ (@zWk _ _ _ _ _ _ _ _ _ _ _ B_is_erased (hr.mono (by decide)) rfl (@passE _ _ _) (@zQw _ _ _ _ _ (pv 0) (@zQw _ _ _ _ _ (pv 1) zQk (by exact zQq rfl)) (by exact zQq rfl)) (by decide) (by exact zQq rfl) (by exact zQx rfl)) (by intro _; rfl)) (@zWq _ _ _ (@ps_retN _ _)) (@zZw _))) (by intro _; rfl)) (@zQj _ _ _ _ _ (@zJw _ _ (2) _ _ _ _ scMe.nd rfl (Or.inl rfl) (@zWk _ _ _ _ _ _ _ _ _ _ _ B_newest_block (hr.mono (by decide)) rfl (@passE _ _ _) (@zQw _ _ _ _ _ (pv 0) zQk (by exact zQq rfl)) (by decide) (by exact zQq rfl) (by exact zQx rfl)) (by rfl) (by first | exact .inl rfl | exact .inr rfl | assumption)) (@zQj _ _ _ _ _ (@zJw _ _ (3) _ _ _ _ scMe.nd rfl (Or.inl rfl) (@zWk _ _ _ _ _ _ _ _ _ _ _ B_block_behind (hr.mono (by decide)) rfl (@passE _ _ _) (@zQw _ _ _ _ _ (pv 0) (@zQw _ _ _ _ _ (pv 2) zQk (by exact zQq rfl)) (by exact zQq rfl)) (by decide) (by exact zQq rfl) (by exact zQx rfl)) (by rfl) (by first | exact .inl rfl | exact .inr rfl | assumption)) (@zWq _ _ _ (@zJv _ _ _ _ (@zWj _ _ _ _ _ _ _ _ _ _ _ _ _ _ _ T.cl M_erase (hr.mono (by decide)) zWz (pv 0) (@zQw _ _ _ _ _ (@xKw _ _ _ _ _ _ _ _ (@yZv _ _ _ (@zWk _ _ _ _ _ _ _ _ _ _ _ B_has_whole_page (hr.mono (by decide)) rfl (@passE _ _ _) (@zQw _ _ _ _ _ (pv 0) (@zQw _ _ _ _ _ (pv 3) zQk (by exact zQq rfl)) (by exact zQq rfl)) (by decide) (by exact zQq rfl) (by exact zQx rfl)) (by intro _; rfl)) (pv 2) (pv 3)) zQk (by exact zQq rfl)) (by exact zQq rfl) (by exact zQx rfl) (by rfl)) (by rfl)))))), ?_⟩
   refine ⟨_, rfl, p, dx, _, rfl, h1, rfl, yQq A1 fun t H2 ht s2 => ⟨t, _, _, _, rfl, rfl, SqT.of ht, at0, (G.nb : Int), rfl, by omega, by omega, ?_⟩⟩
   refine yZw (lo := 0) (n := (G.nb : Int).toNat) (fun b σ H3 => Same H H3 /\ (∀ b', b' < b -> ¬ G.Er b') /\ ∃ v1, σ = [some (.ref p), v1, none, none]) ⟨s2, fun b' hb' => absurd hb' (Nat.not_lt_zero _), _, rfl⟩ ?_ ?_
   . rintro b σ H3 hb ⟨s3, first, v1, rfl⟩
     rw [Int.zero_add]
     have hb' : b < G.nb := by omega
     refine ⟨_, rfl, _, rfl, p, b, G, fp, rfl, A1.same s3, hb', fun H4 s4 => ⟨_, rfl, ?_⟩⟩
     by_cases he : G.Er b
     . rw [decide_eq_true he]
       refine iteT ?_
       obtain ⟨N, hN⟩ := newest_ex (G := G) (by omega)
       have em : G.mend N = (true, G) := by unfold GS.mend; rw [if_pos ⟨b, hb', he⟩]
       have := h N hN H4 fp (by rw [em]; exact A1.same (s3.trans s4)) (.same (s3.trans s4))
       rw [em, if_pos rfl] at this
       exact this
     . rw [decide_eq_false he]
       exact iteF ⟨s3.trans s4, fun b' hb2 => by
         by_cases z : b' = b
         . rw [z]; exact he
         . exact first b' (by omega), _, rfl⟩
   . rintro σ H3 ⟨s3, first, v1, rfl⟩
     rw [Int.toNat_natCast] at first
     refine ⟨_, rfl, p, G, fp, many, rfl, A1.same s3, rdy, fun H4 N hN s4 => ?_⟩
     have Nlt := Newest.lt hN
     refine ⟨_, rfl, _, rfl, p, N, G, fp, rfl, A1.same (s3.trans s4), Nlt, fun H5 s5 => ?_⟩
     have s35 := s3.trans (s4.trans s5)
     refine ⟨_, rfl, p, dx, _, rfl, s35 _ _ h1, rfl, _, rfl, _, rfl, p, nx G.nb N, G, fp, rfl, A1.same s35, nx_lt Nlt, fun H6 k hk s6 => ⟨_, rfl, ?_⟩⟩
     have s36 := s35.trans s6
     have A6 := A1.same s36
     have did : ∀ {H7 : Hp} {fp7 : List Addr}, Did H6 H7 fp fp7 -> Did H H7 fp fp7 := fun k7 => ⟨fun b o e n => k7.keep b o (s36 _ _ e) n, fun b m => (k7.new b m).imp id s36.free⟩
     have fin : ∀ b, b < G.nb -> G.mend N = G.era b -> xpErase C (clsOf cBS cNP cNE cCu) [.ref p, .int b] H6 (fun v H7 => Q .non H7) E := fun b hb em => by
       refine use_erase A6 hb (fun H7 fp7 e7 A7 k7 => ?_) (fun H7 fp7 x e7 A7 k7 => ?_)
       . have := h N hN H7 fp7 (by rw [em]; exact A7) (did k7)
         rw [em, if_pos e7] at this
         exact this
       . have := h N hN H7 fp7 (by rw [em]; exact A7) (did k7)
         rw [em, if_neg (by rw [e7]; exact Bool.false_ne_true)] at this
         exact this x
     cases k with
     | true =>
       have hw := hk.mp rfl
       exact iteT ⟨_, rfl, fin N Nlt (mend_wh first hw)⟩
     | false =>
       have hw : ¬ G.Wh (nx G.nb N) := fun z => Bool.false_ne_true (hk.mpr z)
       exact iteF ⟨_, rfl, fin _ (nx_lt Nlt) (mend_no first hw)⟩
noncomputable def GS.disk (G : GS) (many : Nat) (pl : Nat -> Option (Nat × Nat)) : DS := { G := G, many := many, pl := pl, h := G.last, f := G.fill G.last }
def spDInit (C DK : Addr) : Sp := fun vs H Q _ => ∃ (d dx p : Addr) (G : GS) (fp : List Addr) (many : Nat), vs = [.ref d, .ref p, .int many] /\ H d = some (.ins DK dx []) /\ d ≠ p /\ ChipX C H p G fp /\ G.Rdy many /\ many <= 480 /\
 ∀ H' pa pl, DiskX C DK H' d p (G.disk many pl) pa fp -> G.Pl many pl -> SameBut [d] H H' -> H pa = none -> Q .non H'
theorem scDI : FnScope ["self", "chip", "many"] ["self", "chip", "many"] (defScope sDInit) := ⟨rfl, rfl, rfl, by decide +kernel, rfl, by decide +kernel, by decide +kernel⟩
theorem fill_of {H : Hp} {xs : List V} {G : GS} {b : Nat} (R : RowV H xs G b) : (((xs.filter fun v => !decide (v = .non)).map fun v => v).length : Int) = (G.fill b : Int) := by
 rw [List.length_map]
 unfold GS.fill
 have e : ((List.range G.np).filter fun i => decide (G.pg b i ≠ .er)) = (List.range G.np).filter fun i => !decide (xs.getD i .non = .non) := by
   apply List.filter_congr
   intro i m
   have hi := List.mem_range.mp m
   have hi' : i < xs.length := by rw [R.1]; exact hi
   have ev : xs[i]? = some xs[i] := by simp [hi']
   have := (R.2 i _ ev).isEr
   rw [List.getD_eq_getElem?_getD, ev, Option.getD_some, this]
   simp
 rw [e]
 have e2 : xs = (List.range G.np).map fun i => xs.getD i .non := by
   refine List.ext_getElem? fun i => ?_
   rw [List.getElem?_map]
   by_cases hi : i < G.np
   . rw [List.getElem?_range hi]
     have hi' : i < xs.length := by rw [R.1]; exact hi
     simp [List.getD_eq_getElem?_getD, hi']
   . rw [List.getElem?_eq_none (by rw [R.1]; omega), List.getElem?_eq_none (by simp; omega)]
     rfl
 conv => lhs; rw [e2]
 rw [List.filter_map, List.length_map]
 rfl
theorem last_lt {G : GS} (h : 0 < G.nb) : G.last < G.nb := by
 unfold GS.last
 cases e : (List.range G.nb).find? fun b => decide (¬ G.Er b /\ G.Er (nx G.nb b)) with
 | none => exact h
 | some b => exact List.mem_range.mp (List.mem_of_find?_eq_some e)
theorem ok_dinit {f : Addr} {fd : FuncData} (F : Fun K "__init__" "Disk.__init__" sDInit f fd) (T : Txt K mg C cBS cNP cNE cNS cBC cCu cWE) (TD : TxtD K mg DK cNS cBC)
   (B_newest_places : FnB P w K mg base 55 "newest_places" ["chip", "many"] (spNewP C)) (B_last_block : FnB P w K mg base 56 "last_block" ["chip"] (spLast C)) (B_things_on : FnB P w K mg base 54 "things_on" ["chip", "block"] (spThings C)) : FnOk P w K mg base (CXw P w) 57 f fd ["self", "chip", "many"] (spDInit C DK) := by
 refine F.okX (by decide) scDI (fun vs H Q E h => ?_) (fun cdv A outer s H vs Q E hr h => ?_)
 . obtain ⟨d, dx, p, G, fp, many, rfl, _⟩ := h
   rfl
 . obtain ⟨d, dx, p, G, fp, many, rfl, hd, dp, A1, rdy, hm, h⟩ := h
   have lim := A1.lim
   have df : d ∉ fp := A1.noIns hd dp
   have put : ∀ {H1 : Hp} {fs fs' : List (Str × V)}, ChipX C H1 p G fp -> H1 d = some (.ins DK dx fs) -> ChipX C (upd H1 d (.ins DK dx fs')) p G fp := fun A e => A.but (fp' := [d]) (yZk (by simp)) (fun b m => by obtain rfl := List.mem_singleton.mp m; exact df) fun a xs ea => by rw [zQv (xQk ea e (by intro z; cases z))]; exact ea
   have sb : ∀ {H1 : Hp} {o : HO}, SameBut [d] H H1 -> SameBut [d] H (upd H1 d o) := fun k b o e n => by rw [zQv (fun z => n (by rw [z]; simp))]; exact k b o e n
   refine ⟨_, (@zQj _ _ _ _ _ (@zKj _ _ _ _ _ _ _ _ (pv 0) (pv 1) rfl) (@zQj _ _ _ _ _ (@zKj _ _ _ _ _ _ _ _ (pv 0) (pv 2) rfl) (@zQj _ _ _ _ _ (@zKj _ _ _ _ _ _ _ _ (pv 0) (@zWk _ _ _ _ _ _ _ _ _ _ _ B_newest_places (hr.mono (by decide)) rfl (@passE _ _ _) (@zQw _ _ _ _ _ (pv 1) (@zQw _ _ _ _ _ (pv 2) zQk (by exact zQq rfl)) (by exact zQq rfl)) (by decide) (by exact zQq rfl) (by exact zQx rfl)) rfl) (@zQj _ _ _ _ _ (@zKj _ _ _ _ _ _ _ _ (pv 0) (@zWk _ _ _ _ _ _ _ _ _ _ _ B_last_block (hr.mono (by decide)) rfl (@passE _ _ _) (@zQw _ _ _ _ _ (pv 1) zQk (by exact zQq rfl)) (by decide) (by exact zQq rfl) (by exact zQx rfl)) rfl) (@zWq _ _ _ (@zKj _ _ _ _ _ _ _ _ (pv 0) (@zZv _ _ _ _ _ _ _ _ _ (@yZx _) rfl T.n_len PySem.boot_len (@zQw _ _ _ _ _ (@yKj _ _ _ _ _ _ _ _ ([]) ([]) _ _ _ rfl (@yKx _ _ _ _ (@zWk _ _ _ _ _ _ _ _ _ _ _ B_things_on (hr.mono (by decide)) rfl (@passE _ _ _) (@zQw _ _ _ _ _ (pv 1) (@zQw _ _ _ _ _ (@zZq _ _ _ _ _ (pv 0) rfl) zQk (by exact zQq rfl)) (by exact zQq rfl)) (by decide) (by exact zQq rfl) (by exact zQx rfl))) rfl (by decide +kernel) (by decide +kernel) (by decide +kernel) (by show ∀ y : Str × NameKind, y ∈ _ -> y.2 = NameKind.free -> List.lookup y.1 (defScope sDInit).names = some NameKind.cell; decide +kernel) (by show ∀ p : Str × Nat, p ∈ _ -> List.lookup p.1 _ = some NameKind.free /\ (["self", "chip", "many"] : List Str)[p.2]? = some p.1; decide +kernel) rfl (by decide +kernel) (fun _ _ _ _ _ => (@pts_one _ _ _ (@pt_cmp _ _ _ _ _ _ (@pc_notN _ _ _ _ _ (pv 0)) (by first | exact nobehind _ (by decide) (by decide) | rfl)))) (fun _ _ _ _ _ => (pv 0)) (by intro _; rfl)) zQk (by exact zQq rfl)) (by decide) (by decide) (by exact zQq rfl) (by exact zQx rfl)) rfl)))))), ?_⟩
   refine ⟨_, rfl, _, rfl, d, DK, dx, _, rfl, hd, TD.cl, TD.aC, by show 0 < 1000; decide, _, rfl, _, rfl, d, DK, dx, _, rfl, zQz, TD.cl, TD.aM, by show 1 < 1000; decide, ?_⟩
   rw [yKw]
   generalize hH2 : upd H d (HO.ins DK dx _) = H2
   have A2 : ChipX C H2 p G fp := by rw [<- hH2]; exact put A1 hd
   have k2 : SameBut [d] H H2 := by rw [<- hH2]; exact yZk (by simp)
   have h2 : H2 d = some (.ins DK dx [("chip", .ref p), ("many", .int many)]) := by rw [<- hH2]; exact zQz
   have fr2 : ∀ b, H2 b = none -> H b = none := fun b e => by
     by_cases z : b = d
     . rw [z, h2] at e; cases e
     . rw [<- hH2, zQv z] at e; exact e
   clear hH2
   refine ⟨_, rfl, _, rfl, p, G, fp, many, rfl, A2, rdy, hm, fun pa H3 xs pl npa hpa pat gpl s3 => ⟨_, rfl, d, DK, dx, _, rfl, s3 _ _ h2, TD.cl, TD.aP, by show 2 < 1000; decide, ?_⟩⟩
   have pad : pa ≠ d := (zWv h2 npa).symm
   have npa0 := fr2 _ npa
   have k3 : SameBut [d] H H3 := fun b o e n => s3 _ _ (k2 b o e n)
   have h3 := s3 _ _ h2
   have A3 := A2.same s3
   generalize hH4 : upd H3 d (HO.ins DK dx _) = H4
   have A4 : ChipX C H4 p G fp := by rw [<- hH4]; exact put A3 h3
   have k4 : SameBut [d] H H4 := by rw [<- hH4]; exact sb k3
   have h4 : H4 d = some (.ins DK dx [("chip", .ref p), ("many", .int many), ("places", .ref pa)]) := by rw [<- hH4]; exact zQz
   have t4 : Tups H3 H4 := fun a ys ea => by rw [<- hH4, zQv (xQk ea h3 (by intro z; cases z))]; exact ea
   have hpa4 : H4 pa = some (.lst xs) := by rw [<- hH4, zQv pad]; exact hpa
   have pat4 := pat.keep t4
   clear hH4
   refine ⟨_, rfl, p, G, fp, rfl, A4, fun H5 s5 => ⟨_, rfl, d, DK, dx, _, rfl, s5 _ _ h4, TD.cl, TD.aB, by show 3 < 1000; decide, ?_⟩⟩
   have k5 : SameBut [d] H H5 := fun b o e n => s5 _ _ (k4 b o e n)
   have h5 := s5 _ _ h4
   have A5 := A4.same s5
   have hpa5 := s5 _ _ hpa4
   have pat5 := pat4.keep (.of s5)
   generalize hH6 : upd H5 d (HO.ins DK dx _) = H6
   have A6 : ChipX C H6 p G fp := by rw [<- hH6]; exact put A5 h5
   have k6 : SameBut [d] H H6 := by rw [<- hH6]; exact sb k5
   have h6 : H6 d = some (.ins DK dx [("chip", .ref p), ("many", .int many), ("places", .ref pa), ("block", .int (G.last : Int))]) := by rw [<- hH6]; exact zQz
   have t6 : Tups H5 H6 := fun a ys ea => by rw [<- hH6, zQv (xQk ea h5 (by intro z; cases z))]; exact ea
   have hpa6 : H6 pa = some (.lst xs) := by rw [<- hH6, zQv pad]; exact hpa5
   have pat6 := pat5.keep t6
   clear hH6
   refine yZj (fun l H' => ∃ xs, H' l = some (.lst xs) /\ RowV H' xs G G.last /\ Same H6 H') (fun R q => ⟨_, rfl, _, rfl, d, DK, dx, _, _, rfl, h6, TD.cl, TD.aB, rfl, p, G.last, G, fp, rfl, A6, last_lt (by omega), fun l H' xs e1 e2 e3 => q l H' ⟨xs, e1, e2, e3⟩⟩) ?_
   rintro a H7 ⟨ys, e1, rv, s7⟩
   refine ⟨ys, fun v => !decide (v = .non), fun v => v, e1, by have := rv.1; omega, fun i x H8 R _ _ q => ⟨_, rfl, ?_⟩, fun i x H8 R _ _ _ q => ⟨_, rfl, q⟩, fun acc H8 hacc s8 => ⟨acc, _, rfl, .inl (SqL.of hacc), ?_⟩⟩
   . exact ⟨_, rfl, q⟩
   rw [fill_of rv]
   have s68 := s7.trans s8
   have h8 := s68 _ _ h6
   have A8 := A6.same s68
   have k8 : SameBut [d] H H8 := fun b o e n => s68 _ _ (k6 b o e n)
   refine ⟨_, rfl, d, DK, dx, _, rfl, h8, TD.cl, TD.aF, by show 4 < 1000; decide, ?_⟩
   have t8 : Tups H8 (upd H8 d (.ins DK dx (diskF p pa many G.last (G.fill G.last)))) := fun a ys ea => by rw [zQv (xQk ea h8 (by intro z; cases z))]; exact ea
   have paf : pa ∉ fp := fun m => by
     obtain ⟨o, e⟩ := A1.tr m
     rw [npa0] at e; cases e
   exact h _ pa pl ⟨⟨dx, zQz⟩, ⟨xs, by rw [zQv pad]; exact s68 _ _ hpa6, (pat6.keep (.of s68)).keep t8⟩, put A8 h8, dp, paf, hm⟩ gpl (sb k8) npa0
def spMounted (C DK cBS cCu : Addr) : Sp := fun vs H Q E => ∃ (p : Addr) (G : GS) (fp : List Addr) (z : Int), vs = [.ref p, .int z] /\ ChipX C H p G fp /\
 ((¬ (1 <= z /\ z <= ((G.nb : Int) - 2) * G.np) /\ ∀ H' x, Same H H' -> E (.ref cBS) (some x) H') \/
  ∃ many : Nat, z = many /\ 1 <= many /\ many <= (G.nb - 2) * G.np /\ G.Rdy many /\ ∀ N, G.Newest N -> if (G.mend N).1 = true then (G.mend N).2.Rdy many /\ ∀ d H' pa pl fp', DiskX C DK H' d p ((G.mend N).2.disk many pl) pa fp' -> (G.mend N).2.Pl many pl -> Did H H' fp fp' -> (∀ o, H d = some o -> d ∈ fp) -> (∀ o, H pa = some o -> pa ∈ fp) -> Q (.ref d) H'
     else ∀ H' x fp', ChipX C H' p (G.mend N).2 fp' -> Did H H' fp fp' -> E (.ref cCu) (some x) H')
theorem scMo : FnScope ["chip", "sectors", "size"] ["chip", "sectors"] (defScope sMounted) := ⟨rfl, rfl, rfl, by decide +kernel, rfl, by decide +kernel, by decide +kernel⟩
theorem ok_mounted {f : Addr} {fd : FuncData} (F : Fun K "mounted" "mounted" sMounted f fd) (T : Txt K mg C cBS cNP cNE cNS cBC cCu cWE) (TD : TxtD K mg DK cNS cBC)
   (M_size : MtB P w K mg base C 51 "size" ["self"] (xpSize C)) (B_mend : FnB P w K mg base 57 "mend" ["chip"] (spMend C cCu)) (B_Disk : MkB P w K mg base DK 57 "Disk" ["self", "chip", "many"] (spDInit C DK)) : FnOk P w K mg base (CXw P w) 59 f fd ["chip", "sectors"] (spMounted C DK cBS cCu) := by
 refine F.okX (by decide) scMo (fun vs H Q E h => ?_) (fun cdv A outer s H vs Q E hr h => ?_)
 . obtain ⟨p, G, fp, z, rfl, _⟩ := h
   rfl
 . obtain ⟨p, G, fp, z, rfl, A1, h⟩ := h
   have lim := A1.lim
   obtain ⟨dx, S0, hl0, el0, h1⟩ := A1.at_
   refine ⟨_, (@zQj _ _ _ _ _ (@zJw _ _ (2) _ _ _ _ scMo.nd rfl (Or.inl rfl) (@zZj _ _ _ _ _ _ _ _ _ _ _ _ T.cl M_size (hr.mono (by decide)) (@passE _ _ _) (pv 0) (by rfl)) (by rfl) (by first | exact .inl rfl | exact .inr rfl | assumption)) (@zQj _ _ _ _ _ (@yQz _ _ _ _ _ _ _ _ (@yJq _ _ _ _ (@yJz _ _ _ _ _ _ _ _ _ _ _ _ (@xJz _) (@xJz _) zWx (pv 1) (@zZx _ _ _ _ _ _ _ _ (@op_mul _) (@zZx _ _ _ _ _ _ _ _ (@op_sub _) (@zJz _ _ _ _ _ _ _ (@zKq _) (pv 2) zWx (fun _ _ => rfl)) (@pe_gl _ _ _ _ rfl TD.g_SB (by decide))) (@zJz _ _ _ _ _ _ _ (@zKq _) (pv 2) zWx (fun _ _ => rfl))) (by with_unfolding_all rfl))) (@zWq _ _ _ (@yQx _ _ _ _ _ _ _ _ _ _ yQw T.x_BadSize rfl rfl T.g_BadSize (@zQw _ _ _ _ _ (@zKw _ _ _ _) zQk (by exact zQq rfl)) (by decide) (by exact zQq rfl) (by exact zQx rfl))) (@zZw _)) (@zQj _ _ _ _ _ (@zJv _ _ _ _ (@zWk _ _ _ _ _ _ _ _ _ _ _ B_mend (hr.mono (by decide)) rfl zWz (@zQw _ _ _ _ _ (pv 0) zQk (by exact zQq rfl)) (by decide) (by exact zQq rfl) (by exact zQx rfl)) (by rfl)) (@zWq _ _ _ (@zZz _ _ _ _ (@pe_makeF _ _ _ _ _ _ _ _ _ _ _ _ B_Disk (hr.mono (by decide)) rfl zWz (@zQw _ _ _ _ _ (pv 0) (@zQw _ _ _ _ _ (pv 1) zQk (by exact zQq rfl)) (by exact zQq rfl)) (by decide) (by exact zQq rfl) (by exact zQx rfl))))))), ?_⟩
   refine ⟨_, rfl, p, dx, _, rfl, h1, rfl, yQq A1 fun t H2 ht s2 => ?_⟩
   have lo : (0 : Int) <= (G.nb : Int) - 2 := by omega
   have bad : ¬ (1 <= z /\ z <= ((G.nb : Int) - 2) * G.np) -> ∀ x, E (.ref cBS) (some x) H2 := fun hz x => by
     rcases h with ⟨_, h⟩ | ⟨many, rfl, m1, m2, _⟩
     . exact h H2 x s2
     . refine absurd ⟨by omega, ?_⟩ hz
       have : ((many : Nat) : Int) <= (((G.nb - 2) * G.np : Nat) : Int) := by omega
       rw [Int.natCast_mul, show ((G.nb - 2 : Nat) : Int) = (G.nb : Int) - 2 by omega] at this
       exact this
   refine ⟨_, rfl, _, _, rfl, rfl, _, rfl, ite2 (fun h0 => ?_) fun h0 => ?_⟩
   rotate_left
   . have h0' : ¬ (1 <= z) := by simpa using h0
     exact ⟨_, rfl, iteT ⟨by decide, bad fun q => h0' q.1⟩⟩
   have h0' : 1 <= z := by simpa using h0
   refine ⟨_, rfl, t, _, _, _, rfl, rfl, SqT.of ht, at0, _, _, rfl, rfl, _, rfl, t, _, _, _, rfl, rfl, SqT.of ht, at1, _, _, rfl, rfl, .inl ⟨by omega, by omega⟩, _, _, rfl, rfl, _, rfl, ?_⟩
   by_cases hz : z <= ((G.nb : Int) - 2) * G.np
   rotate_left
   . rw [decide_eq_false hz]
     exact iteT ⟨by decide, bad fun q => hz q.2⟩
   rw [decide_eq_true hz]
   refine iteF ?_
   rcases h with ⟨hb, _⟩ | ⟨many, rfl, m1, m2, rdy, h⟩
   . exact absurd ⟨h0', hz⟩ hb
   have ms : many <= 480 := by
     have : (G.nb - 2) * G.np <= 30 * 16 := Nat.mul_le_mul (by omega) (by omega)
     omega
   refine ⟨_, rfl, p, G, fp, many, rfl, A1.same s2, rdy, fun N hN H3 fp3 A3 k3 => ?_⟩
   have hN' := h N hN
   have k13 : Did H H3 fp fp3 := ⟨fun b o e n => k3.keep b o (s2 _ _ e) n, fun b m => (k3.new b m).imp id s2.free⟩
   by_cases hm : (G.mend N).1 = true
   . rw [if_pos hm] at hN' ⊢
     obtain ⟨rdy2, hN'⟩ := hN'
     refine ⟨_, rfl, _, rfl, fun x dx' nx ndx ne => ⟨x, dx', p, (G.mend N).2, fp3, many, rfl, zQz, ?_, A3.same ((zWw ndx).trans (zWw (by rw [zQv (Ne.symm ne)]; exact nx))), rdy2, ms, fun H4 pa pl D4 gpl k4 npa => ⟨rfl, hN' x H4 pa pl fp3 D4 gpl ?_ ?_ ?_⟩⟩⟩
     . obtain ⟨dx3, _, _, _, e3⟩ := A3.at_
       exact (zWv e3 nx).symm
     . have s0 : Same H3 (upd (upd H3 dx' (.own x)) x (.ins DK dx' [])) := (zWw ndx).trans (zWw (by rw [zQv (Ne.symm ne)]; exact nx))
       refine ⟨fun b o e n => ?_, k13.new⟩
       have e3 := k13.keep b o e n
       exact k4 b o (s0 _ _ e3) (by have := zWv e3 nx; simpa using this)
     . intro o e
       refine Decidable.byContradiction fun mf => ?_
       rw [k13.keep x o e mf] at nx
       cases nx
     . intro o e
       refine Decidable.byContradiction fun mf => ?_
       have s0 : Same H3 (upd (upd H3 dx' (.own x)) x (.ins DK dx' [])) := (zWw ndx).trans (zWw (by rw [zQv (Ne.symm ne)]; exact nx))
       have npa3 := s0.free npa
       rw [k13.keep pa o e mf] at npa3
       cases npa3
   . rw [if_neg hm] at hN' ⊢
     exact fun x => hN' H3 x fp3 A3 k13
end
theorem Did.trans {H H1 H2 : Hp} {fp fp1 fp2 : List Addr} (a : Did H H1 fp fp1) (b : Did H1 H2 fp1 fp2) : Did H H2 fp fp2 := by
 refine ⟨fun c o e n => ?_, fun c m => ?_⟩
 . have e1 := a.keep c o e n
   refine b.keep c o e1 fun m => ?_
   rcases a.new c m with z | z
   . exact n z
   . rw [e] at z; cases z
 . rcases b.new c m with z | z
   . exact a.new c z
   . cases e : H c with
     | none => exact .inr rfl
     | some o =>
       refine .inl (Decidable.byContradiction fun n => ?_)
       rw [a.keep c o e n] at z
       cases z
theorem Did.wide {H H' : Hp} {fp fp' : List Addr} (a : Did H H' fp fp') (d pa : Addr) : Did H H' (fpD d pa fp) (fpD d pa fp') := by
 refine ⟨fun c o e n => a.keep c o e fun m => n (List.mem_cons_of_mem _ (List.mem_cons_of_mem _ m)), fun c m => ?_⟩
 rcases List.mem_cons.mp m with z | m
 . exact .inl (by rw [z]; simp)
 rcases List.mem_cons.mp m with z | m
 . exact .inl (by rw [z]; simp)
 exact (a.new c m).imp (fun z => List.mem_cons_of_mem _ (List.mem_cons_of_mem _ z)) id
theorem Did.ofBut {H H' : Hp} {fp : List Addr} (k : SameBut fp H H') : Did H H' fp fp := ⟨k, fun _ m => .inl m⟩
section
variable {P : Program} {w : World} {K : PySem.W.Frag} {mg : Str -> Option Value} {base : Heap} {C DK cBS cNP cNE cNS cBC cCu cWE : Addr}
def spDSectors (C DK : Addr) : Sp := fun vs H Q _ => ∃ (d p : Addr) (D : DS) (pa : Addr) (fp : List Addr), vs = [.ref d] /\ DiskX C DK H d p D pa fp /\ Q (.int (D.many : Int)) H
theorem scDS : FnScope ["self"] ["self"] (defScope sDSectors) := ⟨rfl, rfl, rfl, by decide +kernel, rfl, by decide +kernel, by decide +kernel⟩
theorem ok_dsectors {f : Addr} {fd : FuncData} (F : Fun K "sectors" "Disk.sectors" sDSectors f fd) (TD : TxtD K mg DK cNS cBC) : FnOk P w K mg base (CXw P w) 51 f fd ["self"] (spDSectors C DK) := by
 refine F.okX (by decide) scDS (fun vs H Q E h => ?_) (fun cdv A outer s H vs Q E hr h => ?_)
 . obtain ⟨d, p, D, pa, fp, rfl, _⟩ := h
   rfl
 . obtain ⟨d, p, D, pa, fp, rfl, X, h⟩ := h
   obtain ⟨dx, h1⟩ := X.ob
   exact ⟨_, (@zWq _ _ _ (@zZz _ _ _ _ (@zZq _ _ _ _ _ (pv 0) rfl))), _, rfl, d, DK, dx, _, _, rfl, h1, TD.cl, TD.aM, rfl, h⟩
def spDCheck (C DK cNS : Addr) : Sp := fun vs H Q E => ∃ (d p : Addr) (D : DS) (pa : Addr) (fp : List Addr) (z : Int), vs = [.ref d, .int z] /\ DiskX C DK H d p D pa fp /\ if 0 <= z /\ z < D.many then Q .non H else ∀ x, E (.ref cNS) (some x) H
theorem scDCk : FnScope ["self", "sector"] ["self", "sector"] (defScope sDCheck) := ⟨rfl, rfl, rfl, by decide +kernel, rfl, by decide +kernel, by decide +kernel⟩
theorem ok_dcheck {f : Addr} {fd : FuncData} (F : Fun K "check_sector" "Disk.check_sector" sDCheck f fd) (T : Txt K mg C cBS cNP cNE cNS cBC cCu cWE) (TD : TxtD K mg DK cNS cBC) : FnOk P w K mg base (CXw P w) 51 f fd ["self", "sector"] (spDCheck C DK cNS) := by
 refine F.okX (by decide) scDCk (fun vs H Q E h => ?_) (fun cdv A outer s H vs Q E hr h => ?_)
 . obtain ⟨d, p, D, pa, fp, z, rfl, _⟩ := h
   rfl
 . obtain ⟨d, p, D, pa, fp, z, rfl, X, h⟩ := h
   obtain ⟨dx, h1⟩ := X.ob
   refine ⟨_, (@zWq _ _ _ (@yQz _ _ _ _ _ _ _ _ (@yJq _ _ _ _ (@yJz _ _ _ _ _ _ _ _ _ _ _ _ (@xJz _) (@op_lt _) zWx (pv 1) (@zZq _ _ _ _ _ (pv 0) rfl) (by with_unfolding_all rfl))) (@zWq _ _ _ (@yQx _ _ _ _ _ _ _ _ _ _ yQw TD.x_NoSector rfl rfl T.g_NoSector (@zQw _ _ _ _ _ (@zKw _ _ _ _) zQk (by exact zQq rfl)) (by decide) (by exact zQq rfl) (by exact zQx rfl))) (@zZw _))), ?_⟩
   refine ⟨_, rfl, _, _, rfl, rfl, _, rfl, ite2 (fun h0 => ?_) fun h0 => ?_⟩
   . refine ⟨_, rfl, d, DK, dx, _, _, rfl, h1, TD.cl, TD.aM, rfl, _, _, rfl, rfl, _, rfl, ?_⟩
     have h0' : 0 <= z := by simpa using h0
     by_cases hb : z < D.many
     . rw [decide_eq_true hb]
       rw [if_pos ⟨h0', hb⟩] at h
       exact iteF h
     . rw [decide_eq_false hb]
       rw [if_neg fun q => hb q.2] at h
       exact iteT ⟨by decide, h⟩
   . have h0' : ¬ 0 <= z := by simpa using h0
     rw [if_neg fun q => h0' q.1] at h
     exact ⟨_, rfl, iteT ⟨by decide, h⟩⟩
def spDRead (C DK cNS : Addr) : Sp := fun vs H Q E => ∃ (d p : Addr) (D : DS) (pa : Addr) (fp : List Addr) (z : Int), vs = [.ref d, .int z] /\ DiskX C DK H d p D pa fp /\
 ((¬ (0 <= z /\ z < D.many) /\ ∀ x, E (.ref cNS) (some x) H) \/ ∃ s : Nat, z = s /\ s < D.many /\ D.G.Pl D.many D.pl /\ Q (.int (D.read s)) H)
theorem scDR : FnScope ["self", "sector", "place"] ["self", "sector"] (defScope sDRead) := ⟨rfl, rfl, rfl, by decide +kernel, rfl, by decide +kernel, by decide +kernel⟩
theorem ok_dread {f : Addr} {fd : FuncData} (F : Fun K "read" "Disk.read" sDRead f fd) (T : Txt K mg C cBS cNP cNE cNS cBC cCu cWE) (TD : TxtD K mg DK cNS cBC)
   (M_page : MtB P w K mg base C 53 "page" ["self", "block", "page"] (xpPage C cNP)) (N_check_sector : MtB P w K mg base DK 51 "check_sector" ["self", "sector"] (spDCheck C DK cNS)) : FnOk P w K mg base (CXw P w) 54 f fd ["self", "sector"] (spDRead C DK cNS) := by
 refine F.okX (by decide) scDR (fun vs H Q E h => ?_) (fun cdv A outer s H vs Q E hr h => ?_)
 . obtain ⟨d, p, D, pa, fp, z, rfl, _⟩ := h
   rfl
 . obtain ⟨d, p, D, pa, fp, z, rfl, X, h⟩ := h
   obtain ⟨dx, h1⟩ := X.ob
   obtain ⟨xs, h2, pat⟩ := X.pl
   obtain ⟨dxc, S0, hl0, el0, h3⟩ := X.ch.at_
   refine ⟨_, (@zQj _ _ _ _ _ (@zJv _ _ _ _ (@zWj _ _ _ _ _ _ _ _ _ _ _ _ _ _ _ TD.cl N_check_sector (hr.mono (by decide)) zWz (pv 0) (@zQw _ _ _ _ _ (pv 1) zQk (by exact zQq rfl)) (by exact zQq rfl) (by exact zQx rfl) (by rfl)) (by rfl)) (@zQj _ _ _ _ _ (@zJw _ _ (2) _ _ _ _ scDR.nd rfl (Or.inl rfl) (@zJz _ _ _ _ _ _ _ (@zKz _) (@zZq _ _ _ _ _ (pv 0) rfl) (pv 1) (fun _ _ => rfl)) (by rfl) (by first | exact .inl rfl | exact .inr rfl | assumption)) (@zQj _ _ _ _ _ (@yQz _ _ _ _ _ _ _ _ (@pt_cmp _ _ _ _ _ _ (@pc_isN _ _ _ _ _ (pv 2)) (by first | exact nobehind _ (by decide) (by decide) | rfl)) (@zWq _ _ _ (@zZz _ _ _ _ zWx)) (@zZw _)) (@zWq _ _ _ (@zZz _ _ _ _ (@zJz _ _ _ _ _ _ _ (@zKq _) (@zWj _ _ _ _ _ _ _ _ _ _ _ _ _ _ _ T.cl M_page (hr.mono (by decide)) zWz (@zZq _ _ _ _ _ (pv 0) rfl) (@zQw _ _ _ _ _ (@zJz _ _ _ _ _ _ _ (@zKq _) (pv 2) zWx (fun _ _ => rfl)) (@zQw _ _ _ _ _ (@zJz _ _ _ _ _ _ _ (@zKq _) (pv 2) zWx (fun _ _ => rfl)) zQk (by exact zQq rfl)) (by exact zQq rfl)) (by exact zQq rfl) (by exact zQx rfl) (by rfl)) zWx (fun _ _ => rfl))))))), ?_⟩
   refine ⟨_, rfl, d, dx, _, rfl, h1, rfl, _, rfl, d, p, D, pa, fp, z, rfl, X, ?_⟩
   rcases h with ⟨hb, h⟩ | ⟨s, rfl, hs, gp, h⟩
   . rw [if_neg hb]
     exact h
   . rw [if_pos ⟨by omega, by omega⟩]
     have hs' : s < xs.length := by rw [pat.1]; exact hs
     have es : xs[s]? = some xs[s] := by simp [hs']
     have pv := pat.2 s _ es
     have gs := gp s hs
     refine ⟨_, rfl, d, DK, dx, _, _, rfl, h1, TD.cl, TD.aP, rfl, _, rfl, pa, _, _, _, rfl, rfl, SqL.of h2, yKq (by omega) (by rw [Int.toNat_natCast]; exact es), ?_⟩
     unfold DS.read at h
     generalize xs[s] = v at pv
     cases e : D.pl s with
     | none =>
       rw [e] at pv h
       cases pv
       exact ⟨_, rfl, _, rfl, iteT h⟩
     | some bi =>
       obtain ⟨b, i⟩ := bi
       rw [e] at pv h gs
       obtain ⟨hb, hi, c, n, eg, _⟩ := gs
       dsimp only at h
       rw [eg] at h
       cases pv with
       | @at_ a _ _ ea =>
         refine ⟨_, rfl, _, rfl, iteF ?_⟩
         refine ⟨_, rfl, d, DK, dx, _, _, rfl, h1, TD.cl, TD.aC, rfl, p, dxc, _, rfl, h3, rfl, _, rfl, a, _, _, _, rfl, rfl, SqT.of ea, at0, _, rfl, a, _, _, _, rfl, rfl, SqT.of ea, at1, xJv X.ch hb hi fun v pv => ?_⟩
         rw [eg] at pv
         cases pv with
         | @wh ap _ _ _ ep => exact ⟨ap, _, _, _, rfl, rfl, SqT.of ep, at1, h⟩
def EndsD (C DK cCu : Addr) (H : Hp) (d p pa : Addr) (fp : List Addr) (Q : VK) (E : XK) (r : Bool × DS) : Prop :=
 ∀ H' fp', DiskX C DK H' d p r.2 pa fp' -> Did H H' (fpD d pa fp) (fpD d pa fp') -> if r.1 = true then Q .non H' else ∀ x, E (.ref cCu) (some x) H'
theorem EndsD.ok {H : Hp} {d p pa : Addr} {fp : List Addr} {Q : VK} {E : XK} {r : Bool × DS} (h : EndsD C DK cCu H d p pa fp Q E r) (e : r.1 = true) {H' : Hp} {fp' : List Addr} (X : DiskX C DK H' d p r.2 pa fp') (k : Did H H' (fpD d pa fp) (fpD d pa fp')) : Q .non H' := by
 have := h H' fp' X k
 rwa [if_pos e] at this
theorem EndsD.cut {H : Hp} {d p pa : Addr} {fp : List Addr} {Q : VK} {E : XK} {r : Bool × DS} (h : EndsD C DK cCu H d p pa fp Q E r) (e : r.1 = false) {H' : Hp} {fp' : List Addr} (X : DiskX C DK H' d p r.2 pa fp') (k : Did H H' (fpD d pa fp) (fpD d pa fp')) (x : Addr) : E (.ref cCu) (some x) H' := by
 have := h H' fp' X k
 rw [if_neg (by rw [e]; exact Bool.false_ne_true)] at this
 exact this x
def spDPut (C DK cCu : Addr) : Sp := fun vs H Q E => ∃ (d p : Addr) (D : DS) (pa : Addr) (fp : List Addr) (s : Nat) (c : Int) (r : Bool × DS), vs = [.ref d, .int s, .int c] /\ DiskX C DK H d p D pa fp /\ D.put s c = some r /\ EndsD C DK cCu H d p pa fp Q E r
theorem scDP : FnScope ["self", "sector", "content"] ["self", "sector", "content"] (defScope sDPut) := ⟨rfl, rfl, rfl, by decide +kernel, rfl, by decide +kernel, by decide +kernel⟩
theorem put_of {D : DS} {s : Nat} {c : Int} {r : Bool × DS} (h : D.put s c = some r) : (D.h < D.G.nb /\ D.f < D.G.np /\ D.G.Clear D.h D.f /\ s < D.many) /\
   (((D.G.put D.h D.f (.wh s c D.G.many)).1 = true /\ r = (true, { D with G := (D.G.put D.h D.f (.wh s c D.G.many)).2, pl := set1 D.pl s (some (D.h, D.f)), f := D.f + 1 })) \/
    ((D.G.put D.h D.f (.wh s c D.G.many)).1 = false /\ r = (false, { D with G := (D.G.put D.h D.f (.wh s c D.G.many)).2 }))) := by
 unfold DS.put at h
 split at h
 . rename_i hc
   refine ⟨hc, ?_⟩
   cases e : (D.G.put D.h D.f (.wh s c D.G.many)).1 with
   | true =>
     rw [if_pos e] at h
     exact .inl ⟨rfl, (Option.some.inj h).symm⟩
   | false =>
     rw [if_neg (by rw [e]; exact Bool.false_ne_true)] at h
     exact .inr ⟨rfl, (Option.some.inj h).symm⟩
 . cases h
theorem ok_dput {f : Addr} {fd : FuncData} (F : Fun K "put" "Disk.put" sDPut f fd) (T : Txt K mg C cBS cNP cNE cNS cBC cCu cWE) (TD : TxtD K mg DK cNS cBC)
   (M_write : MtB P w K mg base C 53 "write" ["self", "block", "page", "thing"] (xpWrite C (clsOf cBS cNP cNE cCu))) (M_written : MtB P w K mg base C 51 "written" ["self"] (xpWritten C)) : FnOk P w K mg base (CXw P w) 54 f fd ["self", "sector", "content"] (spDPut C DK cCu) := by
 refine F.okX (by decide) scDP (fun vs H Q E h => ?_) (fun cdv A outer s H vs Q E hr h => ?_)
 . obtain ⟨d, p, D, pa, fp, sc, c, r, rfl, _⟩ := h
   rfl
 . obtain ⟨d, p, D, pa, fp, sc, c, r, rfl, X, hp, h⟩ := h
   obtain ⟨⟨c1, c2, c3, c4⟩, hr2⟩ := put_of hp
   obtain ⟨dx, h1⟩ := X.ob
   obtain ⟨xs, h2, pat⟩ := X.pl
   obtain ⟨dxc, S0, hl0, el0, h3⟩ := X.ch.at_
   refine ⟨_, (@zQj _ _ _ _ _ (@zJv _ _ _ _ (@zWj _ _ _ _ _ _ _ _ _ _ _ _ _ _ _ T.cl M_write (hr.mono (by decide)) zWz (@zZq _ _ _ _ _ (pv 0) rfl) (@zQw _ _ _ _ _ (@zZq _ _ _ _ _ (pv 0) rfl) (@zQw _ _ _ _ _ (@zZq _ _ _ _ _ (pv 0) rfl) (@zQw _ _ _ _ _ (@xJx _ _ _ _ _ (@zQw _ _ _ _ _ (pv 1) (@zQw _ _ _ _ _ (pv 2) (@zQw _ _ _ _ _ (@zZj _ _ _ _ _ _ _ _ _ _ _ _ T.cl M_written (hr.mono (by decide)) (@passE _ _ _) (@zZq _ _ _ _ _ (pv 0) rfl) (by rfl)) zQk (by exact zQq rfl)) (by exact zQq rfl)) (by exact zQq rfl))) zQk (by exact zQq rfl)) (by exact zQq rfl)) (by exact zQq rfl)) (by exact zQq rfl) (by exact zQx rfl) (by rfl)) (by rfl)) (@zQj _ _ _ _ _ (@ps_asg _ _ _ _ _ _ (@xJx _ _ _ _ _ (@zQw _ _ _ _ _ (@zZq _ _ _ _ _ (pv 0) rfl) (@zQw _ _ _ _ _ (@zZq _ _ _ _ _ (pv 0) rfl) zQk (by exact zQq rfl)) (by exact zQq rfl))) (@pg_sub _ _ _ _ _ _ _ (@zZq _ _ _ _ _ (pv 0) rfl) (pv 1) (@xWz _) (by intro _; rfl)) (by rfl) (by rfl) (by rfl)) (@zWq _ _ _ (@zKj _ _ _ _ _ _ _ _ (pv 0) (@zZx _ _ _ _ _ _ _ _ (@yJw _) (@zZq _ _ _ _ _ (pv 0) rfl) zWx) rfl)))), ?_⟩
   refine ⟨_, rfl, d, DK, dx, _, _, rfl, h1, TD.cl, TD.aC, rfl, p, dxc, _, rfl, h3, rfl, _, rfl, d, DK, dx, _, _, rfl, h1, TD.cl, TD.aB, rfl, _, rfl, d, DK, dx, _, _, rfl, h1, TD.cl, TD.aF, rfl, _, rfl, _, rfl, _, rfl, d, DK, dx, _, _, rfl, h1, TD.cl, TD.aC, rfl, p, dxc, _, rfl, h3, rfl, xQj X.ch ⟨by show 3 <= sizeLine; decide, fun t nt => ?_⟩⟩
   have s1 := zWw (o := .tup [.int (sc : Int), .int c, .int D.G.many]) nt
   have X1 := X.same s1
   have ht : upd H t (.tup [.int (sc : Int), .int c, .int D.G.many]) t = some (.tup [.int (sc : Int), .int c, .int D.G.many]) := zQz
   have tn : ∀ b ∈ fpD d pa fp, H b ≠ none := fun b m => by
     rcases List.mem_cons.mp m with z | m
     . rw [z, h1]; simp
     rcases List.mem_cons.mp m with z | m
     . rw [z, h2]; simp
     obtain ⟨o, e⟩ := X.ch.tr m
     rw [e]; simp
   generalize upd H t (.tup [.int (sc : Int), .int c, .int D.G.many]) = H1 at s1 X1 ht ⊢
   refine use_write X1.ch c1 c2 c3 ht (fun H2 e A2 k2 => ?_) (fun H2 x e A2 k2 => ?_)
   . rcases hr2 with ⟨_, rfl⟩ | ⟨e', _⟩
     rotate_left
     . rw [e] at e'; cases e'
     have X2 := X1.chip A2 (.ofBut k2)
     obtain ⟨dx2, g1⟩ := X2.ob
     obtain ⟨xs2, g2, pat2⟩ := X2.pl
     obtain ⟨dxc2, _, _, _, g3⟩ := X2.ch.at_
     refine ⟨_, rfl, d, DK, dx2, _, _, rfl, g1, TD.cl, TD.aB, rfl, _, rfl, d, DK, dx2, _, _, rfl, g1, TD.cl, TD.aF, rfl, by show 2 <= sizeLine; decide, fun tt ntt => ⟨_, rfl, d, DK, dx2, _, _, rfl, zWw ntt _ _ g1, TD.cl, TD.aP, rfl, _, rfl, pa, xs2, _, sc, rfl, rfl, zWw ntt _ _ g2, by rw [pat2.1]; exact ixN_of (by omega) (by show (sc : Int) < D.many; omega), ?_⟩⟩
     have s3 := zWw (o := .tup [.int (D.h : Int), .int (D.f : Int)]) ntt
     have htt : upd H2 tt (.tup [.int (D.h : Int), .int (D.f : Int)]) tt = some (.tup [.int (D.h : Int), .int (D.f : Int)]) := zQz
     generalize hH3 : upd H2 tt (HO.tup _) = H3
     have s3 : Same H2 H3 := by rw [<- hH3]; exact zWw ntt
     have htt : H3 tt = some (.tup [.int (D.h : Int), .int (D.f : Int)]) := by rw [<- hH3]; exact zQz
     clear hH3
     have X3 := X2.same s3
     have q1 := s3 _ _ g1
     have q2 := s3 _ _ g2
     generalize hH4 : upd H3 pa (HO.lst _) = H4
     have kt4 : Tups H3 H4 := fun a ys ea => by rw [<- hH4, zQv (xQk ea q2 (by intro z; cases z))]; exact ea
     have k4 : SameBut [pa] H3 H4 := by rw [<- hH4]; exact yZk (by simp)
     have q4 : H4 d = some (.ins DK dx2 (diskF p pa D.many D.h D.f)) := k4 _ _ q1 (by simpa using X.dpa)
     have p4 : H4 pa = some (.lst (xs2.set sc (.ref tt))) := by rw [<- hH4]; exact zQz
     clear hH4
     have A4 := X3.ch.but k4 (fun b m => by obtain rfl := List.mem_singleton.mp m; exact X3.pf) kt4
     have pat4 : PlAt H4 (xs2.set sc (.ref tt)) D.many (set1 D.pl sc (some (D.h, D.f))) := (((pat2.keep (.of s3)).set htt).keep kt4)
     refine ⟨_, rfl, d, DK, dx2, _, _, rfl, q4, TD.cl, TD.aF, rfl, _, _, rfl, rfl, _, rfl, d, DK, dx2, _, rfl, q4, TD.cl, TD.aF, by show 5 < 1000; decide, ?_⟩
     generalize hH5 : upd H4 d (HO.ins DK dx2 _) = H5
     have kt5 : Tups H4 H5 := fun a ys ea => by rw [<- hH5, zQv (xQk ea q4 (by intro z; cases z))]; exact ea
     have k5 : SameBut [d] H4 H5 := by rw [<- hH5]; exact yZk (by simp)
     have q5 : H5 d = some (.ins DK dx2 (diskF p pa D.many D.h (D.f + 1))) := by
       rw [<- hH5, zQz]
       rfl
     clear hH5
     refine h.ok rfl (fp' := fp) ⟨⟨dx2, q5⟩, ⟨_, k5 _ _ p4 (by simpa using X.dpa.symm), pat4.keep kt5⟩, A4.but k5 (fun b m => by obtain rfl := List.mem_singleton.mp m; exact X.df) kt5, X.dp, X.pf, X.ms⟩ (.ofBut fun b o eb nb => ?_)
     have nd : b ∉ [d] := fun m => nb (by rw [List.mem_singleton.mp m]; simp)
     have np : b ∉ [pa] := fun m => nb (by rw [List.mem_singleton.mp m]; simp)
     have nf : b ∉ fp := fun m => nb (by simp [m])
     exact k5 _ _ (k4 _ _ (s3 _ _ (k2 _ _ (s1 _ _ eb) nf)) np) nd
   . rcases hr2 with ⟨e', _⟩ | ⟨_, rfl⟩
     . rw [e] at e'; cases e'
     refine h.cut rfl (X1.chip A2 (.ofBut k2)) (.ofBut fun b o eb nb => ?_) x
     exact k2 _ _ (s1 _ _ eb) fun m => nb (by simp [m])
end
theorem gput_nb {G : GS} {b i : Nat} {g : Pg} : (G.put b i g).2.nb = G.nb /\ (G.put b i g).2.np = G.np := by
 unfold GS.put GS.draw
 split
 . exact ⟨rfl, rfl⟩
 . rename_i e
   split at e
   . cases e
   . split at e
     . cases e; exact ⟨rfl, rfl⟩
     . split at e
       . cases e; exact ⟨rfl, rfl⟩
       . cases e; exact ⟨rfl, rfl⟩
theorem gera_nb {G : GS} {b : Nat} : (G.era b).2.nb = G.nb /\ (G.era b).2.np = G.np := by
 unfold GS.era GS.draw
 split
 . exact ⟨rfl, rfl⟩
 . rename_i e
   split at e
   . cases e
   . split at e
     . cases e; exact ⟨rfl, rfl⟩
     . split at e
       . cases e; exact ⟨rfl, rfl⟩
       . cases e; exact ⟨rfl, rfl⟩
theorem dput_nb {D : DS} {s : Nat} {c : Int} {r : Bool × DS} (h : D.put s c = some r) : r.2.G.nb = D.G.nb /\ r.2.G.np = D.G.np /\ r.2.many = D.many /\ r.2.h = D.h := by
 obtain ⟨_, ⟨_, rfl⟩ | ⟨_, rfl⟩⟩ := put_of h
 . exact ⟨gput_nb.1, gput_nb.2, rfl, rfl⟩
 . exact ⟨gput_nb.1, gput_nb.2, rfl, rfl⟩
def plL (many : Nat) (pl : Nat -> Option (Nat × Nat)) : List (Option (Int × Int)) := (List.range many).map fun s => (pl s).map fun q => ((q.1 : Int), (q.2 : Int))
theorem paired_of {H : Hp} : ∀ (xs : List V) (os : List (Option (Int × Int))), xs.length = os.length -> (∀ (i : Nat) v o, xs[i]? = some v -> os[i]? = some o -> PlV H v o) -> PlVs H xs os
 | [], [], _, _ => .nil
 | x :: xs, o :: os, hl, h => .cons (h 0 x o rfl rfl) (paired_of xs os (by simpa using hl) fun i v o' e1 e2 => h (i + 1) v o' e1 e2)
 | [], _ :: _, hl, _ => by simp at hl
 | _ :: _, [], hl, _ => by simp at hl
theorem PlAt.vs {H : Hp} {xs : List V} {many : Nat} {pl : Nat -> Option (Nat × Nat)} (h : PlAt H xs many pl) : PlVs H xs (plL many pl) := by
 refine paired_of _ _ (by unfold plL; rw [List.length_map, List.length_range]; exact h.1) fun i v o e1 e2 => ?_
 unfold plL at e2
 have hi : i < many := by
   rw [<- h.1]
   exact (List.getElem?_eq_some_iff.mp e1).1
 rw [List.getElem?_map, List.getElem?_range hi] at e2
 cases e2
 exact h.2 i v e1
theorem live_any {D : DS} {b i : Nat} : ((plL D.many D.pl).any fun o => decide (o = some ((b : Int), (i : Int)))) = true ↔ D.Live b i := by
 rw [List.any_eq_true]
 constructor
 . rintro ⟨o, m, h⟩
   obtain ⟨s, ms, rfl⟩ := List.mem_map.mp m
   refine ⟨s, List.mem_range.mp ms, ?_⟩
   have h' := of_decide_eq_true h
   obtain ⟨q, eq, e⟩ := Option.map_eq_some_iff.mp h'
   rw [eq]
   injection e with e1 e2
   congr 1
   exact Prod.ext (by omega) (by omega)
 . rintro ⟨s, hs, e⟩
   exact ⟨_, List.mem_map.mpr ⟨s, List.mem_range.mpr hs, rfl⟩, by rw [e]; simp⟩
theorem move_live {D : DS} {b n : Nat} (h : D.Live b (D.G.np - (n + 1))) {r : Bool × DS} (e : DS.move b (n + 1) D = some r) : ∃ s c m, D.G.pg b (D.G.np - (n + 1)) = .wh s c m /\ ∃ r1, D.put s c = some r1 /\ ((r1.1 = true /\ DS.move b n r1.2 = some r) \/ (r1.1 = false /\ r = r1)) := by
 unfold DS.move at e
 rw [if_pos h] at e
 split at e
 . rename_i s c m eg
   refine ⟨s, c, m, eg, ?_⟩
   split at e
   . rename_i D' ep
     exact ⟨_, ep, .inl ⟨rfl, e⟩⟩
   . rename_i x hx
     cases hp : D.put s c with
     | none => rw [hp] at e; cases e
     | some r1 =>
       rw [hp] at e
       obtain ⟨k, D1⟩ := r1
       cases k with
       | true => exact absurd hp (hx D1)
       | false => exact ⟨_, rfl, .inr ⟨rfl, (Option.some.inj e).symm⟩⟩
 . cases e
theorem move_dead {D : DS} {b n : Nat} (h : ¬ D.Live b (D.G.np - (n + 1))) : DS.move b (n + 1) D = DS.move b n D := by
 conv => lhs; unfold DS.move
 rw [if_neg h]
section
variable {P : Program} {w : World} {K : PySem.W.Frag} {mg : Str -> Option Value} {base : Heap} {C DK cBS cNP cNE cNS cBC cCu cWE : Addr}
def spDClean (C DK cCu : Addr) : Sp := fun vs H Q E => ∃ (d p : Addr) (D : DS) (pa : Addr) (fp : List Addr) (b : Nat) (r : Bool × DS), vs = [.ref d, .int b] /\ DiskX C DK H d p D pa fp /\ b < D.G.nb /\ D.clean b = some r /\ EndsD C DK cCu H d p pa fp Q E r
theorem scDCl : FnScope ["self", "block", "page", "thing"] ["self", "block"] (defScope sDClean) := ⟨rfl, rfl, rfl, by decide +kernel, rfl, by decide +kernel, by decide +kernel⟩
theorem ok_dclean {f : Addr} {fd : FuncData} (F : Fun K "clean" "Disk.clean" sDClean f fd) (T : Txt K mg C cBS cNP cNE cNS cBC cCu cWE) (TD : TxtD K mg DK cNS cBC)
   (M_size : MtB P w K mg base C 51 "size" ["self"] (xpSize C)) (M_page : MtB P w K mg base C 53 "page" ["self", "block", "page"] (xpPage C cNP)) (M_erase : MtB P w K mg base C 52 "erase" ["self", "block"] (xpErase C (clsOf cBS cNP cNE cCu)))
   (N_put : MtB P w K mg base DK 54 "put" ["self", "sector", "content"] (spDPut C DK cCu)) : FnOk P w K mg base (CXw P w) 55 f fd ["self", "block"] (spDClean C DK cCu) := by
 refine F.okX (by decide) scDCl (fun vs H Q E h => ?_) (fun cdv A outer s H vs Q E hr h => ?_)
 . obtain ⟨d, p, D, pa, fp, b, r, rfl, _⟩ := h
   rfl
 . obtain ⟨d, p, D, pa, fp, b, r, rfl, X, hb, hc, h⟩ := h
   have hu := hu_of hr
   have lim := X.ch.lim
   obtain ⟨dx, h1⟩ := X.ob
   obtain ⟨dxc, S0, hl0, el0, h3⟩ := X.ch.at_
   refine ⟨_, (@zQj _ _ _ _ _ (@yJv _ _ _ _ _ _ _ _ PassesOwn.leaving rfl (@zJx _ _ _ _ _ _ rfl T.n_range (@zQw _ _ _ _ _ (@zJz _ _ _ _ _ _ _ (@zKq _) (@zZj _ _ _ _ _ _ _ _ _ _ _ _ T.cl M_size (hr.mono (by decide)) (@passE _ _ _) (@zZq _ _ _ _ _ (pv 0) rfl) (by rfl)) zWx (fun _ _ => rfl)) zQk (by exact zQq rfl)) (by exact zQq rfl)) (@yWj _ _ (2) _ scDCl.nd rfl (Or.inl rfl) (by first | exact .inl rfl | exact .inr rfl | assumption)) (@zWq _ _ _ (@yQz _ _ _ _ _ _ _ _ (@yQj _ _ _ _ _ _ _ _ (@op_inPl _ hu) (@xJx _ _ _ _ _ (@zQw _ _ _ _ _ (pv 1) (@zQw _ _ _ _ _ (pv 2) zQk (by exact zQq rfl)) (by exact zQq rfl))) (@zZq _ _ _ _ _ (pv 0) rfl) rfl) (@zQj _ _ _ _ _ (@zJw _ _ (3) _ _ _ _ scDCl.nd rfl (Or.inl rfl) (@zWj _ _ _ _ _ _ _ _ _ _ _ _ _ _ _ T.cl M_page (hr.mono (by decide)) zWz (@zZq _ _ _ _ _ (pv 0) rfl) (@zQw _ _ _ _ _ (pv 1) (@zQw _ _ _ _ _ (pv 2) zQk (by exact zQq rfl)) (by exact zQq rfl)) (by exact zQq rfl) (by exact zQx rfl) (by rfl)) (by rfl) (by first | exact .inl rfl | exact .inr rfl | assumption)) (@zWq _ _ _ (@zJv _ _ _ _ (@zWj _ _ _ _ _ _ _ _ _ _ _ _ _ _ _ TD.cl N_put (hr.mono (by decide)) zWz (pv 0) (@zQw _ _ _ _ _ (@zJz _ _ _ _ _ _ _ (@zKq _) (pv 3) zWx (fun _ _ => rfl)) (@zQw _ _ _ _ _ (@zJz _ _ _ _ _ _ _ (@zKq _) (pv 3) zWx (fun _ _ => rfl)) zQk (by exact zQq rfl)) (by exact zQq rfl)) (by exact zQq rfl) (by exact zQx rfl) (by rfl)) (by rfl)))) (@zZw _))) (by intro _; rfl)) (@zWq _ _ _ (@zJv _ _ _ _ (@zWj _ _ _ _ _ _ _ _ _ _ _ _ _ _ _ T.cl M_erase (hr.mono (by decide)) zWz (@zZq _ _ _ _ _ (pv 0) rfl) (@zQw _ _ _ _ _ (pv 1) zQk (by exact zQq rfl)) (by exact zQq rfl) (by exact zQx rfl) (by rfl)) (by rfl)))), ?_⟩
   refine ⟨_, rfl, d, DK, dx, _, _, rfl, h1, TD.cl, TD.aC, rfl, p, dxc, _, rfl, h3, rfl, yQq X.ch fun t H1 ht s1 => ⟨t, _, _, _, rfl, rfl, SqT.of ht, at1, (D.G.np : Int), rfl, by omega, by omega, ?_⟩⟩
   unfold DS.clean at hc
   refine yZw (lo := 0) (n := (D.G.np : Int).toNat) (fun j σ H2 => ∃ D2 fp2, DiskX C DK H2 d p D2 pa fp2 /\ Did H H2 (fpD d pa fp) (fpD d pa fp2) /\ D2.G.np = D.G.np /\ D2.G.nb = D.G.nb /\ DS.move b (D.G.np - j) D2 = DS.move b D.G.np D /\ ∃ v1 v2, σ = [some (.ref d), some (.int (b : Int)), v1, v2]) ⟨D, fp, X.same s1, .same s1, rfl, rfl, rfl, _, _, rfl⟩ ?_ ?_
   . rintro j σ H2 hj ⟨D2, fp2, X2, k2, en, eb, em, v1, v2, rfl⟩
     rw [Int.zero_add]
     have hj' : j < D.G.np := by omega
     obtain ⟨dx2, g1⟩ := X2.ob
     obtain ⟨xs2, g2, pat2⟩ := X2.pl
     obtain ⟨dxc2, S2, hl2, el2, g3⟩ := X2.ch.at_
     refine ⟨_, rfl, _, rfl, by show 2 <= sizeLine; decide, fun t2 nt2 => ⟨_, rfl, d, DK, dx2, _, _, rfl, zWw nt2 _ _ g1, TD.cl, TD.aP, rfl, t2, pa, xs2, plL D2.many D2.pl, b, j, rfl, rfl, zQz, zWw nt2 _ _ g2, ?_, _, rfl, ?_⟩⟩
     . exact (pat2.keep (.of (zWw nt2))).vs
     generalize hH3 : upd H2 t2 (HO.tup _) = H3
     have s3 : Same H2 H3 := by rw [<- hH3]; exact zWw nt2
     clear hH3
     have X3 := X2.same s3
     have k3 : Did H H3 (fpD d pa fp) (fpD d pa fp2) := k2.trans (.same s3)
     obtain ⟨n, hn⟩ : ∃ n, D.G.np - j = n + 1 := ⟨D.G.np - j - 1, by omega⟩
     have hnj : D2.G.np - (n + 1) = j := by omega
     have hnj' : D.G.np - (j + 1) = n := by omega
     rw [hn] at em
     by_cases lv : D2.Live b j
     . rw [live_any.mpr lv]
       refine iteT ?_
       obtain ⟨R, hR⟩ : ∃ R, DS.move b D.G.np D = some R := by
         cases hm : DS.move b D.G.np D with
         | none => rw [hm] at hc; cases hc
         | some R => exact ⟨R, rfl⟩
       rw [hR] at em hc
       have lv' : D2.Live b (D2.G.np - (n + 1)) := by rw [hnj]; exact lv
       obtain ⟨sc, c, m, eg, r1, ep, hcase⟩ := move_live lv' em
       rw [hnj] at eg
       refine ⟨_, rfl, d, DK, dx2, _, _, rfl, s3 _ _ g1, TD.cl, TD.aC, rfl, p, dxc2, _, rfl, s3 _ _ g3, rfl, _, rfl, _, rfl, xJv X3.ch (by omega) (by omega) fun v pv => ?_⟩
       rw [eg] at pv
       cases pv with
       | @wh ap _ _ _ eap =>
         refine ⟨_, rfl, d, dx2, _, rfl, s3 _ _ g1, rfl, _, rfl, ap, _, _, _, rfl, rfl, SqT.of eap, at0, _, rfl, ap, _, _, _, rfl, rfl, SqT.of eap, at1, d, p, D2, pa, fp2, sc, c, r1, rfl, X3, ep, fun H4 fp4 X4 k4 => ?_⟩
         have k14 := k3.trans k4
         rcases hcase with ⟨e1, e2⟩ | ⟨e1, e2⟩
         . rw [if_pos e1]
           refine ⟨r1.2, fp4, X4, k14, by rw [(dput_nb ep).2.1, en], by rw [(dput_nb ep).1, eb], ?_, _, _, rfl⟩
           rw [hnj', e2, hR]
         . rw [if_neg (by rw [e1]; exact Bool.false_ne_true)]
           subst e2
           obtain ⟨k, D5⟩ := R
           dsimp only at e1
           subst e1
           have := Option.some.inj hc
           subst this
           exact fun x => h.cut rfl X4 k14 x
     . have ef : ((plL D2.many D2.pl).any fun o => decide (o = some ((b : Int), (j : Int)))) = false := by
         cases e : (plL D2.many D2.pl).any fun o => decide (o = some ((b : Int), (j : Int))) with
         | false => rfl
         | true => exact absurd (live_any.mp e) lv
       rw [ef]
       refine iteF ⟨D2, fp2, X3, k3, en, eb, ?_, _, _, rfl⟩
       rw [hnj', <- em, move_dead (by rw [hnj]; exact lv)]
   . rintro σ H2 ⟨D2, fp2, X2, k2, en, eb, em, v1, v2, rfl⟩
     rw [Int.toNat_natCast, Nat.sub_self] at em
     have em' : DS.move b D.G.np D = some (true, D2) := by rw [<- em]; rfl
     rw [em'] at hc
     dsimp only at hc
     rw [if_pos (by omega)] at hc
     have hr2 := (Option.some.inj hc).symm
     subst hr2
     obtain ⟨dx2, g1⟩ := X2.ob
     obtain ⟨dxc2, S2, hl2, el2, g3⟩ := X2.ch.at_
     refine ⟨_, rfl, d, DK, dx2, _, _, rfl, g1, TD.cl, TD.aC, rfl, p, dxc2, _, rfl, g3, rfl, _, rfl, use_erase X2.ch (by omega) (fun H3 fp3 e A3 k3 => ?_) (fun H3 fp3 x e A3 k3 => ?_)⟩
     . exact h.ok e (X2.chip A3 k3) (k2.trans (k3.wide d pa))
     . exact h.cut e (X2.chip A3 k3) (k2.trans (k3.wide d pa)) x
end
theorem DiskX.setHF {C DK : Addr} {H : Hp} {d p : Addr} {D : DS} {pa : Addr} {fp : List Addr} (X : DiskX C DK H d p D pa fp) {dx : Addr} {fs : List (Str × V)} (e : H d = some (.ins DK dx fs)) (h' f' : Nat) {H' : Hp} (eH : H' = upd H d (.ins DK dx (diskF p pa D.many h' f'))) : DiskX C DK H' d p { D with h := h', f := f' } pa fp /\ Did H H' (fpD d pa fp) (fpD d pa fp) := by
 subst eH
 have kt : Tups H (upd H d (.ins DK dx (diskF p pa D.many h' f'))) := fun a ys ea => by rw [zQv (xQk ea e (by intro z; cases z))]; exact ea
 have k : SameBut [d] H (upd H d (.ins DK dx (diskF p pa D.many h' f'))) := yZk (by simp)
 obtain ⟨xs, e2, q⟩ := X.pl
 refine ⟨⟨⟨dx, zQz⟩, ⟨xs, k _ _ e2 (by simpa using X.dpa.symm), q.keep kt⟩, X.ch.but k (fun b m => by obtain rfl := List.mem_singleton.mp m; exact X.df) kt, X.dp, X.pf, X.ms⟩, .ofBut fun b o eb nb => k b o eb fun m => nb (by rw [List.mem_singleton.mp m]; simp)⟩
section
variable {P : Program} {w : World} {K : PySem.W.Frag} {mg : Str -> Option Value} {base : Heap} {C DK cBS cNP cNE cNS cBC cCu cWE : Addr}
def spDBegin (C DK cCu : Addr) : Sp := fun vs H Q E => ∃ (d p : Addr) (D : DS) (pa : Addr) (fp : List Addr) (r : Bool × DS), vs = [.ref d] /\ DiskX C DK H d p D pa fp /\ D.h < D.G.nb /\ D.begin = some r /\ EndsD C DK cCu H d p pa fp Q E r
theorem scDB : FnScope ["self", "oldest"] ["self"] (defScope sDBegin) := ⟨rfl, rfl, rfl, by decide +kernel, rfl, by decide +kernel, by decide +kernel⟩
theorem ok_dbegin {f : Addr} {fd : FuncData} (F : Fun K "begin_block" "Disk.begin_block" sDBegin f fd) (T : Txt K mg C cBS cNP cNE cNS cBC cCu cWE) (TD : TxtD K mg DK cNS cBC)
   (B_block_behind : FnB P w K mg base 52 "block_behind" ["chip", "block"] (spBehind C)) (B_is_erased : FnB P w K mg base 55 "is_erased" ["chip", "block"] (spIsEr C)) (N_clean : MtB P w K mg base DK 55 "clean" ["self", "block"] (spDClean C DK cCu)) : FnOk P w K mg base (CXw P w) 56 f fd ["self"] (spDBegin C DK cCu) := by
 refine F.okX (by decide) scDB (fun vs H Q E h => ?_) (fun cdv A outer s H vs Q E hr h => ?_)
 . obtain ⟨d, p, D, pa, fp, r, rfl, _⟩ := h
   rfl
 . obtain ⟨d, p, D, pa, fp, r, rfl, X, hh, hb, h⟩ := h
   obtain ⟨dx, h1⟩ := X.ob
   refine ⟨_, (@zQj _ _ _ _ _ (@zKj _ _ _ _ _ _ _ _ (pv 0) (@zWk _ _ _ _ _ _ _ _ _ _ _ B_block_behind (hr.mono (by decide)) rfl (@passE _ _ _) (@zQw _ _ _ _ _ (@zZq _ _ _ _ _ (pv 0) rfl) (@zQw _ _ _ _ _ (@zZq _ _ _ _ _ (pv 0) rfl) zQk (by exact zQq rfl)) (by exact zQq rfl)) (by decide) (by exact zQq rfl) (by exact zQx rfl)) rfl) (@zQj _ _ _ _ _ (@zKj _ _ _ _ _ _ _ _ (pv 0) zWx rfl) (@zQj _ _ _ _ _ (@zJw _ _ (1) _ _ _ _ scDB.nd rfl (Or.inl rfl) (@zWk _ _ _ _ _ _ _ _ _ _ _ B_block_behind (hr.mono (by decide)) rfl (@passE _ _ _) (@zQw _ _ _ _ _ (@zZq _ _ _ _ _ (pv 0) rfl) (@zQw _ _ _ _ _ (@zZq _ _ _ _ _ (pv 0) rfl) zQk (by exact zQq rfl)) (by exact zQq rfl)) (by decide) (by exact zQq rfl) (by exact zQx rfl)) (by rfl) (by first | exact .inl rfl | exact .inr rfl | assumption)) (@zWq _ _ _ (@yQz _ _ _ _ _ _ _ _ (@yJq _ _ _ _ (@yZv _ _ _ (@zWk _ _ _ _ _ _ _ _ _ _ _ B_is_erased (hr.mono (by decide)) rfl (@passE _ _ _) (@zQw _ _ _ _ _ (@zZq _ _ _ _ _ (pv 0) rfl) (@zQw _ _ _ _ _ (pv 1) zQk (by exact zQq rfl)) (by exact zQq rfl)) (by decide) (by exact zQq rfl) (by exact zQx rfl)) (by intro _; rfl))) (@zWq _ _ _ (@zJv _ _ _ _ (@zWj _ _ _ _ _ _ _ _ _ _ _ _ _ _ _ TD.cl N_clean (hr.mono (by decide)) zWz (pv 0) (@zQw _ _ _ _ _ (pv 1) zQk (by exact zQq rfl)) (by exact zQq rfl) (by exact zQx rfl) (by rfl)) (by rfl))) (@zZw _)))))), ?_⟩
   refine ⟨_, rfl, d, DK, dx, _, _, rfl, h1, TD.cl, TD.aC, rfl, _, rfl, d, DK, dx, _, _, rfl, h1, TD.cl, TD.aB, rfl, p, D.h, D.G, fp, rfl, X.ch, hh, fun H1 s1 => ⟨_, rfl, d, DK, dx, _, rfl, s1 _ _ h1, TD.cl, TD.aB, by show 5 < 1000; decide, _, rfl, d, DK, dx, _, rfl, zQz, TD.cl, TD.aF, by show 5 < 1000; decide, ?_⟩⟩
   rw [yKw]
   generalize hH2 : upd H1 d (HO.ins DK dx _) = H2
   obtain ⟨X2, k2⟩ := (X.same s1).setHF (s1 _ _ h1) (nx D.G.nb D.h) 0 (H' := H2) (by rw [<- hH2]; rfl)
   clear hH2
   have k12 : Did H H2 (fpD d pa fp) (fpD d pa fp) := (Did.same s1).trans k2
   obtain ⟨dx2, g1⟩ := X2.ob
   have hn := nx_lt hh
   refine ⟨_, rfl, d, DK, dx2, _, _, rfl, g1, TD.cl, TD.aC, rfl, _, rfl, d, DK, dx2, _, _, rfl, g1, TD.cl, TD.aB, rfl, p, nx D.G.nb D.h, D.G, fp, rfl, X2.ch, hn, fun H3 s3 => ?_⟩
   have g3 := s3 _ _ g1
   refine ⟨_, rfl, d, DK, dx2, _, _, rfl, g3, TD.cl, TD.aC, rfl, _, rfl, p, nx D.G.nb (nx D.G.nb D.h), D.G, fp, rfl, X2.ch.same s3, nx_lt hn, fun H4 s4 => ⟨_, rfl, ?_⟩⟩
   have X4 := X2.same (s3.trans s4)
   have k14 : Did H H4 (fpD d pa fp) (fpD d pa fp) := k12.trans (.same (s3.trans s4))
   unfold DS.begin at hb
   by_cases he : D.G.Er (nx D.G.nb (nx D.G.nb D.h))
   . rw [decide_eq_true he]
     rw [if_pos he] at hb
     have := (Option.some.inj hb).symm
     subst this
     exact iteF (h.ok rfl X4 k14)
   . rw [decide_eq_false he]
     rw [if_neg he] at hb
     refine iteT ⟨_, rfl, d, dx2, _, rfl, s4 _ _ g3, rfl, _, rfl, d, p, _, pa, fp, _, r, rfl, X4, nx_lt hn, hb, fun H5 fp5 X5 k5 => ?_⟩
     exact h H5 fp5 X5 (k14.trans k5)
def MOST : Int := 999999999999
def spDWrite (C DK cNS cBC cCu : Addr) : Sp := fun vs H Q E => ∃ (d p : Addr) (D : DS) (pa : Addr) (fp : List Addr) (z c : Int), vs = [.ref d, .int z, .int c] /\ DiskX C DK H d p D pa fp /\
 ((¬ (0 <= z /\ z < D.many) /\ ∀ x, E (.ref cNS) (some x) H) \/ ((0 <= z /\ z < D.many) /\ ¬ (0 <= c /\ c <= MOST) /\ ∀ x, E (.ref cBC) (some x) H) \/
   ∃ (s n : Nat) (r : Bool × DS), z = s /\ s < D.many /\ 0 <= c /\ c <= MOST /\ D.h < D.G.nb /\ D.write n s c = some r /\ EndsD C DK cCu H d p pa fp Q E r)
theorem scDW : FnScope ["self", "sector", "content"] ["self", "sector", "content"] (defScope sDWrite) := ⟨rfl, rfl, rfl, by decide +kernel, rfl, by decide +kernel, by decide +kernel⟩
theorem move_nb {b : Nat} : ∀ {n : Nat} {D : DS} {r : Bool × DS}, DS.move b n D = some r -> r.2.G.nb = D.G.nb /\ r.2.G.np = D.G.np /\ r.2.many = D.many /\ r.2.h = D.h
 | 0, D, r, h => by cases h; exact ⟨rfl, rfl, rfl, rfl⟩
 | n + 1, D, r, h => by
   by_cases lv : D.Live b (D.G.np - (n + 1))
   . obtain ⟨s, c, m, eg, r1, ep, hc⟩ := move_live lv h
     obtain ⟨a1, a2, a3, a4⟩ := dput_nb ep
     rcases hc with ⟨_, e⟩ | ⟨_, e⟩
     . obtain ⟨b1, b2, b3, b4⟩ := move_nb e
       exact ⟨by omega, by omega, by omega, by omega⟩
     . subst e
       exact ⟨a1, a2, a3, a4⟩
   . rw [move_dead lv] at h
     exact move_nb h
theorem clean_nb {b : Nat} {D : DS} {r : Bool × DS} (h : D.clean b = some r) : r.2.G.nb = D.G.nb /\ r.2.G.np = D.G.np /\ r.2.many = D.many /\ r.2.h = D.h := by
 unfold DS.clean at h
 split at h
 . rename_i D' e
   obtain ⟨a1, a2, a3, a4⟩ := move_nb e
   split at h
   . cases h
     exact ⟨gera_nb.1.trans a1, gera_nb.2.trans a2, a3, a4⟩
   . cases h
 . exact move_nb h
theorem begin_nb {D : DS} {r : Bool × DS} (h : D.begin = some r) : r.2.G.nb = D.G.nb /\ r.2.G.np = D.G.np /\ r.2.many = D.many /\ r.2.h = nx D.G.nb D.h := by
 unfold DS.begin at h
 split at h
 . cases h
   exact ⟨rfl, rfl, rfl, rfl⟩
 . exact clean_nb h
theorem write_full {n : Nat} {D : DS} {s : Nat} {c : Int} {r : Bool × DS} (hf : D.f = D.G.np) (h : DS.write n D s c = some r) : ∃ m r1, n = m + 1 /\ D.begin = some r1 /\ ((r1.1 = true /\ DS.write m r1.2 s c = some r) \/ (r1.1 = false /\ r = r1)) := by
 cases n with
 | zero => cases h
 | succ m =>
   unfold DS.write at h
   rw [if_pos hf] at h
   refine ⟨m, ?_⟩
   split at h
   . rename_i D' e
     exact ⟨_, rfl, e, .inl ⟨rfl, h⟩⟩
   . rename_i x hx
     cases hb : D.begin with
     | none => rw [hb] at h; cases h
     | some r1 =>
       rw [hb] at h
       obtain ⟨k, D1⟩ := r1
       cases k with
       | true => exact absurd hb (hx D1)
       | false => exact ⟨_, rfl, rfl, .inr ⟨rfl, (Option.some.inj h).symm⟩⟩
theorem write_room {n : Nat} {D : DS} {s : Nat} {c : Int} {r : Bool × DS} (hf : D.f ≠ D.G.np) (h : DS.write n D s c = some r) : D.put s c = some r := by
 cases n with
 | zero => cases h
 | succ m =>
   unfold DS.write at h
   rw [if_neg hf] at h
   exact h
theorem ok_dwrite {f : Addr} {fd : FuncData} (F : Fun K "write" "Disk.write" sDWrite f fd) (T : Txt K mg C cBS cNP cNE cNS cBC cCu cWE) (TD : TxtD K mg DK cNS cBC)
   (M_size : MtB P w K mg base C 51 "size" ["self"] (xpSize C)) (N_check_sector : MtB P w K mg base DK 51 "check_sector" ["self", "sector"] (spDCheck C DK cNS)) (N_begin_block : MtB P w K mg base DK 56 "begin_block" ["self"] (spDBegin C DK cCu)) (N_put : MtB P w K mg base DK 54 "put" ["self", "sector", "content"] (spDPut C DK cCu)) : FnOk P w K mg base (CXw P w) 57 f fd ["self", "sector", "content"] (spDWrite C DK cNS cBC cCu) := by
 refine F.okX (by decide) scDW (fun vs H Q E h => ?_) (fun cdv A outer s H vs Q E hr h => ?_)
 . obtain ⟨d, p, D, pa, fp, z, c, rfl, _⟩ := h
   rfl
 . obtain ⟨d, p, D, pa, fp, z, c, rfl, X, h⟩ := h
   obtain ⟨dx, h1⟩ := X.ob
   refine ⟨_, (@zQj _ _ _ _ _ (@zJv _ _ _ _ (@zWj _ _ _ _ _ _ _ _ _ _ _ _ _ _ _ TD.cl N_check_sector (hr.mono (by decide)) zWz (pv 0) (@zQw _ _ _ _ _ (pv 1) zQk (by exact zQq rfl)) (by exact zQq rfl) (by exact zQx rfl) (by rfl)) (by rfl)) (@zQj _ _ _ _ _ (@yQz _ _ _ _ _ _ _ _ (@yJq _ _ _ _ (@yJz _ _ _ _ _ _ _ _ _ _ _ _ (@xJz _) (@xJz _) zWx (pv 2) (@pe_gl _ _ _ _ rfl TD.g_MC (by decide)) (by with_unfolding_all rfl))) (@zWq _ _ _ (@yQx _ _ _ _ _ _ _ _ _ _ yQw TD.x_BadContent rfl rfl T.g_BadContent (@zQw _ _ _ _ _ (@zKw _ _ _ _) zQk (by exact zQq rfl)) (by decide) (by exact zQq rfl) (by exact zQx rfl))) (@zZw _)) (@zQj _ _ _ _ _ (@ps_while _ _ _ _ _ _ PassesOwn.leaving (@yQj _ _ _ _ _ _ _ _ (@op_eq _) (@zZq _ _ _ _ _ (pv 0) rfl) (@zJz _ _ _ _ _ _ _ (@zKq _) (@zZj _ _ _ _ _ _ _ _ _ _ _ _ T.cl M_size (hr.mono (by decide)) (@passE _ _ _) (@zZq _ _ _ _ _ (pv 0) rfl) (by rfl)) zWx (fun _ _ => rfl)) (@nomark _ _ (by decide) (by decide))) (@zWq _ _ _ (@zJv _ _ _ _ (@zZj _ _ _ _ _ _ _ _ _ _ _ _ TD.cl N_begin_block (hr.mono (by decide)) zWz (pv 0) (by rfl)) (by rfl)))) (@zWq _ _ _ (@zJv _ _ _ _ (@zWj _ _ _ _ _ _ _ _ _ _ _ _ _ _ _ TD.cl N_put (hr.mono (by decide)) zWz (pv 0) (@zQw _ _ _ _ _ (pv 1) (@zQw _ _ _ _ _ (pv 2) zQk (by exact zQq rfl)) (by exact zQq rfl)) (by exact zQq rfl) (by exact zQx rfl) (by rfl)) (by rfl)))))), ?_⟩
   refine ⟨_, rfl, d, dx, _, rfl, h1, rfl, _, rfl, d, p, D, pa, fp, z, rfl, X, ?_⟩
   by_cases hz : 0 <= z /\ z < D.many
   rotate_left
   . rw [if_neg hz]
     rcases h with ⟨_, h⟩ | ⟨h, _⟩ | ⟨s, n, r, rfl, hs, _⟩
     . exact h
     . exact absurd h hz
     . exact absurd ⟨by omega, by omega⟩ hz
   rw [if_pos hz]
   rcases h with ⟨h, _⟩ | h
   . exact absurd hz h
   have bad : ¬ (0 <= c /\ c <= MOST) -> ∀ x, E (.ref cBC) (some x) H := fun hc x => by
     rcases h with ⟨_, _, h⟩ | ⟨s, n, r, _, _, c1, c2, _⟩
     . exact h x
     . exact absurd ⟨c1, c2⟩ hc
   refine ⟨_, rfl, _, _, rfl, rfl, _, rfl, ite2 (fun h0 => ?_) fun h0 => ?_⟩
   rotate_left
   . have h0' : ¬ 0 <= c := by simpa using h0
     exact ⟨_, rfl, iteT ⟨by decide, bad fun q => h0' q.1⟩⟩
   have h0' : 0 <= c := by simpa using h0
   refine ⟨_, _, rfl, rfl, _, rfl, ?_⟩
   by_cases hc : c <= MOST
   rotate_left
   . have : decide (c <= (999999999999 : Int)) = false := decide_eq_false hc
     rw [this]
     exact iteT ⟨by decide, bad fun q => hc q.2⟩
   have : decide (c <= (999999999999 : Int)) = true := decide_eq_true hc
   rw [this]
   refine iteF ?_
   rcases h with ⟨_, h, _⟩ | ⟨s, n, r, rfl, hs, _, _, hh, hw, h⟩
   . exact absurd ⟨h0', hc⟩ h
   refine ⟨fun n2 σ H2 => ∃ D2 fp2, DiskX C DK H2 d p D2 pa fp2 /\ Did H H2 (fpD d pa fp) (fpD d pa fp2) /\ D2.h < D2.G.nb /\ DS.write n2 D2 s c = some r /\ σ = [some (.ref d), some (.int (s : Int)), some (.int c)], ⟨n, D, fp, X, .refl, hh, hw, rfl⟩, ?_⟩
   rintro n2 σ H2 ⟨D2, fp2, X2, k2, hh2, hw2, rfl⟩
   obtain ⟨dx2, g1⟩ := X2.ob
   obtain ⟨dxc2, S2, hl2, el2, g3⟩ := X2.ch.at_
   refine ⟨_, rfl, d, DK, dx2, _, _, rfl, g1, TD.cl, TD.aF, rfl, _, rfl, d, DK, dx2, _, _, rfl, g1, TD.cl, TD.aC, rfl, p, dxc2, _, rfl, g3, rfl, yQq X2.ch fun t H3 ht s3 => ⟨t, _, _, _, rfl, rfl, SqT.of ht, at1, rfl, _, rfl, ?_⟩⟩
   have X3 := X2.same s3
   have k3 := k2.trans (.same s3)
   by_cases hf : D2.f = D2.G.np
   . obtain ⟨m, r1, rfl, hb, hcase⟩ := write_full hf hw2
     refine iteD (by rw [hf]) ⟨fun σ' H' => ∃ m', m' < m + 1 /\ ∃ D4 fp4, DiskX C DK H' d p D4 pa fp4 /\ Did H H' (fpD d pa fp) (fpD d pa fp4) /\ D4.h < D4.G.nb /\ DS.write m' D4 s c = some r /\ σ' = [some (.ref d), some (.int (s : Int)), some (.int c)], fun σ' H' q => q, _, rfl, d, dx2, _, rfl, s3 _ _ g1, rfl, d, p, D2, pa, fp2, r1, rfl, X3, hh2, hb, fun H4 fp4 X4 k4 => ?_⟩
     have k14 := k3.trans k4
     rcases hcase with ⟨e1, e2⟩ | ⟨e1, e2⟩
     . rw [if_pos e1]
       obtain ⟨q1, _, _, q4⟩ := begin_nb hb
       exact ⟨m, Nat.lt_succ_self _, r1.2, fp4, X4, k14, by rw [q4, q1]; exact nx_lt hh2, e2, rfl⟩
     . rw [if_neg (by rw [e1]; exact Bool.false_ne_true)]
       subst e2
       exact fun x => h.cut e1 X4 k14 x
   . refine iteDn (fun q => hf (by have := V.int.inj q; omega)) ?_
     have hp := write_room hf hw2
     refine ⟨_, rfl, d, dx2, _, rfl, s3 _ _ g1, rfl, _, rfl, _, rfl, d, p, D2, pa, fp2, s, c, r, rfl, X3, hp, fun H4 fp4 X4 k4 => ?_⟩
     exact h H4 fp4 X4 (k3.trans k4)
end
abbrev sCell : Stmt := top 30
abbrev sDrawn : Stmt := top 31
structure TxtL (K : PySem.W.Frag) (cCu : Addr) : Prop where
 exC : PySem.W.exmOne K (.ref cCu) (.ref cCu) = some true
section
variable {P : Program} {w : World} {K : PySem.W.Frag} {mg : Str -> Option Value} {base : Heap} {C DK cBS cNP cNE cNS cBC cCu cWE : Addr}
def spCell (K : PySem.W.Frag) : Sp := fun vs H Q _ => ∃ (a : Addr) (ns : List Int) (k : Int), vs = [.ref a, .int k] /\ SqL K H a (ns.map V.int) /\ ns.length <= 63 /\ 0 <= k /\ k <= 1000 /\ ∀ H' z, Same H H' -> Q (.int z) H'
theorem scCell : FnScope ["_law_script", "_law_k"] ["_law_script", "_law_k"] (defScope sCell) := ⟨rfl, rfl, rfl, by decide +kernel, rfl, by decide +kernel, by decide +kernel⟩
theorem ok_cell {f : Addr} {fd : FuncData} (F : Fun K "_law_cell" "_law_cell" sCell f fd) (T : Txt K mg C cBS cNP cNE cNS cBC cCu cWE) : FnOk P w K mg base (CXw P w) 51 f fd ["_law_script", "_law_k"] (spCell K) := by
 refine F.okX (by decide) scCell (fun vs H Q E h => ?_) (fun cdv A outer s H vs Q E hr h => ?_)
 . obtain ⟨a, ns, k, rfl, _⟩ := h
   rfl
 . obtain ⟨a, ns, k, rfl, hs, hn, k0, k1, h⟩ := h
   have hu0 := hr.units0
   refine ⟨_, (@zQj _ _ _ _ _ (@yQz _ _ _ _ _ _ _ _ (@yQj _ _ _ _ _ _ _ _ (@op_eqL _ hu0) (pv 0) (@yWq _ _ _ _ zQk) (@nomark _ _ (by decide) (by decide))) (@zWq _ _ _ (@zZz _ _ _ _ (@zZx _ _ _ _ _ _ _ _ (@op_mul _) (pv 1) zWx))) (@zZw _)) (@zWq _ _ _ (@zZz _ _ _ _ (@zZx _ _ _ _ _ _ _ _ (@yJw _) (@zJz _ _ _ _ _ _ _ (@zKz _) (pv 0) (@zZx _ _ _ _ _ _ _ _ (@yWw _) (pv 1) (@zZv _ _ _ _ _ _ _ _ _ (@yZx _) rfl T.n_len PySem.boot_len (@zQw _ _ _ _ _ (pv 0) zQk (by exact zQq rfl)) (by decide) (by decide) (by exact zQq rfl) (by exact zQx rfl))) (fun _ _ => rfl)) (@zZx _ _ _ _ _ _ _ _ (@op_mul _) (@zZx _ _ _ _ _ _ _ _ (@yZz _) (pv 1) (@zZv _ _ _ _ _ _ _ _ _ (@yZx _) rfl T.n_len PySem.boot_len (@zQw _ _ _ _ _ (pv 0) zQk (by exact zQq rfl)) (by decide) (by decide) (by exact zQq rfl) (by exact zQx rfl))) zWx))))), ?_⟩
   refine ⟨_, rfl, Nat.zero_le _, fun l nl => ⟨a, l, _, _, rfl, rfl, (zWw nl).seq hs, SqL.of zQz, ?_⟩⟩
   by_cases e : ns = []
   . refine .inl ⟨by rw [e]; rfl, by rw [e]; rfl, _, rfl, iteT ⟨_, rfl, _, _, rfl, rfl, .inr ⟨by decide, by decide⟩, h _ _ (zWw nl)⟩⟩
   . have pos : 0 < ns.length := List.length_pos_iff.mpr e
     refine .inr ⟨by rw [List.length_map]; intro z; exact e (List.length_eq_zero_iff.mp z), _, rfl, iteF ?_⟩
     have hs' := (zWw (o := .lst []) nl).seq hs
     have hm0 : 0 <= k % (ns.length : Int) := Int.emod_nonneg _ (by omega)
     have hm1 : k % (ns.length : Int) < ns.length := Int.emod_lt_of_pos _ (by omega)
     have at_ : (ns.map V.int)[(k % (ns.length : Int)).toNat]? = some (.int (ns.getD (k % (ns.length : Int)).toNat 0)) := by
       have : (k % (ns.length : Int)).toNat < ns.length := by omega
       rw [List.getElem?_map, List.getD_eq_getElem?_getD, List.getElem?_eq_getElem this]
       rfl
     refine ⟨_, rfl, _, rfl, _, rfl, a, _, rfl, .inl hs', _, _, rfl, rfl, by rw [List.length_map]; omega, a, _, _, .int (ns.getD (k % (ns.length : Int)).toNat 0), rfl, rfl, hs', by rw [List.length_map]; exact yKq hm0 at_, ?_⟩
     . refine ⟨_, rfl, _, rfl, a, _, rfl, .inl hs', _, _, rfl, rfl, ⟨by rw [List.length_map]; omega, by rw [List.length_map]; omega⟩, _, _, rfl, rfl, .inr ⟨by decide, by decide⟩, _, _, rfl, rfl, h _ _ (zWw nl)⟩
def spDrawn : Sp := fun vs H Q _ => ∃ (c k : Int), vs = [.int c, .int k] /\ ∀ z, Q (.int z) H
theorem scDn : FnScope ["_law_cell_here", "_law_k", "_law_more"] ["_law_cell_here", "_law_k"] (defScope sDrawn) := ⟨rfl, rfl, rfl, by decide +kernel, rfl, by decide +kernel, by decide +kernel⟩
theorem ok_drawn {f : Addr} {fd : FuncData} (F : Fun K "_law_drawn" "_law_drawn" sDrawn f fd) : FnOk P w K mg base (CXw P w) 51 f fd ["_law_cell_here", "_law_k"] spDrawn := by
 refine F.okX (by decide) scDn (fun vs H Q E h => ?_) (fun cdv A outer s H vs Q E hr h => ?_)
 . obtain ⟨c, k, rfl, _⟩ := h
   rfl
 . obtain ⟨c, k, rfl, h⟩ := h
   refine ⟨_, (@zQj _ _ _ _ _ (@zJw _ _ (2) _ _ _ _ scDn.nd rfl (Or.inl rfl) (@zZx _ _ _ _ _ _ _ _ (@yWw _) (@zZx _ _ _ _ _ _ _ _ (@yJw _) (@zZx _ _ _ _ _ _ _ _ (@op_mul _) (pv 0) zWx) (@zZx _ _ _ _ _ _ _ _ (@op_mul _) (@zZx _ _ _ _ _ _ _ _ (@yJw _) (pv 1) zWx) zWx)) zWx) (by rfl) (by first | exact .inl rfl | exact .inr rfl | assumption)) (@zWq _ _ _ (@zZz _ _ _ _ (@zZx _ _ _ _ _ _ _ _ (@yWw _) (@zZx _ _ _ _ _ _ _ _ (@op_mulB _) (pv 2) (pv 2)) zWx)))), ?_⟩
   refine ⟨_, rfl, _, _, rfl, rfl, .inr ⟨by decide, by decide⟩, _, rfl, _, _, rfl, rfl, _, _, rfl, rfl, .inr ⟨by decide, by decide⟩, _, _, rfl, rfl, _, _, rfl, rfl, by show (0 : Int) < 340282366920938463463374607431768211507; decide, ?_⟩
   refine ⟨_, rfl, _, rfl, _, _, rfl, rfl, ?_, _, _, rfl, rfl, by show (0 : Int) < 340282366920938463463374607431768211297; decide, h _⟩
   have b : ∀ z : Int, (z % 340282366920938463463374607431768211507).natAbs < 2 ^ 200 := fun z => by
     have h1 := Int.emod_nonneg z (show (340282366920938463463374607431768211507 : Int) ≠ 0 by decide)
     have h2 := Int.emod_lt_of_pos z (show (0 : Int) < 340282366920938463463374607431768211507 by decide)
     have h3 : (z % 340282366920938463463374607431768211507).natAbs < 340282366920938463463374607431768211507 := by omega
     exact Nat.lt_of_lt_of_le h3 (by decide)
   exact ⟨b _, b _⟩
@[irreducible] def xpMounted (C DK cBS cCu : Addr) : Sp := spMounted C DK cBS cCu
theorem xpMounted_eq {C DK cBS cCu : Addr} : xpMounted C DK cBS cCu = spMounted C DK cBS cCu := by unfold xpMounted; rfl
@[irreducible] def xpDWrite (C DK cNS cBC cCu : Addr) : Sp := spDWrite C DK cNS cBC cCu
theorem xpDWrite_eq {C DK cNS cBC cCu : Addr} : xpDWrite C DK cNS cBC cCu = spDWrite C DK cNS cBC cCu := by unfold xpDWrite; rfl
@[irreducible] def xpDRead (C DK cNS : Addr) : Sp := spDRead C DK cNS
theorem xpDRead_eq {C DK cNS : Addr} : xpDRead C DK cNS = spDRead C DK cNS := by unfold xpDRead; rfl
structure Mnt (G G' : GS) : Prop where
 nb : G'.nb = G.nb
 np : G'.np = G.np
 val : ∀ s v, Val G s v -> Val G' s v
 lit : Lit G -> Lit G'
theorem Mnt.refl {G : GS} : Mnt G G := ⟨rfl, rfl, fun _ _ V => V, id⟩
theorem Mnt.trans {G G1 G2 : GS} (a : Mnt G G1) (b : Mnt G1 G2) : Mnt G G2 := ⟨b.nb.trans a.nb, b.np.trans a.np, fun s v V => b.val s v (a.val s v V), fun l => b.lit (a.lit l)⟩
theorem xKz {H : Hp} {p : Addr} {G : GS} {fp : List Addr} {many : Nat} {Q : VK} {E : XK} (A : ChipX C H p G fp) (o : Ok G many) (few : G.Few) (few2 : ∀ N, G.Newest N -> (G.mend N).2.Few)
   (q1 : ∀ d H' pa D fp' N, DiskX C DK H' d p D pa fp' -> WI D -> D.many = many -> Mnt G D.G -> G.Newest N -> D.G = (G.mend N).2 -> Did H H' fp fp' -> (∀ o, H d = some o -> d ∈ fp) -> (∀ o, H pa = some o -> pa ∈ fp) -> Q (.ref d) H')
   (q2 : ∀ H' x G' fp' N, ChipX C H' p G' fp' -> Ok G' many -> Mnt G G' -> ¬ Lit G -> G.Newest N -> G' = (G.mend N).2 -> (G.mend N).1 = false -> Did H H' fp fp' -> E (.ref cCu) (some x) H') : xpMounted C DK cBS cCu [.ref p, .int (many : Int)] H Q E := by
 unfold xpMounted
 have B : Base G many := by
   obtain ⟨h, g | g⟩ := o
   . exact g.base
   . exact g.base
 refine ⟨p, G, fp, many, rfl, A, .inr ⟨many, rfl, B.m1, B.ms, B.rdy few, fun N hN => ?_⟩⟩
 obtain ⟨e1, e2, ev, eg, eo⟩ := Ok.mend o hN
 have mn : Mnt G (G.mend N).2 := ⟨e1, e2, ev, fun l => (Lit.mend l).2⟩
 by_cases hm : (G.mend N).1 = true
 . rw [if_pos hm]
   obtain ⟨h, g⟩ := eg hm
   refine ⟨g.base.rdy (few2 N hN), fun d H' pa pl fp' X gp k n1 n2 => ?_⟩
   exact q1 d H' pa _ fp' N X (g.mount gp) rfl mn hN rfl k n1 n2
 . rw [if_neg hm]
   have hm' : (G.mend N).1 = false := by
     cases e : (G.mend N).1 with
     | true => exact absurd e hm
     | false => rfl
   exact fun H' x fp' A' k => q2 H' x _ fp' N A' eo mn (fun l => hm (Lit.mend l).1) hN rfl hm' k
theorem use_dwrite {H : Hp} {d p pa : Addr} {D : DS} {fp : List Addr} {s : Nat} {c : Int} {Q : VK} {E : XK} (X : DiskX C DK H d p D pa fp) (I : WI D) (hs : s < D.many) (c0 : 0 <= c) (c1 : c <= MOST)
   (q1 : ∀ r H' fp', r.1 = true -> DS.write D.G.nb D s c = some r -> WLeft D s c r -> DiskX C DK H' d p r.2 pa fp' -> Did H H' (fpD d pa fp) (fpD d pa fp') -> Q .non H')
   (q2 : ∀ r H' fp' x, r.1 = false -> DS.write D.G.nb D s c = some r -> WLeft D s c r -> DiskX C DK H' d p r.2 pa fp' -> Did H H' (fpD d pa fp) (fpD d pa fp') -> E (.ref cCu) (some x) H') : xpDWrite C DK cNS cBC cCu [.ref d, .int (s : Int), .int c] H Q E := by
 unfold xpDWrite
 obtain ⟨r, e, L⟩ := I.write (c := c) hs
 refine ⟨d, p, D, pa, fp, s, c, rfl, X, .inr (.inr ⟨s, D.G.nb, r, rfl, hs, c0, c1, I.hh, e, fun H' fp' X' k => ?_⟩)⟩
 by_cases hr : r.1 = true
 . rw [if_pos hr]
   exact q1 r H' fp' hr e L X' k
 . rw [if_neg hr]
   have hr' : r.1 = false := by
     cases z : r.1 with
     | true => exact absurd z hr
     | false => rfl
   exact fun x => q2 r H' fp' x hr' e L X' k
theorem use_dread {H : Hp} {d p pa : Addr} {D : DS} {fp : List Addr} {s : Nat} {Q : VK} {E : XK} (X : DiskX C DK H d p D pa fp) (I : WI D) (hs : s < D.many) (q : Val D.G s (D.read s) -> Q (.int (D.read s)) H) : xpDRead C DK cNS [.ref d, .int (s : Int)] H Q E := by
 unfold xpDRead
 exact ⟨d, p, D, pa, fp, s, rfl, X, .inr ⟨s, rfl, hs, I.pl, q (xKq I.pl hs)⟩⟩
end
section
variable {P : Program} {w : World} {K : PySem.W.Frag} {mg : Str -> Option Value} {base : Heap} {C DK cBS cNP cNE cNS cBC cCu cWE : Addr}
end
def isFrz : HO -> Bool
 | .frz _ _ => true
 | _ => false
def Scr (K : PySem.W.Frag) (H : Hp) (a : Addr) (ns : List Int) : Prop := (∃ o, H a = some (.frz o (.lst (ns.map V.int)))) \/ SqL K (fun _ => none) a (ns.map V.int)
theorem Scr.seq {K : PySem.W.Frag} {H : Hp} {a : Addr} {ns : List Int} (h : Scr K H a ns) : SqL K H a (ns.map V.int) := by
 rcases h with ⟨o, h⟩ | h
 . exact .inl (.inr ⟨o, h⟩)
 . rcases h with (h | ⟨o, h⟩) | h
   . cases h
   . cases h
   . exact .inr h
theorem Scr.same {K : PySem.W.Frag} {H H' : Hp} {a : Addr} {ns : List Int} (h : Scr K H a ns) (s : Same H H') : Scr K H' a ns := by
 rcases h with ⟨o, h⟩ | h
 . exact .inl ⟨o, s _ _ h⟩
 . exact .inr h
theorem Scr.but {K : PySem.W.Frag} {H H' : Hp} {a : Addr} {ns : List Int} {fp : List Addr} (h : Scr K H a ns) (s : SameBut fp H H') (t : ∀ b ∈ fp, ∃ o, H b = some o /\ isFrz o = false) : Scr K H' a ns := by
 rcases h with ⟨o, h⟩ | h
 . refine .inl ⟨o, s _ _ h fun m => ?_⟩
   obtain ⟨u, e, z⟩ := t a m
   rw [h] at e
   cases e
   cases z
 . exact .inr h
theorem DiskX.kind {C DK : Addr} {H : Hp} {d p : Addr} {D : DS} {pa : Addr} {fp : List Addr} (X : DiskX C DK H d p D pa fp) {b : Addr} (m : b ∈ fpD d pa fp) : (∃ xs, H b = some (.lst xs)) \/ ∃ c dx fs, H b = some (.ins c dx fs) := by
 rcases List.mem_cons.mp m with z | m
 . obtain ⟨dx, e⟩ := X.ob
   exact .inr ⟨_, _, _, by rw [z]; exact e⟩
 rcases List.mem_cons.mp m with z | m
 . obtain ⟨xs, e, _⟩ := X.pl
   exact .inl ⟨_, by rw [z]; exact e⟩
 rcases X.ch.mem m with e | z
 . exact .inl e
 . obtain ⟨dx, S, hl, el, e⟩ := X.ch.at_
   exact .inr ⟨_, _, _, by rw [z]; exact e⟩
theorem DiskX.frz {C DK : Addr} {H : Hp} {d p : Addr} {D : DS} {pa : Addr} {fp : List Addr} (X : DiskX C DK H d p D pa fp) : ∀ b ∈ fpD d pa fp, ∃ o, H b = some o /\ isFrz o = false := fun b m => by
 rcases X.kind m with ⟨xs, e⟩ | ⟨c, dx, fs, e⟩
 . exact ⟨_, e, rfl⟩
 . exact ⟨_, e, rfl⟩
theorem ChipX.frz {C : Addr} {H : Hp} {p : Addr} {G : GS} {fp : List Addr} (A : ChipX C H p G fp) : ∀ b ∈ fp, ∃ o, H b = some o /\ isFrz o = false := fun b m => by
 rcases A.mem m with ⟨xs, e⟩ | z
 . exact ⟨_, e, rfl⟩
 . obtain ⟨dx, S, hl, el, e⟩ := A.at_
   exact ⟨_, by rw [z]; exact e, rfl⟩
theorem ChipX.noD {C : Addr} {H : Hp} {p : Addr} {G : GS} {fp : List Addr} (A : ChipX C H p G fp) {a : Addr} {kvs : List (Key × V)} (e : H a = some (.dK kvs)) : a ∉ fp := fun m => by
 rcases A.mem m with ⟨ys, z⟩ | z
 . rw [e] at z; cases z
 . obtain ⟨dx, S, hl, el, z'⟩ := A.at_
   rw [z, z'] at e; cases e
theorem DiskX.noD {C DK : Addr} {H : Hp} {d p : Addr} {D : DS} {pa : Addr} {fp : List Addr} (X : DiskX C DK H d p D pa fp) {a : Addr} {kvs : List (Key × V)} (e : H a = some (.dK kvs)) : a ∉ fpD d pa fp := fun m => by
 rcases X.kind m with ⟨xs, z⟩ | ⟨c, dx, fs, z⟩
 . rw [e] at z; cases z
 . rw [e] at z; cases z
def HeldAt (H : Hp) (a : Addr) (f : Nat -> Int) (L : Nat) : Prop := ∃ kvs : List (Key × V), H a = some (.dK kvs) /\ kvs.length <= L /\ ∀ s : Nat, (valV kvs (.inl (s : Int))).getD (.int 0) = .int (f s)
theorem HeldAt.keep {H H' : Hp} {a : Addr} {f : Nat -> Int} {L : Nat} (h : HeldAt H a f L) (k : ∀ kvs, H a = some (.dK kvs) -> H' a = some (.dK kvs)) : HeldAt H' a f L := by
 obtain ⟨kvs, e, r⟩ := h
 exact ⟨kvs, k _ e, r⟩
theorem HeldAt.same {H H' : Hp} {a : Addr} {f : Nat -> Int} {L : Nat} (h : HeldAt H a f L) (k : Same H H') : HeldAt H' a f L := h.keep fun _ e => k _ _ e
theorem HeldAt.mono {H : Hp} {a : Addr} {f : Nat -> Int} {L L' : Nat} (h : HeldAt H a f L) (k : L <= L') : HeldAt H a f L' := by
 obtain ⟨kvs, e, l, r⟩ := h
 exact ⟨kvs, e, Nat.le_trans l k, r⟩
theorem HeldAt.put {H : Hp} {a : Addr} {f : Nat -> Int} {L : Nat} {kvs : List (Key × V)} (e : H a = some (.dK kvs)) (h1 : kvs.length <= L) (h2 : ∀ s : Nat, (valV kvs (.inl (s : Int))).getD (.int 0) = .int (f s)) (s : Nat) (c : Int) : HeldAt (upd H a (.dK (putK kvs (.inl (s : Int)) (.int c)))) a (set1 f s c) (L + 1) := by
 refine ⟨_, zQz, Nat.le_trans (xQv _ _ _) (by omega), fun s' => ?_⟩
 rw [valV_put]
 unfold set1
 by_cases z : s' = s
 . subst z
   rw [if_pos rfl, if_pos rfl]
   rfl
 . rw [if_neg (by intro q; injection q with q; exact z (by omega)), if_neg z]
   exact h2 s'
abbrev sContent : Stmt := top 33
section
variable {P : Program} {w : World} {K : PySem.W.Frag} {mg : Str -> Option Value} {base : Heap} {C DK cBS cNP cNE cNS cBC cCu cWE : Addr}
def spContent : Sp := fun vs H Q _ => ∃ z : Int, vs = [.int z] /\ ∀ c H', 0 <= c -> c <= MOST -> Same H H' -> Q (.int c) H'
theorem scCt : FnScope ["_law_more"] ["_law_more"] (defScope sContent) := ⟨rfl, rfl, rfl, by decide +kernel, rfl, by decide +kernel, by decide +kernel⟩
theorem ok_content {f : Addr} {fd : FuncData} (F : Fun K "_law_content" "_law_content" sContent f fd) : FnOk P w K mg base (CXw P w) 51 f fd ["_law_more"] spContent := by
 refine F.okX (by decide) scCt (fun vs H Q E h => ?_) (fun cdv A outer s H vs Q E hr h => ?_)
 . obtain ⟨z, rfl, _⟩ := h
   rfl
 . obtain ⟨z, rfl, h⟩ := h
   obtain ⟨c, hc, c0, c1⟩ : ∃ c : Int, atI [V.int (z % 5), V.int (z % 1000), V.int (999999999999 - z % 2)] (z / 1000 % 3) = some (.int c) /\ 0 <= c /\ c <= MOST := by
     have e : z / 1000 % 3 = 0 \/ z / 1000 % 3 = 1 \/ z / 1000 % 3 = 2 := by omega
     unfold MOST
     rcases e with e | e | e <;> rw [e]
     . exact ⟨_, at0, by omega, by omega⟩
     . exact ⟨_, at1, by omega, by omega⟩
     . exact ⟨_, at2, by omega, by omega⟩
   refine ⟨_, (@zWq _ _ _ (@zZz _ _ _ _ (@zJz _ _ _ _ _ _ _ (@zKz _) (@yWq _ _ _ _ (@zQw _ _ _ _ _ (@zZx _ _ _ _ _ _ _ _ (@yWw _) (pv 0) zWx) (@zQw _ _ _ _ _ (@zZx _ _ _ _ _ _ _ _ (@yWw _) (pv 0) zWx) (@zQw _ _ _ _ _ (@zZx _ _ _ _ _ _ _ _ (@op_sub _) zWx (@zZx _ _ _ _ _ _ _ _ (@yWw _) (pv 0) zWx)) zQk (by exact zQq rfl)) (by exact zQq rfl)) (by exact zQq rfl))) (@zZx _ _ _ _ _ _ _ _ (@yWw _) (@zZx _ _ _ _ _ _ _ _ (@yZz _) (pv 0) zWx) zWx) (fun _ _ => rfl)))), ?_⟩
   refine ⟨_, rfl, _, _, rfl, rfl, by show (0 : Int) < 5; decide, _, rfl, _, _, rfl, rfl, by show (0 : Int) < 1000; decide, _, rfl, _, _, rfl, rfl, by show (0 : Int) < 2; decide, _, _, rfl, rfl, by show 3 <= sizeLine; decide, fun l nl => ⟨_, rfl, _, _, rfl, rfl, ⟨by decide, by decide⟩, _, _, rfl, rfl, by show (0 : Int) < 3; decide, l, _, _, _, rfl, rfl, SqL.of zQz, hc, h c _ c0 c1 (zWw nl)⟩⟩
end
end Ev
set_option maxHeartbeats 8000000
namespace Ev
open PySem L2
abbrev sWord : Stmt := top 32
abbrev sTold : Stmt := top 37
abbrev sWears : Stmt := top 36
inductive R3 where
 | bs | ns | bc
 deriving DecidableEq
def R3.nm : R3 -> Str
 | .bs => "BadSize"
 | .ns => "NoSector"
 | .bc => "BadContent"
def R3.fl (r : R3) : List Bool := [decide (r = .bs), false, false, decide (r = .ns), decide (r = .bc), false]
def R3.ix : R3 -> Nat
 | .bs => 0
 | .ns => 3
 | .bc => 4
def cls3 (cBS cNS cBC : Addr) : R3 -> Addr
 | .bs => cBS
 | .ns => cNS
 | .bc => cBC
structure TxtW (K : PySem.W.Frag) (cBS cNP cNE cNS cBC cCu cWE : Addr) : Prop where
 ask : ∀ r, XAsk K (cls3 cBS cNS cBC r)
 kBS : ∀ r, PySem.W.kitOne K (.ref (cls3 cBS cNS cBC r)) (.ref cBS) = some (decide (r = .bs))
 kNP : ∀ r, PySem.W.kitOne K (.ref (cls3 cBS cNS cBC r)) (.ref cNP) = some false
 kNE : ∀ r, PySem.W.kitOne K (.ref (cls3 cBS cNS cBC r)) (.ref cNE) = some false
 kNS : ∀ r, PySem.W.kitOne K (.ref (cls3 cBS cNS cBC r)) (.ref cNS) = some (decide (r = .ns))
 kBC : ∀ r, PySem.W.kitOne K (.ref (cls3 cBS cNS cBC r)) (.ref cBC) = some (decide (r = .bc))
 kCu : ∀ r, PySem.W.kitOne K (.ref (cls3 cBS cNS cBC r)) (.ref cCu) = some false
 kVE : ∀ r, PySem.W.kitOne K (.ref (cls3 cBS cNS cBC r)) (.type "ValueError") = some true
 ex : ∀ r, PySem.W.exmOne K (.ref (cls3 cBS cNS cBC r)) (.ref cWE) = some true
theorem ints_pl {n : Nat} {f : Nat -> Int} : (((((List.range n).map fun i : Nat => V.int (i : Int)).filter fun _ => true).map fun v => match v with | .int i => V.int (f i.toNat) | _ => .non)) = (List.range n).map fun i => V.int (f i) := by
 rw [List.filter_eq_self.mpr fun _ _ => rfl, List.map_map]
 rfl
theorem xZk {n : Nat} {f : Nat -> Int} : ((List.range n).map fun i => V.int (f i)).all plainV = true := by
 rw [List.all_eq_true]
 intro v m
 obtain ⟨i, _, rfl⟩ := List.mem_map.mp m
 rfl
section
variable {P : Program} {w : World} {K : PySem.W.Frag} {mg : Str -> Option Value} {base : Heap} {C DK cBS cNP cNE cNS cBC cCu cWE : Addr}
def spWord (cl : R3 -> Addr) : SpA := fun A vs H Q _ => ∃ (x : Addr) (r : R3), vs = [.ref x] /\ A.handled = some (.ref x) /\ H x = some (excO x (.ref (cl r))) /\ ∀ H', Same H H' -> Q (.str r.nm) H'
theorem scWd : FnScope ["_law_e", "_law_flags", "_law_words"] ["_law_e"] (defScope sWord) := ⟨rfl, rfl, rfl, by decide +kernel, rfl, by decide +kernel, by decide +kernel⟩
theorem ok_word {f : Addr} {fd : FuncData} (F : Fun K "_law_word" "_law_word" sWord f fd) (T : Txt K mg C cBS cNP cNE cNS cBC cCu cWE) (W : TxtW K cBS cNP cNE cNS cBC cCu cWE) : FnOkA P w K mg base (CXw P w) 5 f fd ["_law_e"] (spWord (cls3 cBS cNS cBC)) := by
 refine F.okA scWd (fun A vs H Q E h => ?_) (fun cdv A outer s H vs Q E hr h => ?_)
 . obtain ⟨x, r, rfl, _⟩ := h
   rfl
 . obtain ⟨x, r, rfl, hh, hx, h⟩ := h
   refine ⟨_, (@zQj _ _ _ _ _ (@zJw _ _ (1) _ _ _ _ scWd.nd rfl (Or.inl rfl) (@yWq _ _ _ _ (@zQw _ _ _ _ _ (@zZv _ _ _ _ _ _ _ _ _ (@yQk _) rfl T.n_isinstance PyProof.Rows.Boot.«isinstance» (@zQw _ _ _ _ _ (pv 0) (@zQw _ _ _ _ _ (@yKz _ _ (.ref cBS) _ _ rfl T.g_BadSize rfl (by decide)) zQk (by exact zQq rfl)) (by exact zQq rfl)) (by decide) (by decide) (by exact zQq rfl) (by exact zQx rfl)) (@zQw _ _ _ _ _ (@zZv _ _ _ _ _ _ _ _ _ (@yQk _) rfl T.n_isinstance PyProof.Rows.Boot.«isinstance» (@zQw _ _ _ _ _ (pv 0) (@zQw _ _ _ _ _ (@yKz _ _ (.ref cNP) _ _ rfl T.g_NoPage rfl (by decide)) zQk (by exact zQq rfl)) (by exact zQq rfl)) (by decide) (by decide) (by exact zQq rfl) (by exact zQx rfl)) (@zQw _ _ _ _ _ (@zZv _ _ _ _ _ _ _ _ _ (@yQk _) rfl T.n_isinstance PyProof.Rows.Boot.«isinstance» (@zQw _ _ _ _ _ (pv 0) (@zQw _ _ _ _ _ (@yKz _ _ (.ref cNE) _ _ rfl T.g_NotErased rfl (by decide)) zQk (by exact zQq rfl)) (by exact zQq rfl)) (by decide) (by decide) (by exact zQq rfl) (by exact zQx rfl)) (@zQw _ _ _ _ _ (@zZv _ _ _ _ _ _ _ _ _ (@yQk _) rfl T.n_isinstance PyProof.Rows.Boot.«isinstance» (@zQw _ _ _ _ _ (pv 0) (@zQw _ _ _ _ _ (@yKz _ _ (.ref cNS) _ _ rfl T.g_NoSector rfl (by decide)) zQk (by exact zQq rfl)) (by exact zQq rfl)) (by decide) (by decide) (by exact zQq rfl) (by exact zQx rfl)) zQk (by exact zQq rfl)) (by exact zQq rfl)) (by exact zQq rfl)) (by exact zQq rfl))) (by rfl) (by first | exact .inl rfl | exact .inr rfl | assumption)) (@zQj _ _ _ _ _ (@zJw _ _ (1) _ _ _ _ scWd.nd rfl (Or.inl rfl) (@zZx _ _ _ _ _ _ _ _ (@op_cat _) (pv 1) (@yWq _ _ _ _ (@zQw _ _ _ _ _ (@zZv _ _ _ _ _ _ _ _ _ (@yQk _) rfl T.n_isinstance PyProof.Rows.Boot.«isinstance» (@zQw _ _ _ _ _ (pv 0) (@zQw _ _ _ _ _ (@yKz _ _ (.ref cBC) _ _ rfl T.g_BadContent rfl (by decide)) zQk (by exact zQq rfl)) (by exact zQq rfl)) (by decide) (by decide) (by exact zQq rfl) (by exact zQx rfl)) (@zQw _ _ _ _ _ (@zZv _ _ _ _ _ _ _ _ _ (@yQk _) rfl T.n_isinstance PyProof.Rows.Boot.«isinstance» (@zQw _ _ _ _ _ (pv 0) (@zQw _ _ _ _ _ (@yKz _ _ (.ref cCu) _ _ rfl T.g_Cut rfl (by decide)) zQk (by exact zQq rfl)) (by exact zQq rfl)) (by decide) (by decide) (by exact zQq rfl) (by exact zQx rfl)) zQk (by exact zQq rfl)) (by exact zQq rfl)))) (by rfl) (by first | exact .inl rfl | exact .inr rfl | assumption)) (@zQj _ _ _ _ _ (@zJw _ _ (2) _ _ _ _ scWd.nd rfl (Or.inl rfl) (@yWq _ _ _ _ (@zQw _ _ _ _ _ (@zKw _ _ _ _) (@zQw _ _ _ _ _ (@zKw _ _ _ _) (@zQw _ _ _ _ _ (@zKw _ _ _ _) (@zQw _ _ _ _ _ (@zKw _ _ _ _) (@zQw _ _ _ _ _ (@zKw _ _ _ _) (@zQw _ _ _ _ _ (@zKw _ _ _ _) zQk (by exact zQq rfl)) (by exact zQq rfl)) (by exact zQq rfl)) (by exact zQq rfl)) (by exact zQq rfl)) (by exact zQq rfl))) (by rfl) (by first | exact .inl rfl | exact .inr rfl | assumption)) (@zQj _ _ _ _ _ (@yQz _ _ _ _ _ _ _ _ (PW.pt (@pw_or _ _ _ _ _ _ _ (@yQj _ _ _ _ _ _ _ _ (@op_ne _) (@zZv _ _ _ _ _ _ _ _ _ (@call_sumH _) rfl T.n_sum PyProof.Rows.Boot.«sum» (@zQw _ _ _ _ _ (@pe_compH _ _ _ _ _ _ _ _ ([]) ([]) _ _ _ _ (.ref (cls3 cBS cNS cBC r)) hh (@pi_listH _ _ _ _ (pv 1)) rfl (by decide +kernel) (by decide +kernel) (by decide +kernel) (by show ∀ y : Str × NameKind, y ∈ _ -> y.2 = NameKind.free -> List.lookup y.1 (defScope sWord).names = some NameKind.cell; decide +kernel) (by show ∀ p : Str × Nat, p ∈ _ -> List.lookup p.1 _ = some NameKind.free /\ (["_law_e", "_law_flags", "_law_words"] : List Str)[p.2]? = some p.1; decide +kernel) rfl (by decide +kernel) (fun _ _ _ _ _ => (@yJx _)) (fun _ _ _ _ _ => (@pe_callTy _ _ _ _ _ _ _ _ _ (@call_int1 _) rfl T.n_int PyProof.Rows.Boot.«int» (@zQw _ _ _ _ _ (pv 0) zQk (by exact zQq rfl)) (by decide) (by decide) (by exact zQq rfl) (by exact zQx rfl))) (by intro _; rfl)) zQk (by exact zQq rfl)) (by decide) (by decide) (by exact zQq rfl) (by exact zQx rfl)) zWx (@nomark _ _ (by decide) (by decide))) (@pw_or1 _ _ _ _ (@yJq _ _ _ _ (@yZv _ _ _ (@zZv _ _ _ _ _ _ _ _ _ (@yQk _) rfl T.n_isinstance PyProof.Rows.Boot.«isinstance» (@zQw _ _ _ _ _ (pv 0) (@zQw _ _ _ _ _ (@pe_bltn _ _ (.ty "ValueError") _ _ rfl T.n_ValueError PyProof.Rows.Boot.«ValueError» rfl (by decide) (by decide)) zQk (by exact zQq rfl)) (by exact zQq rfl)) (by decide) (by decide) (by exact zQq rfl) (by exact zQx rfl)) (by intro _; rfl)))))) (@zWq _ _ _ (@zZz _ _ _ _ (@zKw _ _ _ _))) (@zZw _)) (@zWq _ _ _ (@zZz _ _ _ _ (@zJz _ _ _ _ _ _ _ (@zKz _) (pv 2) (@pe_bm _ _ _ _ _ _ _ _ _ _ _ _ PySem.F.plainAttrs_list PySem.F.slot_list_index PySem.F.type_list_index (@mt_index _) (pv 1) (@zQw _ _ _ _ _ (@xQz _ _ _ _) zQk (by exact zQq rfl)) (by rfl) (by rfl) (by rfl) (by exact zQq rfl) (by exact zQx rfl)) (fun _ _ => rfl)))))))), ?_⟩
   refine ⟨_, rfl, x, _, _, .ref cBS, _, rfl, rfl, fun _ e => e, hx, W.ask r, W.kBS r, _, rfl, x, _, _, .ref cNP, _, rfl, rfl, fun _ e => e, hx, W.ask r, W.kNP r, _, rfl, x, _, _, .ref cNE, _, rfl, rfl, fun _ e => e, hx, W.ask r, W.kNE r, _, rfl, x, _, _, .ref cNS, _, rfl, rfl, fun _ e => e, hx, W.ask r, W.kNS r, by show 4 <= sizeLine; decide, fun l1 n1 => ?_⟩
   generalize hH1 : upd H l1 _ = H1
   have e1 : H1 l1 = some (.lst [.bl (decide (r = .bs)), .bl false, .bl false, .bl (decide (r = .ns))]) := by rw [<- hH1]; exact zQz
   have s1 : Same H H1 := by rw [<- hH1]; exact zWw n1
   have x1 := s1 _ _ hx
   refine ⟨_, rfl, _, rfl, x, _, _, .ref cBC, _, rfl, rfl, fun _ e => e, x1, W.ask r, W.kBC r, _, rfl, x, _, _, .ref cCu, _, rfl, rfl, fun _ e => e, x1, W.ask r, W.kCu r, by show 2 <= sizeLine; decide, fun l2 n2 => ⟨l1, l2, _, _, rfl, rfl, zWw n2 _ _ e1, zQz, by show 6 <= sizeLine; decide, fun l3 n3 => ?_⟩⟩
   generalize hH3 : upd (upd H1 l2 _) l3 _ = H3
   have e3 : H3 l3 = some (.lst (r.fl.map V.bl)) := by rw [<- hH3]; exact zQz
   have s3 : Same H1 H3 := by rw [<- hH3]; exact (zWw n2).trans (zWw n3)
   refine ⟨by show 6 <= sizeLine; decide, fun l4 n4 => ?_⟩
   generalize hH4 : upd H3 l4 _ = H4
   have e4 : H4 l4 = some (.lst [.str "BadSize", .str "NoPage", .str "NotErased", .str "NoSector", .str "BadContent", .str "Cut"]) := by rw [<- hH4]; exact zQz
   have s4 : Same H3 H4 := by rw [<- hH4]; exact zWw n4
   have x4 := s4 _ _ (s3 _ _ x1)
   have f4 := s4 _ _ e3
   refine wWj l3 (r.fl.map V.bl) (by show 6 < 1000; decide) (SqL.of f4) (fun R q => ⟨_, rfl, q⟩) (fun _ => true) (fun v => match v with | .bl b => .int (if b then 1 else 0) | _ => .non) x4 (fun i y H2 R e s2 q => q) (fun i y H2 R e _ s2 q => ?_) fun acc nacc => ?_
   . obtain ⟨b, rfl⟩ : ∃ b, y = V.bl b := by
       rw [List.getElem?_map] at e
       cases z : r.fl[i]? with
       | none => rw [z] at e; cases e
       | some b => rw [z] at e; exact ⟨b, (Option.some.inj e).symm⟩
     exact ⟨_, rfl, .inr ⟨b, rfl, q⟩⟩
   have s5 := zWw (o := .lst (((r.fl.map V.bl).filter fun _ => true).map fun v => match v with | .bl b => .int (if b then 1 else 0) | _ => .non)) nacc
   have hl : ∃ ns : List Int, (((r.fl.map V.bl).filter fun _ => true).map fun v => match v with | .bl b => V.int (if b then 1 else 0) | _ => .non) = ns.map V.int /\ ns.sum = 1 /\ (∀ n ∈ ns, n = 0 \/ n = 1) /\ ns.length <= 1000 := by
     cases r
     . exact ⟨[1, 0, 0, 0, 0, 0], rfl, rfl, by decide, by decide⟩
     . exact ⟨[0, 0, 0, 1, 0, 0], rfl, rfl, by decide, by decide⟩
     . exact ⟨[0, 0, 0, 0, 1, 0], rfl, rfl, by decide, by decide⟩
   obtain ⟨ns, en, sn, n01, ln⟩ := hl
   refine ⟨acc, ns, x, _, rfl, by rw [<- en]; exact zQz, n01, ln, hh, s5 _ _ x4, rfl, _, rfl, ?_⟩
   rw [sn]
   refine iteN rfl ⟨_, rfl, x, _, _, .ty "ValueError", _, rfl, rfl, fun _ e => e, s5 _ _ x4, W.ask r, W.kVE r, _, rfl, iteF ?_⟩
   refine ⟨_, rfl, _, rfl, .inl ⟨rfl, _, SqL.of (s5 _ _ f4)⟩, l3, r.fl, r.ix, rfl, rfl, s5 _ _ f4, by cases r <;> rfl, by cases r <;> decide, by cases r <;> decide, l4, _, _, .str r.nm, rfl, rfl, SqL.of (s5 _ _ e4), yKq (by omega) (by rw [Int.toNat_natCast]; cases r <;> rfl), h _ ?_⟩
   exact s1.trans (s3.trans (s4.trans s5))
def WD (cl : R3 -> Addr) : Value -> VK -> Hp -> Prop := fun cls Q H => ∃ r, cls = .ref (cl r) /\ ∀ H', Same H H' -> Q (.str r.nm) H'
theorem scTo : FnScope ["_law_deed", "_law_e"] ["_law_deed"] (defScope sTold) := ⟨rfl, rfl, rfl, by decide +kernel, rfl, by decide +kernel, by decide +kernel⟩
theorem ok_told {f : Addr} {fd : FuncData} (F : Fun K "_law_told" "_law_told" sTold f fd) (T : Txt K mg C cBS cNP cNE cNS cBC cCu cWE) (W : TxtW K cBS cNP cNE cNS cBC cCu cWE) (B_law_word : FnBA P w K mg base 5 "_law_word" ["_law_e"] (spWord (cls3 cBS cNS cBC))) :
   FnOkS P w K mg base 62 f fd ["_law_deed"] (spDeed P w K mg base 60 (WD (cls3 cBS cNS cBC))) := by
 refine F.okS (by decide) scTo (fun o s vs H Q E h => ?_) (fun cdv A outer s H vs Q E hr h => ?_)
 . obtain ⟨f, c', lq, params, body, scope, cl, N, ws, te, EH, rfl, _⟩ := h
   rfl
 . obtain ⟨lf, c', lq, params, body, scope, cl, N, ws, te, EH, rfl, hf, hc, SL, CL, nfr, hbL, rd, hw⟩ := h
   refine ⟨_, (@zWq _ _ _ (@ps_tryAs _ _ _ _ _ _ _ _ _ _ (EH) _ (fun xh => tRet (tCall (spWord (cls3 cBS cNS cBC) ((A.deeper (PyProof.Rows.envOfC "_law_told" (defScope sTold) s.heap.objs.size f cdv)).mark (some (.ref xh)))) [] E0 (tCons (tVar 1) tNil))) (1) ⟨rfl, rfl⟩ scTo.nd rfl rfl rfl T.g_WearError (fun pn xe hP => (@zWq _ _ _ (@zZz _ _ _ _ (@pe_lcallH _ _ _ _ _ _ (H) _ _ _ _ _ _ _ _ _ _ (0) hP hr (by decide) rfl rfl hf hc SL CL nfr hbL (pv 0))))) (fun xh pn => (@zWq _ _ _ (@zZz _ _ _ _ (@pe_callW _ _ _ _ _ _ _ _ _ _ B_law_word (hr.mark (by decide) (by decide) _) rfl (@zQw _ _ _ _ _ (pv 1) zQk (by exact zQq rfl)) (by decide) (by exact zQq rfl) (by exact zQx rfl))))) (by decide))), ?_, ?_⟩
   . exact ⟨rfl, rfl, rd⟩
   . intro cls x H' q
     obtain ⟨r, rfl, h⟩ := hw _ _ _ q
     refine ⟨W.ex r, fun nx σ' _ e => ⟨_, e, x, r, rfl, rfl, zQz, fun H2 s2 => h H2 ((zWw nx).trans s2)⟩⟩
def WearX (H : Hp) (wa : Addr) (G : GS) : Prop := H wa = some (.lst ((List.range G.nb).map fun b => V.int (G.worn b)))
def spWears (C : Addr) : Sp := fun vs H Q _ => ∃ (p : Addr) (G : GS) (fp : List Addr), vs = [.ref p] /\ ChipX C H p G fp /\ ∀ wa H', WearX H' wa G -> Same H H' -> H wa = none -> Q (.ref wa) H'
theorem scWe : FnScope ["_law_chip"] ["_law_chip"] (defScope sWears) := ⟨rfl, rfl, rfl, by decide +kernel, rfl, by decide +kernel, by decide +kernel⟩
theorem ok_wears {f : Addr} {fd : FuncData} (F : Fun K "_law_wears" "_law_wears" sWears f fd) (T : Txt K mg C cBS cNP cNE cNS cBC cCu cWE)
   (M_size : MtB P w K mg base C 51 "size" ["self"] (xpSize C)) (M_worn : MtB P w K mg base C 52 "worn" ["self", "block"] (xpWorn C cNP)) : FnOk P w K mg base (CXw P w) 54 f fd ["_law_chip"] (spWears C) := by
 refine F.okX (by decide) scWe (fun vs H Q E h => ?_) (fun cdv A outer s H vs Q E hr h => ?_)
 . obtain ⟨p, G, fp, rfl, _⟩ := h
   rfl
 . obtain ⟨p, G, fp, rfl, A1, h⟩ := h
   obtain ⟨dx, S0, hl0, el0, h1⟩ := A1.at_
   have lim := A1.lim
   refine ⟨_, (@zWq _ _ _ (@zZz _ _ _ _ (@yKj _ _ _ _ _ _ _ _ ([0]) (["_law_chip"]) _ _ _ rfl (@zJx _ _ _ _ _ _ rfl T.n_range (@zQw _ _ _ _ _ (@zJz _ _ _ _ _ _ _ (@zKq _) (@zZj _ _ _ _ _ _ _ _ _ _ _ _ T.cl M_size (hr.mono (by decide)) (@passE _ _ _) (pv 0) (by rfl)) zWx (fun _ _ => rfl)) zQk (by exact zQq rfl)) (by exact zQq rfl)) rfl (by decide +kernel) (by decide +kernel) (by decide +kernel) (by show ∀ y : Str × NameKind, y ∈ _ -> y.2 = NameKind.free -> List.lookup y.1 (defScope sWears).names = some NameKind.cell; decide +kernel) (by show ∀ p : Str × Nat, p ∈ _ -> List.lookup p.1 _ = some NameKind.free /\ (["_law_chip"] : List Str)[p.2]? = some p.1; decide +kernel) rfl (by decide +kernel) (fun _ _ _ _ _ => (@yJx _)) (fun _ _ _ _ _ => (@zWj _ _ _ _ _ _ _ _ _ _ _ _ _ _ _ T.cl M_worn (hr.mono (by decide)) (@passE _ _ _) (pv 1) (@zQw _ _ _ _ _ (pv 0) zQk (by exact zQq rfl)) (by exact zQq rfl) (by exact zQx rfl) (by rfl))) (by intro _; rfl)))), ?_⟩
   refine zJk G.nb (by omega) (fun R q => ?_) (fun _ => true) (fun v => match v with | .int j => V.int (G.worn j.toNat) | _ => .non) (fun j H4 R hj s4 q => q) (fun j H4 R hj _ s4 q => ?_) fun acc H2 hacc s2 n2 => ?_
   . exact ⟨_, rfl, p, dx, _, rfl, h1, rfl, yQq A1 fun t H' ht s' => ⟨t, _, _, _, rfl, rfl, SqT.of ht, at0, q H' s'⟩⟩
   . exact ⟨_, rfl, p, dx, _, rfl, s4 _ _ h1, rfl, _, rfl, use_worn (A1.same s4) hj q⟩
   . rw [ints_pl] at hacc
     exact h acc H2 hacc s2 n2
theorem use_mbad {H : Hp} {p : Addr} {G : GS} {fp : List Addr} {z : Int} {Q : VK} {E : XK} (A : ChipX C H p G fp) (h : ¬ (1 <= z /\ z <= ((G.nb : Int) - 2) * G.np)) (q : ∀ H' x, Same H H' -> E (.ref cBS) (some x) H') : xpMounted C DK cBS cCu [.ref p, .int z] H Q E := by
 unfold xpMounted
 exact ⟨p, G, fp, z, rfl, A, .inl ⟨h, q⟩⟩
theorem use_rbad {H : Hp} {d p pa : Addr} {D : DS} {fp : List Addr} {z : Int} {Q : VK} {E : XK} (X : DiskX C DK H d p D pa fp) (h : ¬ (0 <= z /\ z < D.many)) (q : ∀ x, E (.ref cNS) (some x) H) : xpDRead C DK cNS [.ref d, .int z] H Q E := by
 unfold xpDRead
 exact ⟨d, p, D, pa, fp, z, rfl, X, .inl ⟨h, q⟩⟩
theorem use_wbadS {H : Hp} {d p pa : Addr} {D : DS} {fp : List Addr} {z c : Int} {Q : VK} {E : XK} (X : DiskX C DK H d p D pa fp) (h : ¬ (0 <= z /\ z < D.many)) (q : ∀ x, E (.ref cNS) (some x) H) : xpDWrite C DK cNS cBC cCu [.ref d, .int z, .int c] H Q E := by
 unfold xpDWrite
 exact ⟨d, p, D, pa, fp, z, c, rfl, X, .inl ⟨h, q⟩⟩
theorem use_wbadC {H : Hp} {d p pa : Addr} {D : DS} {fp : List Addr} {z c : Int} {Q : VK} {E : XK} (X : DiskX C DK H d p D pa fp) (h0 : 0 <= z /\ z < D.many) (h : ¬ (0 <= c /\ c <= MOST)) (q : ∀ x, E (.ref cBC) (some x) H) : xpDWrite C DK cNS cBC cCu [.ref d, .int z, .int c] H Q E := by
 unfold xpDWrite
 exact ⟨d, p, D, pa, fp, z, c, rfl, X, .inr (.inl ⟨h0, h, q⟩)⟩
end
abbrev sLaw : Stmt := top 38
abbrev LQ : Str := ("law" : Str) ++ ".<locals>." ++ "<lambda>"
theorem lim_few {G : GS} (h1 : G.nb <= 32) (h2 : G.np <= 16) : G.nb * G.np <= 1000 := Nat.le_trans (Nat.mul_le_mul h1 h2) (by decide)
section
variable {P : Program} {w : World} {K : PySem.W.Frag} {mg : Str -> Option Value} {base : Heap} {C DK cBS cNP cNE cNS cBC cCu cWE : Addr}
theorem use_initI {H : Hp} {p dx : Addr} {b g : Int} {nb np : Nat} {Q : VK} {E : XK} (h : H p = some (.ins C dx [])) (hb : b = (nb : Int)) (hg : g = (np : Int)) (h1 : 4 <= nb) (h2 : nb <= 32) (h3 : 2 <= np) (h4 : np <= 16) (q : ∀ H' fp', ChipX C H' p (GS.fresh nb np) fp' -> Did H H' [p] fp' -> Q .non H') : xpInit C cBS [.ref p, .int b, .int g] H Q E := by
 subst hb hg
 exact use_init h h1 h2 h3 h4 q
theorem DiskX.held {C DK : Addr} {H : Hp} {d p : Addr} {D : DS} {pa : Addr} {fp : List Addr} (X : DiskX C DK H d p D pa fp) {a : Addr} {kvs kvs' : List (Key × V)} (e : H a = some (.dK kvs)) : DiskX C DK (upd H a (.dK kvs')) d p D pa fp := by
 have na := X.noD e
 have kp : ∀ b o, b ∈ fpD d pa fp -> H b = some o -> upd H a (.dK kvs') b = some o := fun b o m q => by rw [zQv (show b ≠ a from fun z => na (z ▸ m))]; exact q
 have kt : Tups H (upd H a (.dK kvs')) := fun c ys ec => by rw [zQv (xQk ec e (by intro z; cases z))]; exact ec
 obtain ⟨dx, e1⟩ := X.ob
 obtain ⟨xs, e2, q⟩ := X.pl
 exact ⟨⟨dx, kp _ _ (by simp) e1⟩, ⟨xs, kp _ _ (by simp) e2, q.keep kt⟩, X.ch.keep (fun b m o eb => kp b o (by simp [m]) eb) kt, X.dp, X.pf, X.ms⟩
theorem use_dwriteI {H : Hp} {d p pa : Addr} {D : DS} {fp : List Addr} {s : Nat} {z c : Int} {Q : VK} {E : XK} (X : DiskX C DK H d p D pa fp) (I : WI D) (hz : z = (s : Int)) (hs : s < D.many) (c0 : 0 <= c) (c1 : c <= MOST)
   (q1 : ∀ r H' fp', r.1 = true -> DS.write D.G.nb D s c = some r -> WLeft D s c r -> DiskX C DK H' d p r.2 pa fp' -> Did H H' (fpD d pa fp) (fpD d pa fp') -> Q .non H')
   (q2 : ∀ r H' fp' x, r.1 = false -> DS.write D.G.nb D s c = some r -> WLeft D s c r -> DiskX C DK H' d p r.2 pa fp' -> Did H H' (fpD d pa fp) (fpD d pa fp') -> E (.ref cCu) (some x) H') : xpDWrite C DK cNS cBC cCu [.ref d, .int z, .int c] H Q E := by
 subst hz
 exact use_dwrite X I hs c0 c1 q1 q2
theorem mend_er {G : GS} {N b : Nat} (hb : b < G.nb) (e : G.Er b) : (G.mend N).2 = G := by rw [mend_go hb e]
theorem ChipX.butT {H H' : Hp} {p T : Addr} {G : GS} {fp : List Addr} {ps : Array Value} (A : ChipX C H p G fp) (hT : H T = some (.tbl ps)) (s : SameBut [T] H H') : ChipX C H' p G fp := by
 have nT : ∀ b ∈ fp, b ≠ T := fun b m z => by
   obtain ⟨o, e, _⟩ := A.frz b m
   rcases A.mem m with ⟨xs, e⟩ | e
   . rw [z, hT] at e; cases e
   . obtain ⟨dx, S, hl, el, e'⟩ := A.at_
     rw [<- e, z, hT] at e'; cases e'
 exact A.keep (fun b m o e => s b o e (by simpa using nT b m)) fun a xs e => s a _ e (by simp; intro z; rw [z, hT] at e; cases e)
theorem DiskX.butT {H H' : Hp} {d p pa T : Addr} {D : DS} {fp : List Addr} {ps : Array Value} (X : DiskX C DK H d p D pa fp) (hT : H T = some (.tbl ps)) (s : SameBut [T] H H') : DiskX C DK H' d p D pa fp := by
 have kT : ∀ a xs, H a = some (.tup xs) -> H' a = some (.tup xs) := fun a xs e => s a _ e (by simp; intro z; rw [z, hT] at e; cases e)
 obtain ⟨dx, e1⟩ := X.ob
 obtain ⟨xs, e2, q⟩ := X.pl
 exact ⟨⟨dx, s _ _ e1 (by simp; intro z; rw [z, hT] at e1; cases e1)⟩, ⟨xs, s _ _ e2 (by simp; intro z; rw [z, hT] at e2; cases e2), q.keep kT⟩, X.ch.butT hT s, X.dp, X.pf, X.ms⟩
theorem Scr.butT {H H' : Hp} {a T : Addr} {ns : List Int} {ps : Array Value} (S : Scr K H a ns) (hT : H T = some (.tbl ps)) (s : SameBut [T] H H') : Scr K H' a ns := S.but s fun b m => by obtain rfl := List.mem_singleton.mp m; exact ⟨_, hT, rfl⟩
theorem tab_disk {H H' : Hp} {d p pa T : Addr} {D : DS} {fp fp' : List Addr} {lq : Str} (t : Tab T lq H) (X : DiskX C DK H d p D pa fp) (k : Did H H' (fpD d pa fp) fp') : Tab T lq H' := by
 refine t.but k.keep (fun b m ps e => ?_) fun b m φ e => ?_
 . rcases X.kind m with ⟨xs, z⟩ | ⟨c, dx, fs, z⟩ <;> rw [e] at z <;> cases z
 . rcases X.kind m with ⟨xs, z⟩ | ⟨c, dx, fs, z⟩ <;> rw [e] at z <;> cases z
theorem tab_chip {H H' : Hp} {p T : Addr} {G : GS} {fp fp' : List Addr} {lq : Str} (t : Tab T lq H) (A : ChipX C H p G fp) (k : Did H H' fp fp') : Tab T lq H' := by
 have kd : ∀ b ∈ fp, (∃ xs, H b = some (.lst xs)) \/ ∃ c dx fs, H b = some (.ins c dx fs) := fun b m => by
   rcases A.mem m with e | z
   . exact .inl e
   . obtain ⟨dx, S, hl, el, e⟩ := A.at_
     exact .inr ⟨_, _, _, by rw [z]; exact e⟩
 refine t.but k.keep (fun b m ps e => ?_) fun b m φ e => ?_
 . rcases kd b m with ⟨xs, z⟩ | ⟨c, dx, fs, z⟩ <;> rw [e] at z <;> cases z
 . rcases kd b m with ⟨xs, z⟩ | ⟨c, dx, fs, z⟩ <;> rw [e] at z <;> cases z
theorem deq_same {H : Hp} {xs : List V} {n : Nat} (hp : xs.all plainV = true) : ∀ (j : Nat) (u v : V), xs[j]? = some u -> xs[j]? = some v -> DEq H (n + 1) u v := fun j u v e1 e2 => by
 rw [e1] at e2
 cases e2
 exact .inl ⟨rfl, List.all_eq_true.mp hp u (List.mem_of_getElem? e1)⟩
structure Kp11 (C DK : Addr) (K : PySem.W.Frag) (a : Addr) (ns : List Int) (TT d p pa ha tb wa : Addr) (D : DS) (fp : List Addr) (kvs : List (Key × V)) (H : Hp) : Prop where
 dx : DiskX C DK H d p D pa fp
 sc : Scr K H a ns
 tab : Tab TT LQ H
 hd : H ha = some (.dK kvs)
 tb : H tb = some (.tup [.int D.G.many, .ref wa])
 we : WearX H wa D.G
theorem Kp11.same {H H' : Hp} {a TT d p pa ha tb wa : Addr} {ns : List Int} {D : DS} {fp : List Addr} {kvs : List (Key × V)} (k : Kp11 C DK K a ns TT d p pa ha tb wa D fp kvs H) (s : Same H H') : Kp11 C DK K a ns TT d p pa ha tb wa D fp kvs H' := ⟨k.dx.same s, k.sc.same s, k.tab.same s, s _ _ k.hd, s _ _ k.tb, s _ _ k.we⟩
theorem Kp11.butT {H H' : Hp} {a TT d p pa ha tb wa : Addr} {ns : List Int} {D : DS} {fp : List Addr} {kvs : List (Key × V)} (k : Kp11 C DK K a ns TT d p pa ha tb wa D fp kvs H) (t : Tab TT LQ H') (s : SameBut [TT] H H') : Kp11 C DK K a ns TT d p pa ha tb wa D fp kvs H' := by
 obtain ⟨ps, eT, _⟩ := id k.tab
 have kp : ∀ b o, H b = some o -> o ≠ .tbl ps -> H' b = some o := fun b o e n => s b o e (by simp; intro z; rw [z, eT] at e; cases e; exact n rfl)
 exact ⟨k.dx.butT eT s, k.sc.butT eT s, t, kp _ _ k.hd (by intro z; cases z), kp _ _ k.tb (by intro z; cases z), kp _ _ k.we (by intro z; cases z)⟩
theorem lst_butT {H H' : Hp} {TT l : Addr} {xs : List V} (t : Tab TT LQ H) (e : H l = some (.lst xs)) (s : SameBut [TT] H H') : H' l = some (.lst xs) := by
 obtain ⟨ps, eT, _⟩ := id t
 exact s _ _ e (by simp; intro z; rw [z, eT] at e; cases e)
def spLaw (K : PySem.W.Frag) (TT : Addr) : Sp := fun vs H Q _ => ∃ (a : Addr) (ns : List Int), vs = [.ref a] /\ Scr K H a ns /\ ns.length <= 63 /\ Tab TT LQ H /\ ∀ H', Q (.bl true) H'
theorem scLaw : FnScope ["_law_script", "_law_k", "_law_more", "_law_blocks", "_law_pages", "_law_most", "_law_chip", "_law_many", "_law_disk", "_law_held", "_law_j", "_law_sector", "_law_before", "_law_content_here", "_law_found", "_law_again"] ["_law_script"] (defScope sLaw) := ⟨rfl, rfl, rfl, by decide +kernel, rfl, by decide +kernel, by decide +kernel⟩
theorem ok_law {f cL TT : Addr} {oc kV doc pm ct : Value} {od an : Option Addr} {osl : Array (Option Value)} (lk : K.lookup f = some ⟨oc, od, .func (PySem.W.fnOf "law" "law" (defArgs sLaw) (defBody sLaw) (defScope sLaw) .none kV doc pm an (.ref cL) ct), osl⟩) (hcd : PySem.W.codeIn K (.ref cL) "law" = true)
   (T : Txt K mg C cBS cNP cNE cNS cBC cCu cWE) (TD : TxtD K mg DK cNS cBC) (CT : PySem.W.CodeHd base cL TT) (BT : base.BuiltinsAt mg TT) (TG : mg "Disk" = some (.ref DK))
   (kI : ∀ H a dx fs, H a = some (.ins DK dx fs) -> TyOf K H (.ref a) (.ref DK)) (kDD : PySem.W.kitOne K (.ref DK) (.ref DK) = some true)
   (B_law_drawn : FnB P w K mg base 51 "_law_drawn" ["_law_cell_here", "_law_k"] spDrawn) (B_law_cell : FnB P w K mg base 51 "_law_cell" ["_law_script", "_law_k"] (spCell K)) (B_Chip : MkB P w K mg base C 51 "Chip" ["self", "blocks", "pages"] (xpInit C cBS))
   (B_mounted : FnB P w K mg base 59 "mounted" ["chip", "sectors"] (xpMounted C DK cBS cCu)) (M_written : MtB P w K mg base C 51 "written" ["self"] (xpWritten C)) (B_law_wears : FnB P w K mg base 54 "_law_wears" ["_law_chip"] (spWears C))
   (B_law_content : FnB P w K mg base 51 "_law_content" ["_law_more"] spContent) (B_law_told : FnBS P w K mg base 62 "_law_told" ["_law_deed"] (spDeed P w K mg base 60 (WD (cls3 cBS cNS cBC))))
   (N_write : MtB P w K mg base DK 57 "write" ["self", "sector", "content"] (xpDWrite C DK cNS cBC cCu)) (N_read : MtB P w K mg base DK 54 "read" ["self", "sector"] (xpDRead C DK cNS)) (N_sectors : MtB P w K mg base DK 51 "sectors" ["self"] (spDSectors C DK)) :
   FnOk P w K mg base (CXw P w) 63 f (PySem.W.fnOf "law" "law" (defArgs sLaw) (defBody sLaw) (defScope sLaw) .none kV doc pm an (.ref cL) ct) ["_law_script"] (spLaw K TT) := by
 refine fn_of (cm := true) lk hcd scLaw (fun vs H Q E h => ?_) (fun _ => by decide) fun A outer s H vs Q E hr h => ?_
 . obtain ⟨a, ns, rfl, _⟩ := h
   rfl
 . obtain ⟨a, ns, rfl, sc0, hn, tab0, h⟩ := h
   have hu := hu_of hr
   have hu0 := hr.units0
   have hux := hr.units
   refine ⟨_, (@zQj _ _ _ _ _ (@yJv _ _ _ _ _ _ _ _ PassesOwn.leaving rfl (@zJx _ _ _ _ _ _ rfl T.n_range (@zQw _ _ _ _ _ (@zZv _ _ _ _ _ _ _ _ _ (@call_max2 _ rfl) rfl T.n_max PyProof.Rows.Boot.«max» (@zQw _ _ _ _ _ zWx (@zQw _ _ _ _ _ (@zZv _ _ _ _ _ _ _ _ _ (@call_min2 _ rfl) rfl T.n_min PyProof.Rows.Boot.«min» (@zQw _ _ _ _ _ zWx (@zQw _ _ _ _ _ (@zZv _ _ _ _ _ _ _ _ _ (@yZx _) rfl T.n_len PySem.boot_len (@zQw _ _ _ _ _ (pv 0) zQk (by exact zQq rfl)) (by decide) (by decide) (by exact zQq rfl) (by exact zQx rfl)) zQk (by exact zQq rfl)) (by exact zQq rfl)) (by decide) (by decide) (by exact zQq rfl) (by exact zQx rfl)) zQk (by exact zQq rfl)) (by exact zQq rfl)) (by decide) (by decide) (by exact zQq rfl) (by exact zQx rfl)) zQk (by exact zQq rfl)) (by exact zQq rfl)) (@yWj _ _ (1) _ scLaw.nd rfl (Or.inl rfl) (by first | exact .inl rfl | exact .inr rfl | assumption)) (@zQj _ _ _ _ _ (@zJw _ _ (2) _ _ _ _ scLaw.nd rfl (Or.inr rfl) (@zWk _ _ _ _ _ _ _ _ _ _ _ B_law_drawn (hr.mono (by decide)) rfl (@passE _ _ _) (@zQw _ _ _ _ _ (@zWk _ _ _ _ _ _ _ _ _ _ _ B_law_cell (hr.mono (by decide)) rfl (@passE _ _ _) (@zQw _ _ _ _ _ (pv 0) (@zQw _ _ _ _ _ (pv 1) zQk (by exact zQq rfl)) (by exact zQq rfl)) (by decide) (by exact zQq rfl) (by exact zQx rfl)) (@zQw _ _ _ _ _ (pv 1) zQk (by exact zQq rfl)) (by exact zQq rfl)) (by decide) (by exact zQq rfl) (by exact zQx rfl)) (by rfl) (by first | exact .inl rfl | exact .inr rfl | assumption)) (@zQj _ _ _ _ _ (@zJw _ _ (3) _ _ _ _ scLaw.nd rfl (Or.inl rfl) (@zJz _ _ _ _ _ _ _ (@zKz _) (@yWq _ _ _ _ (@zQw _ _ _ _ _ zWx (@zQw _ _ _ _ _ (@zZx _ _ _ _ _ _ _ _ (@yJw _) zWx (@zZx _ _ _ _ _ _ _ _ (@yWw _) (@zZx _ _ _ _ _ _ _ _ (@yZz _) (pv 2) zWx) zWx)) zQk (by exact zQq rfl)) (by exact zQq rfl))) (@zZx _ _ _ _ _ _ _ _ (@yWw _) (pv 2) zWx) (fun _ _ => rfl)) (by rfl) (by first | exact .inl rfl | exact .inr rfl | assumption)) (@zQj _ _ _ _ _ (@zJw _ _ (4) _ _ _ _ scLaw.nd rfl (Or.inl rfl) (@zJz _ _ _ _ _ _ _ (@zKz _) (@yWq _ _ _ _ (@zQw _ _ _ _ _ zWx (@zQw _ _ _ _ _ (@zZx _ _ _ _ _ _ _ _ (@yJw _) zWx (@zZx _ _ _ _ _ _ _ _ (@yWw _) (@zZx _ _ _ _ _ _ _ _ (@yZz _) (pv 2) zWx) zWx)) zQk (by exact zQq rfl)) (by exact zQq rfl))) (@zZx _ _ _ _ _ _ _ _ (@yWw _) (@zZx _ _ _ _ _ _ _ _ (@yZz _) (pv 2) zWx) zWx) (fun _ _ => rfl)) (by rfl) (by first | exact .inl rfl | exact .inr rfl | assumption)) (@zQj _ _ _ _ _ (@zJw _ _ (5) _ _ _ _ scLaw.nd rfl (Or.inl rfl) (@zZx _ _ _ _ _ _ _ _ (@op_mul _) (@zZx _ _ _ _ _ _ _ _ (@op_sub _) (pv 3) zWx) (pv 4)) (by rfl) (by first | exact .inl rfl | exact .inr rfl | assumption)) (@zQj _ _ _ _ _ (@zJw _ _ (6) _ _ _ _ scLaw.nd rfl (Or.inr rfl) (@pe_makeF _ _ _ _ _ _ _ _ _ _ _ _ B_Chip (hr.mono (by decide)) rfl zWz (@zQw _ _ _ _ _ (pv 3) (@zQw _ _ _ _ _ (pv 4) zQk (by exact zQq rfl)) (by exact zQq rfl)) (by decide) (by exact zQq rfl) (by exact zQx rfl)) (by rfl) (by first | exact .inl rfl | exact .inr rfl | assumption)) (@zQj _ _ _ _ _ (@yJv _ _ _ _ _ _ _ _ PassesOwn.leaving rfl (@yKx _ _ _ _ (@yWq _ _ _ _ (@zQw _ _ _ _ _ zWx (@zQw _ _ _ _ _ (@zZx _ _ _ _ _ _ _ _ (@yJw _) (pv 5) zWx) (@zQw _ _ _ _ _ (@pe_un _ _ _ _ _ _ (@un_neg _) zWx) (@zQw _ _ _ _ _ (@zZx _ _ _ _ _ _ _ _ (@op_pow _) zWx zWx) zQk (by exact zQq rfl)) (by exact zQq rfl)) (by exact zQq rfl)) (by exact zQq rfl)))) (@yWj _ _ (7) _ scLaw.nd rfl (Or.inr rfl) (by first | exact .inl rfl | exact .inr rfl | assumption)) (@zWq _ _ _ (@yQz _ _ _ _ _ _ _ _ (@yQj _ _ _ _ _ _ _ _ (@op_ne _) (@pe_told _ _ _ _ _ _ _ _ _ _ _ _ _ _ _ ([6, 7]) (["_law_chip", "_law_many"]) B_law_told (hr.mono (by decide)) rfl rfl CT BT rfl rfl ⟨rfl, rfl, rfl, by decide +kernel, fun _ _ _ _ _ _ => rfl⟩ (by show ∀ y : Str × NameKind, y ∈ _ -> y.2 = NameKind.free -> List.lookup y.1 (defScope sLaw).names = some NameKind.cell; decide +kernel) (by show ∀ p : Str × Nat, p ∈ _ -> List.lookup p.1 _ = some NameKind.free /\ (["_law_script", "_law_k", "_law_more", "_law_blocks", "_law_pages", "_law_most", "_law_chip", "_law_many", "_law_disk", "_law_held", "_law_j", "_law_sector", "_law_before", "_law_content_here", "_law_found", "_law_again"] : List Str)[p.2]? = some p.1; decide +kernel) rfl (fun _ => rfl) (by decide)) (@zKw _ _ _ _) (@nomark _ _ (by decide) (by decide))) (@zWq _ _ _ (@zZz _ _ _ _ (@xQz _ _ _ _))) (@zZw _))) (by intro _; rfl)) (@zQj _ _ _ _ _ (@zJw _ _ (7) _ _ _ _ scLaw.nd rfl (Or.inr rfl) (@zJz _ _ _ _ _ _ _ (@zKz _) (@yWq _ _ _ _ (@zQw _ _ _ _ _ zWx (@zQw _ _ _ _ _ (pv 5) (@zQw _ _ _ _ _ (@zZx _ _ _ _ _ _ _ _ (@yJw _) zWx (@zZx _ _ _ _ _ _ _ _ (@yWw _) (@zZx _ _ _ _ _ _ _ _ (@yZz _) (pv 2) zWx) (pv 5))) zQk (by exact zQq rfl)) (by exact zQq rfl)) (by exact zQq rfl))) (@zZx _ _ _ _ _ _ _ _ (@yWw _) (@zZx _ _ _ _ _ _ _ _ (@yZz _) (pv 2) zWx) zWx) (fun _ _ => rfl)) (by rfl) (by first | exact .inl rfl | exact .inr rfl | assumption)) (@zQj _ _ _ _ _ (@zJw _ _ (8) _ _ _ _ scLaw.nd rfl (Or.inr rfl) (@zWk _ _ _ _ _ _ _ _ _ _ _ B_mounted (hr.mono (by decide)) rfl zWz (@zQw _ _ _ _ _ (pv 6) (@zQw _ _ _ _ _ (pv 7) zQk (by exact zQq rfl)) (by exact zQq rfl)) (by decide) (by exact zQq rfl) (by exact zQx rfl)) (by rfl) (by first | exact .inl rfl | exact .inr rfl | assumption)) (@zQj _ _ _ _ _ (@yQz _ _ _ _ _ _ _ _ (PW.pt (@pw_or _ _ _ _ _ _ _ (@yJq _ _ _ _ (@yZv _ _ _ (@zZv _ _ _ _ _ _ _ _ _ (@yKv _ (K) rfl) rfl T.n_isinstance PyProof.Rows.Boot.«isinstance» (@zQw _ _ _ _ _ (pv 8) (@zQw _ _ _ _ _ (@yKz _ _ (.ref DK) _ _ rfl TG rfl (by decide)) zQk (by exact zQq rfl)) (by exact zQq rfl)) (by decide) (by decide) (by exact zQq rfl) (by exact zQx rfl)) (by intro _; rfl))) (@pw_or1 _ _ _ _ (@yQj _ _ _ _ _ _ _ _ (@op_ne _) (@zZj _ _ _ _ _ _ _ _ _ _ _ _ TD.cl N_sectors (hr.mono (by decide)) (@passE _ _ _) (pv 8) (by rfl)) (pv 7) (@nomark _ _ (by decide) (by decide)))))) (@zWq _ _ _ (@zZz _ _ _ _ (@xQz _ _ _ _))) (@zZw _)) (@zQj _ _ _ _ _ (@zJw _ _ (9) _ _ _ _ scLaw.nd rfl (Or.inr rfl) (@pe_dnewK _ _) (by rfl) (by first | exact .inl rfl | exact .inr rfl | assumption)) (@zQj _ _ _ _ _ (@yJv _ _ _ _ _ _ _ _ PassesOwn.leaving rfl (@zJx _ _ _ _ _ _ rfl T.n_range (@zQw _ _ _ _ _ (@zZx _ _ _ _ _ _ _ _ (@yWw _) (@zZx _ _ _ _ _ _ _ _ (@yZz _) (pv 2) zWx) zWx) zQk (by exact zQq rfl)) (by exact zQq rfl)) (@yWj _ _ (10) _ scLaw.nd rfl (Or.inl rfl) (by first | exact .inl rfl | exact .inr rfl | assumption)) (@zQj _ _ _ _ _ (@zJw _ _ (11) _ _ _ _ scLaw.nd rfl (Or.inr rfl) (@zZx _ _ _ _ _ _ _ _ (@yWw _) (@zZx _ _ _ _ _ _ _ _ (@yZz _) (pv 2) (@zZx _ _ _ _ _ _ _ _ (@yJw _) zWx (pv 10))) (pv 7)) (by rfl) (by first | exact .inl rfl | exact .inr rfl | assumption)) (@zQj _ _ _ _ _ (@ps_dput _ _ _ _ _ _ _ _ _ hu (pv 9) (pv 11) (@zWk _ _ _ _ _ _ _ _ _ _ _ B_law_content (hr.mono (by decide)) rfl (@passE _ _ _) (@zQw _ _ _ _ _ (@zZx _ _ _ _ _ _ _ _ (@yZz _) (pv 2) (@zZx _ _ _ _ _ _ _ _ (@yJw _) zWx (pv 10))) zQk (by exact zQq rfl)) (by decide) (by exact zQq rfl) (by exact zQx rfl)) rfl) (@zWq _ _ _ (@zJv _ _ _ _ (@zWj _ _ _ _ _ _ _ _ _ _ _ _ _ _ _ TD.cl N_write (hr.mono (by decide)) zWz (pv 8) (@zQw _ _ _ _ _ (pv 11) (@zQw _ _ _ _ _ (@pe_dget _ _ _ _ _ _ hu (pv 9) (pv 11) (fun _ _ => rfl)) zQk (by exact zQq rfl)) (by exact zQq rfl)) (by exact zQq rfl) (by exact zQx rfl) (by rfl)) (by rfl))))) (by intro _; rfl)) (@zQj _ _ _ _ _ (@zJw _ _ (12) _ _ _ _ scLaw.nd rfl (Or.inl rfl) (@xJx _ _ _ _ _ (@zQw _ _ _ _ _ (@zZj _ _ _ _ _ _ _ _ _ _ _ _ T.cl M_written (hr.mono (by decide)) (@passE _ _ _) (pv 6) (by rfl)) (@zQw _ _ _ _ _ (@zWk _ _ _ _ _ _ _ _ _ _ _ B_law_wears (hr.mono (by decide)) rfl (@passE _ _ _) (@zQw _ _ _ _ _ (pv 6) zQk (by exact zQq rfl)) (by decide) (by exact zQq rfl) (by exact zQx rfl)) zQk (by exact zQq rfl)) (by exact zQq rfl))) (by rfl) (by first | exact .inl rfl | exact .inr rfl | assumption)) (@zQj _ _ _ _ _ (@yJv _ _ _ _ _ _ _ _ PassesOwn.leaving rfl (@yKx _ _ _ _ (@yWq _ _ _ _ (@zQw _ _ _ _ _ (pv 7) (@zQw _ _ _ _ _ (@pe_un _ _ _ _ _ _ (@un_neg _) zWx) (@zQw _ _ _ _ _ (@zZx _ _ _ _ _ _ _ _ (@op_pow _) zWx zWx) zQk (by exact zQq rfl)) (by exact zQq rfl)) (by exact zQq rfl)))) (@yWj _ _ (11) _ scLaw.nd rfl (Or.inr rfl) (by first | exact .inl rfl | exact .inr rfl | assumption)) (@zQj _ _ _ _ _ (@yQz _ _ _ _ _ _ _ _ (@yQj _ _ _ _ _ _ _ _ (@op_ne _) (@pe_told _ _ _ _ _ _ _ _ _ _ _ _ _ _ _ ([11, 8]) (["_law_sector", "_law_disk"]) B_law_told (hr.mono (by decide)) rfl rfl CT BT rfl rfl ⟨rfl, rfl, rfl, by decide +kernel, fun _ _ _ _ _ _ => rfl⟩ (by show ∀ y : Str × NameKind, y ∈ _ -> y.2 = NameKind.free -> List.lookup y.1 (defScope sLaw).names = some NameKind.cell; decide +kernel) (by show ∀ p : Str × Nat, p ∈ _ -> List.lookup p.1 _ = some NameKind.free /\ (["_law_script", "_law_k", "_law_more", "_law_blocks", "_law_pages", "_law_most", "_law_chip", "_law_many", "_law_disk", "_law_held", "_law_j", "_law_sector", "_law_before", "_law_content_here", "_law_found", "_law_again"] : List Str)[p.2]? = some p.1; decide +kernel) rfl (fun _ => rfl) (by decide)) (@zKw _ _ _ _) (@nomark _ _ (by decide) (by decide))) (@zWq _ _ _ (@zZz _ _ _ _ (@xQz _ _ _ _))) (@zZw _)) (@zWq _ _ _ (@yQz _ _ _ _ _ _ _ _ (@yQj _ _ _ _ _ _ _ _ (@op_ne _) (@pe_told _ _ _ _ _ _ _ _ _ _ _ _ _ _ _ ([11, 8, 2]) (["_law_sector", "_law_disk", "_law_more"]) B_law_told (hr.mono (by decide)) rfl rfl CT BT rfl rfl ⟨rfl, rfl, rfl, by decide +kernel, fun _ _ _ _ _ _ => rfl⟩ (by show ∀ y : Str × NameKind, y ∈ _ -> y.2 = NameKind.free -> List.lookup y.1 (defScope sLaw).names = some NameKind.cell; decide +kernel) (by show ∀ p : Str × Nat, p ∈ _ -> List.lookup p.1 _ = some NameKind.free /\ (["_law_script", "_law_k", "_law_more", "_law_blocks", "_law_pages", "_law_most", "_law_chip", "_law_many", "_law_disk", "_law_held", "_law_j", "_law_sector", "_law_before", "_law_content_here", "_law_found", "_law_again"] : List Str)[p.2]? = some p.1; decide +kernel) rfl (fun _ => rfl) (by decide)) (@zKw _ _ _ _) (@nomark _ _ (by decide) (by decide))) (@zWq _ _ _ (@zZz _ _ _ _ (@xQz _ _ _ _))) (@zZw _)))) (by intro _; rfl)) (@zQj _ _ _ _ _ (@yJv _ _ _ _ _ _ _ _ PassesOwn.leaving rfl (@yKx _ _ _ _ (@yWq _ _ _ _ (@zQw _ _ _ _ _ (@pe_un _ _ _ _ _ _ (@un_neg _) zWx) (@zQw _ _ _ _ _ zWx (@zQw _ _ _ _ _ (@zZx _ _ _ _ _ _ _ _ (@op_pow _) zWx zWx) zQk (by exact zQq rfl)) (by exact zQq rfl)) (by exact zQq rfl)))) (@yWj _ _ (13) _ scLaw.nd rfl (Or.inr rfl) (by first | exact .inl rfl | exact .inr rfl | assumption)) (@zWq _ _ _ (@yQz _ _ _ _ _ _ _ _ (@yQj _ _ _ _ _ _ _ _ (@op_ne _) (@pe_told _ _ _ _ _ _ _ _ _ _ _ _ _ _ _ ([13, 8, 7]) (["_law_content_here", "_law_disk", "_law_many"]) B_law_told (hr.mono (by decide)) rfl rfl CT BT rfl rfl ⟨rfl, rfl, rfl, by decide +kernel, fun _ _ _ _ _ _ => rfl⟩ (by show ∀ y : Str × NameKind, y ∈ _ -> y.2 = NameKind.free -> List.lookup y.1 (defScope sLaw).names = some NameKind.cell; decide +kernel) (by show ∀ p : Str × Nat, p ∈ _ -> List.lookup p.1 _ = some NameKind.free /\ (["_law_script", "_law_k", "_law_more", "_law_blocks", "_law_pages", "_law_most", "_law_chip", "_law_many", "_law_disk", "_law_held", "_law_j", "_law_sector", "_law_before", "_law_content_here", "_law_found", "_law_again"] : List Str)[p.2]? = some p.1; decide +kernel) rfl (fun _ => rfl) (by decide)) (@zKw _ _ _ _) (@nomark _ _ (by decide) (by decide))) (@zWq _ _ _ (@zZz _ _ _ _ (@xQz _ _ _ _))) (@zZw _))) (by intro _; rfl)) (@zQj _ _ _ _ _ (@ps_comp _ _ _ _ _ _ _ _ ([8]) (["_law_disk"]) _ _ _ _ (14) _ _ rfl scLaw.nd rfl rfl rfl (@zJx _ _ _ _ _ _ rfl T.n_range (@zQw _ _ _ _ _ (pv 7) zQk (by exact zQq rfl)) (by exact zQq rfl)) rfl (by decide +kernel) (by decide +kernel) (by decide +kernel) (by show ∀ y : Str × NameKind, y ∈ _ -> y.2 = NameKind.free -> List.lookup y.1 (defScope sLaw).names = some NameKind.cell; decide +kernel) (by show ∀ p : Str × Nat, p ∈ _ -> List.lookup p.1 _ = some NameKind.free /\ (["_law_script", "_law_k", "_law_more", "_law_blocks", "_law_pages", "_law_most", "_law_chip", "_law_many", "_law_disk", "_law_held", "_law_j", "_law_sector", "_law_before", "_law_content_here", "_law_found", "_law_again"] : List Str)[p.2]? = some p.1; decide +kernel) rfl (by decide +kernel) (fun _ _ _ _ _ => (@yJx _)) (fun _ _ _ _ _ => (@zWj _ _ _ _ _ _ _ _ _ _ _ _ _ _ _ TD.cl N_read (hr.mono (by decide)) (@passE _ _ _) (pv 1) (@zQw _ _ _ _ _ (pv 0) zQk (by exact zQq rfl)) (by exact zQq rfl) (by exact zQx rfl) (by rfl))) (by intro _; rfl)) (@zQj _ _ _ _ _ (@zJw _ _ (15) _ _ _ _ scLaw.nd rfl (Or.inr rfl) (@zWk _ _ _ _ _ _ _ _ _ _ _ B_mounted (hr.mono (by decide)) rfl zWz (@zQw _ _ _ _ _ (pv 6) (@zQw _ _ _ _ _ (pv 7) zQk (by exact zQq rfl)) (by exact zQq rfl)) (by decide) (by exact zQq rfl) (by exact zQx rfl)) (by rfl) (by first | exact .inl rfl | exact .inr rfl | assumption)) (@zQj _ _ _ _ _ (@yQz _ _ _ _ _ _ _ _ (@yQj _ _ _ _ _ _ _ _ (@op_neX _ hux) (pv 14) (@yKj _ _ _ _ _ _ _ _ ([9]) (["_law_held"]) _ _ _ rfl (@zJx _ _ _ _ _ _ rfl T.n_range (@zQw _ _ _ _ _ (pv 7) zQk (by exact zQq rfl)) (by exact zQq rfl)) rfl (by decide +kernel) (by decide +kernel) (by decide +kernel) (by show ∀ y : Str × NameKind, y ∈ _ -> y.2 = NameKind.free -> List.lookup y.1 (defScope sLaw).names = some NameKind.cell; decide +kernel) (by show ∀ p : Str × Nat, p ∈ _ -> List.lookup p.1 _ = some NameKind.free /\ (["_law_script", "_law_k", "_law_more", "_law_blocks", "_law_pages", "_law_most", "_law_chip", "_law_many", "_law_disk", "_law_held", "_law_j", "_law_sector", "_law_before", "_law_content_here", "_law_found", "_law_again"] : List Str)[p.2]? = some p.1; decide +kernel) rfl (by decide +kernel) (fun _ _ _ _ _ => (@yJx _)) (fun _ _ _ _ _ => (@pe_dget2 _ _ _ _ _ _ _ _ _ hu (pv 1) (pv 0) zWx ⟨rfl, rfl, rfl, rfl⟩)) (by intro _; rfl)) (@nomark _ _ (by decide) (by decide))) (@zWq _ _ _ (@zZz _ _ _ _ (@xQz _ _ _ _))) (@zZw _)) (@zQj _ _ _ _ _ (@yQz _ _ _ _ _ _ _ _ (@yQj _ _ _ _ _ _ _ _ (@op_neX _ hux) (@yKj _ _ _ _ _ _ _ _ ([15]) (["_law_again"]) _ _ _ rfl (@zJx _ _ _ _ _ _ rfl T.n_range (@zQw _ _ _ _ _ (pv 7) zQk (by exact zQq rfl)) (by exact zQq rfl)) rfl (by decide +kernel) (by decide +kernel) (by decide +kernel) (by show ∀ y : Str × NameKind, y ∈ _ -> y.2 = NameKind.free -> List.lookup y.1 (defScope sLaw).names = some NameKind.cell; decide +kernel) (by show ∀ p : Str × Nat, p ∈ _ -> List.lookup p.1 _ = some NameKind.free /\ (["_law_script", "_law_k", "_law_more", "_law_blocks", "_law_pages", "_law_most", "_law_chip", "_law_many", "_law_disk", "_law_held", "_law_j", "_law_sector", "_law_before", "_law_content_here", "_law_found", "_law_again"] : List Str)[p.2]? = some p.1; decide +kernel) rfl (by decide +kernel) (fun _ _ _ _ _ => (@yJx _)) (fun _ _ _ _ _ => (@zWj _ _ _ _ _ _ _ _ _ _ _ _ _ _ _ TD.cl N_read (hr.mono (by decide)) (@passE _ _ _) (pv 1) (@zQw _ _ _ _ _ (pv 0) zQk (by exact zQq rfl)) (by exact zQq rfl) (by exact zQx rfl) (by rfl))) (by intro _; rfl)) (pv 14) (@nomark _ _ (by decide) (by decide))) (@zWq _ _ _ (@zZz _ _ _ _ (@xQz _ _ _ _))) (@zZw _)) (@zWq _ _ _ (@yQz _ _ _ _ _ _ _ _ (@yQj _ _ _ _ _ _ _ _ (@op_neX _ hux) (@xJx _ _ _ _ _ (@zQw _ _ _ _ _ (@zZj _ _ _ _ _ _ _ _ _ _ _ _ T.cl M_written (hr.mono (by decide)) (@passE _ _ _) (pv 6) (by rfl)) (@zQw _ _ _ _ _ (@zWk _ _ _ _ _ _ _ _ _ _ _ B_law_wears (hr.mono (by decide)) rfl (@passE _ _ _) (@zQw _ _ _ _ _ (pv 6) zQk (by exact zQq rfl)) (by decide) (by exact zQq rfl) (by exact zQx rfl)) zQk (by exact zQq rfl)) (by exact zQq rfl))) (pv 12) (@nomark _ _ (by decide) (by decide))) (@zWq _ _ _ (@zZz _ _ _ _ (@xQz _ _ _ _))) (@zZw _))))))))))))))))))))) (by intro _; rfl)) (@zWq _ _ _ (@zZz _ _ _ _ (@xQz _ _ _ _)))), ?_⟩
   refine ⟨_, rfl, a, _, rfl, .inl sc0.seq, _, _, rfl, _, _, rfl, _, rfl, ?_, ?_, ?_⟩
   . split <;> split <;> omega
   . rw [List.length_map]
     split <;> split <;> omega
   generalize hN : (if (if ((ns.map V.int).length : Int) < 3 then ((ns.map V.int).length : Int) else 3) > 1 then (if ((ns.map V.int).length : Int) < 3 then ((ns.map V.int).length : Int) else 3) else 1) = NN
   have N3 : NN <= 3 := by
     rw [<- hN]
     split <;> split <;> omega
   refine yZw (lo := 0) (n := NN.toNat) (fun i σ H8 => ∃ (v1 v2 v3 v4 v5 v6 v7 v8 v9 v10 v11 v12 v13 v14 v15 : Option V), σ = [some (.ref a), v1, v2, v3, v4, v5, v6, v7, v8, v9, v10, v11, v12, v13, v14, v15] /\ Scr K H8 a ns /\ Tab TT LQ H8) ⟨_, _, _, _, _, _, _, _, _, _, _, _, _, _, _, rfl, sc0, tab0⟩ ?_ ?_
   rotate_left
   . rintro σ H8 ⟨v1, v2, v3, v4, v5, v6, v7, v8, v9, v10, v11, v12, v13, v14, v15, rfl, _⟩
     exact h H8
   clear sc0 tab0
   rintro i σ H0 hi ⟨v1, v2, v3, v4, v5, v6, v7, v8, v9, v10, v11, v12, v13, v14, v15, rfl, sc0, tab0⟩
   rw [Int.zero_add]
   refine ⟨_, rfl, _, rfl, a, ns, (i : Int), rfl, sc0.seq, hn, by omega, by omega, fun H1 y0 s1 => ⟨_, rfl, y0, _, rfl, fun y => ?_⟩⟩
   obtain ⟨bn, hbn, b1, b2⟩ : ∃ bn : Nat, atI [V.int 4, V.int (4 + y / 8 % 29)] (y % 2) = some (.int (bn : Int)) /\ 4 <= bn /\ bn <= 32 := by
     have e : y % 2 = 0 \/ y % 2 = 1 := by omega
     rcases e with e | e <;> rw [e]
     . exact ⟨4, at0, by decide, by decide⟩
     . obtain ⟨n, hn⟩ := Int.eq_ofNat_of_zero_le (show 0 <= 4 + y / 8 % 29 by omega)
       exact ⟨n, by rw [at1, hn], by omega, by omega⟩
   obtain ⟨gn, hgn, g1, g2⟩ : ∃ gn : Nat, atI [V.int 2, V.int (2 + y / 256 % 15)] (y / 2 % 2) = some (.int (gn : Int)) /\ 2 <= gn /\ gn <= 16 := by
     have e : y / 2 % 2 = 0 \/ y / 2 % 2 = 1 := by omega
     rcases e with e | e <;> rw [e]
     . exact ⟨2, at0, by decide, by decide⟩
     . obtain ⟨n, hn⟩ := Int.eq_ofNat_of_zero_le (show 0 <= 2 + y / 256 % 15 by omega)
       exact ⟨n, by rw [at1, hn], by omega, by omega⟩
   have hmost : ((bn : Int) - 2) * (gn : Int) = (((bn - 2) * gn : Nat) : Int) := by rw [Int.natCast_mul, show ((bn - 2 : Nat) : Int) = (bn : Int) - 2 by omega]
   have most1 : 4 <= (bn - 2) * gn := Nat.mul_le_mul (show 2 <= bn - 2 by omega) g1
   have most2 : (bn - 2) * gn <= 30 * 16 := Nat.mul_le_mul (by omega) g2
   refine ⟨_, rfl, _, _, rfl, rfl, ⟨by decide, by decide⟩, _, _, rfl, rfl, by show (0 : Int) < 29; decide, _, _, rfl, rfl, by show 2 <= sizeLine; decide, fun l1 nl1 => ⟨_, rfl, _, _, rfl, rfl, by show (0 : Int) < 2; decide, l1, _, _, _, rfl, rfl, SqL.of zQz, hbn, ?_⟩⟩
   refine ⟨_, rfl, _, _, rfl, rfl, ⟨by decide, by decide⟩, _, _, rfl, rfl, by show (0 : Int) < 15; decide, _, _, rfl, rfl, by show 2 <= sizeLine; decide, fun l2 nl2 => ⟨_, rfl, _, _, rfl, rfl, ⟨by decide, by decide⟩, _, _, rfl, rfl, by show (0 : Int) < 2; decide, l2, _, _, _, rfl, rfl, SqL.of zQz, hgn, ?_⟩⟩
   have s2 : Same H0 (upd (upd H1 l1 (.lst [V.int 4, V.int (4 + y / 8 % 29)])) l2 (.lst [V.int 2, V.int (2 + y / 256 % 15)])) := s1.trans ((zWw nl1).trans (zWw nl2))
   generalize upd (upd H1 l1 (HO.lst _)) l2 (HO.lst _) = H2 at s2 ⊢
   refine ⟨_, rfl, _, _, rfl, rfl, _, rfl, _, _, rfl, rfl, .inl ⟨by show -(2 ^ 64) < (bn : Int) - 2; omega, by show (bn : Int) - 2 < 2 ^ 64; omega⟩, ?_⟩
   refine ⟨_, rfl, _, rfl, fun p dx np ndp ne => use_initI zQz rfl rfl b1 b2 g1 g2 fun H3 fp3 A3 k3 => ⟨rfl, ?_⟩⟩
   have s3' : Same H2 (upd (upd H2 dx (.own p)) p (.ins C dx [])) := (zWw ndp).trans (zWw (by rw [zQv (Ne.symm ne)]; exact np))
   have s3 : Same H2 H3 := fun b o e => k3.keep b o (s3' b o e) (by have := zWv e np; simpa using this)
   have sc3 := sc0.same (s2.trans s3)
   have tab3 := tab0.same (s2.trans s3)
   clear s3 s3' s2 k3 ndp np nl1 nl2 s1 sc0 tab0
   refine ⟨_, rfl, _, _, rfl, rfl, _, rfl, _, _, rfl, rfl, ⟨by decide, by decide, by decide⟩, by show 4 <= sizeLine; decide, fun l4 nl4 => ⟨l4, rfl, ⟨_, SqL.of zQz⟩, ?_⟩⟩
   generalize hH4 : upd H3 l4 (HO.lst _) = H4
   have e4 : H4 l4 = some (.lst [V.int 0, V.int (((bn : Int) - 2) * (gn : Int) + 1), V.int (-1), V.int (10 ^ 9)]) := by rw [<- hH4]; exact zQz
   have s4 : Same H3 H4 := by rw [<- hH4]; exact zWw nl4
   clear hH4
   have A4 := A3.same s4
   have sc4 := sc3.same s4
   have tab4 := tab3.same s4
   refine xWj (xs := [V.int 0, V.int (((bn : Int) - 2) * (gn : Int) + 1), V.int (-1), V.int (10 ^ 9)]) (fun j σ H8 => ∃ v7, σ = [some (.ref a), some (.int (i : Int)), some (.int y), some (.int (bn : Int)), some (.int (gn : Int)), some (.int (((bn : Int) - 2) * (gn : Int))), some (.ref p), v7, v8, v9, v10, v11, v12, v13, v14, v15] /\ ChipX C H8 p (GS.fresh bn gn) fp3 /\ Scr K H8 a ns /\ Tab TT LQ H8 /\ H8 l4 = some (.lst [V.int 0, V.int (((bn : Int) - 2) * (gn : Int) + 1), V.int (-1), V.int (10 ^ 9)])) ⟨_, rfl, A4, sc4, tab4, e4⟩ ?_ ?_ ?_
   . rintro j σ H8 hj ⟨v7, rfl, _, _, _, e8⟩
     exact SqL.of e8
   . clear A3 A4 sc3 sc4 tab3 tab4 e4 nl4 s4
     rintro j x σ H8 hj ⟨v7, rfl, A8, sc8, tab8, e8⟩
     obtain ⟨z, rfl, hz⟩ : ∃ z : Int, x = .int z /\ ¬ (1 <= z /\ z <= ((bn : Int) - 2) * (gn : Int)) := by
       rcases j with _ | _ | _ | _ | j
       . cases hj; exact ⟨_, rfl, by omega⟩
       . cases hj; exact ⟨_, rfl, by omega⟩
       . cases hj; exact ⟨_, rfl, by omega⟩
       . cases hj; exact ⟨_, rfl, by rw [hmost]; omega⟩
       . cases hj
     refine ⟨tab8, fun H9 tab9 s9 => ?_⟩
     obtain ⟨ps, eT, _⟩ := id tab8
     have A9 := A8.butT eT s9
     have sc9 := sc8.butT eT s9
     have e9 := s9 _ _ e8 (by simp; intro q; rw [q, eT] at e8; cases e8)
     refine ⟨[.ref p, .int z], _, fun cls _ H' => cls = .ref cBS /\ Same H9 H', rfl, fun f c' cl A2 outer2 s2 hr2 => zWk B_mounted (hr2.deeper _) rfl xQq (zQw (pv 0) (zQw (pv 1) zQk (by exact zQq rfl)) (by exact zQq rfl)) (by decide) (by exact zQq rfl) (by exact zQx rfl), ⟨_, rfl, _, rfl, use_mbad A9 hz fun H' x s' => ⟨rfl, s'⟩⟩, ?_⟩
     rintro cls x H' ⟨rfl, s'⟩
     exact ⟨.bs, rfl, fun H2 s2 => ⟨rfl, _, rfl, iteN rfl ⟨_, rfl, A9.same (s'.trans s2), sc9.same (s'.trans s2), tab9.same (s'.trans s2), (s'.trans s2) _ _ e9⟩⟩⟩
   clear A3 A4 sc3 sc4 tab3 tab4 e4 nl4 s4
   rintro σ H5 ⟨v7, rfl, A5, sc5, tab5, _⟩
   obtain ⟨mn, hmn, mn1, mn2⟩ : ∃ mn : Nat, atI [V.int 1, V.int (((bn : Int) - 2) * (gn : Int)), V.int (1 + y / 4096 % (((bn : Int) - 2) * (gn : Int)))] (y / 4 % 3) = some (.int (mn : Int)) /\ 1 <= mn /\ mn <= (bn - 2) * gn := by
     rw [hmost]
     have e : y / 4 % 3 = 0 \/ y / 4 % 3 = 1 \/ y / 4 % 3 = 2 := by omega
     rcases e with e | e | e <;> rw [e]
     . exact ⟨1, at0, by omega, by omega⟩
     . exact ⟨_, at1, by omega, Nat.le_refl _⟩
     . have a0 := Int.emod_nonneg (y / 4096) (show (((bn - 2) * gn : Nat) : Int) ≠ 0 by omega)
       have a1 := Int.emod_lt_of_pos (y / 4096) (show (0 : Int) < (((bn - 2) * gn : Nat) : Int) by omega)
       obtain ⟨n, hn⟩ := Int.eq_ofNat_of_zero_le (show 0 <= 1 + y / 4096 % (((bn - 2) * gn : Nat) : Int) by omega)
       exact ⟨n, by rw [at2, hn], by omega, by omega⟩
   refine ⟨_, rfl, _, rfl, _, _, rfl, rfl, ⟨by decide, by decide⟩, _, rfl, _, _, rfl, rfl, by show (0 : Int) < ((bn : Int) - 2) * (gn : Int); rw [hmost]; omega, _, _, rfl, rfl, by show 3 <= sizeLine; decide, fun l6 nl6 => ⟨_, rfl, _, _, rfl, rfl, ⟨by decide, by decide⟩, _, _, rfl, rfl, by show (0 : Int) < 3; decide, l6, _, _, _, rfl, rfl, SqL.of zQz, hmn, ?_⟩⟩
   generalize hH6 : upd H5 l6 (HO.lst _) = H6
   have s6 : Same H5 H6 := by rw [<- hH6]; exact zWw nl6
   clear hH6
   have A6 := A5.same s6
   have sc6 := sc5.same s6
   have tab6 := tab5.same s6
   obtain ⟨gd, v0⟩ := fresh_good (G := GS.fresh bn gn) b1 g1 mn1 mn2 (fun _ _ => rfl)
   have o6 : Ok (GS.fresh bn gn) mn := ⟨0, .inl gd⟩
   have I6 : Inc (GS.fresh bn gn) := .fresh fun _ _ => rfl
   obtain ⟨f1, f2⟩ := few_of o6 I6 (lim_few b2 g2)
   have l6 : Lit (GS.fresh bn gn) := ⟨rfl, rfl⟩
   refine ⟨_, rfl, _, rfl, xKz A6 o6 f1 f2 (fun d H7 pa D fp7 N X7 I7 e7 m7 hN eN k7 q1 q2 => ?_) (fun H7 x G7 fp7 N A7 o7 m l hN eN en k => absurd l6 l)⟩
   have sc7 : Scr K H7 a ns := sc6.but k7.keep A6.frz
   have tab7 := tab_chip tab6 A6 k7
   have li7 : Lit D.G := m7.lit l6
   have in7 : Inc D.G := by rw [eN]; exact I6.mend
   have nb7 : D.G.nb = bn := m7.nb
   have np7 : D.G.np = gn := m7.np
   have vl7 : ∀ s, Val D.G s 0 := fun s => m7.val s 0 (v0 s)
   obtain ⟨dxd, d7⟩ := X7.ob
   clear A6 A5 sc6 sc5 tab6 tab5 s6 k7 q1 q2 hN eN m7 v0 gd o6 I6 f1 f2 l6 nl6
   refine ⟨_, rfl, _, _, _, _, _, rfl, fun _ e => e, kI _ _ _ _ d7, kDD, _, rfl, ?_⟩
   refine iteF ⟨_, rfl, d, dxd, _, rfl, d7, rfl, d, p, D, pa, fp7, rfl, X7, _, rfl, rfl, _, rfl, iteN (by rw [e7]) ?_⟩
   refine fun ha nha => ?_
   have s8 := zWw (o := .dK []) nha
   have hd8 : HeldAt (upd H7 ha (.dK [])) ha (fun _ => 0) 0 := ⟨[], zQz, Nat.le_refl _, fun s => rfl⟩
   have X8 := X7.same s8
   have sc8 := sc7.same s8
   have tab8 := tab7.same s8
   generalize upd H7 ha (.dK []) = H8 at hd8 X8 sc8 tab8 ⊢
   clear X7 sc7 tab7 d7 s8 nha
   have jl : 0 <= y / 65536 % 9 /\ y / 65536 % 9 < 9 := by omega
   refine ⟨_, rfl, _, _, rfl, rfl, ⟨by decide, by decide⟩, _, _, rfl, rfl, by show (0 : Int) < 9; decide, y / 65536 % 9, rfl, by omega, by omega, ?_⟩
   refine yZw (lo := 0) (n := (y / 65536 % 9).toNat) (fun j σ H9 => ∃ (D : DS) (fp : List Addr) (g : Nat -> Int) (v10 v11 : Option V), σ = [some (.ref a), some (.int (i : Int)), some (.int y), some (.int (bn : Int)), some (.int (gn : Int)), some (.int (((bn : Int) - 2) * (gn : Int))), some (.ref p), some (.int (mn : Int)), some (.ref d), some (.ref ha), v10, v11, v12, v13, v14, v15] /\ DiskX C DK H9 d p D pa fp /\ WI D /\ Lit D.G /\ Inc D.G /\ D.many = mn /\ D.G.nb = bn /\ D.G.np = gn /\ HeldAt H9 ha g j /\ (∀ s, s < mn -> Val D.G s (g s)) /\ Scr K H9 a ns /\ Tab TT LQ H9) ⟨D, fp7, _, _, _, rfl, X8, I7, li7, in7, e7, nb7, np7, hd8, fun s _ => vl7 s, sc8, tab8⟩ ?_ ?_
   . clear X8 sc8 tab8 hd8 li7 in7 nb7 np7 vl7 e7 I7
     rintro j σ H9 hj ⟨D, fp, g, v10, v11, rfl, X9, I9, li9, in9, e9, nb9, np9, hd9, vl9, sc9, tab9⟩
     rw [Int.zero_add]
     have mp : (0 : Int) < (mn : Int) := by omega
     obtain ⟨sc, hsc, hsm⟩ : ∃ sc : Nat, y / (7 + (j : Int)) % (mn : Int) = (sc : Int) /\ sc < mn := by
       have a0 := Int.emod_nonneg (y / (7 + (j : Int))) (show (mn : Int) ≠ 0 by omega)
       have a1 := Int.emod_lt_of_pos (y / (7 + (j : Int))) mp
       obtain ⟨n, hn⟩ := Int.eq_ofNat_of_zero_le a0
       exact ⟨n, hn, by omega⟩
     refine ⟨_, rfl, _, rfl, _, _, rfl, rfl, _, _, rfl, rfl, ⟨by show (0 : Int) < 7 + (j : Int); omega, by show 7 + (j : Int) < 1073741824; omega⟩, _, rfl, _, _, rfl, rfl, mp, ?_⟩
     refine ⟨_, rfl, _, rfl, _, _, rfl, rfl, _, _, rfl, rfl, ⟨by show (0 : Int) < 11 + (j : Int); omega, by show 11 + (j : Int) < 1073741824; omega⟩, _, rfl, fun c H10 c0 c1 s10 => ?_⟩
     have X10 := X9.same s10
     have sc10 := sc9.same s10
     have tab10 := tab9.same s10
     obtain ⟨kvs, ek, el, ev⟩ := hd9.same s10
     refine ⟨_, rfl, _, rfl, ha, _, rfl, DPut.k (k := Sum.inl (y / (7 + (j : Int)) % (mn : Int))) ek (Nat.lt_of_le_of_lt (show kvs.length <= 1000 by omega) (by decide)), ?_⟩
     generalize hH11 : upd H10 ha (HO.dK _) = H11
     have ek11 : H11 ha = some (.dK (putK kvs (.inl (sc : Int)) (.int c))) := by rw [<- hH11, hsc]; exact zQz
     have hd11 : HeldAt H11 ha (set1 g sc c) (j + 1) := by rw [<- hH11, hsc]; exact HeldAt.put ek el ev sc c
     have X11 : DiskX C DK H11 d p D pa fp := by rw [<- hH11]; exact X10.held ek
     have sb11 : SameBut [ha] H10 H11 := by rw [<- hH11]; exact yZk (by simp)
     have sc11 : Scr K H11 a ns := sc10.but sb11 fun b m => by obtain rfl := List.mem_singleton.mp m; exact ⟨_, ek, rfl⟩
     have tab11 : Tab TT LQ H11 := tab10.but sb11 (fun b m ps e => by rw [List.mem_singleton.mp m, ek] at e; cases e) fun b m φ e => by rw [List.mem_singleton.mp m, ek] at e; cases e
     clear hH11
     obtain ⟨dxd, d11⟩ := X11.ob
     have dg : DGet H11 ha (.int (y / (7 + (j : Int)) % (mn : Int))) (some (.int c)) := by
       have := DGet.k (k := Sum.inl (sc : Int)) ek11
       rw [valV_put, if_pos rfl] at this
       rw [hsc]
       exact this
     refine ⟨_, rfl, d, dxd, _, rfl, d11, rfl, _, rfl, _, rfl, _, rfl, ha, _, rfl, dg, use_dwriteI X11 I9 hsc (by rw [e9]; exact hsm) c0 c1 (fun r H12 fp12 hr er Lr X12 k12 => ?_) (fun r H12 fp12 x hr er Lr X12 k12 => absurd (Lit.write li9 er).1 (by rw [hr]; decide))⟩
     have hd12 : HeldAt H12 ha (set1 g sc c) (j + 1) := hd11.keep fun kvs e => k12.keep _ _ e (X11.noD e)
     refine ⟨r.2, fp12, set1 g sc c, _, _, rfl, X12, (Lr.t hr).1, (Lit.write li9 er).2, Inc.write in9 er, by rw [Lr.many, e9], by rw [Lr.nb, nb9], by rw [Lr.np, np9], hd12, fun s' hs' => ?_, sc11.but k12.keep X11.frz, tab_disk tab11 X11 k12⟩
     unfold set1
     by_cases z : s' = sc
     . subst z; rw [if_pos rfl]; exact (Lr.t hr).2.1
     . rw [if_neg z]; exact (Lr.t hr).2.2 s' _ (by rw [e9]; exact hs') z (vl9 s' hs')
   clear X8 sc8 tab8 hd8 li7 in7 nb7 np7 vl7 e7 I7 D
   rintro σ H9 ⟨D, fp, g, v10, v11, rfl, X9, I9, li9, in9, e9, nb9, np9, hd9, vl9, sc9, tab9⟩
   obtain ⟨dxc, S9, hl9, el9, c9⟩ := X9.ch.at_
   refine ⟨_, rfl, p, dxc, _, rfl, c9, rfl, xQj X9.ch ⟨_, rfl, p, D.G, fp, rfl, X9.ch, fun wa H10 W10 s10 n10 => ⟨by show 2 <= sizeLine; decide, fun tb ntb => ?_⟩⟩⟩
   generalize hH11 : upd H10 tb (HO.tup _) = H11
   have etb : H11 tb = some (.tup [.int D.G.many, .ref wa]) := by rw [<- hH11]; exact zQz
   have s11' : Same H10 H11 := by rw [<- hH11]; exact zWw ntb
   clear hH11
   have W11 : WearX H11 wa D.G := s11' _ _ W10
   have s11 := s10.trans s11'
   have X11 := X9.same s11
   have hd11 := hd9.same s11
   have sc11 := sc9.same s11
   have tab11 := tab9.same s11
   have nwa : wa ∉ fpD d pa fp := fun m => by
     obtain ⟨o, eo, _⟩ := X9.frz wa m
     rw [n10] at eo; cases eo
   obtain ⟨kvs, ek, el, ev⟩ := hd11
   have k11 : Kp11 C DK K a ns TT d p pa ha tb wa D fp kvs H11 := ⟨X11, sc11, tab11, ek, etb, W11⟩
   clear X11 sc11 tab11 ek etb W11 W10 s10 s11 s11' ntb n10 c9 hd9 sc9 tab9 X9
   refine ⟨_, rfl, _, rfl, _, _, rfl, rfl, ⟨by decide, by decide, by decide⟩, by show 3 <= sizeLine; decide, fun l12 nl12 => ⟨l12, rfl, ⟨_, SqL.of zQz⟩, ?_⟩⟩
   generalize hH12 : upd H11 l12 (HO.lst _) = H12
   have e12 : H12 l12 = some (.lst [V.int (mn : Int), V.int (-1), V.int (10 ^ 9)]) := by rw [<- hH12]; exact zQz
   have k12 : Kp11 C DK K a ns TT d p pa ha tb wa D fp kvs H12 := k11.same (by rw [<- hH12]; exact zWw nl12)
   clear hH12 nl12 k11
   refine xWj (xs := [V.int (mn : Int), V.int (-1), V.int (10 ^ 9)]) (fun j σ H8 => ∃ v11, σ = [some (.ref a), some (.int (i : Int)), some (.int y), some (.int (bn : Int)), some (.int (gn : Int)), some (.int (((bn : Int) - 2) * (gn : Int))), some (.ref p), some (.int (mn : Int)), some (.ref d), some (.ref ha), v10, v11, some (.ref tb), v13, v14, v15] /\ Kp11 C DK K a ns TT d p pa ha tb wa D fp kvs H8 /\ H8 l12 = some (.lst [V.int (mn : Int), V.int (-1), V.int (10 ^ 9)])) ⟨_, rfl, k12, e12⟩ ?_ ?_ ?_
   . rintro j σ H8 hj ⟨v11, rfl, _, e8⟩
     exact SqL.of e8
   . clear k12 e12
     rintro j x σ H8 hj ⟨v11, rfl, k8, e8⟩
     obtain ⟨z, rfl, hz⟩ : ∃ z : Int, x = .int z /\ ¬ (0 <= z /\ z < (D.many : Int)) := by
       rw [e9]
       rcases j with _ | _ | _ | j
       . cases hj; exact ⟨_, rfl, by omega⟩
       . cases hj; exact ⟨_, rfl, by omega⟩
       . cases hj; exact ⟨_, rfl, by omega⟩
       . cases hj
     refine ⟨k8.tab, fun H9 tab9 s9 => ?_⟩
     have k9 := k8.butT tab9 s9
     have e9l := lst_butT k8.tab e8 s9
     obtain ⟨dxd, d9⟩ := k9.dx.ob
     refine ⟨[.int z, .ref d], _, fun cls _ H' => cls = .ref cNS /\ Same H9 H', rfl, fun f c' cl A2 outer2 s2 hr2 => zWj TD.cl N_read ((hr2.deeper _).mono (by decide)) xQq (pv 1) (zQw (pv 0) zQk (by exact zQq rfl)), ⟨_, rfl, d, dxd, _, rfl, d9, rfl, _, rfl, use_rbad k9.dx hz fun x => ⟨rfl, .refl _⟩⟩, ?_⟩
     rintro cls x H' ⟨rfl, s'⟩
     refine ⟨.ns, rfl, fun H10 s10 => ⟨rfl, _, rfl, iteN rfl ?_⟩⟩
     have k10 := k9.same (s'.trans s10)
     have e10 := (s'.trans s10) _ _ e9l
     refine ⟨k10.tab, fun H11 tab11 s11 => ?_⟩
     have k11 := k10.butT tab11 s11
     have e11 := lst_butT k10.tab e10 s11
     obtain ⟨dxd, d11⟩ := k11.dx.ob
     obtain ⟨c, hc⟩ : ∃ c : Int, atI [V.int 5, V.int (-1)] (y % 2) = some (.int c) := by
       have e : y % 2 = 0 \/ y % 2 = 1 := by omega
       rcases e with e | e <;> rw [e]
       . exact ⟨_, at0⟩
       . exact ⟨_, at1⟩
     refine ⟨[.int z, .ref d, .int y], _, fun cls _ H' => cls = .ref cNS /\ Same H11 H', rfl, fun f c' cl A2 outer2 s2 hr2 => zWj TD.cl N_write ((hr2.deeper _).mono (by decide)) xQq (pv 1) (zQw (pv 0) (zQw (zJz (ix_listK (K := K) rfl) (yWq (zQw zWx (zQw (pe_un un_neg zWx) zQk (by exact zQq rfl)) (by exact zQq rfl))) (zZx yWw (pv 2) zWx) (fun _ _ => rfl)) zQk (by exact zQq rfl)) (by exact zQq rfl)), ⟨_, rfl, d, dxd, _, rfl, d11, rfl, _, rfl, _, rfl, by show 2 <= sizeLine; decide, fun l nl => ⟨_, rfl, _, _, rfl, rfl, by show (0 : Int) < 2; decide, l, _, _, _, rfl, rfl, SqL.of zQz, hc, use_wbadS (k11.dx.same (zWw nl)) hz fun x => ⟨rfl, zWw nl⟩⟩⟩, ?_⟩
     rintro cls x H' ⟨rfl, s'⟩
     exact ⟨.ns, rfl, fun H12 s12 => ⟨rfl, _, rfl, iteN rfl ⟨_, rfl, k11.same (s'.trans s12), (s'.trans s12) _ _ e11⟩⟩⟩
   clear k12 e12
   rintro σ H13 ⟨v11, rfl, k13, _⟩
   refine ⟨_, rfl, _, _, rfl, rfl, ⟨by decide, by decide, by decide⟩, by show 3 <= sizeLine; decide, fun l14 nl14 => ⟨l14, rfl, ⟨_, SqL.of zQz⟩, ?_⟩⟩
   generalize hH14 : upd H13 l14 (HO.lst _) = H14
   have e14 : H14 l14 = some (.lst [V.int (-1), V.int 1000000000000, V.int (10 ^ 30)]) := by rw [<- hH14]; exact zQz
   have k14 : Kp11 C DK K a ns TT d p pa ha tb wa D fp kvs H14 := k13.same (by rw [<- hH14]; exact zWw nl14)
   clear hH14 nl14 k13
   refine xWj (xs := [V.int (-1), V.int 1000000000000, V.int (10 ^ 30)]) (fun j σ H8 => ∃ v13, σ = [some (.ref a), some (.int (i : Int)), some (.int y), some (.int (bn : Int)), some (.int (gn : Int)), some (.int (((bn : Int) - 2) * (gn : Int))), some (.ref p), some (.int (mn : Int)), some (.ref d), some (.ref ha), v10, v11, some (.ref tb), v13, v14, v15] /\ Kp11 C DK K a ns TT d p pa ha tb wa D fp kvs H8 /\ H8 l14 = some (.lst [V.int (-1), V.int 1000000000000, V.int (10 ^ 30)])) ⟨_, rfl, k14, e14⟩ ?_ ?_ ?_
   . rintro j σ H8 hj ⟨v13, rfl, _, e8⟩
     exact SqL.of e8
   . clear k14 e14
     rintro j x σ H8 hj ⟨v13, rfl, k8, e8⟩
     obtain ⟨z, rfl, hz⟩ : ∃ z : Int, x = .int z /\ ¬ (0 <= z /\ z <= MOST) := by
       unfold MOST
       rcases j with _ | _ | _ | j
       . cases hj; exact ⟨_, rfl, by omega⟩
       . cases hj; exact ⟨_, rfl, by omega⟩
       . cases hj; exact ⟨_, rfl, by omega⟩
       . cases hj
     refine ⟨k8.tab, fun H9 tab9 s9 => ?_⟩
     have k9 := k8.butT tab9 s9
     have e9l := lst_butT k8.tab e8 s9
     obtain ⟨dxd, d9⟩ := k9.dx.ob
     refine ⟨[.int z, .ref d, .int (mn : Int)], _, fun cls _ H' => cls = .ref cBC /\ Same H9 H', rfl, fun f c' cl A2 outer2 s2 hr2 => zWj TD.cl N_write ((hr2.deeper _).mono (by decide)) xQq (pv 1) (zQw (zZx op_sub (pv 2) zWx) (zQw (pv 0) zQk (by exact zQq rfl)) (by exact zQq rfl)), ⟨_, rfl, d, dxd, _, rfl, d9, rfl, _, rfl, _, _, rfl, rfl, _, rfl, use_wbadC k9.dx (by rw [e9]; omega) hz fun x => ⟨rfl, .refl _⟩⟩, ?_⟩
     rintro cls x H' ⟨rfl, s'⟩
     exact ⟨.bc, rfl, fun H10 s10 => ⟨rfl, _, rfl, iteN rfl ⟨_, rfl, k9.same (s'.trans s10), (s'.trans s10) _ _ e9l⟩⟩⟩
   clear k14 e14
   rintro σ H15 ⟨v13, rfl, k15, _⟩
   have mn480 : mn < 1000 := by omega
   have rdf : ∀ s', s' < mn -> D.read s' = g s' := fun s' hs' => Val.one I9.base (xKq I9.pl (by rw [e9]; exact hs')) (vl9 s' hs')
   obtain ⟨dxd, d15⟩ := k15.dx.ob
   refine zJk mn mn480 (fun R q => ⟨_, rfl, q _ (Same.refl _)⟩) (fun _ => true) (fun v => match v with | .int i => V.int (D.read i.toNat) | _ => .non) (fun j H4 R hj s4 q => q) (fun j H4 R hj _ s4 q => ⟨_, rfl, d, dxd, _, rfl, s4 _ _ d15, rfl, _, rfl, use_dread (k15.dx.same s4) I9 (by rw [e9]; exact hj) fun _ => q⟩) fun acc1 H16 eA sA nacc1 => ?_
   have eA : H16 acc1 = some (.lst ((List.range mn).map fun i => V.int (D.read i))) := eA.trans (congrArg (fun l => some (HO.lst l)) (ints_pl (f := D.read)))
   have k16 := k15.same sA
   have nacc : acc1 ∉ fp := fun m => by
     obtain ⟨o, eo, _⟩ := k15.dx.ch.frz acc1 m
     rw [nacc1] at eo; cases eo
   clear k15 d15
   have ok16 : Ok D.G mn := by rw [<- e9]; exact I9.ok
   have lim16 := k16.dx.ch.lim
   obtain ⟨f1, f2⟩ := few_of ok16 in9 (lim_few lim16.2.1 lim16.2.2.2)
   refine ⟨_, rfl, _, rfl, xKz k16.dx.ch ok16 f1 f2 (fun d2 H17 pa2 D2 fp2 N X17 I17 e17 m17 hN eN k17 q1 q2 => ?_) (fun H17 x G7 fp7 N A7 o7 m l hN eN en k => absurd li9 l)⟩
   have eG : D2.G = D.G := by rw [eN]; exact mend_er (yWv I9.hh) I9.er1
   have sc17 : Scr K H17 a ns := k16.sc.but k17.keep k16.dx.ch.frz
   have tab17 := tab_chip k16.tab k16.dx.ch k17
   have ek17 := k17.keep _ _ k16.hd (k16.dx.ch.noD k16.hd)
   have etb17 := k16.dx.ch.tups k17.keep _ _ k16.tb
   have W17 : WearX H17 wa D.G := k17.keep _ _ k16.we fun m => nwa (by simp [m])
   have eA17 := k17.keep _ _ eA nacc
   clear k16 k17 q1 q2 eA sA nacc1 nacc hN
   have eqL : ((List.range mn).map fun i => V.int (D.read i)) = (List.range mn).map fun i => V.int (g i) := List.map_congr_left fun i m => by rw [rdf i (List.mem_range.mp m)]
   have eqL2 : ((List.range mn).map fun i => V.int (D2.read i)) = (List.range mn).map fun i => V.int (D.read i) := List.map_congr_left fun i m => by
     have hi := List.mem_range.mp m
     have v1 := xKq I17.pl (s := i) (by rw [e17]; exact hi)
     rw [eG] at v1
     rw [Val.one I9.base v1 (xKq I9.pl (by rw [e9]; exact hi))]
   refine ⟨_, rfl, ?_⟩
   refine zJk mn mn480 (fun R q => ⟨_, rfl, q _ (Same.refl _)⟩) (fun _ => true) (fun v => match v with | .int i => V.int (g i.toNat) | _ => .non) (fun j H4 R hj s4 q => q) (fun j H4 R hj _ s4 q => ⟨_, rfl, ha, rfl, .inl ⟨kvs, .of (s4 _ _ ek17)⟩, _, rfl, _, DGet.k (k := Sum.inl (j : Int)) (s4 _ _ ek17), by rw [ev j]; exact q⟩) fun acc2 H18 eB sB nacc2 => ?_
   have eB : H18 acc2 = some (.lst ((List.range mn).map fun i => V.int (g i))) := eB.trans (congrArg (fun l => some (HO.lst l)) (ints_pl (f := g)))
   rw [<- eqL] at eB
   refine .inl ⟨acc1, acc2, _, _, rfl, rfl, .inl ⟨sB _ _ eA17, eB⟩, rfl, deq_same xZk, _, rfl, iteF ?_⟩
   have X18 := X17.same sB
   obtain ⟨dx2, d18⟩ := X18.ob
   refine zJk mn mn480 (fun R q => ⟨_, rfl, q _ (Same.refl _)⟩) (fun _ => true) (fun v => match v with | .int i => V.int (D2.read i.toNat) | _ => .non) (fun j H4 R hj s4 q => q) (fun j H4 R hj _ s4 q => ⟨_, rfl, d2, dx2, _, rfl, s4 _ _ d18, rfl, _, rfl, use_dread (X18.same s4) I17 (by rw [e17]; exact hj) fun _ => q⟩) fun acc3 H19 eC sC nacc3 => ?_
   have eC : H19 acc3 = some (.lst ((List.range mn).map fun i => V.int (D2.read i))) := eC.trans (congrArg (fun l => some (HO.lst l)) (ints_pl (f := D2.read)))
   rw [eqL2] at eC
   have sBC := sB.trans sC
   refine ⟨_, rfl, .inl ⟨acc3, acc1, _, _, rfl, rfl, .inl ⟨eC, sBC _ _ eA17⟩, rfl, deq_same xZk, _, rfl, iteF ?_⟩⟩
   have X19 := X17.same sBC
   obtain ⟨dxc, S9, hl9, el9, c19⟩ := X19.ch.at_
   refine ⟨_, rfl, p, dxc, _, rfl, c19, rfl, xQj X19.ch ⟨_, rfl, p, D2.G, fp2, rfl, X19.ch, fun wa2 H20 W20 s20 n20 => ⟨by show 2 <= sizeLine; decide, fun tb2 ntb2 => ?_⟩⟩⟩
   generalize hH21 : upd H20 tb2 (HO.tup _) = H21
   have etb2 : H21 tb2 = some (.tup [.int D.G.many, .ref wa2]) := by rw [<- hH21, <- eG]; exact zQz
   have s21' : Same H20 H21 := by rw [<- hH21]; exact zWw ntb2
   clear hH21
   have s21 := sBC.trans (s20.trans s21')
   have W21 : WearX H21 wa2 D.G := by rw [<- eG]; exact s21' _ _ W20
   refine ⟨_, rfl, .inl ⟨tb2, tb, _, _, rfl, rfl, .inr ⟨etb2, s21 _ _ etb17⟩, rfl, fun j u v e1 e2 => ?_, _, rfl, iteF ⟨_, _, _, _, _, _, _, _, _, _, _, _, _, _, _, rfl, sc17.same s21, tab17.same s21⟩⟩⟩
   rcases j with _ | _ | j
   . cases e1
     cases e2
     exact .inl ⟨rfl, rfl⟩
   . cases e1
     cases e2
     exact .inr ⟨wa2, wa, _, _, rfl, rfl, .inl ⟨W21, s21 _ _ W17⟩, rfl, deq_same xZk⟩
   . cases e1
end
theorem all_mk {l : PySem.W.OpenLaw} {w : World} {K : PySem.W.Frag} {h : Heap} {mg : Str -> Option Value} {fa : Addr} (X : K.In h) (G : h.Ns mainGlobals mg) (hfa : mg "law" = some (.ref fa))
   {C DK cWE cBS cNP cNE cNS cBC cCu : Addr} {tLB : Tok} {tMB : Tok} {tLP : Tok} {tMP : Tok} {tTO : Tok} {tSB : Tok} {tMC : Tok}
   {fyl fyo fyi fyn fya fyd fyf fye fz9 fy1 fz0 fy0 fyj fyc fyk fyg fz3 fz8 fyh fyq fyb fym fy3 fy6 fz1 fz5 fz7 fz4 fz2 fy2 fy8 fy4 fy9 fz6 fy5 fy7 fyp cL TT : Addr} {odyl anyl odyo anyo odyi anyi odyn anyn odya anya odyd anyd odyf anyf odye anye odz9 anz9 ody1 any1 odz0 anz0 ody0 any0 odyj anyj odyc anyc odyk anyk odyg anyg odz3 anz3 odz8 anz8 odyh anyh odyq anyq odyb anyb odym anym ody3 any3 ody6 any6 odz1 anz1 odz5 anz5 odz7 anz7 odz4 anz4 odz2 anz2 ody2 any2 ody8 any8 ody4 any4 ody9 any9 odz6 anz6 ody5 any5 ody7 any7 odyp anyp odc : Option Addr} {slyl slyo slyi slyn slya slyd slyf slye slz9 sly1 slz0 sly0 slyj slyc slyk slyg slz3 slz8 slyh slyq slyb slym sly3 sly6 slz1 slz5 slz7 slz4 slz2 sly2 sly8 sly4 sly9 slz6 sly5 sly7 slyp slc : Array (Option Value)} {ocyl kVyl dcyl pmyl cdyl ctyl ocyo kVyo dcyo pmyo cdyo ctyo ocyi kVyi dcyi pmyi cdyi ctyi ocyn kVyn dcyn pmyn cdyn ctyn ocya kVya dcya pmya cdya ctya ocyd kVyd dcyd pmyd cdyd ctyd ocyf kVyf dcyf pmyf cdyf ctyf ocye kVye dcye pmye cdye ctye ocz9 kVz9 dcz9 pmz9 cdz9 ctz9 ocy1 kVy1 dcy1 pmy1 cdy1 cty1 ocz0 kVz0 dcz0 pmz0 cdz0 ctz0 ocy0 kVy0 dcy0 pmy0 cdy0 cty0 ocyj kVyj dcyj pmyj cdyj ctyj ocyc kVyc dcyc pmyc cdyc ctyc ocyk kVyk dcyk pmyk cdyk ctyk ocyg kVyg dcyg pmyg cdyg ctyg ocz3 kVz3 dcz3 pmz3 cdz3 ctz3 ocz8 kVz8 dcz8 pmz8 cdz8 ctz8 ocyh kVyh dcyh pmyh cdyh ctyh ocyq kVyq dcyq pmyq cdyq ctyq ocyb kVyb dcyb pmyb cdyb ctyb ocym kVym dcym pmym cdym ctym ocy3 kVy3 dcy3 pmy3 cdy3 cty3 ocy6 kVy6 dcy6 pmy6 cdy6 cty6 ocz1 kVz1 dcz1 pmz1 cdz1 ctz1 ocz5 kVz5 dcz5 pmz5 cdz5 ctz5 ocz7 kVz7 dcz7 pmz7 cdz7 ctz7 ocz4 kVz4 dcz4 pmz4 cdz4 ctz4 ocz2 kVz2 dcz2 pmz2 cdz2 ctz2 ocy2 kVy2 dcy2 pmy2 cdy2 cty2 ocy8 kVy8 dcy8 pmy8 cdy8 cty8 ocy4 kVy4 dcy4 pmy4 cdy4 cty4 ocy9 kVy9 dcy9 pmy9 cdy9 cty9 ocz6 kVz6 dcz6 pmz6 cdz6 ctz6 ocy5 kVy5 dcy5 pmy5 cdy5 cty5 ocy7 kVy7 dcy7 pmy7 cdy7 cty7 ocyp kVyp dcyp pmyp ctyp occ : Value} {vsc : Array Value}
   (a_cWE : PySem.W.nsIn K mainGlobals "WearError" = some (some (.ref cWE)))
   (a_cBS : PySem.W.nsIn K mainGlobals "BadSize" = some (some (.ref cBS)))
   (a_cNP : PySem.W.nsIn K mainGlobals "NoPage" = some (some (.ref cNP)))
   (a_cNE : PySem.W.nsIn K mainGlobals "NotErased" = some (some (.ref cNE)))
   (a_cNS : PySem.W.nsIn K mainGlobals "NoSector" = some (some (.ref cNS)))
   (a_cBC : PySem.W.nsIn K mainGlobals "BadContent" = some (some (.ref cBC)))
   (a_cCu : PySem.W.nsIn K mainGlobals "Cut" = some (some (.ref cCu)))
   (a_C : PySem.W.nsIn K mainGlobals "Chip" = some (some (.ref C)))
   (a_DK : PySem.W.nsIn K mainGlobals "Disk" = some (some (.ref DK)))
   (x_cBS : PySem.W.excIn K cBS [.type "ValueError", .type "Exception", .type "BaseException", .type "object"] "ValueError.__new__" = true)
   (x_cNP : PySem.W.excIn K cNP [.type "ValueError", .type "Exception", .type "BaseException", .type "object"] "ValueError.__new__" = true)
   (x_cNE : PySem.W.excIn K cNE [.type "ValueError", .type "Exception", .type "BaseException", .type "object"] "ValueError.__new__" = true)
   (x_cCu : PySem.W.excIn K cCu [.type "ValueError", .type "Exception", .type "BaseException", .type "object"] "ValueError.__new__" = true)
   (x_cNS : PySem.W.excIn K cNS [.type "ValueError", .type "Exception", .type "BaseException", .type "object"] "ValueError.__new__" = true)
   (x_cBC : PySem.W.excIn K cBC [.type "ValueError", .type "Exception", .type "BaseException", .type "object"] "ValueError.__new__" = true)
   (ex_Cu : PySem.W.exmOne K (.ref cCu) (.ref cCu) = some true)
   (kt_non : PySem.W.kitOne K (.type "NoneType") (.type "tuple") = some false)
   (kt_str : PySem.W.kitOne K (.type "str") (.type "tuple") = some false)
   (kt_tup : PySem.W.kitOne K (.type "tuple") (.type "tuple") = some true)
   (pg : PySem.W.plainGet K C Str.empty = true)
   (hd : PySem.W.hasDictIn K C = true)
   (po : PySem.W.plainOver K C = true)
   (sa : PySem.W.findIn K (.ref C) "__setattr__" = some (some (.builtin "object.__setattr__")))
   (mk : PySem.W.makesIn K C = true)
   (kc : PySem.W.keepIn K (.ref C) = true)
   (pgD : PySem.W.plainGet K DK Str.empty = true)
   (hdD : PySem.W.hasDictIn K DK = true)
   (poD : PySem.W.plainOver K DK = true)
   (saD : PySem.W.findIn K (.ref DK) "__setattr__" = some (some (.builtin "object.__setattr__")))
   (mkD : PySem.W.makesIn K DK = true)
   (kcD : PySem.W.keepIn K (.ref DK) = true)
   (aB : PySem.W.findIn K (.ref C) "blocks" = some none)
   (aP : PySem.W.findIn K (.ref C) "pages" = some none)
   (aH : PySem.W.findIn K (.ref C) "held" = some none)
   (aE : PySem.W.findIn K (.ref C) "erasures" = some none)
   (aW : PySem.W.findIn K (.ref C) "writes" = some none)
   (aL : PySem.W.findIn K (.ref C) "left" = some none)
   (aD : PySem.W.findIn K (.ref C) "dark" = some none)
   (daC : PySem.W.findIn K (.ref DK) "chip" = some none)
   (daM : PySem.W.findIn K (.ref DK) "many" = some none)
   (daP : PySem.W.findIn K (.ref DK) "places" = some none)
   (daB : PySem.W.findIn K (.ref DK) "block" = some none)
   (daF : PySem.W.findIn K (.ref DK) "filled" = some none)
   (z_LB : PySem.W.nsIn K mainGlobals "LEAST_BLOCKS" = some (some (.int 4 tLB)))
   (z_MB : PySem.W.nsIn K mainGlobals "MOST_BLOCKS" = some (some (.int 32 tMB)))
   (z_LP : PySem.W.nsIn K mainGlobals "LEAST_PAGES" = some (some (.int 2 tLP)))
   (z_MP : PySem.W.nsIn K mainGlobals "MOST_PAGES" = some (some (.int 16 tMP)))
   (z_TO : PySem.W.nsIn K mainGlobals "TORN" = some (some (.str "torn" tTO)))
   (z_SB : PySem.W.nsIn K mainGlobals "SPARE_BLOCKS" = some (some (.int 2 tSB)))
   (z_MC : PySem.W.nsIn K mainGlobals "MOST_CONTENT" = some (some (.int 999999999999 tMC)))
   (n_len : PySem.W.nsIn K mainGlobals "len" = some none)
   (n_range : PySem.W.nsIn K mainGlobals "range" = some none)
   (n_int : PySem.W.nsIn K mainGlobals "int" = some none)
   (n_list : PySem.W.nsIn K mainGlobals "list" = some none)
   (n_sum : PySem.W.nsIn K mainGlobals "sum" = some none)
   (n_max : PySem.W.nsIn K mainGlobals "max" = some none)
   (n_min : PySem.W.nsIn K mainGlobals "min" = some none)
   (n_isinstance : PySem.W.nsIn K mainGlobals "isinstance" = some none)
   (n_ValueError : PySem.W.nsIn K mainGlobals "ValueError" = some none)
   (n_sorted : PySem.W.nsIn K mainGlobals "sorted" = some none)
   (n_all : PySem.W.nsIn K mainGlobals "all" = some none)
   (n_any : PySem.W.nsIn K mainGlobals "any" = some none)
   (n_tuple : PySem.W.nsIn K mainGlobals "tuple" = some none)
   (q_get : PySem.W.specialIn K (.builtin "object.__class__") "__get__" = some (some (.builtin "getset_descriptor.__get__")))
   (q_tk : PySem.W.takesIn K (.builtin "object.__class__") = some true)
   (at_DK : PySem.W.findIn K (.ref DK) "__class__" = some (some (.builtin "object.__class__")))
   (ob_DK : PySem.W.mroIn K DK (.type "object") = some true)
   (kDD : PySem.W.kitOne K (.ref DK) (.ref DK) = some true)
   (ga_cBS : PySem.W.findIn K (.ref cBS) "__getattribute__" = some (some (.builtin "BaseException.__getattribute__")))
   (gt_cBS : PySem.W.findIn K (.ref cBS) "__getattr__" = some none)
   (cl_cBS : PySem.W.hasDictIn K cBS = true)
   (at_cBS : PySem.W.findIn K (.ref cBS) "__class__" = some (some (.builtin "object.__class__")))
   (ob_cBS : PySem.W.mroIn K cBS (.type "object") = some true)
   (be_cBS : PySem.W.mroIn K cBS (.type "BaseException") = some true)
   (k_cBS_cBS : PySem.W.kitOne K (.ref cBS) (.ref cBS) = some true)
   (k_cBS_cNP : PySem.W.kitOne K (.ref cBS) (.ref cNP) = some false)
   (k_cBS_cNE : PySem.W.kitOne K (.ref cBS) (.ref cNE) = some false)
   (k_cBS_cNS : PySem.W.kitOne K (.ref cBS) (.ref cNS) = some false)
   (k_cBS_cBC : PySem.W.kitOne K (.ref cBS) (.ref cBC) = some false)
   (k_cBS_cCu : PySem.W.kitOne K (.ref cBS) (.ref cCu) = some false)
   (kv_cBS : PySem.W.kitOne K (.ref cBS) (.type "ValueError") = some true)
   (ew_cBS : PySem.W.exmOne K (.ref cBS) (.ref cWE) = some true)
   (ga_cNS : PySem.W.findIn K (.ref cNS) "__getattribute__" = some (some (.builtin "BaseException.__getattribute__")))
   (gt_cNS : PySem.W.findIn K (.ref cNS) "__getattr__" = some none)
   (cl_cNS : PySem.W.hasDictIn K cNS = true)
   (at_cNS : PySem.W.findIn K (.ref cNS) "__class__" = some (some (.builtin "object.__class__")))
   (ob_cNS : PySem.W.mroIn K cNS (.type "object") = some true)
   (be_cNS : PySem.W.mroIn K cNS (.type "BaseException") = some true)
   (k_cNS_cBS : PySem.W.kitOne K (.ref cNS) (.ref cBS) = some false)
   (k_cNS_cNP : PySem.W.kitOne K (.ref cNS) (.ref cNP) = some false)
   (k_cNS_cNE : PySem.W.kitOne K (.ref cNS) (.ref cNE) = some false)
   (k_cNS_cNS : PySem.W.kitOne K (.ref cNS) (.ref cNS) = some true)
   (k_cNS_cBC : PySem.W.kitOne K (.ref cNS) (.ref cBC) = some false)
   (k_cNS_cCu : PySem.W.kitOne K (.ref cNS) (.ref cCu) = some false)
   (kv_cNS : PySem.W.kitOne K (.ref cNS) (.type "ValueError") = some true)
   (ew_cNS : PySem.W.exmOne K (.ref cNS) (.ref cWE) = some true)
   (ga_cBC : PySem.W.findIn K (.ref cBC) "__getattribute__" = some (some (.builtin "BaseException.__getattribute__")))
   (gt_cBC : PySem.W.findIn K (.ref cBC) "__getattr__" = some none)
   (cl_cBC : PySem.W.hasDictIn K cBC = true)
   (at_cBC : PySem.W.findIn K (.ref cBC) "__class__" = some (some (.builtin "object.__class__")))
   (ob_cBC : PySem.W.mroIn K cBC (.type "object") = some true)
   (be_cBC : PySem.W.mroIn K cBC (.type "BaseException") = some true)
   (k_cBC_cBS : PySem.W.kitOne K (.ref cBC) (.ref cBS) = some false)
   (k_cBC_cNP : PySem.W.kitOne K (.ref cBC) (.ref cNP) = some false)
   (k_cBC_cNE : PySem.W.kitOne K (.ref cBC) (.ref cNE) = some false)
   (k_cBC_cNS : PySem.W.kitOne K (.ref cBC) (.ref cNS) = some false)
   (k_cBC_cBC : PySem.W.kitOne K (.ref cBC) (.ref cBC) = some true)
   (k_cBC_cCu : PySem.W.kitOne K (.ref cBC) (.ref cCu) = some false)
   (kv_cBC : PySem.W.kitOne K (.ref cBC) (.type "ValueError") = some true)
   (ew_cBC : PySem.W.exmOne K (.ref cBC) (.ref cWE) = some true)
   (ayl : PySem.W.findIn K (.ref C) "__init__" = some (some (.ref fyl)))
   (iyl : PySem.W.isFn K (.ref fyl) = true)
   (lyl : K.lookup fyl = some ⟨ocyl, odyl, .func (PySem.W.fnOf "__init__" "Chip.__init__" (defArgs sInit) (defBody sInit) (defScope sInit) .none kVyl dcyl pmyl anyl cdyl ctyl), slyl⟩)
   (cyl : PySem.W.codeIn K cdyl "Chip.__init__" = true)
   (kyl : PySem.W.keepIn K (.ref fyl) = true)
   (ayo : PySem.W.findIn K (.ref C) "size" = some (some (.ref fyo)))
   (iyo : PySem.W.isFn K (.ref fyo) = true)
   (lyo : K.lookup fyo = some ⟨ocyo, odyo, .func (PySem.W.fnOf "size" "Chip.size" (defArgs sSize) (defBody sSize) (defScope sSize) .none kVyo dcyo pmyo anyo cdyo ctyo), slyo⟩)
   (cyo : PySem.W.codeIn K cdyo "Chip.size" = true)
   (kyo : PySem.W.keepIn K (.ref fyo) = true)
   (ayi : PySem.W.findIn K (.ref C) "page" = some (some (.ref fyi)))
   (iyi : PySem.W.isFn K (.ref fyi) = true)
   (lyi : K.lookup fyi = some ⟨ocyi, odyi, .func (PySem.W.fnOf "page" "Chip.page" (defArgs sPage) (defBody sPage) (defScope sPage) .none kVyi dcyi pmyi anyi cdyi ctyi), slyi⟩)
   (cyi : PySem.W.codeIn K cdyi "Chip.page" = true)
   (kyi : PySem.W.keepIn K (.ref fyi) = true)
   (ayn : PySem.W.findIn K (.ref C) "worn" = some (some (.ref fyn)))
   (iyn : PySem.W.isFn K (.ref fyn) = true)
   (lyn : K.lookup fyn = some ⟨ocyn, odyn, .func (PySem.W.fnOf "worn" "Chip.worn" (defArgs sWorn) (defBody sWorn) (defScope sWorn) .none kVyn dcyn pmyn anyn cdyn ctyn), slyn⟩)
   (cyn : PySem.W.codeIn K cdyn "Chip.worn" = true)
   (kyn : PySem.W.keepIn K (.ref fyn) = true)
   (aya : PySem.W.findIn K (.ref C) "written" = some (some (.ref fya)))
   (iya : PySem.W.isFn K (.ref fya) = true)
   (lya : K.lookup fya = some ⟨ocya, odya, .func (PySem.W.fnOf "written" "Chip.written" (defArgs sWritten) (defBody sWritten) (defScope sWritten) .none kVya dcya pmya anya cdya ctya), slya⟩)
   (cya : PySem.W.codeIn K cdya "Chip.written" = true)
   (kya : PySem.W.keepIn K (.ref fya) = true)
   (ayd : PySem.W.findIn K (.ref C) "power" = some (some (.ref fyd)))
   (iyd : PySem.W.isFn K (.ref fyd) = true)
   (lyd : K.lookup fyd = some ⟨ocyd, odyd, .func (PySem.W.fnOf "power" "Chip.power" (defArgs sPower) (defBody sPower) (defScope sPower) .none kVyd dcyd pmyd anyd cdyd ctyd), slyd⟩)
   (cyd : PySem.W.codeIn K cdyd "Chip.power" = true)
   (kyd : PySem.W.keepIn K (.ref fyd) = true)
   (ayf : PySem.W.findIn K (.ref C) "write" = some (some (.ref fyf)))
   (iyf : PySem.W.isFn K (.ref fyf) = true)
   (lyf : K.lookup fyf = some ⟨ocyf, odyf, .func (PySem.W.fnOf "write" "Chip.write" (defArgs sWrite) (defBody sWrite) (defScope sWrite) .none kVyf dcyf pmyf anyf cdyf ctyf), slyf⟩)
   (cyf : PySem.W.codeIn K cdyf "Chip.write" = true)
   (kyf : PySem.W.keepIn K (.ref fyf) = true)
   (aye : PySem.W.findIn K (.ref C) "erase" = some (some (.ref fye)))
   (iye : PySem.W.isFn K (.ref fye) = true)
   (lye : K.lookup fye = some ⟨ocye, odye, .func (PySem.W.fnOf "erase" "Chip.erase" (defArgs sErase) (defBody sErase) (defScope sErase) .none kVye dcye pmye anye cdye ctye), slye⟩)
   (cye : PySem.W.codeIn K cdye "Chip.erase" = true)
   (kye : PySem.W.keepIn K (.ref fye) = true)
   (az9 : PySem.W.findIn K (.ref C) "check_block" = some (some (.ref fz9)))
   (iz9 : PySem.W.isFn K (.ref fz9) = true)
   (lz9 : K.lookup fz9 = some ⟨ocz9, odz9, .func (PySem.W.fnOf "check_block" "Chip.check_block" (defArgs sCB) (defBody sCB) (defScope sCB) .none kVz9 dcz9 pmz9 anz9 cdz9 ctz9), slz9⟩)
   (cz9 : PySem.W.codeIn K cdz9 "Chip.check_block" = true)
   (kz9 : PySem.W.keepIn K (.ref fz9) = true)
   (ay1 : PySem.W.findIn K (.ref C) "check_page" = some (some (.ref fy1)))
   (iy1 : PySem.W.isFn K (.ref fy1) = true)
   (ly1 : K.lookup fy1 = some ⟨ocy1, ody1, .func (PySem.W.fnOf "check_page" "Chip.check_page" (defArgs sCP) (defBody sCP) (defScope sCP) .none kVy1 dcy1 pmy1 any1 cdy1 cty1), sly1⟩)
   (cy1 : PySem.W.codeIn K cdy1 "Chip.check_page" = true)
   (ky1 : PySem.W.keepIn K (.ref fy1) = true)
   (az0 : PySem.W.findIn K (.ref C) "check_erased_from" = some (some (.ref fz0)))
   (iz0 : PySem.W.isFn K (.ref fz0) = true)
   (lz0 : K.lookup fz0 = some ⟨ocz0, odz0, .func (PySem.W.fnOf "check_erased_from" "Chip.check_erased_from" (defArgs sCE) (defBody sCE) (defScope sCE) .none kVz0 dcz0 pmz0 anz0 cdz0 ctz0), slz0⟩)
   (cz0 : PySem.W.codeIn K cdz0 "Chip.check_erased_from" = true)
   (kz0 : PySem.W.keepIn K (.ref fz0) = true)
   (ay0 : PySem.W.findIn K (.ref C) "draw_power" = some (some (.ref fy0)))
   (iy0 : PySem.W.isFn K (.ref fy0) = true)
   (ly0 : K.lookup fy0 = some ⟨ocy0, ody0, .func (PySem.W.fnOf "draw_power" "Chip.draw_power" (defArgs sDraw) (defBody sDraw) (defScope sDraw) .none kVy0 dcy0 pmy0 any0 cdy0 cty0), sly0⟩)
   (cy0 : PySem.W.codeIn K cdy0 "Chip.draw_power" = true)
   (ky0 : PySem.W.keepIn K (.ref fy0) = true)
   (ayj : PySem.W.findIn K (.ref DK) "__init__" = some (some (.ref fyj)))
   (iyj : PySem.W.isFn K (.ref fyj) = true)
   (lyj : K.lookup fyj = some ⟨ocyj, odyj, .func (PySem.W.fnOf "__init__" "Disk.__init__" (defArgs sDInit) (defBody sDInit) (defScope sDInit) .none kVyj dcyj pmyj anyj cdyj ctyj), slyj⟩)
   (cyj : PySem.W.codeIn K cdyj "Disk.__init__" = true)
   (kyj : PySem.W.keepIn K (.ref fyj) = true)
   (ayc : PySem.W.findIn K (.ref DK) "sectors" = some (some (.ref fyc)))
   (iyc : PySem.W.isFn K (.ref fyc) = true)
   (lyc : K.lookup fyc = some ⟨ocyc, odyc, .func (PySem.W.fnOf "sectors" "Disk.sectors" (defArgs sDSectors) (defBody sDSectors) (defScope sDSectors) .none kVyc dcyc pmyc anyc cdyc ctyc), slyc⟩)
   (cyc : PySem.W.codeIn K cdyc "Disk.sectors" = true)
   (kyc : PySem.W.keepIn K (.ref fyc) = true)
   (ayk : PySem.W.findIn K (.ref DK) "read" = some (some (.ref fyk)))
   (iyk : PySem.W.isFn K (.ref fyk) = true)
   (lyk : K.lookup fyk = some ⟨ocyk, odyk, .func (PySem.W.fnOf "read" "Disk.read" (defArgs sDRead) (defBody sDRead) (defScope sDRead) .none kVyk dcyk pmyk anyk cdyk ctyk), slyk⟩)
   (cyk : PySem.W.codeIn K cdyk "Disk.read" = true)
   (kyk : PySem.W.keepIn K (.ref fyk) = true)
   (ayg : PySem.W.findIn K (.ref DK) "write" = some (some (.ref fyg)))
   (iyg : PySem.W.isFn K (.ref fyg) = true)
   (lyg : K.lookup fyg = some ⟨ocyg, odyg, .func (PySem.W.fnOf "write" "Disk.write" (defArgs sDWrite) (defBody sDWrite) (defScope sDWrite) .none kVyg dcyg pmyg anyg cdyg ctyg), slyg⟩)
   (cyg : PySem.W.codeIn K cdyg "Disk.write" = true)
   (kyg : PySem.W.keepIn K (.ref fyg) = true)
   (az3 : PySem.W.findIn K (.ref DK) "check_sector" = some (some (.ref fz3)))
   (iz3 : PySem.W.isFn K (.ref fz3) = true)
   (lz3 : K.lookup fz3 = some ⟨ocz3, odz3, .func (PySem.W.fnOf "check_sector" "Disk.check_sector" (defArgs sDCheck) (defBody sDCheck) (defScope sDCheck) .none kVz3 dcz3 pmz3 anz3 cdz3 ctz3), slz3⟩)
   (cz3 : PySem.W.codeIn K cdz3 "Disk.check_sector" = true)
   (kz3 : PySem.W.keepIn K (.ref fz3) = true)
   (az8 : PySem.W.findIn K (.ref DK) "begin_block" = some (some (.ref fz8)))
   (iz8 : PySem.W.isFn K (.ref fz8) = true)
   (lz8 : K.lookup fz8 = some ⟨ocz8, odz8, .func (PySem.W.fnOf "begin_block" "Disk.begin_block" (defArgs sDBegin) (defBody sDBegin) (defScope sDBegin) .none kVz8 dcz8 pmz8 anz8 cdz8 ctz8), slz8⟩)
   (cz8 : PySem.W.codeIn K cdz8 "Disk.begin_block" = true)
   (kz8 : PySem.W.keepIn K (.ref fz8) = true)
   (ayh : PySem.W.findIn K (.ref DK) "clean" = some (some (.ref fyh)))
   (iyh : PySem.W.isFn K (.ref fyh) = true)
   (lyh : K.lookup fyh = some ⟨ocyh, odyh, .func (PySem.W.fnOf "clean" "Disk.clean" (defArgs sDClean) (defBody sDClean) (defScope sDClean) .none kVyh dcyh pmyh anyh cdyh ctyh), slyh⟩)
   (cyh : PySem.W.codeIn K cdyh "Disk.clean" = true)
   (kyh : PySem.W.keepIn K (.ref fyh) = true)
   (ayq : PySem.W.findIn K (.ref DK) "put" = some (some (.ref fyq)))
   (iyq : PySem.W.isFn K (.ref fyq) = true)
   (lyq : K.lookup fyq = some ⟨ocyq, odyq, .func (PySem.W.fnOf "put" "Disk.put" (defArgs sDPut) (defBody sDPut) (defScope sDPut) .none kVyq dcyq pmyq anyq cdyq ctyq), slyq⟩)
   (cyq : PySem.W.codeIn K cdyq "Disk.put" = true)
   (kyq : PySem.W.keepIn K (.ref fyq) = true)
   (ayb : PySem.W.nsIn K mainGlobals "mounted" = some (some (.ref fyb)))
   (lyb : K.lookup fyb = some ⟨ocyb, odyb, .func (PySem.W.fnOf "mounted" "mounted" (defArgs sMounted) (defBody sMounted) (defScope sMounted) .none kVyb dcyb pmyb anyb cdyb ctyb), slyb⟩)
   (cyb : PySem.W.codeIn K cdyb "mounted" = true)
   (kyb : PySem.W.keepIn K (.ref fyb) = true)
   (aym : PySem.W.nsIn K mainGlobals "mend" = some (some (.ref fym)))
   (lym : K.lookup fym = some ⟨ocym, odym, .func (PySem.W.fnOf "mend" "mend" (defArgs sMend) (defBody sMend) (defScope sMend) .none kVym dcym pmym anym cdym ctym), slym⟩)
   (cym : PySem.W.codeIn K cdym "mend" = true)
   (kym : PySem.W.keepIn K (.ref fym) = true)
   (ay3 : PySem.W.nsIn K mainGlobals "things_on" = some (some (.ref fy3)))
   (ly3 : K.lookup fy3 = some ⟨ocy3, ody3, .func (PySem.W.fnOf "things_on" "things_on" (defArgs sThings) (defBody sThings) (defScope sThings) .none kVy3 dcy3 pmy3 any3 cdy3 cty3), sly3⟩)
   (cy3 : PySem.W.codeIn K cdy3 "things_on" = true)
   (ky3 : PySem.W.keepIn K (.ref fy3) = true)
   (ay6 : PySem.W.nsIn K mainGlobals "is_erased" = some (some (.ref fy6)))
   (ly6 : K.lookup fy6 = some ⟨ocy6, ody6, .func (PySem.W.fnOf "is_erased" "is_erased" (defArgs sIsEr) (defBody sIsEr) (defScope sIsEr) .none kVy6 dcy6 pmy6 any6 cdy6 cty6), sly6⟩)
   (cy6 : PySem.W.codeIn K cdy6 "is_erased" = true)
   (ky6 : PySem.W.keepIn K (.ref fy6) = true)
   (az1 : PySem.W.nsIn K mainGlobals "has_whole_page" = some (some (.ref fz1)))
   (lz1 : K.lookup fz1 = some ⟨ocz1, odz1, .func (PySem.W.fnOf "has_whole_page" "has_whole_page" (defArgs sHasW) (defBody sHasW) (defScope sHasW) .none kVz1 dcz1 pmz1 anz1 cdz1 ctz1), slz1⟩)
   (cz1 : PySem.W.codeIn K cdz1 "has_whole_page" = true)
   (kz1 : PySem.W.keepIn K (.ref fz1) = true)
   (az5 : PySem.W.nsIn K mainGlobals "block_behind" = some (some (.ref fz5)))
   (lz5 : K.lookup fz5 = some ⟨ocz5, odz5, .func (PySem.W.fnOf "block_behind" "block_behind" (defArgs sBehind) (defBody sBehind) (defScope sBehind) .none kVz5 dcz5 pmz5 anz5 cdz5 ctz5), slz5⟩)
   (cz5 : PySem.W.codeIn K cdz5 "block_behind" = true)
   (kz5 : PySem.W.keepIn K (.ref fz5) = true)
   (az7 : PySem.W.nsIn K mainGlobals "whole_pages" = some (some (.ref fz7)))
   (lz7 : K.lookup fz7 = some ⟨ocz7, odz7, .func (PySem.W.fnOf "whole_pages" "whole_pages" (defArgs sWholeP) (defBody sWholeP) (defScope sWholeP) .none kVz7 dcz7 pmz7 anz7 cdz7 ctz7), slz7⟩)
   (cz7 : PySem.W.codeIn K cdz7 "whole_pages" = true)
   (kz7 : PySem.W.keepIn K (.ref fz7) = true)
   (az4 : PySem.W.nsIn K mainGlobals "newest_block" = some (some (.ref fz4)))
   (lz4 : K.lookup fz4 = some ⟨ocz4, odz4, .func (PySem.W.fnOf "newest_block" "newest_block" (defArgs sNewB) (defBody sNewB) (defScope sNewB) .none kVz4 dcz4 pmz4 anz4 cdz4 ctz4), slz4⟩)
   (cz4 : PySem.W.codeIn K cdz4 "newest_block" = true)
   (kz4 : PySem.W.keepIn K (.ref fz4) = true)
   (az2 : PySem.W.nsIn K mainGlobals "newest_places" = some (some (.ref fz2)))
   (lz2 : K.lookup fz2 = some ⟨ocz2, odz2, .func (PySem.W.fnOf "newest_places" "newest_places" (defArgs sNewP) (defBody sNewP) (defScope sNewP) .none kVz2 dcz2 pmz2 anz2 cdz2 ctz2), slz2⟩)
   (cz2 : PySem.W.codeIn K cdz2 "newest_places" = true)
   (kz2 : PySem.W.keepIn K (.ref fz2) = true)
   (ay2 : PySem.W.nsIn K mainGlobals "last_block" = some (some (.ref fy2)))
   (ly2 : K.lookup fy2 = some ⟨ocy2, ody2, .func (PySem.W.fnOf "last_block" "last_block" (defArgs sLast) (defBody sLast) (defScope sLast) .none kVy2 dcy2 pmy2 any2 cdy2 cty2), sly2⟩)
   (cy2 : PySem.W.codeIn K cdy2 "last_block" = true)
   (ky2 : PySem.W.keepIn K (.ref fy2) = true)
   (ay8 : PySem.W.nsIn K mainGlobals "_law_cell" = some (some (.ref fy8)))
   (ly8 : K.lookup fy8 = some ⟨ocy8, ody8, .func (PySem.W.fnOf "_law_cell" "_law_cell" (defArgs sCell) (defBody sCell) (defScope sCell) .none kVy8 dcy8 pmy8 any8 cdy8 cty8), sly8⟩)
   (cy8 : PySem.W.codeIn K cdy8 "_law_cell" = true)
   (ky8 : PySem.W.keepIn K (.ref fy8) = true)
   (ay4 : PySem.W.nsIn K mainGlobals "_law_drawn" = some (some (.ref fy4)))
   (ly4 : K.lookup fy4 = some ⟨ocy4, ody4, .func (PySem.W.fnOf "_law_drawn" "_law_drawn" (defArgs sDrawn) (defBody sDrawn) (defScope sDrawn) .none kVy4 dcy4 pmy4 any4 cdy4 cty4), sly4⟩)
   (cy4 : PySem.W.codeIn K cdy4 "_law_drawn" = true)
   (ky4 : PySem.W.keepIn K (.ref fy4) = true)
   (ay9 : PySem.W.nsIn K mainGlobals "_law_word" = some (some (.ref fy9)))
   (ly9 : K.lookup fy9 = some ⟨ocy9, ody9, .func (PySem.W.fnOf "_law_word" "_law_word" (defArgs sWord) (defBody sWord) (defScope sWord) .none kVy9 dcy9 pmy9 any9 cdy9 cty9), sly9⟩)
   (cy9 : PySem.W.codeIn K cdy9 "_law_word" = true)
   (ky9 : PySem.W.keepIn K (.ref fy9) = true)
   (az6 : PySem.W.nsIn K mainGlobals "_law_content" = some (some (.ref fz6)))
   (lz6 : K.lookup fz6 = some ⟨ocz6, odz6, .func (PySem.W.fnOf "_law_content" "_law_content" (defArgs sContent) (defBody sContent) (defScope sContent) .none kVz6 dcz6 pmz6 anz6 cdz6 ctz6), slz6⟩)
   (cz6 : PySem.W.codeIn K cdz6 "_law_content" = true)
   (kz6 : PySem.W.keepIn K (.ref fz6) = true)
   (ay5 : PySem.W.nsIn K mainGlobals "_law_wears" = some (some (.ref fy5)))
   (ly5 : K.lookup fy5 = some ⟨ocy5, ody5, .func (PySem.W.fnOf "_law_wears" "_law_wears" (defArgs sWears) (defBody sWears) (defScope sWears) .none kVy5 dcy5 pmy5 any5 cdy5 cty5), sly5⟩)
   (cy5 : PySem.W.codeIn K cdy5 "_law_wears" = true)
   (ky5 : PySem.W.keepIn K (.ref fy5) = true)
   (ay7 : PySem.W.nsIn K mainGlobals "_law_told" = some (some (.ref fy7)))
   (ly7 : K.lookup fy7 = some ⟨ocy7, ody7, .func (PySem.W.fnOf "_law_told" "_law_told" (defArgs sTold) (defBody sTold) (defScope sTold) .none kVy7 dcy7 pmy7 any7 cdy7 cty7), sly7⟩)
   (cy7 : PySem.W.codeIn K cdy7 "_law_told" = true)
   (ky7 : PySem.W.keepIn K (.ref fy7) = true)
   (ayp : PySem.W.nsIn K mainGlobals "law" = some (some (.ref fyp)))
   (lyp : K.lookup fyp = some ⟨ocyp, odyp, .func (PySem.W.fnOf "law" "law" (defArgs sLaw) (defBody sLaw) (defScope sLaw) .none kVyp dcyp pmyp anyp (.ref cL) ctyp), slyp⟩)
   (cyp : PySem.W.codeIn K (.ref cL) "law" = true)
   (kyp : PySem.W.keepIn K (.ref fyp) = true)
   (lcL : K.lookup cL = some ⟨occ, odc, .fields vsc, slc⟩)
   (v11 : vsc[11]? = some (.ref TT))
   (kT : K.lookup TT = none) :
   ∃ (fd : FuncData) (c T : Addr), PySem.W.tabIn K "law" = some (c, T) /\ K.lookup T = none /\ (∀ (s : Shared) (v : Value), BindsTo s fd ⟨[v], []⟩ [("_law_script", v)]) /\ ∀ base : Heap, K.In base -> base.Ns mainGlobals mg -> PySem.W.CodeHd base c T -> base.BuiltinsAt mg T -> FnOk l.prog w K mg base (CXw l.prog w) 63 fa fd ["_law_script"] (spLaw K T) := by
 have e := hfa.symm.trans (PySem.W.mg_of X G ayp)
 cases e
 have T : Txt K mg C cBS cNP cNE cNS cBC cCu cWE := ⟨⟨pg, hd, po, sa⟩, aB, aP, aH, aE, aW, aL, aD, PySem.W.mg_of X G a_C, PySem.W.mg_of X G a_cBS, PySem.W.mg_of X G a_cNP, PySem.W.mg_of X G a_cNE, PySem.W.mg_of X G a_cNS, PySem.W.mg_of X G a_cBC, PySem.W.mg_of X G a_cCu, PySem.W.mg_of X G a_cWE, ⟨⟨_, _, _, _, PySem.F.excBase_ValueError, x_cBS⟩⟩, ⟨⟨_, _, _, _, PySem.F.excBase_ValueError, x_cNP⟩⟩, ⟨⟨_, _, _, _, PySem.F.excBase_ValueError, x_cNE⟩⟩, ⟨⟨_, _, _, _, PySem.F.excBase_ValueError, x_cCu⟩⟩, ⟨_, PySem.W.mg_of X G z_LB, ⟨_, rfl⟩⟩, ⟨_, PySem.W.mg_of X G z_MB, ⟨_, rfl⟩⟩, ⟨_, PySem.W.mg_of X G z_LP, ⟨_, rfl⟩⟩, ⟨_, PySem.W.mg_of X G z_MP, ⟨_, rfl⟩⟩, ⟨_, PySem.W.mg_of X G z_TO, ⟨_, rfl⟩⟩, PySem.W.mg_none_of X G n_len, PySem.W.mg_none_of X G n_range, PySem.W.mg_none_of X G n_int, PySem.W.mg_none_of X G n_list, PySem.W.mg_none_of X G n_sum, PySem.W.mg_none_of X G n_max, PySem.W.mg_none_of X G n_min, PySem.W.mg_none_of X G n_isinstance, PySem.W.mg_none_of X G n_ValueError⟩
 have TD : TxtD K mg DK cNS cBC := ⟨⟨pgD, hdD, poD, saD⟩, daC, daM, daP, daB, daF, ⟨⟨_, _, _, _, PySem.F.excBase_ValueError, x_cNS⟩⟩, ⟨⟨_, _, _, _, PySem.F.excBase_ValueError, x_cBC⟩⟩, ⟨_, PySem.W.mg_of X G z_SB, ⟨_, rfl⟩⟩, ⟨_, PySem.W.mg_of X G z_MC, ⟨_, rfl⟩⟩, PySem.W.mg_none_of X G n_sorted, PySem.W.mg_none_of X G n_all, PySem.W.mg_none_of X G n_any, PySem.W.mg_none_of X G n_tuple, kt_non, kt_str, kt_tup⟩
 have TL : TxtL K cCu := ⟨ex_Cu⟩
 have W : TxtW K cBS cNP cNE cNS cBC cCu cWE := ⟨fun r => match r with | .bs => ⟨ga_cBS, gt_cBS, cl_cBS, at_cBS, q_get, q_tk, ob_cBS, be_cBS⟩ | .ns => ⟨ga_cNS, gt_cNS, cl_cNS, at_cNS, q_get, q_tk, ob_cNS, be_cNS⟩ | .bc => ⟨ga_cBC, gt_cBC, cl_cBC, at_cBC, q_get, q_tk, ob_cBC, be_cBC⟩, fun r => match r with | .bs => k_cBS_cBS | .ns => k_cNS_cBS | .bc => k_cBC_cBS, fun r => match r with | .bs => k_cBS_cNP | .ns => k_cNS_cNP | .bc => k_cBC_cNP, fun r => match r with | .bs => k_cBS_cNE | .ns => k_cNS_cNE | .bc => k_cBC_cNE, fun r => match r with | .bs => k_cBS_cNS | .ns => k_cNS_cNS | .bc => k_cBC_cNS, fun r => match r with | .bs => k_cBS_cBC | .ns => k_cNS_cBC | .bc => k_cBC_cBC, fun r => match r with | .bs => k_cBS_cCu | .ns => k_cNS_cCu | .bc => k_cBC_cCu, fun r => match r with | .bs => kv_cBS | .ns => kv_cNS | .bc => kv_cBC, fun r => match r with | .bs => ew_cBS | .ns => ew_cNS | .bc => ew_cBC⟩
 have kI : ∀ H a dx fs, H a = some (.ins DK dx fs) -> TyOf K H (.ref a) (.ref DK) := fun H a dx fs e => .ins e TD.cl at_DK q_get q_tk ob_DK
 have Fyl := zZk (st := sInit) lyl cyl kyl
 have byl := Fyl.binds (ps := ["self", "blocks", "pages"]) fun _ _ _ _ _ _ us hl => match us, hl with | [_, _, _], _ => rfl
 have Fyo := zZk (st := sSize) lyo cyo kyo
 have byo := Fyo.binds (ps := ["self"]) fun _ _ _ _ _ _ us hl => match us, hl with | [_], _ => rfl
 have Fyi := zZk (st := sPage) lyi cyi kyi
 have byi := Fyi.binds (ps := ["self", "block", "page"]) fun _ _ _ _ _ _ us hl => match us, hl with | [_, _, _], _ => rfl
 have Fyn := zZk (st := sWorn) lyn cyn kyn
 have byn := Fyn.binds (ps := ["self", "block"]) fun _ _ _ _ _ _ us hl => match us, hl with | [_, _], _ => rfl
 have Fya := zZk (st := sWritten) lya cya kya
 have bya := Fya.binds (ps := ["self"]) fun _ _ _ _ _ _ us hl => match us, hl with | [_], _ => rfl
 have Fyd := zZk (st := sPower) lyd cyd kyd
 have byd := Fyd.binds (ps := ["self", "many"]) fun _ _ _ _ _ _ us hl => match us, hl with | [_, _], _ => rfl
 have Fyf := zZk (st := sWrite) lyf cyf kyf
 have byf := Fyf.binds (ps := ["self", "block", "page", "thing"]) fun _ _ _ _ _ _ us hl => match us, hl with | [_, _, _, _], _ => rfl
 have Fye := zZk (st := sErase) lye cye kye
 have bye := Fye.binds (ps := ["self", "block"]) fun _ _ _ _ _ _ us hl => match us, hl with | [_, _], _ => rfl
 have Fz9 := zZk (st := sCB) lz9 cz9 kz9
 have bz9 := Fz9.binds (ps := ["self", "block"]) fun _ _ _ _ _ _ us hl => match us, hl with | [_, _], _ => rfl
 have Fy1 := zZk (st := sCP) ly1 cy1 ky1
 have by1 := Fy1.binds (ps := ["self", "block", "page"]) fun _ _ _ _ _ _ us hl => match us, hl with | [_, _, _], _ => rfl
 have Fz0 := zZk (st := sCE) lz0 cz0 kz0
 have bz0 := Fz0.binds (ps := ["self", "block", "page"]) fun _ _ _ _ _ _ us hl => match us, hl with | [_, _, _], _ => rfl
 have Fy0 := zZk (st := sDraw) ly0 cy0 ky0
 have by0 := Fy0.binds (ps := ["self"]) fun _ _ _ _ _ _ us hl => match us, hl with | [_], _ => rfl
 have Fyj := zZk (st := sDInit) lyj cyj kyj
 have byj := Fyj.binds (ps := ["self", "chip", "many"]) fun _ _ _ _ _ _ us hl => match us, hl with | [_, _, _], _ => rfl
 have Fyc := zZk (st := sDSectors) lyc cyc kyc
 have byc := Fyc.binds (ps := ["self"]) fun _ _ _ _ _ _ us hl => match us, hl with | [_], _ => rfl
 have Fyk := zZk (st := sDRead) lyk cyk kyk
 have byk := Fyk.binds (ps := ["self", "sector"]) fun _ _ _ _ _ _ us hl => match us, hl with | [_, _], _ => rfl
 have Fyg := zZk (st := sDWrite) lyg cyg kyg
 have byg := Fyg.binds (ps := ["self", "sector", "content"]) fun _ _ _ _ _ _ us hl => match us, hl with | [_, _, _], _ => rfl
 have Fz3 := zZk (st := sDCheck) lz3 cz3 kz3
 have bz3 := Fz3.binds (ps := ["self", "sector"]) fun _ _ _ _ _ _ us hl => match us, hl with | [_, _], _ => rfl
 have Fz8 := zZk (st := sDBegin) lz8 cz8 kz8
 have bz8 := Fz8.binds (ps := ["self"]) fun _ _ _ _ _ _ us hl => match us, hl with | [_], _ => rfl
 have Fyh := zZk (st := sDClean) lyh cyh kyh
 have byh := Fyh.binds (ps := ["self", "block"]) fun _ _ _ _ _ _ us hl => match us, hl with | [_, _], _ => rfl
 have Fyq := zZk (st := sDPut) lyq cyq kyq
 have byq := Fyq.binds (ps := ["self", "sector", "content"]) fun _ _ _ _ _ _ us hl => match us, hl with | [_, _, _], _ => rfl
 have Fyb := zZk (st := sMounted) lyb cyb kyb
 have byb := Fyb.binds (ps := ["chip", "sectors"]) fun _ _ _ _ _ _ us hl => match us, hl with | [_, _], _ => rfl
 have Fym := zZk (st := sMend) lym cym kym
 have bym := Fym.binds (ps := ["chip"]) fun _ _ _ _ _ _ us hl => match us, hl with | [_], _ => rfl
 have Fy3 := zZk (st := sThings) ly3 cy3 ky3
 have by3 := Fy3.binds (ps := ["chip", "block"]) fun _ _ _ _ _ _ us hl => match us, hl with | [_, _], _ => rfl
 have Fy6 := zZk (st := sIsEr) ly6 cy6 ky6
 have by6 := Fy6.binds (ps := ["chip", "block"]) fun _ _ _ _ _ _ us hl => match us, hl with | [_, _], _ => rfl
 have Fz1 := zZk (st := sHasW) lz1 cz1 kz1
 have bz1 := Fz1.binds (ps := ["chip", "block"]) fun _ _ _ _ _ _ us hl => match us, hl with | [_, _], _ => rfl
 have Fz5 := zZk (st := sBehind) lz5 cz5 kz5
 have bz5 := Fz5.binds (ps := ["chip", "block"]) fun _ _ _ _ _ _ us hl => match us, hl with | [_, _], _ => rfl
 have Fz7 := zZk (st := sWholeP) lz7 cz7 kz7
 have bz7 := Fz7.binds (ps := ["chip"]) fun _ _ _ _ _ _ us hl => match us, hl with | [_], _ => rfl
 have Fz4 := zZk (st := sNewB) lz4 cz4 kz4
 have bz4 := Fz4.binds (ps := ["chip"]) fun _ _ _ _ _ _ us hl => match us, hl with | [_], _ => rfl
 have Fz2 := zZk (st := sNewP) lz2 cz2 kz2
 have bz2 := Fz2.binds (ps := ["chip", "many"]) fun _ _ _ _ _ _ us hl => match us, hl with | [_, _], _ => rfl
 have Fy2 := zZk (st := sLast) ly2 cy2 ky2
 have by2 := Fy2.binds (ps := ["chip"]) fun _ _ _ _ _ _ us hl => match us, hl with | [_], _ => rfl
 have Fy8 := zZk (st := sCell) ly8 cy8 ky8
 have by8 := Fy8.binds (ps := ["_law_script", "_law_k"]) fun _ _ _ _ _ _ us hl => match us, hl with | [_, _], _ => rfl
 have Fy4 := zZk (st := sDrawn) ly4 cy4 ky4
 have by4 := Fy4.binds (ps := ["_law_cell_here", "_law_k"]) fun _ _ _ _ _ _ us hl => match us, hl with | [_, _], _ => rfl
 have Fy9 := zZk (st := sWord) ly9 cy9 ky9
 have by9 := Fy9.binds (ps := ["_law_e"]) fun _ _ _ _ _ _ us hl => match us, hl with | [_], _ => rfl
 have Fz6 := zZk (st := sContent) lz6 cz6 kz6
 have bz6 := Fz6.binds (ps := ["_law_more"]) fun _ _ _ _ _ _ us hl => match us, hl with | [_], _ => rfl
 have Fy5 := zZk (st := sWears) ly5 cy5 ky5
 have by5 := Fy5.binds (ps := ["_law_chip"]) fun _ _ _ _ _ _ us hl => match us, hl with | [_], _ => rfl
 have Fy7 := zZk (st := sTold) ly7 cy7 ky7
 have by7 := Fy7.binds (ps := ["_law_deed"]) fun _ _ _ _ _ _ us hl => match us, hl with | [_], _ => rfl
 have Fyp := zZk (st := sLaw) lyp cyp kyp
 have byp := Fyp.binds (ps := ["_law_script"]) fun _ _ _ _ _ _ us hl => match us, hl with | [_], _ => rfl
 refine ⟨PySem.W.fnOf "law" "law" (defArgs sLaw) (defBody sLaw) (defScope sLaw) .none kVyp dcyp pmyp anyp (.ref cL) ctyp, cL, TT, tabIn_of ayp lyp rfl lcL v11, kT, fun s v => .of_eq rfl, fun base _ _ CT BT => ?_⟩
 have M_check_block : MtB l.prog w K mg base C _ "check_block" _ _ := ⟨_, _, wWk (P := l.prog) (w := w) (base := base) Fz9 T, bz9, ⟨az9, iz9, kz9⟩⟩
 have M_check_page : MtB l.prog w K mg base C _ "check_page" _ _ := ⟨_, _, ok_check_page (P := l.prog) (w := w) (base := base) Fy1 T M_check_block, by1, ⟨ay1, iy1, ky1⟩⟩
 have M_size : MtB l.prog w K mg base C _ "size" _ _ := ⟨_, _, ok_size (P := l.prog) (w := w) (base := base) Fyo T, byo, ⟨ayo, iyo, kyo⟩⟩
 have M_written : MtB l.prog w K mg base C _ "written" _ _ := ⟨_, _, ok_written (P := l.prog) (w := w) (base := base) Fya T, bya, ⟨aya, iya, kya⟩⟩
 have M_page : MtB l.prog w K mg base C _ "page" _ _ := ⟨_, _, ok_page (P := l.prog) (w := w) (base := base) Fyi T M_check_page, byi, ⟨ayi, iyi, kyi⟩⟩
 have M_worn : MtB l.prog w K mg base C _ "worn" _ _ := ⟨_, _, ok_worn (P := l.prog) (w := w) (base := base) Fyn T M_check_block, byn, ⟨ayn, iyn, kyn⟩⟩
 have M_power : MtB l.prog w K mg base C _ "power" _ _ := ⟨_, _, ok_power (P := l.prog) (w := w) (base := base) Fyd T, byd, ⟨ayd, iyd, kyd⟩⟩
 have M_draw_power : MtB l.prog w K mg base C _ "draw_power" _ _ := ⟨_, _, ok_draw (P := l.prog) (w := w) (base := base) Fy0 T, by0, ⟨ay0, iy0, ky0⟩⟩
 have M_check_erased_from : MtB l.prog w K mg base C _ "check_erased_from" _ _ := ⟨_, _, wQq (P := l.prog) (w := w) (base := base) Fz0 T, bz0, ⟨az0, iz0, kz0⟩⟩
 have M_write : MtB l.prog w K mg base C _ "write" _ _ := ⟨_, _, ok_write (P := l.prog) (w := w) (base := base) Fyf T M_check_page M_check_erased_from M_draw_power, byf, ⟨ayf, iyf, kyf⟩⟩
 have M_erase : MtB l.prog w K mg base C _ "erase" _ _ := ⟨_, _, ok_erase (P := l.prog) (w := w) (base := base) Fye T M_check_block M_draw_power, bye, ⟨aye, iye, kye⟩⟩
 have B_Chip : MkB l.prog w K mg base C _ "Chip" _ _ := ⟨_, _, ok_init (P := l.prog) (w := w) (base := base) Fyl T, byl, ⟨mk, ayl, iyl, kc⟩, T.g_Chip⟩
 have B_Chip0 := B_Chip
 rw [<- xpSize_eq] at M_size
 rw [<- xpPage_eq] at M_page
 rw [<- xpWritten_eq] at M_written
 rw [<- xpWorn_eq] at M_worn
 rw [<- xpPower_eq] at M_power
 rw [<- xpWrite_eq] at M_write
 rw [<- xpErase_eq] at M_erase
 rw [<- xpInit_eq] at B_Chip
 have B_things_on : FnB l.prog w K mg base _ "things_on" _ _ := ⟨_, _, ok_things (P := l.prog) (w := w) (base := base) Fy3 T M_size M_page, by3, PySem.W.mg_of X G ay3, ky3⟩
 have B_is_erased : FnB l.prog w K mg base _ "is_erased" _ _ := ⟨_, _, ok_isEr (P := l.prog) (w := w) (base := base) Fy6 T TD B_things_on, by6, PySem.W.mg_of X G ay6, ky6⟩
 have B_has_whole_page : FnB l.prog w K mg base _ "has_whole_page" _ _ := ⟨_, _, ok_hasW (P := l.prog) (w := w) (base := base) Fz1 T TD B_things_on, bz1, PySem.W.mg_of X G az1, kz1⟩
 have B_block_behind : FnB l.prog w K mg base _ "block_behind" _ _ := ⟨_, _, ok_behind (P := l.prog) (w := w) (base := base) Fz5 T M_size, bz5, PySem.W.mg_of X G az5, kz5⟩
 have B_whole_pages : FnB l.prog w K mg base _ "whole_pages" _ _ := ⟨_, _, ok_whole (P := l.prog) (w := w) (base := base) Fz7 T TD M_size M_page, bz7, PySem.W.mg_of X G az7, kz7⟩
 have B_newest_block : FnB l.prog w K mg base _ "newest_block" _ _ := ⟨_, _, ok_newB (P := l.prog) (w := w) (base := base) Fz4 T M_size B_whole_pages, bz4, PySem.W.mg_of X G az4, kz4⟩
 have B_newest_places : FnB l.prog w K mg base _ "newest_places" _ _ := ⟨_, _, ok_newP (P := l.prog) (w := w) (base := base) Fz2 T M_page B_whole_pages, bz2, PySem.W.mg_of X G az2, kz2⟩
 have B_last_block : FnB l.prog w K mg base _ "last_block" _ _ := ⟨_, _, ok_last (P := l.prog) (w := w) (base := base) Fy2 T M_size B_is_erased B_block_behind, by2, PySem.W.mg_of X G ay2, ky2⟩
 have B_mend : FnB l.prog w K mg base _ "mend" _ _ := ⟨_, _, ok_mend (P := l.prog) (w := w) (base := base) Fym T M_size M_erase B_is_erased B_has_whole_page B_block_behind B_newest_block, bym, PySem.W.mg_of X G aym, kym⟩
 have B_Disk : MkB l.prog w K mg base DK _ "Disk" _ _ := ⟨_, _, ok_dinit (P := l.prog) (w := w) (base := base) Fyj T TD B_newest_places B_last_block B_things_on, byj, ⟨mkD, ayj, iyj, kcD⟩, PySem.W.mg_of X G a_DK⟩
 have B_mounted : FnB l.prog w K mg base _ "mounted" _ _ := ⟨_, _, ok_mounted (P := l.prog) (w := w) (base := base) Fyb T TD M_size B_mend B_Disk, byb, PySem.W.mg_of X G ayb, kyb⟩
 have N_check_sector : MtB l.prog w K mg base DK _ "check_sector" _ _ := ⟨_, _, ok_dcheck (P := l.prog) (w := w) (base := base) Fz3 T TD, bz3, ⟨az3, iz3, kz3⟩⟩
 have N_sectors : MtB l.prog w K mg base DK _ "sectors" _ _ := ⟨_, _, ok_dsectors (C := C) (P := l.prog) (w := w) (base := base) Fyc TD, byc, ⟨ayc, iyc, kyc⟩⟩
 have N_read : MtB l.prog w K mg base DK _ "read" _ _ := ⟨_, _, ok_dread (P := l.prog) (w := w) (base := base) Fyk T TD M_page N_check_sector, byk, ⟨ayk, iyk, kyk⟩⟩
 have N_put : MtB l.prog w K mg base DK _ "put" _ _ := ⟨_, _, ok_dput (P := l.prog) (w := w) (base := base) Fyq T TD M_write M_written, byq, ⟨ayq, iyq, kyq⟩⟩
 have N_clean : MtB l.prog w K mg base DK _ "clean" _ _ := ⟨_, _, ok_dclean (P := l.prog) (w := w) (base := base) Fyh T TD M_size M_page M_erase N_put, byh, ⟨ayh, iyh, kyh⟩⟩
 have N_begin_block : MtB l.prog w K mg base DK _ "begin_block" _ _ := ⟨_, _, ok_dbegin (P := l.prog) (w := w) (base := base) Fz8 T TD B_block_behind B_is_erased N_clean, bz8, ⟨az8, iz8, kz8⟩⟩
 have N_write : MtB l.prog w K mg base DK _ "write" _ _ := ⟨_, _, ok_dwrite (P := l.prog) (w := w) (base := base) Fyg T TD M_size N_check_sector N_begin_block N_put, byg, ⟨ayg, iyg, kyg⟩⟩
 rw [<- xpMounted_eq] at B_mounted
 rw [<- xpDRead_eq] at N_read
 rw [<- xpDWrite_eq] at N_write
 have B_law_cell : FnB l.prog w K mg base _ "_law_cell" _ _ := ⟨_, _, ok_cell (P := l.prog) (w := w) (base := base) Fy8 T, by8, PySem.W.mg_of X G ay8, ky8⟩
 have B_law_drawn : FnB l.prog w K mg base _ "_law_drawn" _ _ := ⟨_, _, ok_drawn (P := l.prog) (w := w) (base := base) Fy4, by4, PySem.W.mg_of X G ay4, ky4⟩
 have B_law_word : FnBA l.prog w K mg base _ "_law_word" _ _ := ⟨_, _, ok_word (P := l.prog) (w := w) (base := base) Fy9 T W, by9, PySem.W.mg_of X G ay9, ky9⟩
 have B_law_content : FnB l.prog w K mg base _ "_law_content" _ _ := ⟨_, _, ok_content (P := l.prog) (w := w) (base := base) Fz6, bz6, PySem.W.mg_of X G az6, kz6⟩
 have B_law_wears : FnB l.prog w K mg base _ "_law_wears" _ _ := ⟨_, _, ok_wears (P := l.prog) (w := w) (base := base) Fy5 T M_size M_worn, by5, PySem.W.mg_of X G ay5, ky5⟩
 have B_law_told : FnBS l.prog w K mg base _ "_law_told" _ _ := ⟨_, _, ok_told (P := l.prog) (w := w) (base := base) Fy7 T W B_law_word, by7, PySem.W.mg_of X G ay7, ky7⟩
 exact ok_law lyp cyp T TD CT BT (PySem.W.mg_of X G a_DK) kI kDD B_law_drawn B_law_cell B_Chip B_mounted M_written B_law_wears B_law_content B_law_told N_write N_read N_sectors
theorem scr_of {K : PySem.W.Frag} {H : Hp} {a : Addr} {ns : List Int} (hO : Only H) (hS : SqL K H a (ns.map V.int)) : Scr K H a ns := by
 rcases hS with (h | ⟨o, h⟩) | h
 . rcases hO a with z | ⟨o, xs, z⟩
   . rw [z] at h; cases h
   . rw [z] at h; cases h
 . exact .inl ⟨o, h⟩
 . exact .inr (.inr h)
theorem walk {l : PySem.W.OpenLaw} {q : Program} {loose : List Str} {XP : (Str -> Option Value) -> Heap -> Prop} {YP : World -> Heap -> Prop} {d d0 : DefRec} {K : Params -> PySem.W.Frag} (hn : l.most = some 63) (hdf : d.params.defaults = [])
   (hY : ∀ (w : World) (h : Heap), YP w h -> (K w.params).In h) (hrec : (PyProof.Rows.recsOf q).find? (fun e => e.name == ("law" : Str)) = some d0)
   (F : ∀ (w : World) (mg : Str -> Option Value) (fa : Addr) (h : Heap), (K w.params).In h -> h.Ns mainGlobals mg -> mg d.name = some (.ref fa) ->
     ∃ (fd : FuncData) (c T : Addr), PySem.W.tabIn (K w.params) "law" = some (c, T) /\ (K w.params).lookup T = none /\ (∀ (s : Shared) (u : Value), BindsTo s fd ⟨[u], []⟩ [("_law_script", u)]) /\
       ∀ base : Heap, (K w.params).In base -> base.Ns mainGlobals mg -> PySem.W.CodeHd base c T -> base.BuiltinsAt mg T -> FnOk l.prog w (K w.params) mg base (CXw l.prog w) 63 fa fd ["_law_script"] (spLaw (K w.params) T)) :
   PySem.W.WalkO q loose XP YP l.row.toRowW d [] (fun f vs => PySem.call f vs) :=
 L2.walk_ofT (n := 63) (k := 63) (x := "_law_script") (nm := "law") (CX := fun w => CXw l.prog w) (sp := fun w T => spLaw (K w.params) T) hn (by decide) hdf ⟨fun _ => rfl, by decide, by decide⟩ hY hrec F
   (fun _ _ H a ns hl hO hS nT => ⟨a, ns, rfl, (scr_of hO hS).same (zWw nT), hl, ⟨#[], zQz, trivial, fun pos v e => nomatch e⟩, fun _ => rfl⟩) fun _ _ _ _ _ z => by
   obtain ⟨x, T, cls, H', _, _, _, _, _, _, _, _, _, _, z⟩ := z
   exact z
end Ev
open PySem PySem.W PyProof.Rows
set_option maxRecDepth 100000 in
set_option maxHeartbeats 0 in
theorem PySem.Challenge.cw_evenwear_k11_refused_at_the_disk_holds : PySem.Challenge.rw_evenwear_k11_refused_at_the_disk.Holds := by
 refine Ev.hd ?_
 k_fill
 refine Ev.walk (l := PySem.Challenge.rw_evenwear_k11_refused_at_the_disk) rfl rfl (fun w h Y => Y) rfl ?F
 case F =>
   intro w mg fa h KX G hmg
   refine' Ev.all_mk KX G hmg ?a_cWE ?a_cBS ?a_cNP ?a_cNE ?a_cNS ?a_cBC ?a_cCu ?a_C ?a_DK ?x_cBS ?x_cNP ?x_cNE ?x_cCu ?x_cNS ?x_cBC ?ex_Cu ?kt_non ?kt_str ?kt_tup ?pg ?hd ?po ?sa ?mk ?kc ?pgD ?hdD ?poD ?saD ?mkD ?kcD ?aB ?aP ?aH ?aE ?aW ?aL ?aD ?daC ?daM ?daP ?daB ?daF ?z_LB ?z_MB ?z_LP ?z_MP ?z_TO ?z_SB ?z_MC ?n_len ?n_range ?n_int ?n_list ?n_sum ?n_max ?n_min ?n_isinstance ?n_ValueError ?n_sorted ?n_all ?n_any ?n_tuple ?q_get ?q_tk ?at_DK ?ob_DK ?kDD ?ga_cBS ?gt_cBS ?cl_cBS ?at_cBS ?ob_cBS ?be_cBS ?k_cBS_cBS ?k_cBS_cNP ?k_cBS_cNE ?k_cBS_cNS ?k_cBS_cBC ?k_cBS_cCu ?kv_cBS ?ew_cBS ?ga_cNS ?gt_cNS ?cl_cNS ?at_cNS ?ob_cNS ?be_cNS ?k_cNS_cBS ?k_cNS_cNP ?k_cNS_cNE ?k_cNS_cNS ?k_cNS_cBC ?k_cNS_cCu ?kv_cNS ?ew_cNS ?ga_cBC ?gt_cBC ?cl_cBC ?at_cBC ?ob_cBC ?be_cBC ?k_cBC_cBS ?k_cBC_cNP ?k_cBC_cNE ?k_cBC_cNS ?k_cBC_cBC ?k_cBC_cCu ?kv_cBC ?ew_cBC ?ayl ?iyl ?lyl ?cyl ?kyl ?ayo ?iyo ?lyo ?cyo ?kyo ?ayi ?iyi ?lyi ?cyi ?kyi ?ayn ?iyn ?lyn ?cyn ?kyn ?aya ?iya ?lya ?cya ?kya ?ayd ?iyd ?lyd ?cyd ?kyd ?ayf ?iyf ?lyf ?cyf ?kyf ?aye ?iye ?lye ?cye ?kye ?az9 ?iz9 ?lz9 ?cz9 ?kz9 ?ay1 ?iy1 ?ly1 ?cy1 ?ky1 ?az0 ?iz0 ?lz0 ?cz0 ?kz0 ?ay0 ?iy0 ?ly0 ?cy0 ?ky0 ?ayj ?iyj ?lyj ?cyj ?kyj ?ayc ?iyc ?lyc ?cyc ?kyc ?ayk ?iyk ?lyk ?cyk ?kyk ?ayg ?iyg ?lyg ?cyg ?kyg ?az3 ?iz3 ?lz3 ?cz3 ?kz3 ?az8 ?iz8 ?lz8 ?cz8 ?kz8 ?ayh ?iyh ?lyh ?cyh ?kyh ?ayq ?iyq ?lyq ?cyq ?kyq ?ayb ?lyb ?cyb ?kyb ?aym ?lym ?cym ?kym ?ay3 ?ly3 ?cy3 ?ky3 ?ay6 ?ly6 ?cy6 ?ky6 ?az1 ?lz1 ?cz1 ?kz1 ?az5 ?lz5 ?cz5 ?kz5 ?az7 ?lz7 ?cz7 ?kz7 ?az4 ?lz4 ?cz4 ?kz4 ?az2 ?lz2 ?cz2 ?kz2 ?ay2 ?ly2 ?cy2 ?ky2 ?ay8 ?ly8 ?cy8 ?ky8 ?ay4 ?ly4 ?cy4 ?ky4 ?ay9 ?ly9 ?cy9 ?ky9 ?az6 ?lz6 ?cz6 ?kz6 ?ay5 ?ly5 ?cy5 ?ky5 ?ay7 ?ly7 ?cy7 ?ky7 ?ayp ?lyp ?cyp ?kyp ?lcL ?v11 ?kT
   (case a_cWE | a_cBS | a_cNP | a_cNE | a_cNS | a_cBC | a_cCu | a_C | a_DK => k_is)
   (case x_cBS | x_cNP | x_cNE | x_cCu | x_cNS | x_cBC => k_exc)
   (case ex_Cu => kts_exm)
   (case kt_non | kt_str | kt_tup => kit_is)
   (case pg | hd | po | sa | mk | kc | pgD | hdD | poD | saD | mkD | kcD | aB | aP | aH | aE | aW | aL | aD | daC | daM | daP | daB | daF | z_LB | z_MB | z_LP | z_MP | z_TO | z_SB | z_MC | n_len | n_range | n_int | n_list | n_sum | n_max | n_min | n_isinstance | n_ValueError | n_sorted | n_all | n_any | n_tuple | q_get | q_tk | at_DK | ob_DK => k_is)
   (case kDD => kit_is)
   (case ga_cBS | gt_cBS | cl_cBS | at_cBS | ob_cBS | be_cBS => k_is)
   (case k_cBS_cBS | k_cBS_cNP | k_cBS_cNE | k_cBS_cNS | k_cBS_cBC | k_cBS_cCu | kv_cBS => kit_is)
   (case ew_cBS => kts_exm)
   (case ga_cNS | gt_cNS | cl_cNS | at_cNS | ob_cNS | be_cNS => k_is)
   (case k_cNS_cBS | k_cNS_cNP | k_cNS_cNE | k_cNS_cNS | k_cNS_cBC | k_cNS_cCu | kv_cNS => kit_is)
   (case ew_cNS => kts_exm)
   (case ga_cBC | gt_cBC | cl_cBC | at_cBC | ob_cBC | be_cBC => k_is)
   (case k_cBC_cBS | k_cBC_cNP | k_cBC_cNE | k_cBC_cNS | k_cBC_cBC | k_cBC_cCu | kv_cBC => kit_is)
   (case ew_cBC => kts_exm)
   (case ayl | iyl | lyl | cyl | kyl | ayo | iyo | lyo | cyo | kyo | ayi | iyi | lyi | cyi | kyi | ayn | iyn | lyn | cyn | kyn | aya | iya | lya | cya | kya | ayd | iyd | lyd | cyd | kyd | ayf | iyf | lyf | cyf | kyf | aye | iye | lye | cye | kye | az9 | iz9 | lz9 | cz9 | kz9 | ay1 | iy1 | ly1 | cy1 | ky1 | az0 | iz0 | lz0 | cz0 | kz0 | ay0 | iy0 | ly0 | cy0 | ky0 | ayj | iyj | lyj | cyj | kyj | ayc | iyc | lyc | cyc | kyc | ayk | iyk | lyk | cyk | kyk | ayg | iyg | lyg | cyg | kyg | az3 | iz3 | lz3 | cz3 | kz3 | az8 | iz8 | lz8 | cz8 | kz8 | ayh | iyh | lyh | cyh | kyh | ayq | iyq | lyq | cyq | kyq | ayb | lyb | cyb | kyb | aym | lym | cym | kym | ay3 | ly3 | cy3 | ky3 | ay6 | ly6 | cy6 | ky6 | az1 | lz1 | cz1 | kz1 | az5 | lz5 | cz5 | kz5 | az7 | lz7 | cz7 | kz7 | az4 | lz4 | cz4 | kz4 | az2 | lz2 | cz2 | kz2 | ay2 | ly2 | cy2 | ky2 | ay8 | ly8 | cy8 | ky8 | ay4 | ly4 | cy4 | ky4 | ay9 | ly9 | cy9 | ky9 | az6 | lz6 | cz6 | kz6 | ay5 | ly5 | cy5 | ky5 | ay7 | ly7 | cy7 | ky7 | ayp | lyp | cyp | kyp | lcL => k_is)
   (case v11 => exact rfl)
   (case kT => first | k_is | kernel_rfl | exact rfl)
