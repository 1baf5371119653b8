import PyProof.Rows.All
import Wide.All
import OpenK.AllK
import Wide.FinOn
import Lean
import PyProof.EqAt
import PyProof.EqKinds
import PyProof.TupleCall
import PyProof.NeKinds
import PyProof.SumWalk
import PySem.Challenge.RW_evenwear_k10_chip
set_option Elab.async false
set_option linter.all false
set_option maxRecDepth 100000
/-! THE HAND LAYER, for ints, bools, texts, own classes, LISTS and tuples (index, slices, in, append, pop ..), calls, loops. Paste it whole ahead of your own text; what your proof does not reach may be deleted. -/
namespace L2
open PySem PySem.Spec PyProof.Rows

def isStar : Expr → Bool
  | .Starred _ _ => true
  | _ => false
theorem star_plain {e : Expr} {es : List Expr} {env : Env} (h : isStar e = false) : starEach (e :: es) env = (false, eval e env) :: starEach es env := by
  cases e <;> first | rfl | cases h
theorem any_plain {pos : Pos} {env : Env} : ∀ {es : List Expr}, (es.all fun e => !isStar e) = true → (backTo pos (starEach es env)).any (·.1) = false
  | [], _ => rfl
  | e :: es, h => by
    rw [List.all_cons, Bool.and_eq_true] at h
    rw [star_plain (by simpa using h.1)]
    show (false || (backTo pos (starEach es env)).any (·.1)) = false
    rw [any_plain h.2]
    rfl
/-- a key: an int or a str -/
abbrev Key := Sum Int Str
def keyIs : Key → Value → Bool
  | .inl k, v => Value.isInt k v
  | .inr x, v => Value.isStrOf x v
def keyH (w : World) : Key → Int
  | .inl k => hashInt k
  | .inr x => hashStr w x
theorem keyIs_shape : ∀ {k : Key} {v : Value}, keyIs k v = true → (∃ i t, k = Sum.inl i ∧ v = Value.int i t) ∨ (∃ x t, k = Sum.inr x ∧ v = Value.str x t)
  | .inl i, v, h => by
    obtain ⟨t, e⟩ := Value.isInt_shape (k := i) (v := v) h
    exact .inl ⟨i, t, rfl, e⟩
  | .inr x, v, h => by
    obtain ⟨t, e⟩ := Value.isStrOf_shape (x := x) (v := v) h
    exact .inr ⟨x, t, rfl, e⟩
theorem keyIs_int (i : Int) (t : Tok) : keyIs (.inl i) (.int i t) = true := by simp [keyIs, Value.isInt]
theorem keyIs_str (x : Str) (t : Tok) : keyIs (.inr x) (.str x t) = true := by simp [keyIs, Value.isStrOf]
theorem key_ll (a b : Int) : decide ((Sum.inl a : Key) = Sum.inl b) = (a == b) := by
  by_cases e : a = b
  · subst e; simp
  · have h : ¬ (Sum.inl a : Key) = Sum.inl b := fun q => e (Sum.inl.inj q)
    rw [decide_eq_false h]
    exact (beq_eq_false_iff_ne.mpr e).symm
theorem key_rr (a b : Str) : decide ((Sum.inr a : Key) = Sum.inr b) = decide (a = b) := by
  by_cases e : a = b
  · subst e; simp
  · have h : ¬ (Sum.inr a : Key) = Sum.inr b := fun q => e (Sum.inr.inj q)
    rw [decide_eq_false h, decide_eq_false e]
theorem key_lr (a : Int) (b : Str) : decide ((Sum.inl a : Key) = Sum.inr b) = false := decide_eq_false (fun q => nomatch q)
theorem key_rl (a : Str) (b : Int) : decide ((Sum.inr a : Key) = Sum.inl b) = false := decide_eq_false (fun q => nomatch q)

def mixKind (prog : Program) (w : World) : PySem.KeyKind prog w Key where
  is := keyIs
  hash := keyH w
  inj := fun v a b ha hb => by
    rcases keyIs_shape ha with ⟨i, t, rfl, rfl⟩ | ⟨x, t, rfl, rfl⟩
    · rcases keyIs_shape hb with ⟨j, u, rfl, e⟩ | ⟨y, u, rfl, e⟩
      · injection e with e1 _; rw [e1]
      · exact nomatch e
    · rcases keyIs_shape hb with ⟨j, u, rfl, e⟩ | ⟨y, u, rfl, e⟩
      · exact nomatch e
      · injection e with e1 _; rw [e1]
  byValue := fun k v h => by
    rcases keyIs_shape h with ⟨i, t, rfl, rfl⟩ | ⟨x, t, rfl, rfl⟩ <;> rfl
  pyHash := fun hv h => by
    rcases keyIs_shape hv with ⟨i, t, rfl, rfl⟩ | ⟨x, t, rfl, rfl⟩
    · exact wpAny_pyHash_int h
    · exact wpAny_pyHash_str h
  eqBool := fun hu hv h => by
    rcases keyIs_shape hu with ⟨i, t, rfl, rfl⟩ | ⟨x, t, rfl, rfl⟩
    · rcases keyIs_shape hv with ⟨j, u, rfl, rfl⟩ | ⟨y, u, rfl, rfl⟩
      · rw [key_ll] at h; exact wpAny_eqBool_int h
      · rw [key_lr] at h; exact SeqAt.EqAt.int_str i t y u _ _ _ _ h
    · rcases keyIs_shape hv with ⟨j, u, rfl, rfl⟩ | ⟨y, u, rfl, rfl⟩
      · rw [key_rl] at h; exact SeqAt.EqAt.str_int x t j u _ _ _ _ h
      · rw [key_rr] at h; exact wpAny_eqBool_str h
  «strs» := fun k x t v h => by
    rcases keyIs_shape h with ⟨i, u, rfl, e⟩ | ⟨y, u, rfl, e⟩
    · exact nomatch e
    · injection e with e1 _
      subst e1
      cases v <;> rfl

theorem mixKind_is (prog : Program) (w : World) (k : Key) (v : Value) : (mixKind prog w).is k v = keyIs k v := rfl
theorem mixKind_int (prog : Program) (w : World) (i : Int) (t : Tok) : (mixKind prog w).is (.inl i) (.int i t) = true := keyIs_int i t
theorem mixKind_str (prog : Program) (w : World) (x : Str) (t : Tok) : (mixKind prog w).is (.inr x) (.str x t) = true := keyIs_str x t
end L2

namespace L2
open PySem PySem.Spec PyProof.Rows

/-- a value, without the heap -/
inductive V where
  | non | bl (b : Bool) | int (i : Int) | str (x : Str) | byt (b : Array UInt8) | flt (b : UInt64) | ref (a : Addr) | ty (n : String)
  deriving DecidableEq

def RelV : V → Value → Prop
  | .non, u => u = Value.none
  | .bl b, u => u = Value.bool b
  | .int i, u => ∃ t, u = Value.int i t
  | .str x, u => ∃ t, u = Value.str x t
  | .byt b, u => ∃ t, u = Value.bytes b t
  | .flt b, u => ∃ t, u = Value.float b t
  | .ref a, u => u = Value.ref a
  | .ty n, u => u = Value.type n

abbrev Vals : List V → List Value → Prop := Paired RelV
theorem Vals.length {xs : List V} {us : List Value} (r : Vals xs us) : xs.length = us.length := Paired.length r
theorem Vals.get : ∀ {xs : List V} {us : List Value} {i : Nat} {x : V}, Vals xs us → xs[i]? = some x → ∃ u, us[i]? = some u ∧ RelV x u
  | _, _, _, _, .nil, e => by simp at e
  | _, _, 0, _, .cons r _, e => by simp at e; subst e; exact ⟨_, rfl, r⟩
  | _, _, i + 1, x, .cons _ t, e => by
    obtain ⟨u, h1, h2⟩ := Vals.get (i := i) (x := x) t (by simpa using e)
    exact ⟨u, by simpa using h1, h2⟩
theorem Vals.set {x : V} {u : Value} (r : RelV x u) : ∀ {xs : List V} {us : List Value} (i : Nat), Vals xs us → Vals (xs.set i x) (us.set i u)
  | _, _, _, .nil => .nil
  | _, _, 0, .cons _ t => .cons r t
  | _, _, i + 1, .cons q t => .cons q (Vals.set r i t)
theorem Vals.append : ∀ {xs ys : List V} {us ws : List Value}, Vals xs us → Vals ys ws → Vals (xs ++ ys) (us ++ ws)
  | _, _, _, _, .nil, s => s
  | _, _, _, _, .cons r t, s => .cons r (Vals.append t s)
theorem Vals.take : ∀ {xs : List V} {us : List Value} (n : Nat), Vals xs us → Vals (xs.take n) (us.take n)
  | _, _, 0, _ => .nil
  | _, _, _ + 1, .nil => .nil
  | _, _, n + 1, .cons r t => .cons r (Vals.take n t)
theorem Vals.drop : ∀ {xs : List V} {us : List Value} (n : Nat), Vals xs us → Vals (xs.drop n) (us.drop n)
  | _, _, 0, r => r
  | _, _, _ + 1, .nil => .nil
  | _, _, n + 1, .cons _ t => Vals.drop n t
theorem Vals.none_of : ∀ {xs : List V} {us : List Value} {i : Nat}, Vals xs us → xs[i]? = none → us[i]? = none := fun {xs us i} r e => by
  have h1 := r.length
  have h2 : xs.length ≤ i := List.getElem?_eq_none_iff.mp e
  exact List.getElem?_eq_none_iff.mpr (by omega)

def RelO : Option V → Option Value → Prop
  | some v, some u => RelV v u
  | none, none => True
  | _, _ => False
def KV {κ : Type} : List (κ × V) → List (κ × Value) → Prop := Paired fun (p : κ × V) (q : κ × Value) => p.1 = q.1 ∧ RelV p.2 q.2

/-- a key of a dict (00_mix): an int or a text -/
def kV : Key → V
  | .inl i => .int i
  | .inr x => .str x

/-- what stands at a tracked address -/
inductive HO where
  /-- a list -/
  | lst (xs : List V)
  /-- a tuple (never changes) -/
  | tup (xs : List V)
  /-- a dict whose keys are ints and texts; one whose keys are tuples of ints and texts (the empty one is both) -/
  | dK (kvs : List (Key × V)) | dT (kvs : List (List Key × V))
  /-- a set of ints: its members, its size -/
  | set (S : Int → Bool) (n : Nat)
  /-- an instance of the class at C, its dict at dx, its attributes -/
  | ins (C dx : Addr) (fs : List (Str × V))
  /-- the dict of the instance at x -/
  | own (x : Addr)
  /-- the dict of an exception -/
  | xd (fs : List (Str × V))
  /-- a bound method, f of x -/
  | met (f x : Addr)
  /-- a range object lo, lo + 1, .. below hi -/
  | rng (lo hi : Int)
  /-- a thing that is known to the object (the script; a dict while a loop walks it): read, never written while it is so -/
  | frz (o : Obj) (u : HO)
  /-- a code object's table -/
  | tbl (ps : Array Value)
  /-- any other thing, by what is true of its one object (a def of one's own: SetO a S n := HO.ext fun h => ..) -/
  | ext (φ : Heap → Prop)

abbrev Hp := Addr → Option HO
def upd (H : Hp) (a : Addr) (o : HO) : Hp := fun b => if b = a then some o else H b
theorem upd_same {H : Hp} {a : Addr} {o : HO} : upd H a o a = some o := by unfold upd; rw [if_pos rfl]
theorem upd_ne {H : Hp} {a b : Addr} {o : HO} (h : b ≠ a) : upd H a o b = H b := by unfold upd; rw [if_neg h]
theorem upd_upd {H : Hp} {a : Addr} {o u : HO} : upd (upd H a o) a u = upd H a u := by
  funext b; unfold upd; split <;> rfl
/-- two objects of different content stand apart -/
theorem ne_of {H : Hp} {a b : Addr} {o u : HO} (h : H a = some o) (h' : H b = some u) (d : o ≠ u) : a ≠ b := by
  intro e; subst e; rw [h] at h'; exact d (Option.some.inj h')
theorem ne_of_none {H : Hp} {a b : Addr} {o : HO} (h : H a = some o) (h' : H b = none) : a ≠ b := by
  intro e; subst e; rw [h] at h'; cases h'

section
variable (P : Program) (w : World)
def ObjOk (H : Hp) (h : Heap) (a : Addr) : HO → Prop
  | .lst xs => xs.length ≤ sizeLine ∧ ∃ (its : List Value) (n : Nat), Vals xs its ∧ h.get? a = some { cls := .type "list", data := .seq its.toArray n }
  | .tup xs => xs.length ≤ sizeLine ∧ ∃ its : List Value, Vals xs its ∧ IsTup h a its.toArray
  | .dK kvs => kvs.length ≤ sizeLine ∧ (a == sysModules) = false ∧ ∃ vs, KV kvs vs ∧ h.DictOf (mixKind P w) a vs
  | .dT kvs => kvs.length ≤ sizeLine ∧ (a == sysModules) = false ∧ ∃ xs : List (List Key × Addr × Value),
      Paired (fun (p : List Key × V) (q : List Key × Addr × Value) => p.1 = q.1 ∧ H q.2.1 = some (.tup (p.1.map kV)) ∧ RelV p.2 q.2.2) kvs xs ∧
      ∃ o es ep, h.get? a = some o ∧ o.ExactDict ∧ o.data = .dict es ep ∧ es.toList = xs.map (entryOfKey (tupleKind (mixKind P w))) ∧ (xs.map (·.1)).Nodup
  | .set S n => h.SetOf (intKind P w) a S n
  | .ins C dx fs => H dx = some (.own a) ∧ fs.length ≤ 1000 ∧ dx ≠ a ∧ h.get? a = some (PySem.W.instObj C dx) ∧
      ∃ mA, h.Ns1 dx mA ∧ (∀ f, RelO (fs.lookup f) (mA f)) ∧ PySem.Within mA (fs.map (·.1))
  | .own _ => ∃ o, h.get? a = some o
  | .xd fs => ∃ mA, h.Ns1 a mA ∧ ∀ f, RelO (fs.lookup f) (mA f)
  | .rng lo hi => ∃ t u v, h.get? a = some { cls := .type "range", data := .fields #[.int lo t, .int hi u, .int 1 v] }
  | .frz o u => h.get? a = some o ∧ ObjOk H h a u
  | .tbl ps => h.get? a = some { cls := .none, data := .fields ps }
  | .met f x => h.get? a = some (PySem.W.methodObj (.ref f) (.ref x))
  | .ext φ => φ h ∧ (∃ o, h.get? a = some o) ∧ ∀ h1 h2 : Heap, φ h1 → (∀ o, h1.get? a = some o → h2.get? a = some o) → φ h2
/-- the abstract heap is held -/
def HOk (H : Hp) (h : Heap) : Prop := ∀ a o, H a = some o → ObjOk P w H h a o
end

section
variable {P : Program} {w : World} {H H' : Hp} {h h' : Heap} {a : Addr} {o : HO}
theorem ObjOk.lt (x : ObjOk P w H h a o) : a < h.objs.size := by
  cases o with
  | lst xs => obtain ⟨_, _, _, _, e⟩ := x; exact Heap.lt_size e
  | tup xs => obtain ⟨_, _, _, p⟩ := x; exact p.lt
  | dK kvs => obtain ⟨_, _, _, _, o, _, _, e, _⟩ := x; exact Heap.lt_size e
  | dT kvs => obtain ⟨_, _, _, _, o, _, _, e, _⟩ := x; exact Heap.lt_size e
  | set S n => obtain ⟨o, _, _, _, e, _⟩ := x; exact Heap.lt_size e
  | ins C dx fs => obtain ⟨_, _, _, e, _⟩ := x; exact Heap.lt_size e
  | own y => obtain ⟨_, e⟩ := x; exact Heap.lt_size e
  | xd fs => obtain ⟨_, ⟨_, _, _, e, _⟩, _⟩ := x; exact Heap.lt_size e
  | rng lo hi => obtain ⟨_, _, _, e⟩ := x; exact Heap.lt_size e
  | frz ob u => obtain ⟨e, _⟩ := x; exact Heap.lt_size e
  | tbl ps => exact Heap.lt_size (show h.get? a = some _ from x)
  | met f y => exact Heap.lt_size (show h.get? a = some _ from x)
  | ext φ => obtain ⟨_, ⟨_, e⟩, _⟩ := x; exact Heap.lt_size e
theorem Paired.mapP {α β : Type} {F G : α → β → Prop} : ∀ {l₁ : List α} {l₂ : List β}, Paired F l₁ l₂ → (∀ a b, F a b → G a b) → Paired G l₁ l₂
  | _, _, .nil, _ => .nil
  | _, _, .cons r t, f => .cons (f _ _ r) (Paired.mapP t f)
theorem Paired.imp' {α β : Type} {F G : α → β → Prop} (f : ∀ a b, F a b → G a b) {l₁ : List α} {l₂ : List β} (r : Paired F l₁ l₂) : Paired G l₁ l₂ := Paired.mapP r f
/-- what an object's description leans on: its own object, its own dict, the tuples -/
theorem ObjOk.stay (x : ObjOk P w H h a o) (k : ∀ b u, (b = a ∨ H b = some (.own a)) → h.get? b = some u → h'.get? b = some u)
    (ho : ∀ b, H b = some (.own a) → H' b = some (.own a)) (ht : ∀ b xs, H b = some (.tup xs) → H' b = some (.tup xs)) : ObjOk P w H' h' a o := by
  induction o with
  | lst xs => obtain ⟨z, its, n, r, e⟩ := x; exact ⟨z, its, n, r, k _ _ (.inl rfl) e⟩
  | tup xs => obtain ⟨z, its, r, ob, e, c⟩ := x; exact ⟨z, its, r, ob, k _ _ (.inl rfl) e, c⟩
  | dK kvs => obtain ⟨z, y, vs, r, ob, es, ep, e, c⟩ := x; exact ⟨z, y, vs, r, ob, es, ep, k _ _ (.inl rfl) e, c⟩
  | dT kvs =>
    obtain ⟨z, y, xs, r, ob, es, ep, e, c⟩ := x
    exact ⟨z, y, xs, Paired.mapP r fun p q z => ⟨z.1, ht _ _ z.2.1, z.2.2⟩, ob, es, ep, k _ _ (.inl rfl) e, c⟩
  | set S n => obtain ⟨ob, es, ep, t, e, c⟩ := x; exact ⟨ob, es, ep, t, k _ _ (.inl rfl) e, c⟩
  | ins C dx fs =>
    obtain ⟨d, z, ne, e, mA, ⟨od, es, ep, e2, c⟩, r⟩ := x
    exact ⟨ho _ d, z, ne, k _ _ (.inl rfl) e, mA, ⟨od, es, ep, k _ _ (.inr d) e2, c⟩, r⟩
  | own y => obtain ⟨ob, e⟩ := x; exact ⟨ob, k _ _ (.inl rfl) e⟩
  | xd fs => obtain ⟨mA, ⟨od, es, ep, e, c⟩, r⟩ := x; exact ⟨mA, ⟨od, es, ep, k _ _ (.inl rfl) e, c⟩, r⟩
  | rng lo hi => obtain ⟨t, u, v, e⟩ := x; exact ⟨t, u, v, k _ _ (.inl rfl) e⟩
  | frz ob u ih => obtain ⟨e, q⟩ := x; exact ⟨k _ _ (.inl rfl) e, ih q⟩
  | tbl ps =>
    have e : h.get? a = some { cls := .none, data := .fields ps } := x
    show h'.get? a = some { cls := .none, data := .fields ps }
    exact k a _ (.inl rfl) e
  | met f y =>
    have e : h.get? a = some (PySem.W.methodObj (.ref f) (.ref y)) := x
    show h'.get? a = some (PySem.W.methodObj (.ref f) (.ref y))
    exact k a _ (.inl rfl) e
  | ext φ => obtain ⟨p, ⟨o, e⟩, st⟩ := x; exact ⟨st _ _ p fun o q => k _ _ (.inl rfl) q, ⟨o, k _ _ (.inl rfl) e⟩, st⟩
theorem HOk.lt (x : HOk P w H h) (e : H a = some o) : a < h.objs.size := (x a o e).lt
theorem HOk.fresh (x : HOk P w H h) (e : h.objs.size ≤ a) : H a = none := by
  cases q : H a with
  | none => rfl
  | some u => exact absurd (Nat.lt_of_lt_of_le (x.lt q) e) (Nat.lt_irrefl _)
/-- every object of the heap is kept -/
theorem HOk.kept (x : HOk P w H h) (k : ∀ b u, h.get? b = some u → h'.get? b = some u) : HOk P w H h' := fun a o e =>
  (x a o e).stay (fun b u _ q => k b u q) (fun _ q => q) fun _ _ q => q
/-- a new object is laid and tracked -/
theorem HOk.laid (x : HOk P w H h) (k : ∀ b u, h.get? b = some u → h'.get? b = some u) (hp : h.objs.size ≤ a) (new : ObjOk P w (upd H a o) h' a o) : HOk P w (upd H a o) h' := fun b u e => by
  have hn := x.fresh hp
  by_cases hb : b = a
  · subst hb; rw [upd_same] at e; cases e; exact new
  · rw [upd_ne hb] at e
    exact (x b u e).stay (fun c v _ q => k c v q) (fun c q => by rw [upd_ne (ne_of_none q hn)]; exact q) fun c xs q => by rw [upd_ne (ne_of_none q hn)]; exact q
end

/-- what may be read as u: it is u, or a known u -/
def Rd (H : Hp) (a : Addr) (u : HO) : Prop := H a = some u ∨ ∃ o, H a = some (.frz o u)
theorem Rd.of {H : Hp} {a : Addr} {u : HO} (h : H a = some u) : Rd H a u := .inl h
theorem Rd.ok {P : Program} {w : World} {H : Hp} {h : Heap} {a : Addr} {u : HO} (r : Rd H a u) (x : HOk P w H h) : ObjOk P w H h a u := by
  rcases r with r | ⟨o, r⟩
  · exact x a u r
  · obtain ⟨_, q⟩ := x a _ r
    exact q
/-- what may be written -/
def Mut : Option HO → Prop
  | some (.lst _) => True
  | some (.dK _) => True
  | some (.dT _) => True
  | some (.set _ _) => True
  | some (.ins _ _ _) => True
  | some (.ext _) => True
  | _ => False
section
variable {P : Program} {w : World} {H : Hp} {h h' : Heap} {x e : Addr} {o' : HO}
/-- the object at e is changed: x itself, or the dict of the instance x -/
theorem HOk.write (ok : HOk P w H h) (mu : Mut (H x)) (he : e = x ∨ H e = some (.own x)) (k : ∀ b u, b ≠ e → h.get? b = some u → h'.get? b = some u) (heo : ∃ u, h'.get? e = some u)
    (new : ObjOk P w (upd H x o') h' x o') : HOk P w (upd H x o') h' := fun b u q => by
  have nown : ∀ c y, H c = some (.own y) → c ≠ x := fun c y r z => by subst z; rw [r] at mu; exact mu
  have ntup : ∀ c xs, H c = some (.tup xs) → c ≠ x := fun c xs r z => by subst z; rw [r] at mu; exact mu
  by_cases hb : b = x
  · subst hb; rw [upd_same] at q; cases q; exact new
  · rw [upd_ne hb] at q
    by_cases hbe : b = e
    · have q' : H b = some (.own x) := by
        rcases he with z | z
        · exact absurd (hbe.trans z) hb
        · rw [hbe]; exact z
      rw [q] at q'; cases q'
      obtain ⟨v, hv⟩ := heo
      exact ⟨v, by rw [hbe]; exact hv⟩
    · refine (ok b u q).stay (fun c v hc r => k c v ?_ r) (fun c r => by rw [upd_ne (nown c b r)]; exact r) fun c xs r => by rw [upd_ne (ntup c xs r)]; exact r
      rcases hc with rfl | hc
      · exact hbe
      · rintro rfl
        rcases he with z | z
        · exact nown c b hc z
        · rw [hc] at z; cases z; exact hb rfl
end

/-! ### kept unless tracked; of the frames at fs (the callers') the slots may change (an exception that passes writes there); of the records at ex (iterators) nothing is said -/
structure Un (fs ex : List Addr) (H H' : Hp) (h h' : Heap) : Prop where
  keep : ∀ b o, h.get? b = some o → H b = none → b ∉ fs → b ∉ ex → h'.get? b = some o
  slot : ∀ b o, h.get? b = some o → H b = none → b ∈ fs → b ∉ ex → ∃ sl, h'.get? b = some { o with slots := sl }
  free : ∀ b o, h.get? b = some o → H b = none → b ∉ ex → H' b = none
  there : ∀ b o, h.get? b = some o → b ∉ ex → ∃ o', h'.get? b = some o'
  tups : ∀ b xs, H b = some (.tup xs) → H' b = some (.tup xs)
  frzs : ∀ b o u, H b = some (.frz o u) → H' b = some (.frz o u)
  tbls : ∀ b ps, H b = some (.tbl ps) → ∃ more, H' b = some (.tbl (ps ++ more))
section
variable {fs fs' ex ex' : List Addr} {H H1 H2 : Hp} {h h1 h2 h' : Heap} {a x e : Addr} {o : HO}
theorem Un.any (u : Un fs ex H H1 h h1) {b : Addr} {ob : Obj} (q : h.get? b = some ob) (n : H b = none) (hx : b ∉ ex) : ∃ sl, h1.get? b = some { ob with slots := sl } := by
  by_cases hb : b ∈ fs
  · exact u.slot b ob q n hb hx
  · exact ⟨ob.slots, u.keep b ob q n hb hx⟩
theorem Un.trans (a : Un fs ex H H1 h h1) (b : Un fs ex H1 H2 h1 h2) : Un fs ex H H2 h h2 where
  keep := fun c ob q n hc hx => b.keep c ob (a.keep c ob q n hc hx) (a.free c ob q n hx) hc hx
  slot := fun c ob q n hc hx => by
    obtain ⟨sl, e1⟩ := a.slot c ob q n hc hx
    obtain ⟨sl', e2⟩ := b.slot c _ e1 (a.free c ob q n hx) hc hx
    exact ⟨sl', e2⟩
  free := fun c ob q n hx => by
    obtain ⟨o', e1⟩ := a.there c ob q hx
    exact b.free c o' e1 (a.free c ob q n hx) hx
  there := fun c ob q hx => by
    obtain ⟨o', e1⟩ := a.there c ob q hx
    exact b.there c o' e1 hx
  tups := fun c xs q => b.tups c xs (a.tups c xs q)
  frzs := fun c ob xs q => b.frzs c ob xs (a.frzs c ob xs q)
  tbls := fun c ps q => by
    obtain ⟨m1, e1⟩ := a.tbls c ps q
    obtain ⟨m2, e2⟩ := b.tbls c _ e1
    exact ⟨m1 ++ m2, by rw [e2, Array.append_assoc]⟩
theorem Un.kept (k : ∀ b u, h.get? b = some u → h'.get? b = some u) : Un fs ex H H h h' :=
  ⟨fun b ob q _ _ _ => k b ob q, fun b ob q _ _ _ => ⟨ob.slots, k b ob q⟩, fun _ _ _ n _ => n, fun b ob q _ => ⟨ob, k b ob q⟩, fun _ _ q => q, fun _ _ _ q => q, fun _ ps q => ⟨#[], by rw [q]; simp⟩⟩
theorem Un.refl : Un fs ex H H h h := Un.kept fun _ _ q => q
theorem Un.laid (k : ∀ b u, h.get? b = some u → h'.get? b = some u) (hp : h.objs.size ≤ a) (hn : H a = none) : Un fs ex H (upd H a o) h h' where
  keep := fun b u q _ _ _ => k b u q
  slot := fun b u q _ _ _ => ⟨u.slots, k b u q⟩
  free := fun b u q n _ => by rw [upd_ne (Nat.ne_of_lt (Nat.lt_of_lt_of_le (Heap.lt_size q) hp))]; exact n
  there := fun b u q _ => ⟨u, k b u q⟩
  tups := fun b xs q => by rw [upd_ne (ne_of_none q hn)]; exact q
  frzs := fun b u xs q => by rw [upd_ne (ne_of_none q hn)]; exact q
  tbls := fun b ps q => ⟨#[], by rw [upd_ne (ne_of_none q hn), q]; simp⟩
theorem Un.write (mu : Mut (H x)) (he : e = x ∨ H e = some (.own x)) (k : ∀ b u, b ≠ e → h.get? b = some u → h'.get? b = some u) (heo : ∃ u, h'.get? e = some u) : Un fs ex H (upd H x o) h h' := by
  have hx : ∀ b, H b = none → b ≠ x := fun b n z => by subst z; rw [n] at mu; exact mu
  have hb : ∀ b, H b = none → b ≠ e := fun b n z => by
    subst z
    rcases he with r | r
    · exact hx b n r
    · rw [n] at r; cases r
  have hm : ∀ b u, H b = some u → ¬ Mut (some u) → b ≠ x := fun b u q nm z => by subst z; rw [q] at mu; exact nm mu
  refine ⟨fun b u q n _ _ => k b u (hb b n) q, fun b u q n _ _ => ⟨u.slots, k b u (hb b n) q⟩, fun b u q n _ => by rw [upd_ne (hx b n)]; exact n, fun b u q _ => ?_,
    fun b xs q => by rw [upd_ne (hm b _ q fun z => z)]; exact q, fun b u xs q => by rw [upd_ne (hm b _ q fun z => z)]; exact q, fun b ps q => ⟨#[], by rw [upd_ne (hm b _ q fun z => z), q]; simp⟩⟩
  by_cases hbe : b = e
  · subst hbe; exact heo
  · exact ⟨u, k b u hbe q⟩
theorem Un.mono (u : Un fs ex H H1 h h1) (hs : ∀ b ∈ fs, b ∈ fs') (hx : ∀ b ∈ ex, b ∈ ex') : Un fs' ex' H H1 h h1 :=
  ⟨fun b ob q n hb he => u.keep b ob q n (fun z => hb (hs b z)) fun z => he (hx b z), fun _ _ q n _ he => u.any q n fun z => he (hx _ z), fun b ob q n he => u.free b ob q n fun z => he (hx b z), fun b ob q he => u.there b ob q fun z => he (hx b z), u.tups, u.frzs, u.tbls⟩
end

/-! ### the heap without what is tracked -/
def trk (h : Heap) (H : Hp) : List Addr := (List.range h.objs.size).filter fun a => (H a).isSome
def hidT (h : Heap) (H : Hp) : Heap := PySem.W.hideAll h (trk h H)
theorem hidT_size (h : Heap) (H : Hp) : (hidT h H).objs.size = h.objs.size := PySem.W.hideAll_size _ _
theorem hidT_get {h : Heap} {H : Hp} {b : Addr} {o : Obj} (e : h.get? b = some o) (n : H b = none) : (hidT h H).get? b = some o :=
  PySem.W.hideAll_get _ e fun hm => by
    have q : (H b).isSome = true := (List.mem_filter.mp hm).2
    rw [n] at q; simp at q
theorem of_hidT {h : Heap} {H : Hp} {b : Addr} {o : Obj} (e : (hidT h H).get? b = some o) : h.get? b = some o ∧ H b = none := by
  have e' : h.get? b = some o := PySem.W.of_hideAll (trk h H) e
  refine ⟨e', ?_⟩
  cases q : H b with
  | none => rfl
  | some x =>
    have hm : b ∈ trk h H := List.mem_filter.mpr ⟨List.mem_range.mpr (Heap.lt_size e'), by simp [q]⟩
    have z : (hidT h H).get? b = none := PySem.W.hideAll_none (trk h H) hm
    rw [z] at e; cases e

/-! ### OpenK's ledger, filled with every new object but one -/
def allNews (g h : Heap) (L : Addr) : List (Addr × Obj) := (List.range h.objs.size).filterMap fun a => if a = L ∨ (g.get? a).isSome = true then none else (h.get? a).map fun o => (a, o)
theorem mem_allNews {g h : Heap} {L a : Addr} {o : Obj} (h1 : a ≠ L) (h2 : g.get? a = none) (h3 : h.get? a = some o) : (a, o) ∈ allNews g h L :=
  List.mem_filterMap.mpr ⟨a, List.mem_range.mpr (Heap.lt_size h3), by simp [h1, h2, h3]⟩
theorem of_mem_allNews {g h : Heap} {L : Addr} {p : Addr × Obj} (hp : p ∈ allNews g h L) : p.1 ≠ L ∧ g.get? p.1 = none ∧ h.get? p.1 = some p.2 := by
  obtain ⟨b, _, e⟩ := List.mem_filterMap.mp hp
  split at e
  · cases e
  · rename_i hn
    cases q : h.get? b with
    | none => rw [q] at e; simp at e
    | some u =>
      rw [q] at e
      simp only [Option.map_some, Option.some.injEq] at e
      subst e
      refine ⟨fun z => hn (.inl z), ?_, q⟩
      show g.get? b = none
      cases r : g.get? b with
      | none => rfl
      | some v => exact (hn (.inr (by simp [r]))).elim
def rest (g h : Heap) (L d : Addr) : List (Addr × Obj) := (allNews g h L).filter fun p => decide (p.1 ≠ d)
theorem rest_ne {g h : Heap} {L d : Addr} : ∀ p ∈ rest g h L d, p.1 ≠ d := fun p hp => of_decide_eq_true (List.mem_filter.mp hp).2
theorem mem_rest {g h : Heap} {L d a : Addr} {o : Obj} (h1 : a ≠ L) (h2 : g.get? a = none) (h3 : h.get? a = some o) (h4 : a ≠ d) : (a, o) ∈ rest g h L d :=
  List.mem_filter.mpr ⟨mem_allNews h1 h2 h3, decide_eq_true h4⟩
theorem news_all {g h : Heap} {L : Addr} : News g L h (allNews g h L) := fun p hp => let ⟨a, b, c⟩ := of_mem_allNews hp; ⟨c, a, b⟩
theorem news_at {g h : Heap} {L d : Addr} {o : Obj} (h1 : d ≠ L) (h2 : g.get? d = none) (h3 : h.get? d = some o) : News g L h ((d, o) :: rest g h L d) := fun p hp => by
  rcases List.mem_cons.mp hp with rfl | hp
  · exact ⟨h3, h1, h2⟩
  · exact news_all p (List.mem_filter.mp hp).1
/-- behind a rule that changed d alone: all else but the frame is kept -/
theorem kept_of_news {g h h' : Heap} {L d : Addr} {m : Str → Option Value} (k : ∀ b o, g.get? b = some o → h.get? b = some o) (F : Fr g L h' m) (N : News g L h' (rest g h L d)) :
    ∀ b o, b ≠ L → b ≠ d → h.get? b = some o → h'.get? b = some o := fun b o h1 h2 e => by
  cases q : g.get? b with
  | some u =>
    have := k b u q
    rw [e] at this; cases this
    exact F.keep b _ q
  | none => exact (N (b, o) (mem_rest h1 q e h2)).1
end L2

namespace L2
open PySem PySem.Spec PyProof.Rows

/-- the module's facts, over the base: the heap at the law's entry without what is tracked there -/
structure Mod (K : PySem.W.Frag) (mg : Str → Option Value) (base : Heap) : Prop where
  kin : K.In base
  glob : base.Ns mainGlobals mg
  blt : ∃ mb, base.Ns builtinsNs mb ∧ ∀ x : Str, x ≠ "__name__" → mb x = bootBuiltins x
  nolimit : base.NoLimit

/-- the context: a def's body (or a comprehension's block) running. base: fixed through the whole law; s₀, H₀: the entry; outer: the frames whose slots others may change (a def's callers); stack: all frames that run;
   ex: iterators that were made ahead of the entry and are walked here (a comprehension's); fn: the names whose cells were made at the entry (a def: all; a comprehension's block: its own); calm: not within an except suite; pn: pins that every state bears; xe: what is wanted of an exception that leaves the code -/
structure Cx where
  prog : Program
  w : World
  K : PySem.W.Frag
  mg : Str → Option Value
  base : Heap
  A : Around
  N : List Str
  s₀ : Shared
  H₀ : Hp
  env : Env
  outer : List Env
  stack : List Env
  ex : List Addr
  fn : Str → Bool
  calm : Bool
  pn : List (Addr × Obj)
  xe : Value → Shared → Prop
/-- the callers' frames -/
def frs (l : List Env) : List Addr := l.filterMap (·.frame)
abbrev Cx.fs (X : Cx) : List Addr := frs X.outer

def Vis (sc : Scope) (x : Str) : Prop := sc.names.lookup x = some .local ∨ sc.names.lookup x = some .cell ∨ sc.names.lookup x = some .free
def Loc (sc : Scope) (x : Str) : Prop := sc.names.lookup x = some .local ∨ sc.names.lookup x = some .cell
def Look (env : Env) (h : Heap) (m : Str → Option Value) (x : Str) (u : Value) : Prop :=
  (env.kindOf x = some .local ∧ m x = some u) ∨ ((env.kindOf x = some .cell ∨ env.kindOf x = some .free) ∧ ∃ c, env.cells.lookup x = some c ∧ h.IsCell c (some u))

structure Cx.Ok (X : Cx) : Prop where
  mod : Mod X.K X.mg X.base
  kind : X.env.scope.kind = .function
  glob : X.env.globals = mainGlobals
  blt : X.env.builtins = builtinsNs
  above : X.s₀.heap.objs.size ≤ X.env.locals
  inj : ∀ x y c, X.env.cells.lookup x = some c → X.env.cells.lookup y = some c → x = y
  has : ∀ x, (X.env.kindOf x = some .cell ∨ X.env.kindOf x = some .free) → ∃ c, X.env.cells.lookup x = some c
  cab : ∀ x c, X.fn x = true → X.env.cells.lookup x = some c → X.s₀.heap.objs.size ≤ c
  hd : X.calm = true → X.A.handled = none
  frames : X.A.frames = some X.stack
  stk : X.stack = X.outer ∨ (X.stack = X.env :: X.outer ∧ X.env.frame = some X.env.locals)
  exf : ∀ b ∈ X.ex, b ≠ X.env.locals ∧ ∀ x c, X.env.cells.lookup x = some c → c ≠ b
  bs : ∀ b o, X.base.get? b = some o → X.s₀.heap.get? b = some o ∧ X.H₀ b = none
  bsz : X.base.objs.size ≤ X.s₀.heap.objs.size
  noex : ∀ b o, X.base.get? b = some o → b ∉ X.ex
  exfs : ∀ b ∈ X.ex, b ∉ X.fs
  funs : X.s₀.heap.FunFrames X.base X.outer
  frf : ∀ b ∈ X.fs, X.H₀ b = none

structure Inv (X : Cx) (pins : List (Addr × Obj)) (σ : List (Option V)) (H : Hp) (s : Shared) : Prop where
  ok : X.Ok
  os : s.os = X.s₀.os
  bare : AllBare s.gens
  base : Un X.fs X.ex X.H₀ H X.s₀.heap s.heap
  loc : ∃ m, s.heap.Ns X.env.locals m ∧ ∀ (i : Nat) (x : Str) (v : V), X.N[i]? = some x → σ[i]? = some (some v) → Vis X.env.scope x → ∃ u, RelV v u ∧ Look X.env s.heap m x u
  cell : ∀ x c, X.env.cells.lookup x = some c → ∃ v, s.heap.IsCell c v
  free : H X.env.locals = none
  freeC : ∀ x c, X.env.cells.lookup x = some c → H c = none
  pin : ∀ p ∈ X.pn ++ pins, s.heap.get? p.1 = some p.2 ∧ H p.1 = none ∧ p.1 ≠ X.env.locals ∧ p.1 ∉ X.fs ∧ ∀ v, p.2.data ≠ .cell v
  hok : HOk X.prog X.w H s.heap
  len : σ.length = X.N.length

section
variable {X : Cx} {pins : List (Addr × Obj)} {σ : List (Option V)} {H H' : Hp} {s : Shared} {h' : Heap}

theorem Cx.Ok.nofr (ok : X.Ok) {b : Addr} {o : Obj} (e : X.base.get? b = some o) : b ∉ X.fs := fun hb => by
  have := (ok.funs.mem hb).1
  rw [e] at this; cases this
theorem Inv.bs (I : Inv X pins σ H s) : ∀ b o, X.base.get? b = some o → s.heap.get? b = some o ∧ H b = none := fun b o e =>
  ⟨I.base.keep b o (I.ok.bs b o e).1 (I.ok.bs b o e).2 (I.ok.nofr e) (I.ok.noex b o e), I.base.free b o (I.ok.bs b o e).1 (I.ok.bs b o e).2 (I.ok.noex b o e)⟩
theorem Inv.bk (I : Inv X pins σ H s) : ∀ b o, X.base.get? b = some o → s.heap.get? b = some o := fun b o e => (I.bs b o e).1
theorem Inv.mod (I : Inv X pins σ H s) : Mod X.K X.mg X.base := I.ok.mod
theorem Inv.kIn (I : Inv X pins σ H s) : X.K.In s.heap := I.ok.mod.kin.keeps I.bk
theorem Inv.nolimit (I : Inv X pins σ H s) : s.heap.NoLimit := I.ok.mod.nolimit.keeps I.bk
/-- the frame over the base: for OpenK's rules (K.In X.base is I.mod.kin) -/
theorem Inv.fr (I : Inv X pins σ H s) : ∃ m, Fr X.base X.env.locals s.heap m :=
  let ⟨m, hn, _⟩ := I.loc
  ⟨m, hn, I.bk, Nat.le_trans I.ok.bsz I.ok.above⟩
theorem Inv.lt (I : Inv X pins σ H s) : X.env.locals < s.heap.objs.size := let ⟨_, hn, _⟩ := I.loc; hn.lt
theorem Inv.sz (I : Inv X pins σ H s) : X.s₀.heap.objs.size ≤ s.heap.objs.size := Nat.le_trans I.ok.above (Nat.le_of_lt I.lt)
theorem Inv.nofs (I : Inv X pins σ H s) {a : Addr} (h : s.heap.objs.size ≤ a) : a ∉ X.fs := fun hb => by
  obtain ⟨_, o, ho, _⟩ := I.ok.funs.mem hb
  exact absurd (Nat.lt_of_lt_of_le (Heap.lt_size ho) (Nat.le_trans I.sz h)) (Nat.lt_irrefl _)
theorem Inv.cne (I : Inv X pins σ H s) : ∀ x c, X.env.cells.lookup x = some c → c ≠ X.env.locals := fun x c e z => by
  obtain ⟨v, o, ho, hd⟩ := I.cell x c e
  obtain ⟨m, ⟨o', es, ep, ho', hd', _⟩, _⟩ := I.loc
  rw [z, ho'] at ho; cases ho; rw [hd'] at hd; cases hd
theorem Inv.funs (I : Inv X pins σ H s) : s.heap.FunFrames X.base X.outer := by
  have all : ∀ (l : List Env), (∀ b ∈ frs l, b ∈ X.fs) → X.s₀.heap.FunFrames X.base l → s.heap.FunFrames X.base l := by
    intro l
    induction l with
    | nil => intro _ _; trivial
    | cons env r ih =>
      intro hs hl
      obtain ⟨hk, ⟨L, o, hf, hn, ho, hd⟩, hr⟩ := hl
      have hL : L ∈ X.fs := hs L (by unfold frs; rw [List.filterMap_cons, hf]; exact List.mem_cons_self)
      obtain ⟨sl, e⟩ := I.base.slot L o ho (I.ok.frf L hL) hL fun z => I.ok.exfs L z hL
      exact ⟨hk, ⟨L, _, hf, hn, e, hd⟩, ih (fun b hb => hs b (by unfold frs; rw [List.filterMap_cons, hf]; exact List.mem_cons_of_mem _ hb)) hr⟩
  exact all X.outer (fun _ hb => hb) I.ok.funs

/-- the frames that run, for a call -/
theorem Inv.stack (I : Inv X pins σ H s) : s.heap.FunFrames X.base X.stack := by
  rcases I.ok.stk with e | ⟨e, hf⟩
  · rw [e]; exact I.funs
  · rw [e]
    obtain ⟨m, hn, _⟩ := I.loc
    refine .cons (by rw [I.ok.kind]; decide) hf hn ?_ I.funs
    exact Heap.get?_none_of_le (Nat.le_trans I.ok.bsz I.ok.above)
theorem Inv.stkSub (I : Inv X pins σ H s) : ∀ b ∈ frs X.stack, b ∈ X.env.locals :: X.fs := fun b hb => by
  rcases I.ok.stk with e | ⟨e, hf⟩
  · rw [e] at hb; exact List.mem_cons_of_mem _ hb
  · rw [e] at hb
    unfold frs at hb
    rw [List.filterMap_cons, hf] at hb
    exact hb
theorem Inv.stkFree (I : Inv X pins σ H s) : ∀ b ∈ frs X.stack, H b = none := fun b hb => by
  rcases List.mem_cons.mp (I.stkSub b hb) with e | hb
  · rw [e]; exact I.free
  · obtain ⟨_, o, ho, _⟩ := I.ok.funs.mem hb
    exact I.base.free b o ho (I.ok.frf b hb) fun z => I.ok.exfs b z hb

/-- THE STEP: the untracked objects but the frame and the records at ch are kept (the callers' frames up to slots), the frame's map is kept, the new abstract heap is held -/
theorem Inv.step {g' : Array GenState} {t' : Nat} {d' : Drawn} {ch : List Addr} (I : Inv X pins σ H s)
    (hch : ∀ b ∈ ch, (b ∈ X.ex ∨ X.s₀.heap.objs.size ≤ b) ∧ b ≠ X.env.locals ∧ (∀ x c, X.env.cells.lookup x = some c → c ≠ b) ∧ ∀ p ∈ X.pn ++ pins, p.1 ≠ b)
    (keep : ∀ b o, b ≠ X.env.locals → b ∉ X.fs → b ∉ ch → s.heap.get? b = some o → H b = none → h'.get? b = some o)
    (slot : ∀ b o, b ≠ X.env.locals → b ∈ X.fs → b ∉ ch → s.heap.get? b = some o → H b = none → ∃ sl, h'.get? b = some { o with slots := sl }) (free : ∀ b o, b ∉ ch → s.heap.get? b = some o → H b = none → H' b = none)
    (there : ∀ b o, b ∉ ch → s.heap.get? b = some o → ∃ o', h'.get? b = some o')
    (tups : ∀ b xs, H b = some (.tup xs) → H' b = some (.tup xs)) (frzs : ∀ b o u, H b = some (.frz o u) → H' b = some (.frz o u)) (tbls : ∀ b ps, H b = some (.tbl ps) → ∃ more, H' b = some (.tbl (ps ++ more)))
    (ns : ∀ m, s.heap.Ns X.env.locals m → h'.Ns X.env.locals m) (hok : HOk X.prog X.w H' h') (hg : AllBare g') :
    Inv X pins σ H' { s with heap := h', gens := g', drawn := d', toks := t' } := by
  have neL : ∀ b o, X.s₀.heap.get? b = some o → b ≠ X.env.locals := fun b o e => Nat.ne_of_lt (Nat.lt_of_lt_of_le (Heap.lt_size e) I.ok.above)
  have neC : ∀ b o, X.s₀.heap.get? b = some o → b ∉ X.ex → b ∉ ch := fun b o e hx hb => by
    rcases (hch b hb).1 with z | z
    · exact hx z
    · exact absurd (Nat.lt_of_lt_of_le (Heap.lt_size e) z) (Nat.lt_irrefl _)
  have cellK : ∀ x c, X.env.cells.lookup x = some c → ∀ v, s.heap.IsCell c v → h'.IsCell c v := fun x c e v ⟨o, ho, hd⟩ => by
    have nch : c ∉ ch := fun z => (hch c z).2.2.1 x c e rfl
    by_cases hc : c ∈ X.fs
    · obtain ⟨sl, q⟩ := slot c o (I.cne x c e) hc nch ho (I.freeC x c e)
      exact ⟨_, q, hd⟩
    · exact ⟨o, keep c o (I.cne x c e) hc nch ho (I.freeC x c e), hd⟩
  refine ⟨I.ok, I.os, hg, ⟨fun b o e n hb hx => ?_, fun b o e n hb hx => ?_, fun b o e n hx => ?_, fun b o e hx => ?_, fun b xs e => tups b xs (I.base.tups b xs e), fun b o xs e => frzs b o xs (I.base.frzs b o xs e), fun b ps e => ?_⟩, ?_, fun x c e => ?_, ?_, fun x c e => ?_, fun p hp => ?_, hok, I.len⟩
  · exact keep b o (neL b o e) hb (neC b o e hx) (I.base.keep b o e n hb hx) (I.base.free b o e n hx)
  · obtain ⟨sl, e1⟩ := I.base.slot b o e n hb hx
    obtain ⟨sl', e2⟩ := slot b _ (neL b o e) hb (neC b o e hx) e1 (I.base.free b o e n hx)
    exact ⟨sl', e2⟩
  · obtain ⟨o', e1⟩ := I.base.there b o e hx
    exact free b o' (neC b o e hx) e1 (I.base.free b o e n hx)
  · obtain ⟨o', e1⟩ := I.base.there b o e hx
    exact there b o' (neC b o e hx) e1
  · obtain ⟨m1, e1⟩ := I.base.tbls b ps e
    obtain ⟨m2, e2⟩ := tbls b _ e1
    exact ⟨m1 ++ m2, by rw [e2, Array.append_assoc]⟩
  · obtain ⟨m, hn, hl⟩ := I.loc
    refine ⟨m, ns m hn, fun i x v e1 e2 e3 => ?_⟩
    obtain ⟨u, r, l⟩ := hl i x v e1 e2 e3
    refine ⟨u, r, ?_⟩
    rcases l with l | ⟨k, c, e, z⟩
    · exact .inl l
    · exact .inr ⟨k, c, e, cellK x c e _ z⟩
  · obtain ⟨v, z⟩ := I.cell x c e
    exact ⟨v, cellK x c e v z⟩
  · obtain ⟨m, ⟨o, _, _, ho, _⟩, _⟩ := I.loc
    exact free _ o (fun z => (hch _ z).2.1 rfl) ho I.free
  · obtain ⟨v, o, ho, hd⟩ := I.cell x c e
    exact free c o (fun z => (hch c z).2.2.1 x c e rfl) ho (I.freeC x c e)
  · obtain ⟨e, n, ne, nf, d⟩ := I.pin p hp
    have nch : p.1 ∉ ch := fun z => (hch p.1 z).2.2.2 p hp rfl
    exact ⟨keep p.1 p.2 ne nf nch e n, free p.1 p.2 nch e n, ne, nf, d⟩
/-- .. where the frame's own object is kept too -/
theorem Inv.un {t' : Nat} (I : Inv X pins σ H s) (u : Un X.fs [] H H' s.heap h') (hok : HOk X.prog X.w H' h') : Inv X pins σ H' { s with heap := h', toks := t' } := by
  obtain ⟨m, ⟨o, es, ep, ho, r⟩, _⟩ := id I.loc
  obtain ⟨sl, hL⟩ := u.any ho I.free (by simp)
  exact I.step (g' := s.gens) (d' := s.drawn) (ch := []) (fun _ z => nomatch z) (fun b o _ hb _ e n => u.keep b o e n hb (by simp)) (fun b o _ hb _ e n => u.slot b o e n hb (by simp)) (fun b o _ e n => u.free b o e n (by simp)) (fun b o _ e => u.there b o e (by simp)) u.tups u.frzs u.tbls (fun m' hm => by
    obtain ⟨o', es', ep', ho', r'⟩ := hm
    rw [ho] at ho'; cases ho'
    exact ⟨_, es', ep', hL, r'⟩) hok I.bare
/-- behind a call (or a comprehension's block): the slots of this frame may have changed too, the records at ch may have turned -/
theorem Inv.call {g' : Array GenState} {t' : Nat} {d' : Drawn} {ch : List Addr} (I : Inv X pins σ H s) (u : Un (frs X.stack) ch H H' s.heap h') (hok : HOk X.prog X.w H' h') (hg : AllBare g')
    (hch : ∀ b ∈ ch, (b ∈ X.ex ∨ X.s₀.heap.objs.size ≤ b) ∧ b ≠ X.env.locals ∧ (∀ x c, X.env.cells.lookup x = some c → c ≠ b) ∧ ∀ p ∈ X.pn ++ pins, p.1 ≠ b) :
    Inv X pins σ H' { s with heap := h', gens := g', drawn := d', toks := t' } := by
  obtain ⟨m, ⟨o, es, ep, ho, r⟩, _⟩ := id I.loc
  obtain ⟨sl, hL⟩ := u.any ho I.free fun z => (hch _ z).2.1 rfl
  exact I.step (ch := ch) hch (fun b o hL hb hc e n => u.keep b o e n (fun z => (List.mem_cons.mp (I.stkSub b z)).elim hL hb) hc) (fun b o _ _ hc e n => u.any e n hc) (fun b o hc e n => u.free b o e n hc) (fun b o hc e => u.there b o e hc) u.tups u.frzs u.tbls (fun m' hm => by
    obtain ⟨o', es', ep', ho', r'⟩ := hm
    rw [ho] at ho'; cases ho'
    exact ⟨_, es', ep', hL, r'⟩) hok hg
/-- an untracked record of ours (an iterator) has turned -/
theorem Inv.turned {t' : Nat} {it : Addr} (I : Inv X pins σ H s) (k : ∀ b o, b ≠ it → s.heap.get? b = some o → h'.get? b = some o) (hn : H it = none) (hL : it ≠ X.env.locals)
    (h1 : it ∈ X.ex ∨ X.s₀.heap.objs.size ≤ it) (h2 : ∀ x c, X.env.cells.lookup x = some c → c ≠ it) (h3 : ∀ p ∈ X.pn ++ pins, p.1 ≠ it) : Inv X pins σ H { s with heap := h', toks := t' } := by
  have nit : ∀ b u, H b = some u → b ≠ it := fun b u e z => by rw [z, hn] at e; cases e
  refine I.step (g' := s.gens) (d' := s.drawn) (ch := [it]) (fun b hb => ?_) (fun b o _ _ hc e _ => k b o (fun z => hc (by simp [z])) e) (fun b o _ _ hc e _ => ⟨o.slots, k b o (fun z => hc (by simp [z])) e⟩) (fun _ _ _ _ n => n)
    (fun b o hc e => ⟨o, k b o (fun z => hc (by simp [z])) e⟩) (fun _ _ e => e) (fun _ _ _ e => e) (fun b ps e => ⟨#[], by rw [e]; simp⟩) (fun m hm => ?_) (fun b u e => ?_) I.bare
  · have e : b = it := by simpa using hb
    subst e
    exact ⟨h1, hL, h2, h3⟩
  · obtain ⟨o, es, ep, ho, r⟩ := hm
    exact ⟨o, es, ep, k _ o (Ne.symm hL) ho, r⟩
  · refine (I.hok b u e).stay (fun c v hc q => k c v ?_ q) (fun _ q => q) fun _ _ q => q
    rcases hc with z | z
    · rw [z]; exact nit b u e
    · exact nit c _ z
theorem Inv.tok (I : Inv X pins σ H s) (t : Nat) : Inv X pins σ H { s with toks := t } := I.un (h' := s.heap) (t' := t) Un.refl I.hok
/-- all objects kept -/
theorem Inv.kept {t' : Nat} (I : Inv X pins σ H s) (k : ∀ b u, s.heap.get? b = some u → h'.get? b = some u) : Inv X pins σ H { s with heap := h', toks := t' } := I.un (Un.kept k) (I.hok.kept k)
/-- a new object laid and tracked -/
theorem Inv.laid {a : Addr} {o : HO} {t' : Nat} (I : Inv X pins σ H s) (k : ∀ b u, s.heap.get? b = some u → h'.get? b = some u) (hp : s.heap.objs.size ≤ a) (new : ObjOk X.prog X.w (upd H a o) h' a o) :
    Inv X pins σ (upd H a o) { s with heap := h', toks := t' } := I.un (Un.laid k hp (I.hok.fresh hp)) (I.hok.laid k hp new)
/-- an object written -/
theorem Inv.write {x e : Addr} {o : HO} {t' : Nat} (I : Inv X pins σ H s) (mu : Mut (H x)) (he : e = x ∨ H e = some (.own x)) (k : ∀ b u, b ≠ e → s.heap.get? b = some u → h'.get? b = some u) (heo : ∃ u, h'.get? e = some u)
    (new : ObjOk X.prog X.w (upd H x o) h' x o) : Inv X pins σ (upd H x o) { s with heap := h', toks := t' } := I.un (Un.write mu he k heo) (I.hok.write mu he k heo new)
/-- forgetting slots, pins -/
theorem Inv.weak {σ' : List (Option V)} (I : Inv X pins σ H s) (hl : σ'.length = σ.length) (w : ∀ (i : Nat) v, σ'[i]? = some (some v) → σ[i]? = some (some v)) : Inv X pins σ' H s :=
  ⟨I.ok, I.os, I.bare, I.base, let ⟨m, hn, hl'⟩ := I.loc; ⟨m, hn, fun i x v e1 e2 e3 => hl' i x v e1 (w i v e2) e3⟩, I.cell, I.free, I.freeC, I.pin, I.hok, hl.trans I.len⟩
theorem Inv.pins_of {pins' : List (Addr × Obj)} (I : Inv X pins σ H s) (h : ∀ p ∈ pins', s.heap.get? p.1 = some p.2 ∧ H p.1 = none ∧ p.1 ≠ X.env.locals ∧ p.1 ∉ X.fs ∧ ∀ v, p.2.data ≠ .cell v) : Inv X pins' σ H s :=
  ⟨I.ok, I.os, I.bare, I.base, I.loc, I.cell, I.free, I.freeC, fun p hp => (List.mem_append.mp hp).elim (fun z => I.pin p (List.mem_append_left _ z)) (h p), I.hok, I.len⟩

theorem nodup_ix {N : List Str} (hN : N.Nodup) {i j : Nat} {x : Str} (a : N[i]? = some x) (b : N[j]? = some x) : i = j := by
  obtain ⟨h1, e1⟩ := List.getElem?_eq_some_iff.mp a
  obtain ⟨h2, e2⟩ := List.getElem?_eq_some_iff.mp b
  exact (List.getElem_inj hN).mp (e1.trans e2.symm)

/-- a name is stored; what changed -/
theorem store_ok2 {M : Model} {A : Around} {E : Value → Shared → Prop} {i : Nat} {x : Str} {v : V} {u : Value} {Q : Unit → Shared → Prop} (I : Inv X pins σ H s) (hN : X.N.Nodup) (hi : X.N[i]? = some x) (hx : Loc X.env.scope x) (r : RelV v u)
    (h : ∀ s', Inv X pins (σ.set i (some v)) H s' → (∃ a, Heap.SameBut a s.heap s'.heap ∧ (a = X.env.locals ∨ X.env.cells.lookup x = some a)) → Q () s') (hf : X.fn x = true ∨ X.env.scope.names.lookup x = some .local := by first | exact .inl rfl | exact .inr rfl | assumption) : wpAny M A (storeName X.env x u) Q E s := by
  obtain ⟨m, hn, hl⟩ := id I.loc
  have hcls : (X.env.scope.kind == .class || (X.env.scope.kind == .module && X.env.locals != X.env.globals)) = false := by rw [I.ok.kind]; rfl
  have hiσ : i < σ.length := by rw [I.len]; exact (List.getElem?_eq_some_iff.mp hi).1
  have cne := I.cne
  have tracked : ∀ {a : Addr} {h' : Heap}, (∃ o, s.heap.get? a = some o ∧ H a = none) → Heap.SameBut a s.heap h' → HOk X.prog X.w H h' := fun {a h'} ha hs b ob e => by
    obtain ⟨_, _, hfree⟩ := ha
    refine (I.hok b ob e).stay (fun c w' hc q => (hs.2 c ?_).trans q) (fun _ q => q) fun _ _ q => q
    rintro rfl
    rcases hc with rfl | hc
    · rw [hfree] at e; cases e
    · rw [hfree] at hc; cases hc
  rcases hx with hk | hk
  · refine wpAny_storeName_local hk hn (fun h' hn' hs => ?_) hcls
    obtain ⟨oL, _, _, hoL, _⟩ := id hn
    refine h _ ⟨I.ok, I.os, I.bare, ⟨fun b o e n hb hx => ?_, fun b o e n hb hx => ?_, I.base.free, fun b o e hx => ?_, I.base.tups, I.base.frzs, I.base.tbls⟩, ⟨_, hn', fun j y v' e1 e2 e3 => ?_⟩, fun y c e => ?_, I.free, I.freeC, fun p hp => ?_, tracked ⟨oL, hoL, I.free⟩ hs, by simpa using I.len⟩ ⟨_, hs, .inl rfl⟩
    · exact (hs.2 b (Nat.ne_of_lt (Nat.lt_of_lt_of_le (Heap.lt_size e) I.ok.above))).trans (I.base.keep b o e n hb hx)
    · obtain ⟨sl, e1⟩ := I.base.slot b o e n hb hx
      exact ⟨sl, (hs.2 b (Nat.ne_of_lt (Nat.lt_of_lt_of_le (Heap.lt_size e) I.ok.above))).trans e1⟩
    · obtain ⟨o', e1⟩ := I.base.there b o e hx
      exact ⟨o', (hs.2 b (Nat.ne_of_lt (Nat.lt_of_lt_of_le (Heap.lt_size e) I.ok.above))).trans e1⟩
    · by_cases hj : j = i
      · subst hj
        rw [hi] at e1; cases e1
        rw [List.getElem?_set_self hiσ] at e2
        cases e2
        exact ⟨u, r, .inl ⟨hk, by simp⟩⟩
      · rw [List.getElem?_set_ne (Ne.symm hj)] at e2
        obtain ⟨u', r', q⟩ := hl j y v' e1 e2 e3
        refine ⟨u', r', ?_⟩
        rcases q with ⟨k, e⟩ | ⟨k, c, e, z⟩
        · refine .inl ⟨k, ?_⟩
          have : y ≠ x := fun e => hj (nodup_ix hN e1 (e ▸ hi))
          simp [this, e]
        · exact .inr ⟨k, c, e, z.sameBut hs (cne y c e)⟩
    · obtain ⟨w', z⟩ := I.cell y c e
      exact ⟨w', z.sameBut hs (cne y c e)⟩
    · obtain ⟨e, n, ne, nf, d⟩ := I.pin p hp
      exact ⟨(hs.2 p.1 ne).trans e, n, ne, nf, d⟩
  · have hfn : X.fn x = true := by
      rcases hf with z | z
      · exact z
      · rw [z] at hk; cases hk
    obtain ⟨c, hc⟩ := I.ok.has x (.inl hk)
    obtain ⟨w', z⟩ := I.cell x c hc
    refine wpAny_storeName_cell I.ok.kind hk hc z (fun h' hc' hs => ?_)
    obtain ⟨oc, hoc, hocd⟩ := id z
    refine h { s with heap := h' } ⟨I.ok, I.os, I.bare, ⟨fun b o e n hb hx => ?_, fun b o e n hb hx => ?_, I.base.free, fun b o e hx => ?_, I.base.tups, I.base.frzs, I.base.tbls⟩, ⟨m, hn.sameBut hs (Ne.symm (cne x c hc)), fun j y v' e1 e2 e3 => ?_⟩, fun y c' e => ?_, I.free, I.freeC, fun p hp => ?_, tracked ⟨oc, hoc, I.freeC x c hc⟩ hs, by simpa using I.len⟩ ⟨c, hs, .inr hc⟩
    · exact (hs.2 b (Nat.ne_of_lt (Nat.lt_of_lt_of_le (Heap.lt_size e) (I.ok.cab x c hfn hc)))).trans (I.base.keep b o e n hb hx)
    · obtain ⟨sl, e1⟩ := I.base.slot b o e n hb hx
      exact ⟨sl, (hs.2 b (Nat.ne_of_lt (Nat.lt_of_lt_of_le (Heap.lt_size e) (I.ok.cab x c hfn hc)))).trans e1⟩
    · obtain ⟨o', e1⟩ := I.base.there b o e hx
      exact ⟨o', (hs.2 b (Nat.ne_of_lt (Nat.lt_of_lt_of_le (Heap.lt_size e) (I.ok.cab x c hfn hc)))).trans e1⟩
    · by_cases hj : j = i
      · subst hj
        rw [hi] at e1; cases e1
        rw [List.getElem?_set_self hiσ] at e2
        cases e2
        exact ⟨u, r, .inr ⟨.inl hk, c, hc, hc'⟩⟩
      · rw [List.getElem?_set_ne (Ne.symm hj)] at e2
        obtain ⟨u', r', q⟩ := hl j y v' e1 e2 e3
        refine ⟨u', r', ?_⟩
        rcases q with q | ⟨k, c', e, z'⟩
        · exact .inl q
        · refine .inr ⟨k, c', e, z'.sameBut hs ?_⟩
          rintro rfl
          exact hj (nodup_ix hN e1 (I.ok.inj _ _ _ e hc ▸ hi))
    · by_cases hcc : c' = c
      · subst hcc; exact ⟨_, hc'⟩
      · obtain ⟨w2, z2⟩ := I.cell y c' e
        exact ⟨w2, z2.sameBut hs hcc⟩
    · obtain ⟨e, n, ne, nf, d⟩ := I.pin p hp
      refine ⟨(hs.2 p.1 ?_).trans e, n, ne, nf, d⟩
      intro q
      rw [q, hoc] at e
      have q' : oc = p.2 := Option.some.inj e
      exact d w' (by rw [← q']; exact hocd)
theorem store_ok {M : Model} {A : Around} {E : Value → Shared → Prop} {i : Nat} {x : Str} {v : V} {u : Value} {Q : Unit → Shared → Prop} (I : Inv X pins σ H s) (hN : X.N.Nodup) (hi : X.N[i]? = some x) (hx : Loc X.env.scope x) (r : RelV v u)
    (h : ∀ s', Inv X pins (σ.set i (some v)) H s' → Q () s') (hf : X.fn x = true ∨ X.env.scope.names.lookup x = some .local := by first | exact .inl rfl | exact .inr rfl | assumption) : wpAny M A (storeName X.env x u) Q E s :=
  store_ok2 I hN hi hx r (fun s' I' _ => h s' I') hf
/-- behind a call or a block, the state as it is -/
theorem Inv.call' {s' : Shared} {ch : List Addr} (I : Inv X pins σ H s) (ho : s'.os = s.os) (u : Un (frs X.stack) ch H H' s.heap s'.heap) (hok : HOk X.prog X.w H' s'.heap) (hg : AllBare s'.gens)
    (hch : ∀ b ∈ ch, (b ∈ X.ex ∨ X.s₀.heap.objs.size ≤ b) ∧ b ≠ X.env.locals ∧ (∀ x c, X.env.cells.lookup x = some c → c ≠ b) ∧ ∀ p ∈ X.pn ++ pins, p.1 ≠ b) : Inv X pins σ H' s' := by
  obtain ⟨h', g', d', t', o'⟩ := s'
  have e : o' = s.os := ho
  subst e
  exact I.call (g' := g') (t' := t') (d' := d') u hok hg hch
end

/-! ### the judgements -/
/-- an exception: its class, its own dict's address (where it has one), the abstract heap behind it -/
abbrev XK := Value → Option Addr → Hp → Prop
abbrev St := List (Option V)
abbrev VK := V → Hp → Prop
/-- an expression's reading; a test's; an argument list's -/
abbrev TE := St → Hp → VK → Prop
abbrev TT := St → Hp → (Bool → Hp → Prop) → Prop
abbrev TA := St → Hp → (List V → Hp → Prop) → Prop
/-- what is wanted behind a statement -/
structure Ends where
  nx : St → Hp → Prop
  rt : VK
  bk : St → Hp → Prop := fun _ _ => False
  ct : St → Hp → Prop := fun _ _ => False
abbrev TS := Ends → St → Hp → Prop

def EP (X : Cx) (pins : List (Addr × Obj)) (σ : St) (Q : VK) (u : Value) (s' : Shared) : Prop := ∃ v H', Inv X pins σ H' s' ∧ RelV v u ∧ Q v H'
def TP (X : Cx) (pins : List (Addr × Obj)) (σ : St) (Q : Bool → Hp → Prop) (b : Bool) (s' : Shared) : Prop := ∃ H', Inv X pins σ H' s' ∧ Q b H'
def AP (X : Cx) (pins : List (Addr × Obj)) (σ : St) (Q : List V → Hp → Prop) (us : List Value) (s' : Shared) : Prop := ∃ vs H', Inv X pins σ H' s' ∧ Vals vs us ∧ Q vs H'
def SP (X : Cx) (pins : List (Addr × Obj)) (D : Ends) (f : Flow) (s' : Shared) : Prop :=
  match f with
  | .next => ∃ σ' H', Inv X pins σ' H' s' ∧ D.nx σ' H'
  | .brk => ∃ σ' H', Inv X pins σ' H' s' ∧ D.bk σ' H'
  | .cont => ∃ σ' H', Inv X pins σ' H' s' ∧ D.ct σ' H'
  | .ret u => ∃ v σ' H', Inv X pins σ' H' s' ∧ RelV v u ∧ D.rt v H'

def PE (X : Cx) (e : Expr) (t : TE) : Prop :=
  ∀ (pins : List (Addr × Obj)) (s : Shared) (σ : St) (H : Hp) (Q : VK), Inv X pins σ H s → t σ H Q → wpAny (model X.prog X.w) X.A (eval e X.env) (EP X pins σ Q) X.xe s
def PT (X : Cx) (e : Expr) (t : TT) : Prop :=
  ∀ (pins : List (Addr × Obj)) (s : Shared) (σ : St) (H : Hp) (Q : Bool → Hp → Prop), Inv X pins σ H s → t σ H Q → wpAny (model X.prog X.w) X.A (isTrue e X.env (eval e X.env)) (TP X pins σ Q) X.xe s
/-- a test whatever its 'whole' is (and, or) -/
def PW (X : Cx) (e : Expr) (t : TT) : Prop :=
  ∀ (whole : Sem Value) (pins : List (Addr × Obj)) (s : Shared) (σ : St) (H : Hp) (Q : Bool → Hp → Prop), Inv X pins σ H s → t σ H Q → wpAny (model X.prog X.w) X.A (isTrue e X.env whole) (TP X pins σ Q) X.xe s
theorem PW.pt {X : Cx} {e : Expr} {t : TT} (h : PW X e t) : PT X e t := h _
/-- an argument list (no star), from the left -/
def PA (X : Cx) (es : List Expr) (t : TA) : Prop :=
  ∀ (pos : Pos) (pins : List (Addr × Obj)) (s : Shared) (σ : St) (H : Hp) (Q : List V → Hp → Prop), Inv X pins σ H s → t σ H Q → wpAny (model X.prog X.w) X.A (spliced (backTo pos (starEach es X.env))) (AP X pins σ Q) X.xe s
def PS (X : Cx) (st : Stmt) (t : TS) : Prop :=
  ∀ (pins : List (Addr × Obj)) (s : Shared) (σ : St) (H : Hp) (D : Ends), Inv X pins σ H s → t D σ H → wpAny (model X.prog X.w) X.A (exec st X.env) (SP X pins D) X.xe s
def PSs (X : Cx) (st : List Stmt) (t : TS) : Prop :=
  ∀ (pins : List (Addr × Obj)) (s : Shared) (σ : St) (H : Hp) (D : Ends), Inv X pins σ H s → t D σ H → wpAny (model X.prog X.w) X.A (execs st X.env) (SP X pins D) X.xe s
/-- weaken the end -/
theorem thn {α : Type} {t : Sem α} {Q Q' : α → Shared → Prop} {M : Model} {A : Around} {E : Value → Shared → Prop} {s : Shared} (h : wpAny M A t Q E s) (hQ : ∀ a s, Q a s → Q' a s) : wpAny M A t Q' E s := wpAny_mono h hQ fun _ _ x => x
end L2

namespace L2
open PySem PySem.Spec PyProof.Rows
section
variable {X : Cx}

/-- two expressions in a row -/
theorem bin {a b : Expr} {ta tb : TE} (ha : PE X a ta) (hb : PE X b tb) {pins : List (Addr × Obj)} {s : Shared} {σ : St} {H : Hp} {R : V → V → Hp → Prop} (I : Inv X pins σ H s) (h : ta σ H fun x H1 => tb σ H1 fun y H2 => R x y H2)
    {α : Type} {Q : α → Shared → Prop} {f : Value → Value → Sem α}
    (hf : ∀ v u s2 x y H2, Inv X pins σ H2 s2 → RelV x v → RelV y u → R x y H2 → wpAny (model X.prog X.w) X.A (f v u) Q X.xe s2) :
    wpAny (model X.prog X.w) X.A (eval a X.env) (fun v s₁ => wpAny (model X.prog X.w) X.A (eval b X.env) (fun u s₂ => wpAny (model X.prog X.w) X.A (f v u) Q X.xe s₂) X.xe s₁) X.xe s := by
  refine thn (ha pins s σ H _ I h) fun v s1 ⟨x, H1, I1, r1, q1⟩ => ?_
  refine thn (hb pins s1 σ H1 _ I1 q1) fun u s2 ⟨y, H2, I2, r2, q2⟩ => ?_
  exact hf v u s2 x y H2 I2 r1 r2 q2

/-! ### names and constants -/
def tVar (i : Nat) : TE := fun σ H Q => ∃ v, σ[i]? = some (some v) ∧ Q v H
def tC (v : V) : TE := fun _ H Q => Q v H
theorem pe_var {i : Nat} {x : Str} {pos : Pos} (hN : X.N[i]? = some x) (hv : Vis X.env.scope x) (hd : (x == ("__debug__" : Str)) = false := by decide) (hcd : (x == ("__classdict__" : Str)) = false := by decide) : PE X (.Name x pos) (tVar i) := by
  intro pins s σ H Q I h
  obtain ⟨v, e, h⟩ := h
  obtain ⟨m, hn, hl⟩ := I.loc
  obtain ⟨u, r, l⟩ := hl i x v hN e hv
  have fin : EP X pins σ Q u s := ⟨v, H, I, r, h⟩
  rcases l with ⟨hk, hm⟩ | ⟨hk, c, hc, hcell⟩
  · exact wpAny_Name (wpAny_loadName_local I.ok.kind hk hn hm fin) hd
  · rcases hk with hk | hk
    · exact wpAny_Name (wpAny_loadName_cell I.ok.kind hk hc hcell fin) hd
    · exact wpAny_Name (wpAny_loadName_free I.ok.kind hk hc hcell fin hcd) hd
theorem pe_int {i j pos} : PE X (.Constant (.int i) j pos) (tC (.int i)) := fun _ _ _ H _ I h => wpAny_Constant_int ⟨.int i, H, I.tok _, ⟨_, rfl⟩, h⟩
theorem pe_bl {b j pos} : PE X (.Constant (.bool b) j pos) (tC (.bl b)) := fun _ _ _ H _ I h => Constant_bool ⟨.bl b, H, I, rfl, h⟩
theorem pe_non {j pos} : PE X (.Constant .none j pos) (tC .non) := fun _ _ _ H _ I h => Constant_none ⟨.non, H, I, rfl, h⟩
theorem pe_str {x j pos} : PE X (.Constant (.str x) j pos) (tC (.str x)) := fun _ _ _ H _ I h => Calls.Constant_str ⟨.str x, H, I.tok _, ⟨_, rfl⟩, h⟩

/-- a global name of the def -/
def Gl (X : Cx) (x : Str) : Prop := X.env.kindOf x = some .globalImplicit
theorem ld_glob {E : Value → Shared → Prop} {pins : List (Addr × Obj)} {s : Shared} {σ : St} {H : Hp} {x : Str} {u : Value} {pos : Pos} {Q : Value → Shared → Prop} (I : Inv X pins σ H s) (hg : Gl X x) (hm : X.mg x = some u) (h : Q u s)
    (hd : (x == ("__debug__" : Str)) = false := by decide) : wpAny (model X.prog X.w) X.A (eval (.Name x pos) X.env) Q E s :=
  Calls.Name_function_global I.ok.kind hg (Calls.loadGlobal_global (by rw [I.ok.glob]; exact I.mod.glob.keeps I.bk) hm h) hd
theorem ld_blt {E : Value → Shared → Prop} {pins : List (Addr × Obj)} {s : Shared} {σ : St} {H : Hp} {x : Str} {u : Value} {pos : Pos} {Q : Value → Shared → Prop} (I : Inv X pins σ H s) (hg : Gl X x) (hm : X.mg x = none) (hv : bootBuiltins x = some u) (h : Q u s)
    (hn : x ≠ "__name__" := by decide) (hd : (x == ("__debug__" : Str)) = false := by decide) : wpAny (model X.prog X.w) X.A (eval (.Name x pos) X.env) Q E s := by
  obtain ⟨mb, h1, h2⟩ := I.mod.blt
  exact Calls.Name_function_global I.ok.kind hg (Calls.loadGlobal_builtin (by rw [I.ok.glob]; exact I.mod.glob.keeps I.bk) hm (by rw [I.ok.blt]; exact h1.keeps I.bk) ((h2 x hn).trans hv) h) hd
/-- a module's constant, a class, a function, as a value -/
theorem pe_glob {x : Str} {v : V} {u : Value} {pos : Pos} (hg : Gl X x) (hm : X.mg x = some u) (r : RelV v u) (hd : (x == ("__debug__" : Str)) = false := by decide) : PE X (.Name x pos) (tC v) :=
  fun _ _ _ H _ I h => ld_glob I hg hm ⟨v, H, I, r, h⟩ hd
theorem pe_bltn {x : Str} {v : V} {u : Value} {pos : Pos} (hg : Gl X x) (hm : X.mg x = none) (hv : bootBuiltins x = some u) (r : RelV v u) (hn : x ≠ "__name__" := by decide) (hd : (x == ("__debug__" : Str)) = false := by decide) : PE X (.Name x pos) (tC v) :=
  fun _ _ _ H _ I h => ld_blt I hg hm hv ⟨v, H, I, r, h⟩ hn hd

/-! ### arithmetic -/
/-- two ints -/
def t2I (ta tb : TE) (k : Int → Int → Hp → Prop) : St → Hp → Prop := fun σ H => ta σ H fun x H1 => tb σ H1 fun y H2 => ∃ i j, x = .int i ∧ y = .int j ∧ k i j H2
def tAdd (ta tb : TE) : TE := fun σ H Q => t2I ta tb (fun i j H2 => Q (.int (i + j)) H2) σ H
def tSub (ta tb : TE) : TE := fun σ H Q => t2I ta tb (fun i j H2 => Q (.int (i - j)) H2) σ H
/-- the left factor below 2^64 -/
def tMul (ta tb : TE) : TE := fun σ H Q => t2I ta tb (fun i j H2 => (-(2 ^ 64) < i ∧ i < 2 ^ 64) ∧ Q (.int (i * j)) H2) σ H
variable {a b : Expr} {ta tb : TE} {pos : Pos}
theorem pe_add (ha : PE X a ta) (hb : PE X b tb) : PE X (.BinOp a .Add b pos) (tAdd ta tb) := by
  intro pins s σ H Q I h
  refine wpAny_BinOp (bin ha hb I h fun v u s2 x y H2 I2 rx ry q => ?_)
  obtain ⟨i, j, rfl, rfl, q⟩ := q
  obtain ⟨t, rfl⟩ := rx
  obtain ⟨t', rfl⟩ := ry
  exact add_int ⟨.int _, H2, I2.tok _, ⟨_, rfl⟩, q⟩
theorem pe_sub (ha : PE X a ta) (hb : PE X b tb) : PE X (.BinOp a .Sub b pos) (tSub ta tb) := by
  intro pins s σ H Q I h
  refine wpAny_BinOp (bin ha hb I h fun v u s2 x y H2 I2 rx ry q => ?_)
  obtain ⟨i, j, rfl, rfl, q⟩ := q
  obtain ⟨t, rfl⟩ := rx
  obtain ⟨t', rfl⟩ := ry
  exact sub_int ⟨.int _, H2, I2.tok _, ⟨_, rfl⟩, q⟩
theorem pe_mul (ha : PE X a ta) (hb : PE X b tb) : PE X (.BinOp a .Mult b pos) (tMul ta tb) := by
  intro pins s σ H Q I h
  refine wpAny_BinOp (bin ha hb I h fun v u s2 x y H2 I2 rx ry q => ?_)
  obtain ⟨i, j, rfl, rfl, ⟨q1, q2⟩, q⟩ := q
  obtain ⟨t, rfl⟩ := rx
  obtain ⟨t', rfl⟩ := ry
  exact mul_int ⟨.int _, H2, I2.tok _, ⟨_, rfl⟩, q⟩ (.of_left (intBits_le_64 q1 q2))

/-! ### comparisons -/
def PC (X : Cx) (op : CmpOp) (a b : Expr) (t : TE) : Prop :=
  ∀ (pins : List (Addr × Obj)) (s : Shared) (σ : St) (H : Hp) (Q : VK), Inv X pins σ H s → t σ H Q →
    wpAny (model X.prog X.w) X.A (eval a X.env) (fun v s₁ => wpAny (model X.prog X.w) X.A (eval b X.env) (fun u s₂ => wpAny (model X.prog X.w) X.A (compareOp op v u) (EP X pins σ Q) X.xe s₂) X.xe s₁) X.xe s
theorem nobehind (b : Expr) {op : CmpOp} (h : op ≠ .In) (h2 : op ≠ .NotIn) : behindInMarks op b = false := by
  have e1 : (op == CmpOp.In) = false := by cases op <;> first | rfl | exact absurd rfl h
  have e2 : (op == CmpOp.NotIn) = false := by cases op <;> first | rfl | exact absurd rfl h2
  cases b <;> simp [behindInMarks, e1, e2]
def tCmp (p : Int → Int → Bool) (ta tb : TE) : TE := fun σ H Q => t2I ta tb (fun i j H2 => Q (.bl (p i j)) H2) σ H
abbrev tLt : TE → TE → TE := tCmp fun i j => decide (i < j)
abbrev tLe : TE → TE → TE := tCmp fun i j => decide (i ≤ j)
abbrev tGt : TE → TE → TE := tCmp fun i j => decide (j < i)
abbrev tGe : TE → TE → TE := tCmp fun i j => decide (j ≤ i)
abbrev tEqI : TE → TE → TE := tCmp fun i j => decide (i = j)
abbrev tNeI : TE → TE → TE := tCmp fun i j => !decide (i = j)
/-- a comparison of two ints, by its rule -/
theorem pc_int {op : CmpOp} {p : Int → Int → Bool} (ha : PE X a ta) (hb : PE X b tb)
    (rule : ∀ (i j : Int) (t u : Tok) (Q : Value → Shared → Prop) (s : Shared), Q (.bool (p i j)) s → wpAny (model X.prog X.w) X.A (compareOp op (.int i t) (.int j u)) Q X.xe s) : PC X op a b (tCmp p ta tb) := by
  intro pins s σ H Q I h
  refine bin ha hb I h fun v u s2 x y H2 I2 rx ry q => ?_
  obtain ⟨i, j, rfl, rfl, q⟩ := q
  obtain ⟨t, rfl⟩ := rx
  obtain ⟨t', rfl⟩ := ry
  exact rule i j t t' _ s2 ⟨.bl _, H2, I2, rfl, q⟩
theorem pc_lt (ha : PE X a ta) (hb : PE X b tb) : PC X .Lt a b (tLt ta tb) := pc_int ha hb fun _ _ _ _ _ _ h => lt_int h
theorem pc_le (ha : PE X a ta) (hb : PE X b tb) : PC X .LtE a b (tLe ta tb) := pc_int ha hb fun _ _ _ _ _ _ h => le_int h
theorem pc_gt (ha : PE X a ta) (hb : PE X b tb) : PC X .Gt a b (tGt ta tb) := pc_int ha hb fun _ _ _ _ _ _ h => gt_int h
theorem pc_ge (ha : PE X a ta) (hb : PE X b tb) : PC X .GtE a b (tGe ta tb) := pc_int ha hb fun _ _ _ _ _ _ h => ge_int h
theorem pc_eqI (ha : PE X a ta) (hb : PE X b tb) : PC X .Eq a b (tEqI ta tb) := pc_int ha hb fun _ _ _ _ _ _ h => eq_int (by rw [Bool.beq_eq_decide_eq]; exact h)
theorem pc_neI (ha : PE X a ta) (hb : PE X b tb) : PC X .NotEq a b (tNeI ta tb) := pc_int ha hb fun _ _ _ _ _ _ h => ne_int (by rw [bne, Bool.beq_eq_decide_eq]; exact h)
/-- is None -/
def tIsN (ta : TE) : TE := fun σ H Q => ta σ H fun x H1 => Q (.bl (decide (x = .non))) H1
def tNotN (ta : TE) : TE := fun σ H Q => ta σ H fun x H1 => Q (.bl (!decide (x = .non))) H1
theorem RelV.none_iff {x : V} {v : Value} (r : RelV x v) : (v == Value.none) = decide (x = .non) := by
  cases x with
  | non => cases r; rfl
  | bl _ => cases r; rfl
  | int _ => obtain ⟨t, rfl⟩ := r; rfl
  | str _ => obtain ⟨t, rfl⟩ := r; rfl
  | byt _ => obtain ⟨t, rfl⟩ := r; rfl
  | flt _ => obtain ⟨t, rfl⟩ := r; rfl
  | ref _ => cases r; rfl
  | ty _ => cases r; rfl
theorem pc_isN {j pos'} (ha : PE X a ta) : PC X .Is a (.Constant .none j pos') (tIsN ta) := by
  intro pins s σ H Q I h
  refine thn (ha pins s σ H _ I h) fun v s1 ⟨x, H1, I1, r1, q1⟩ => ?_
  exact Constant_none (is_none_gen ⟨.bl _, H1, I1, by rw [r1.none_iff]; rfl, q1⟩)
theorem pc_notN {j pos'} (ha : PE X a ta) : PC X .IsNot a (.Constant .none j pos') (tNotN ta) := by
  intro pins s σ H Q I h
  refine thn (ha pins s σ H _ I h) fun v s1 ⟨x, H1, I1, r1, q1⟩ => ?_
  exact Constant_none (isnot_none_gen ⟨.bl _, H1, I1, by rw [r1.none_iff]; rfl, q1⟩)
/-- a comparison as a value, as a test -/
def tB (t : TE) : TT := fun σ H Q => t σ H fun x H1 => ∃ c, x = .bl c ∧ Q c H1
theorem pe_cmp {op : CmpOp} {t : TE} (h : PC X op a b t) (h1 : behindInMarks op b = false := by first | exact nobehind _ (by decide) (by decide) | rfl) : PE X (.Compare a [op] [b] pos) t := fun pins s σ H Q I hw => wpAny_Compare1 (h pins s σ H Q I hw) h1
theorem pt_cmp {op : CmpOp} {t : TE} (h : PC X op a b t) (h1 : behindInMarks op b = false := by first | exact nobehind _ (by decide) (by decide) | rfl) : PT X (.Compare a [op] [b] pos) (tB t) := by
  intro pins s σ H Q I hw
  refine wpAny_isTrue_Compare1 (thn (h pins s σ H _ I hw) fun v s1 h1 => thn h1 fun u s2 h2 => thn h2 fun c s3 ⟨x, H1, I1, r1, q1⟩ => ?_) h1
  obtain ⟨d, rfl, q⟩ := q1
  cases r1
  exact wpAny_truthy_bool ⟨H1, I1, q⟩
/-- an expression whose value is a bool, as a test -/
theorem pt_val {e : Expr} {t : TE} (h : PE X e t) (he : ∀ whole, isTrue e X.env whole = (do let v ← whole; standAt e.pos; holding [v] (truthy v)) := by intro _; rfl) : PT X e (tB t) := by
  intro pins s σ H Q I hw
  refine isTrue_plain (thn (h pins s σ H _ I hw) fun v s1 ⟨x, H1, I1, r1, q1⟩ => ?_) (he _)
  obtain ⟨d, rfl, q⟩ := q1
  cases r1
  exact wpAny_truthy_bool ⟨H1, I1, q⟩

/-! ### and, or, not -/
variable {tA tB' : TT} {rest : List Expr}
def tAnd (t u : TT) : TT := fun σ H Q => t σ H fun c H1 => if c = true then u σ H1 Q else Q false H1
def tOr (t u : TT) : TT := fun σ H Q => t σ H fun c H1 => if c = true then Q true H1 else u σ H1 Q
def tNot (t : TT) : TT := fun σ H Q => t σ H fun c H1 => Q (!c) H1
theorem pw_and1 (ha : PT X a tA) : PW X (.BoolOp .And [a] pos) tA := by
  intro wh pins s σ H Q I h
  refine isTrue_and (thn (ha pins s σ H Q I h) fun c s1 e => ?_)
  cases c with
  | true => exact isTrue_and_nil e
  | false => exact e
theorem pw_or1 (ha : PT X a tA) : PW X (.BoolOp .Or [a] pos) tA := by
  intro wh pins s σ H Q I h
  refine isTrue_or (thn (ha pins s σ H Q I h) fun c s1 e => ?_)
  cases c with
  | false => exact isTrue_or_nil e
  | true => exact e
theorem pw_and (ha : PT X a tA) (hb : PW X (.BoolOp .And (b :: rest) pos) tB') : PW X (.BoolOp .And (a :: b :: rest) pos) (tAnd tA tB') := by
  intro wh pins s σ H Q I h
  refine isTrue_and (thn (ha pins s σ H _ I h) fun c s1 ⟨H1, I1, q1⟩ => ?_)
  cases c with
  | true => exact hb wh pins s1 σ H1 Q I1 q1
  | false => exact ⟨H1, I1, q1⟩
theorem pw_or (ha : PT X a tA) (hb : PW X (.BoolOp .Or (b :: rest) pos) tB') : PW X (.BoolOp .Or (a :: b :: rest) pos) (tOr tA tB') := by
  intro wh pins s σ H Q I h
  refine isTrue_or (thn (ha pins s σ H _ I h) fun c s1 ⟨H1, I1, q1⟩ => ?_)
  cases c with
  | true => exact ⟨H1, I1, q1⟩
  | false => exact hb wh pins s1 σ H1 Q I1 q1
theorem pt_not (ha : PT X a tA) : PT X (.UnaryOp .Not a pos) (tNot tA) := by
  intro pins s σ H Q I h
  exact isTrue_not (ha pins s σ H (fun c H1 => Q (!c) H1) I h)
/-- .. as values (bools) -/
def tAndV (ta tb : TE) : TE := fun σ H Q => ta σ H fun x H1 => ∃ c, x = .bl c ∧ if c = true then tb σ H1 Q else Q (.bl false) H1
def tOrV (ta tb : TE) : TE := fun σ H Q => ta σ H fun x H1 => ∃ c, x = .bl c ∧ if c = true then Q (.bl true) H1 else tb σ H1 Q
def tNotV (ta : TE) : TE := fun σ H Q => ta σ H fun x H1 => ∃ c, x = .bl c ∧ Q (.bl (!c)) H1
theorem pe_one {op} {t : TE} (h : PE X a t) : PE X (.BoolOp op [a] pos) t := fun pins s σ H Q I hw => BoolOp_one (h pins s σ H Q I hw)
theorem pe_and (ha : PE X a ta) (hb : PE X (.BoolOp .And (b :: rest) pos) tb) : PE X (.BoolOp .And (a :: b :: rest) pos) (tAndV ta tb) := by
  intro pins s σ H Q I h
  refine BoolOp_and (thn (ha pins s σ H _ I h) fun v s1 ⟨x, H1, I1, r1, q1⟩ => ?_)
  obtain ⟨c, rfl, q1⟩ := q1
  cases r1
  refine wpAny_truthy_bool ?_
  cases c with
  | true => exact hb pins s1 σ H1 Q I1 q1
  | false => exact ⟨.bl false, H1, I1, rfl, q1⟩
theorem pe_or (ha : PE X a ta) (hb : PE X (.BoolOp .Or (b :: rest) pos) tb) : PE X (.BoolOp .Or (a :: b :: rest) pos) (tOrV ta tb) := by
  intro pins s σ H Q I h
  refine BoolOp_or (thn (ha pins s σ H _ I h) fun v s1 ⟨x, H1, I1, r1, q1⟩ => ?_)
  obtain ⟨c, rfl, q1⟩ := q1
  cases r1
  refine wpAny_truthy_bool ?_
  cases c with
  | false => exact hb pins s1 σ H1 Q I1 q1
  | true => exact ⟨.bl true, H1, I1, rfl, q1⟩
theorem pe_not (ha : PE X a ta) : PE X (.UnaryOp .Not a pos) (tNotV ta) := by
  intro pins s σ H Q I h
  refine UnaryOp_ (thn (ha pins s σ H _ I h) fun v s1 ⟨x, H1, I1, r1, q1⟩ => ?_)
  obtain ⟨c, rfl, q1⟩ := q1
  cases r1
  exact not_of (wpAny_truthy_bool ⟨.bl (!c), H1, I1, rfl, q1⟩)
/-- a if t else b -/
def tIf (t : TT) (ta tb : TE) : TE := fun σ H Q => t σ H fun c H1 => if c = true then ta σ H1 Q else tb σ H1 Q
theorem pe_ifExp {c : Expr} (hc : PT X c tA) (ha : PE X a ta) (hb : PE X b tb) : PE X (.IfExp c a b pos) (tIf tA ta tb) := by
  intro pins s σ H Q I h
  refine wpAny_IfExp (thn (hc pins s σ H _ I h) fun d s1 ⟨H1, I1, q1⟩ => ?_)
  cases d with
  | true => exact ha pins s1 σ H1 Q I1 q1
  | false => exact hb pins s1 σ H1 Q I1 q1
end
end L2

namespace L2
open PySem PySem.Spec PyProof.Rows

/-! ### a list, a tuple that is read: tracked, frozen, or an object of the module -/
def SqL (K : PySem.W.Frag) (H : Hp) (a : Addr) (xs : List V) : Prop :=
  Rd H a (.lst xs) ∨
    ∃ (o : Obj) (its : Array Value) (n : Nat), K.lookup a = some o ∧ o.cls = .type "list" ∧ o.dict = none ∧ o.data = .seq its n ∧ its.size ≤ sizeLine ∧ Vals xs its.toList
def SqT (K : PySem.W.Frag) (H : Hp) (a : Addr) (xs : List V) : Prop :=
  Rd H a (.tup xs) ∨
    ∃ (o : Obj) (its : Array Value) (n : Nat), K.lookup a = some o ∧ o.cls = .type "tuple" ∧ o.data = .seq its n ∧ its.size ≤ sizeLine ∧ Vals xs its.toList
def absV : Value → Option V
  | .none => some .non
  | .bool b => some (.bl b)
  | .int i _ => some (.int i)
  | .str x _ => some (.str x)
  | .bytes b _ => some (.byt b)
  | .float b _ => some (.flt b)
  | .ref a => some (.ref a)
  | .type n => some (.ty n)
  | _ => none
theorem RelV.abs {x : V} {u : Value} (r : RelV x u) : absV u = some x := by
  cases x with
  | non => cases r; rfl
  | bl _ => cases r; rfl
  | int _ => obtain ⟨t, rfl⟩ := r; rfl
  | str _ => obtain ⟨t, rfl⟩ := r; rfl
  | byt _ => obtain ⟨t, rfl⟩ := r; rfl
  | flt _ => obtain ⟨t, rfl⟩ := r; rfl
  | ref _ => cases r; rfl
  | ty _ => cases r; rfl
theorem RelV.inj {x y : V} {u : Value} (r : RelV x u) (q : RelV y u) : x = y := Option.some.inj (r.abs.symm.trans q.abs)
theorem Vals.inj : ∀ {xs ys : List V} {us : List Value}, Vals xs us → Vals ys us → xs = ys
  | _, _, _, .nil, .nil => rfl
  | _, _, _, .cons r t, .cons r' t' => by rw [r.inj r', Vals.inj t t']
section
variable {X : Cx} {pins : List (Addr × Obj)} {σ : St} {H : Hp} {s : Shared} {a : Addr} {xs ys : List V}
theorem SqL.of {K : PySem.W.Frag} (h : H a = some (.lst xs)) : SqL K H a xs := .inl (.inl h)
theorem SqT.of {K : PySem.W.Frag} (h : H a = some (.tup xs)) : SqT K H a xs := .inl (.inl h)
theorem Inv.list (I : Inv X pins σ H s) (h : SqL X.K H a xs) : ∃ its : List Value, Vals xs its ∧ PlainL s.heap a its.toArray ∧ xs.length ≤ sizeLine := by
  rcases h with h | ⟨o, its, n, hk, hc, hd, hs, hz, r⟩
  · obtain ⟨z, its, n, r, e⟩ := h.ok I.hok
    exact ⟨its, r, ⟨_, n, e, rfl, rfl, rfl⟩, z⟩
  · refine ⟨its.toList, r, ⟨o, n, I.kIn a o hk, hc, hd, by simpa using hs⟩, ?_⟩
    have e := r.length
    simp only [Array.length_toList] at e
    omega
theorem Inv.tuple (I : Inv X pins σ H s) (h : SqT X.K H a xs) : ∃ its : List Value, Vals xs its ∧ IsTup s.heap a its.toArray ∧ xs.length ≤ sizeLine := by
  rcases h with h | ⟨o, its, n, hk, hc, hs, hz, r⟩
  · obtain ⟨z, its, r, p⟩ := h.ok I.hok
    exact ⟨its, r, p, z⟩
  · refine ⟨its.toList, r, ⟨o, I.kIn a o hk, hc, n, by simpa using hs⟩, ?_⟩
    have e := r.length
    simp only [Array.length_toList] at e
    omega
theorem Inv.list_inj (I : Inv X pins σ H s) (h : SqL X.K H a xs) (h' : SqL X.K H a ys) : xs = ys := by
  obtain ⟨its, r, ⟨o, n, e, _, _, d⟩, _⟩ := I.list h
  obtain ⟨its', r', ⟨o', n', e', _, _, d'⟩, _⟩ := I.list h'
  rw [e] at e'; cases e'
  rw [d] at d'
  injection d' with d1 _
  have : its = its' := by simpa using congrArg Array.toList d1
  subst this
  exact r.inj r'
theorem Inv.tuple_inj (I : Inv X pins σ H s) (h : SqT X.K H a xs) (h' : SqT X.K H a ys) : xs = ys := by
  obtain ⟨its, r, ⟨o, e, _, n, d⟩, _⟩ := I.tuple h
  obtain ⟨its', r', ⟨o', e', _, n', d'⟩, _⟩ := I.tuple h'
  rw [e] at e'; cases e'
  rw [d] at d'
  injection d' with d1 _
  have : its = its' := by simpa using congrArg Array.toList d1
  subst this
  exact r.inj r'
end

/-! ### another wish about exceptions -/
abbrev Cx.wish (X : Cx) (E : Value → Shared → Prop) : Cx := { X with xe := E }
/-- no exception leaves -/
abbrev Cx.nox (X : Cx) : Cx := X.wish fun _ _ => False
theorem Cx.Ok.wish {X : Cx} (ok : X.Ok) (E : Value → Shared → Prop) : (X.wish E).Ok :=
  ⟨ok.mod, ok.kind, ok.glob, ok.blt, ok.above, ok.inj, ok.has, ok.cab, ok.hd, ok.frames, ok.stk, ok.exf, ok.bs, ok.bsz, ok.noex, ok.exfs, ok.funs, ok.frf⟩
theorem Cx.Ok.unwish {X : Cx} {E : Value → Shared → Prop} (ok : (X.wish E).Ok) : X.Ok :=
  ⟨ok.mod, ok.kind, ok.glob, ok.blt, ok.above, ok.inj, ok.has, ok.cab, ok.hd, ok.frames, ok.stk, ok.exf, ok.bs, ok.bsz, ok.noex, ok.exfs, ok.funs, ok.frf⟩
section
variable {X : Cx} {pins : List (Addr × Obj)} {σ : St} {H : Hp} {s : Shared} {E : Value → Shared → Prop}
theorem Inv.wish (I : Inv X pins σ H s) (E : Value → Shared → Prop) : Inv (X.wish E) pins σ H s := ⟨I.ok.wish E, I.os, I.bare, I.base, I.loc, I.cell, I.free, I.freeC, I.pin, I.hok, I.len⟩
theorem Inv.unwish (I : Inv (X.wish E) pins σ H s) : Inv X pins σ H s := ⟨I.ok.unwish, I.os, I.bare, I.base, I.loc, I.cell, I.free, I.freeC, I.pin, I.hok, I.len⟩
theorem SP.unwish {D : Ends} {f : Flow} {s' : Shared} (h : SP (X.wish E) pins D f s') : SP X pins D f s' := by
  cases f with
  | next => obtain ⟨σ', H', I, q⟩ := h; exact ⟨σ', H', I.unwish, q⟩
  | brk => obtain ⟨σ', H', I, q⟩ := h; exact ⟨σ', H', I.unwish, q⟩
  | cont => obtain ⟨σ', H', I, q⟩ := h; exact ⟨σ', H', I.unwish, q⟩
  | ret u => obtain ⟨v, σ', H', I, r, q⟩ := h; exact ⟨v, σ', H', I.unwish, r, q⟩
theorem PE.nox {e : Expr} {t : TE} (h : PE X.nox e t) : PE X e t := fun pins s σ H Q I hw =>
  wpAny_mono (h pins s σ H Q (I.wish _) hw) (fun _ _ ⟨v, H', I', r, q⟩ => ⟨v, H', I'.unwish, r, q⟩) fun _ _ z => False.elim z
theorem PT.nox {e : Expr} {t : TT} (h : PT X.nox e t) : PT X e t := fun pins s σ H Q I hw =>
  wpAny_mono (h pins s σ H Q (I.wish _) hw) (fun _ _ ⟨H', I', q⟩ => ⟨H', I'.unwish, q⟩) fun _ _ z => False.elim z
theorem PSs.nox {st : List Stmt} {t : TS} (h : PSs X.nox st t) : PSs X st t := fun pins s σ H D I hw =>
  wpAny_mono (h pins s σ H D (I.wish _) hw) (fun _ _ q => q.unwish) fun _ _ z => False.elim z
end

/-! ### blocks and small statements -/
section
variable {X : Cx} {st : Stmt} {rest : List Stmt} {t u : TS} {e : Expr} {te : TE} {pos : Pos}
def tNext : TS := fun D σ H => D.nx σ H
def tSeq (t u : TS) : TS := fun D σ H => t { D with nx := u D } σ H
theorem pss_nil : PSs X [] tNext := fun _ _ σ H _ I h => wpAny_execs_nil ⟨σ, H, I, h⟩
theorem pss_cons (h1 : PS X st t) (h2 : PSs X rest u) : PSs X (st :: rest) (tSeq t u) := by
  intro pins s σ H D I h
  refine wpAny_execs_cons (thn (h1 pins s σ H { D with nx := u D } I h) fun f s1 q => ?_)
  cases f with
  | next =>
    obtain ⟨σ', H', I', q⟩ := q
    exact h2 pins s1 σ' H' D I' q
  | ret v => exact q
  | brk => exact q
  | cont => exact q
theorem pss_one (h1 : PS X st t) : PSs X [st] t := by
  intro pins s σ H D I h
  refine wpAny_execs_cons (thn (h1 pins s σ H D I h) fun f s1 q => ?_)
  cases f with
  | next => exact wpAny_execs_nil q
  | ret v => exact q
  | brk => exact q
  | cont => exact q
def tBreak : TS := fun D σ H => D.bk σ H
def tCont : TS := fun D σ H => D.ct σ H
theorem ps_pass : PS X (.Pass pos) tNext := fun _ _ σ H _ I h => wpAny_Pass ⟨σ, H, I, h⟩
theorem ps_break : PS X (.Break pos) tBreak := fun _ _ σ H _ I h => wpAny_Break ⟨σ, H, I, h⟩
theorem ps_continue : PS X (.Continue pos) tCont := fun _ _ σ H _ I h => wpAny_Continue ⟨σ, H, I, h⟩
/-- in a def's body nothing is shown -/
theorem Inv.quiet {pins : List (Addr × Obj)} {σ : St} {H : Hp} {s : Shared} (I : Inv X pins σ H s) : interactive X.env = false := by simp [interactive, I.ok.kind]
/-- a docstring -/
theorem ps_doc {x j pos pos'} : PS X (.Expr (.Constant (.str x) j pos) pos') tNext := fun _ s σ H _ I h => wpAny_Expr (Calls.Constant_str (show SP X _ _ .next { s with toks := s.toks + 1 } from ⟨σ, H, I.tok _, h⟩)) I.quiet
/-- an expression whose value is dropped -/
def tDrop (te : TE) : TS := fun D σ H => te σ H fun _ H1 => D.nx σ H1
theorem ps_expr (he : PE X e te) (hs : swapsWith e none pos.line X.env = pure false := by rfl) : PS X (.Expr e pos) (tDrop te) := by
  intro pins s σ H D I h
  exact wpAny_Expr_any (thn (he pins s σ H _ I h) fun v s1 ⟨x, H1, I1, r1, q1⟩ => ⟨σ, H1, I1, q1⟩) I.quiet hs
def tRet (te : TE) : TS := fun D σ H => te σ H D.rt
theorem ps_ret (he : PE X e te) : PS X (.Return (some e) pos) (tRet te) := by
  intro pins s σ H D I h
  exact wpAny_Return_some (thn (he pins s σ H _ I h) fun v s1 ⟨x, H1, I1, r1, q1⟩ => ⟨x, σ, H1, I1, r1, q1⟩)
def tRetN : TS := fun D _ H => D.rt .non H
theorem ps_retN : PS X (.Return none pos) tRetN := fun _ _ σ H _ I h => wpAny_Return_none ⟨.non, σ, H, I, rfl, h⟩
def tIfS (c : TT) (t u : TS) : TS := fun D σ H => c σ H fun b H1 => if b = true then t D σ H1 else u D σ H1
theorem ps_if {c : Expr} {a b : List Stmt} {tc : TT} (hc : PT X c tc) (ha : PSs X a t) (hb : PSs X b u) : PS X (.If c a b pos) (tIfS tc t u) := by
  intro pins s σ H D I h
  refine wpAny_If (thn (hc pins s σ H _ I h) fun d s1 ⟨H1, I1, q1⟩ => ?_)
  cases d with
  | true => exact ha pins s1 σ H1 D I1 q1
  | false => exact hb pins s1 σ H1 D I1 q1
/-- code that the proof never comes to -/
def tNever : TS := fun _ _ _ => False
theorem ps_never : PS X st tNever := fun _ _ _ _ _ _ h => h.elim
theorem pss_never {sts : List Stmt} : PSs X sts tNever := fun _ _ _ _ _ _ h => h.elim
end

/-! ### targets -/
abbrev TG := V → St → Hp → (St → Hp → Prop) → Prop
abbrev TGs := List V → St → Hp → (St → Hp → Prop) → Prop
def PG (X : Cx) (target : Expr) (t : TG) : Prop :=
  ∀ (pins : List (Addr × Obj)) (s : Shared) (σ : St) (H : Hp) (v : V) (u : Value) (Q : St → Hp → Prop), Inv X pins σ H s → RelV v u → t v σ H Q →
    wpAny (model X.prog X.w) X.A (assign target X.env u) (fun _ s' => ∃ σ' H', Inv X pins σ' H' s' ∧ Q σ' H') X.xe s
/-- several targets, one after another -/
def PGs (X : Cx) (ts : List Expr) (t : TGs) : Prop :=
  ∀ (pins : List (Addr × Obj)) (s : Shared) (σ : St) (H : Hp) (vs : List V) (us : List Value) (Q : St → Hp → Prop), Inv X pins σ H s → Vals vs us → t vs σ H Q →
    wpAny (model X.prog X.w) X.A (assignInOrder ((assignEach ts X.env).map (·.2)) us) (fun _ s' => ∃ σ' H', Inv X pins σ' H' s' ∧ Q σ' H') X.xe s
/-- o[i] = v, by values -/
abbrev TSet := V → V → V → Hp → (Hp → Prop) → Prop
def PSet (X : Cx) (t : TSet) : Prop :=
  ∀ (pins : List (Addr × Obj)) (s : Shared) (σ : St) (H : Hp) (o i v : V) (ov iv u : Value) (Q : Hp → Prop), Inv X pins σ H s → RelV o ov → RelV i iv → RelV v u → t o i v H Q →
    wpAny (model X.prog X.w) X.A (setItem ov iv u) (fun _ s' => ∃ H', Inv X pins σ H' s' ∧ Q H') X.xe s
/-- a op= b, by values -/
abbrev TIp := V → V → Hp → VK → Prop
def PIp (X : Cx) (op : Operator) (t : TIp) : Prop :=
  ∀ (pins : List (Addr × Obj)) (s : Shared) (σ : St) (H : Hp) (x y : V) (v u : Value) (Q : VK), Inv X pins σ H s → RelV x v → RelV y u → t x y H Q →
    wpAny (model X.prog X.w) X.A (inplaceOp op v u) (EP X pins σ Q) X.xe s
section
variable {X : Cx} {pos : Pos}
def gName (i : Nat) : TG := fun v σ H Q => Q (σ.set i (some v)) H
theorem pg_name {i : Nat} {x : Str} (hN : X.N.Nodup) (hi : X.N[i]? = some x) (hx : Loc X.env.scope x) (hf : X.fn x = true ∨ X.env.scope.names.lookup x = some .local := by first | exact .inl rfl | exact .inr rfl | assumption) : PG X (.Name x pos) (gName i) := by
  intro pins s σ H v u Q I r h
  exact wpAny_assign_Name (store_ok I hN hi hx r (fun s' I' => ⟨_, H, I', h⟩) hf)
def gNil : TGs := fun vs σ H Q => vs = [] ∧ Q σ H
def gCons (t : TG) (u : TGs) : TGs := fun vs σ H Q => ∃ v r, vs = v :: r ∧ t v σ H fun σ' H' => u r σ' H' Q
theorem pgs_nil : PGs X [] gNil := by
  intro pins s σ H vs us Q I r h
  obtain ⟨e, h⟩ := h
  subst e
  cases r
  exact assignInOrder_nil ⟨σ, H, I, h⟩
theorem pgs_cons {e : Expr} {es : List Expr} {t : TG} {u : TGs} (h1 : PG X e t) (h2 : PGs X es u)
    (hs : (assignEach (e :: es) X.env).map (·.2) = assign e X.env :: (assignEach es X.env).map (·.2) := by rfl) : PGs X (e :: es) (gCons t u) := by
  intro pins s σ H vs us Q I r h
  obtain ⟨v, vr, e1, h⟩ := h
  subst e1
  cases r with
  | cons r rr =>
    rw [hs]
    refine assignInOrder_cons (thn (h1 pins s σ H _ _ _ I r h) fun _ s1 ⟨σ1, H1, I1, q1⟩ => ?_)
    exact h2 pins s1 σ1 H1 _ _ Q I1 rr q1
/-- (a, b, ..) = a tuple of that length -/
def gTup (K : PySem.W.Frag) (n : Nat) (t : TGs) : TG := fun v σ H Q => ∃ a xs, v = .ref a ∧ SqT K H a xs ∧ xs.length = n ∧ t xs σ H Q
theorem pg_tup {es : List Expr} {k : Nat} {t : TGs} {n : Nat} (hc : X.calm = true) (h : PGs X es t)
    (hn : (assignEach es X.env).length = n := by rfl) (hst : (assignEach es X.env).findIdx? (·.1) = none := by rfl) : PG X (.Tuple es k pos) (gTup X.K n t) := by
  intro pins s σ H v u Q I r hw
  obtain ⟨a, xs, e1, hq, hl, hw⟩ := hw
  subst e1
  cases r
  obtain ⟨its, rv, ht, hz⟩ := I.tuple hq
  refine assign_Tuple_tuple (I.ok.hd hc) ht (by simp [hn, ← hl, rv.length]) hst fun h' hx => ?_
  have I1 : Inv X pins σ H { s with heap := h' } := I.kept (t' := s.toks) fun b o e => hx b o (Nat.ne_of_lt (Heap.lt_size e)) e
  exact h pins _ σ H xs _ Q I1 (by simpa using rv) hw
/-- o[i] = .. -/
def gSub (to ti : TE) (t : TSet) : TG := fun v σ H Q => to σ H fun o H1 => ti σ H1 fun i H2 => t o i v H2 fun H3 => Q σ H3
theorem pg_sub {o i : Expr} {to ti : TE} {t : TSet} (ho : PE X o to) (hi : PE X i ti) (hs : PSet X t)
    (ha : ∀ v, assign (.Subscript o i pos) X.env v = (do
      let ov ← holding [v] (eval o X.env)
      let iv ← holding [v, ov] (eval i X.env)
      standAt pos
      holding [v, ov, iv] (setItem ov iv v)
      release [v, ov, iv] []) := by intro _; rfl) : PG X (.Subscript o i pos) (gSub to ti t) := by
  intro pins s σ H v u Q I r h
  rw [ha]
  refine wpAny_bind (wpAny_holding (thn (ho pins s σ H _ I h) fun ov s1 ⟨x, H1, I1, r1, q1⟩ => ?_))
  refine wpAny_bind (wpAny_holding (thn (hi pins s1 σ H1 _ I1 q1) fun iv s2 ⟨y, H2, I2, r2, q2⟩ => ?_))
  refine wpAny_bind (wpAny_standAt (wpAny_bind (wpAny_holding (thn (hs pins s2 σ H2 x y v ov iv u _ I2 r1 r2 r q2) fun _ s3 ⟨H3, I3, q3⟩ => ?_))))
  exact wpAny_release ⟨σ, H3, I3, q3⟩
/-- target = value -/
def tAsg (te : TE) (g : TG) : TS := fun D σ H => te σ H fun x H1 => g x σ H1 D.nx
theorem ps_asg {tg e : Expr} {te : TE} {g : TG} (he : PE X e te) (hg : PG X tg g) (hs : swapsWithSole [tg] e pos.line X.env = pure false := by rfl) (hw : swappedStores [tg] e X.env = pure none := by rfl)
    (h1 : (assignEach [tg] X.env).map (·.2) = [assign tg X.env] := by rfl) : PS X (.Assign [tg] e pos) (tAsg te g) := by
  intro pins s σ H D I h
  refine wpAny_Assign_stores (thn (he pins s σ H _ I h) fun v s1 ⟨x, H1, I1, r1, q1⟩ => ?_) hs hw
  rw [h1]
  exact thn (hg pins s1 σ H1 x v _ I1 r1 q1) fun _ s2 q => q
/-- name = value -/
theorem ps_set {i : Nat} {x : Str} {e : Expr} {te : TE} {pos' : Pos} (hN : X.N.Nodup) (hi : X.N[i]? = some x) (hx : Loc X.env.scope x) (he : PE X e te) (hs : swapsWith e (some (.Name x pos')) pos.line X.env = pure false := by rfl) (hf : X.fn x = true ∨ X.env.scope.names.lookup x = some .local := by first | exact .inl rfl | exact .inr rfl | assumption) :
    PS X (.Assign [.Name x pos'] e pos) (tAsg te (gName i)) := by
  intro pins s σ H D I h
  refine wpAny_Assign_Name (thn (he pins s σ H _ I h) fun v s1 ⟨y, H1, I1, r1, q1⟩ => ?_) hs
  exact store_ok I1 hN hi hx r1 (fun s2 I2 => ⟨_, H1, I2, q1⟩) hf
/-- a, b = x, y with plain local names: stored from the right; the pair itself is not tracked (the opening rows as in PyProof/Rows/TupAssign.lean:23) -/
def tPar (i j : Nat) (ta : TA) : TS := fun D σ H => ta σ H fun vs H1 => ∃ v w, vs = [v, w] ∧ D.nx ((σ.set i (some v)).set j (some w)) H1
theorem ps_par {i j : Nat} {x y : Str} {a b : Expr} {ta : TA} {px py pt : Pos} {kt k2 pt2} (hc : X.calm = true) (hN : X.N.Nodup) (hi : X.N[i]? = some x) (hj : X.N[j]? = some y) (hij : i ≠ j)
    (hx : X.env.scope.names.lookup x = some .local) (hy : X.env.scope.names.lookup y = some .local) (ha : PA X [a, b] ta)
    (hw : swappedStores [.Tuple [.Name x px, .Name y py] kt pt] (.Tuple [a, b] k2 pt2) X.env = pure (some [x, y]))
    (hs : swapsWithSole [.Tuple [.Name x px, .Name y py] kt pt] (.Tuple [a, b] k2 pt2) pos.line X.env = pure false := by rfl) :
    PS X (.Assign [.Tuple [.Name x px, .Name y py] kt pt] (.Tuple [a, b] k2 pt2) pos) (tPar i j ta) := by
  intro pins s σ H D I h
  rw [exec_Assign_arm]
  refine wpAny_bind (wpAny_standAt ?_)
  rw [hs]
  refine wpAny_bind (wpAny_pure ?_)
  rw [if_neg (by decide)]
  refine wpAny_bind (Tuple_ (thn (ha _ pins s σ H _ I h) fun us s1 ⟨vs, H1, I1, r1, q1⟩ => ?_))
  obtain ⟨v, w, e1, q1⟩ := q1
  subst e1
  obtain ⟨u1, u2, rfl, rv, rw'⟩ : ∃ u1 u2, us = [u1, u2] ∧ RelV v u1 ∧ RelV w u2 := by
    cases r1 with
    | cons p q =>
      cases q with
      | cons p' q' =>
        cases q'
        exact ⟨_, _, rfl, p, p'⟩
  refine wpAny_newObj_type ?_ (by show 2 ≤ sizeLine; decide)
  have I2 : Inv X pins σ H1 { s1 with heap := s1.heap.push { cls := .type "tuple", data := .seq [u1, u2].toArray } } := I1.kept (t' := s1.toks) fun b o e => Heap.get?_push_of_some _ e
  rw [hw]
  refine wpAny_bind (wpAny_pure ?_)
  show wpAny (model X.prog X.w) X.A (do rule "assign.swapped-stores"; let items ← unpackItems (.ref s1.heap.objs.size) 2 none; assignInOrder [fun v => bindName X.env y v, fun v => bindName X.env x v] items.reverse; pure Flow.next) _ _ _
  refine wpAny_bind (wpAny_rule (wpAny_bind (unpackItems_tuple (items := #[u1, u2]) (I.ok.hd hc) (IsTup.new s1.heap _) fun h' hx' => ?_)))
  have I3 := I2.kept (h' := h') (t' := s1.toks) fun b o e => hx' b o (Nat.ne_of_lt (Heap.lt_size e)) e
  show wpAny _ _ (assignInOrder [fun v => bindName X.env y v, fun v => bindName X.env x v] [u2, u1] >>= fun _ => pure Flow.next) _ _ _
  refine wpAny_bind (assignInOrder_cons (wpAny_bindName (store_ok I3 hN hj (.inl hy) rw' (fun s2 I4 => ?_) (.inr hy))))
  refine assignInOrder_cons (wpAny_bindName (store_ok I4 hN hi (.inl hx) rv (fun s3 I5 => assignInOrder_nil (wpAny_pure ?_)) (.inr hx)))
  rw [List.set_comm _ _ (Ne.symm hij)] at I5
  exact ⟨_, H1, I5, q1⟩
/-- name op= e -/
def tAug (i : Nat) (te : TE) (ti : TIp) : TS := fun D σ H => ∃ x, σ[i]? = some (some x) ∧ te σ H fun y H1 => ti x y H1 fun z H2 => D.nx (σ.set i (some z)) H2
theorem ps_aug {i : Nat} {x : Str} {e : Expr} {te : TE} {op : Operator} {ti : TIp} {pos' : Pos} (hN : X.N.Nodup) (hi : X.N[i]? = some x) (hx : Loc X.env.scope x) (he : PE X e te) (ho : PIp X op ti) (hf : X.fn x = true ∨ X.env.scope.names.lookup x = some .local := by first | exact .inl rfl | exact .inr rfl | assumption) :
    PS X (.AugAssign (.Name x pos') op e pos) (tAug i te ti) := by
  intro pins s σ H D I h
  obtain ⟨v, e1, h⟩ := h
  obtain ⟨m, hn, hl⟩ := I.loc
  have vis : Vis X.env.scope x := by rcases hx with k | k; exact .inl k; exact .inr (.inl k)
  obtain ⟨u, r, l⟩ := hl i x v hi e1 vis
  refine wpAny_AugAssign_Name ?_
  have go : wpAny (model X.prog X.w) X.A (eval e X.env) (fun w s₂ => wpAny (model X.prog X.w) X.A (inplaceOp op u w) (fun r s₃ => wpAny (model X.prog X.w) X.A (storeName X.env x r) (fun _ => SP X pins D .next) X.xe s₃) X.xe s₂) X.xe s := by
    refine thn (he pins s σ H _ I h) fun w s1 ⟨y, H1, I1, r1, q1⟩ => ?_
    refine thn (ho pins s1 σ H1 v y u w _ I1 r r1 q1) fun z s2 ⟨zv, H2, I2, r2, q2⟩ => ?_
    exact store_ok I2 hN hi hx r2 (fun s3 I3 => ⟨_, H2, I3, q2⟩) hf
  rcases l with ⟨hk, hm⟩ | ⟨hk, c, hc, hcell⟩
  · exact wpAny_loadName_local I.ok.kind hk hn hm go
  · rcases hk with hk | hk
    · exact wpAny_loadName_cell I.ok.kind hk hc hcell go
    · rcases hx with k | k
      · have : X.env.scope.names.lookup x = some .free := hk
        rw [k] at this; cases this
      · have : X.env.scope.names.lookup x = some .free := hk
        rw [k] at this; cases this
/-- o[i] op= e -/
def tAugS (to ti te : TE) (tget : V → V → Hp → VK → Prop) (tip : TIp) (tset : TSet) : TS := fun D σ H => to σ H fun o H1 => ti σ H1 fun i H2 => tget o i H2 fun x H3 => te σ H3 fun y H4 => tip x y H4 fun z H5 => tset o i z H5 fun H6 => D.nx σ H6
/-- o[i], by values -/
def PGet (X : Cx) (t : V → V → Hp → VK → Prop) : Prop :=
  ∀ (pins : List (Addr × Obj)) (s : Shared) (σ : St) (H : Hp) (o i : V) (ov iv : Value) (Q : VK), Inv X pins σ H s → RelV o ov → RelV i iv → t o i H Q →
    wpAny (model X.prog X.w) X.A (getItem ov iv) (EP X pins σ Q) X.xe s
theorem ps_augS {o i e : Expr} {to ti te : TE} {tget : V → V → Hp → VK → Prop} {tip : TIp} {tset : TSet} {op : Operator} {tpos : Pos} (ho : PE X o to) (hi : PE X i ti) (hg : PGet X tget) (he : PE X e te) (hp : PIp X op tip) (hs : PSet X tset)
    (ha : ∀ ov iv new, augStore i ov iv new = (do holding [new, ov, iv] (setItem ov iv new); release [new, ov, iv] []; pure .next) := by intros; rfl) : PS X (.AugAssign (.Subscript o i tpos) op e pos) (tAugS to ti te tget tip tset) := by
  intro pins s σ H D I h
  refine wpAny_AugAssign_SubscriptAny (thn (ho pins s σ H _ I h) fun ov s1 ⟨x1, H1, I1, r1, q1⟩ => ?_) ha
  refine thn (hi pins s1 σ H1 _ I1 q1) fun iv s2 ⟨x2, H2, I2, r2, q2⟩ => ?_
  refine thn (hg pins s2 σ H2 x1 x2 ov iv _ I2 r1 r2 q2) fun old s3 ⟨x3, H3, I3, r3, q3⟩ => ?_
  refine thn (he pins s3 σ H3 _ I3 q3) fun v s4 ⟨x4, H4, I4, r4, q4⟩ => ?_
  refine thn (hp pins s4 σ H4 x3 x4 old v _ I4 r3 r4 q4) fun new s5 ⟨x5, H5, I5, r5, q5⟩ => ?_
  exact thn (hs pins s5 σ H5 x1 x2 x5 ov iv new _ I5 r1 r2 r5 q5) fun _ s6 ⟨H6, I6, q6⟩ => ⟨σ, H6, I6, q6⟩
/-- ints -/
def ipI (f : Int → Int → Int) : TIp := fun x y H Q => ∃ i j, x = .int i ∧ y = .int j ∧ Q (.int (f i j)) H
theorem ip_add : PIp X .Add (ipI fun i j => i + j) := by
  intro pins s σ H x y v u Q I r1 r2 h
  obtain ⟨i, j, e1, e2, q⟩ := h
  subst e1; subst e2
  obtain ⟨t, rfl⟩ := r1
  obtain ⟨t', rfl⟩ := r2
  exact iadd_int ⟨.int _, H, I.tok _, ⟨_, rfl⟩, q⟩
theorem ip_sub : PIp X .Sub (ipI fun i j => i - j) := by
  intro pins s σ H x y v u Q I r1 r2 h
  obtain ⟨i, j, e1, e2, q⟩ := h
  subst e1; subst e2
  obtain ⟨t, rfl⟩ := r1
  obtain ⟨t', rfl⟩ := r2
  exact isub_int ⟨.int _, H, I.tok _, ⟨_, rfl⟩, q⟩
end

/-! ### while -/
section
variable {X : Cx} {pos : Pos}
/-- the invariant W with its measure -/
def tWhile (c : TT) (tb : TS) : TS := fun D σ H => ∃ W : Nat → St → Hp → Prop, (∃ m, W m σ H) ∧ ∀ m σ H, W m σ H →
  c σ H fun b H1 => if b = true then ∃ N : St → Hp → Prop, (∀ σ' H', N σ' H' → ∃ m', m' < m ∧ W m' σ' H') ∧ tb { D with nx := N, ct := N, bk := D.nx } σ H1 else D.nx σ H1
theorem ps_while {c : Expr} {body : List Stmt} {tc : TT} {tb : TS} (hp : PassesOwn (model X.prog X.w) X.A X.env X.xe) (hc : PT X c tc) (hb : PSs X body tb) : PS X (.While c body [] pos) (tWhile tc tb) := by
  intro pins s σ H D I h
  obtain ⟨W, ⟨m0, w0⟩, turn⟩ := h
  refine wpAny_While (codeAny_whileLoop (fun n s' => ∃ σ' H', Inv X pins σ' H' s' ∧ W n σ' H') ?_ m0 ⟨σ, H, I, w0⟩)
  rintro n s1 ⟨σ1, H1, I1, w1⟩
  refine wpAny_passesOwn hp (thn (hc pins s1 σ1 H1 _ I1 (turn n σ1 H1 w1)) fun b s2 ⟨H2, I2, q2⟩ => ?_)
  cases b with
  | true =>
    obtain ⟨N, hN, q2⟩ := q2
    rw [if_pos rfl]
    refine wpAny_passesOwn hp (thn (hb pins s2 σ1 H2 _ I2 q2) fun f s3 q3 => ?_)
    cases f with
    | next =>
      obtain ⟨σ3, H3, I3, n3⟩ := q3
      obtain ⟨m', hm, w3⟩ := hN σ3 H3 n3
      exact ⟨m', hm, σ3, H3, I3, w3⟩
    | cont =>
      obtain ⟨σ3, H3, I3, n3⟩ := q3
      obtain ⟨m', hm, w3⟩ := hN σ3 H3 n3
      exact ⟨m', hm, σ3, H3, I3, w3⟩
    | brk => exact q3
    | ret v => exact q3
  | false =>
    rw [if_neg Bool.false_ne_true]
    exact wpAny_execs_nil ⟨σ1, H2, I2, q2⟩
end

/-! ### what a loop or a comprehension walks -/
/-- at turn i: it yields x (the heap may grow), or it stops -/
structure It where
  go : Nat → Hp → Prop
  yld : Nat → Hp → V → Hp → Prop
  stop : Nat → Hp → Prop
/-- the iterator's own objects may turn: they are not the frame's, not pinned, younger than the entry (or a comprehension's own) -/
def FpOk (X : Cx) (pins : List (Addr × Obj)) (H : Hp) (b : Addr) : Prop :=
  H b = none ∧ b ≠ X.env.locals ∧ b ∉ X.fs ∧ (b ∈ X.ex ∨ X.s₀.heap.objs.size ≤ b) ∧ (∀ x c, X.env.cells.lookup x = some c → c ≠ b) ∧ ∀ p ∈ X.pn ++ pins, p.1 ≠ b
theorem Inv.fpOk {X : Cx} {pins : List (Addr × Obj)} {σ : St} {H H' : Hp} {s : Shared} {b : Addr} (I : Inv X pins σ H s) (hb : s.heap.objs.size ≤ b) (hn : H' b = none) : FpOk X pins H' b := by
  refine ⟨hn, Nat.ne_of_gt (Nat.lt_of_lt_of_le I.lt hb), I.nofs hb, .inr (Nat.le_trans I.sz hb), fun x c e z => ?_, fun p hp z => ?_⟩
  · obtain ⟨v, q⟩ := I.cell x c e
    exact absurd (Nat.lt_of_lt_of_le q.lt (by rw [z]; exact hb)) (Nat.lt_irrefl _)
  · exact absurd (Nat.lt_of_lt_of_le (Heap.lt_size (I.pin p hp).1) (by rw [z]; exact hb)) (Nat.lt_irrefl _)
structure Turn (P : Program) (w : World) (K : PySem.W.Frag) (tg : Expr) (J : It) (fp : List Addr) (it : Addr) (tn : Nat → Heap → Prop) : Prop where
  mem : it ∈ fp
  obj : ∀ i h, tn i h → ∀ b ∈ fp, ∃ o, h.get? b = some o ∧ ∀ v, o.data ≠ .cell v
  keep : ∀ i h h', tn i h → (∀ b ∈ fp, ∀ o, h.get? b = some o → h'.get? b = some o) → tn i h'
  item : ∀ (X : Cx), X.prog = P → X.w = w → X.K = K → X.calm = true → ∀ (i : Nat) (pins : List (Addr × Obj)) (s : Shared) (σ : St) (H : Hp) (E : Value → Shared → Prop), Inv X pins σ H s → (∀ b ∈ fp, FpOk X pins H b) → tn i s.heap → J.go i H →
    wpAny (model P w) X.A (pyNext (.ref it)) (fun r s1 => ∃ u, r = some u ∧
      wpAny (model P w) X.A (letOwnedTupleGo tg (.ref it) u) (fun _ s2 => ∃ x H', Inv X pins σ H' s2 ∧ RelV x u ∧ J.yld i H x H' ∧ tn (i + 1) s2.heap ∧ ∀ b ∈ fp, H' b = none) E s1) E s
  done : ∀ (X : Cx), X.prog = P → X.w = w → X.K = K → X.calm = true → ∀ (i : Nat) (pins : List (Addr × Obj)) (s : Shared) (σ : St) (H : Hp) (E : Value → Shared → Prop), Inv X pins σ H s → (∀ b ∈ fp, FpOk X pins H b) → tn i s.heap → J.stop i H →
    wpAny (model P w) X.A (pyNext (.ref it)) (fun r s1 => r = none ∧ Inv X pins σ H s1) E s
  self : ∀ (A : Around) (i : Nat) (s : Shared) (Q : Value → Shared → Prop) (E : Value → Shared → Prop), tn i s.heap → Q (.ref it) s → wpAny (model P w) A (pyIter (.ref it)) Q E s
abbrev TI := St → Hp → (It → Hp → Prop) → Prop
/-- an iterator has come -/
def PIE (X : Cx) (pins : List (Addr × Obj)) (σ : St) (tg : Expr) (R : It → Hp → Prop) (itv : Value) (s2 : Shared) : Prop :=
  ∃ (it : Addr) (fp : List Addr) (tn : Nat → Heap → Prop) (J : It) (H' : Hp), itv = .ref it ∧ Inv X pins σ H' s2 ∧ Turn X.prog X.w X.K tg J fp it tn ∧ tn 0 s2.heap ∧ (∀ b ∈ fp, FpOk X pins H' b) ∧ R J H'
def PI (X : Cx) (tg iter : Expr) (wi : TI) : Prop :=
  ∀ (pins : List (Addr × Obj)) (s : Shared) (σ : St) (H : Hp) (R : It → Hp → Prop), Inv X pins σ H s → wi σ H R →
    wpAny (model X.prog X.w) X.A (eval iter X.env) (fun v s1 => wpAny (model X.prog X.w) X.A (pyIter v) (PIE X pins σ tg R) X.xe s1) X.xe s

/-- the step ahead of the store is nothing for an iterator that keeps no tuple -/
theorem go_of {M : Model} {A : Around} {E : Value → Shared → Prop} {s : Shared} {tg : Expr} {it : Addr} {u : Value} {o : Obj} {n : String} {vs : Array Value} {Q : Unit → Shared → Prop} (ho : s.heap.get? it = some o) (hc : o.cls = .type n) (hd : o.data = .fields vs)
    (hn : ["enumerate", "zip", "dict_itemiterator", "dict_reverseitemiterator", "odict_iterator", "itertools.zip_longest", "itertools.pairwise"].contains n = false) (hQ : Q () s) : wpAny M A (letOwnedTupleGo tg (.ref it) u) Q E s := by
  unfold letOwnedTupleGo
  cases tg <;> first
    | exact wpAny_pure hQ
    | (cases u <;> first
        | exact wpAny_pure hQ
        | (refine wpAny_bind (wpAny_load ho ?_)
           rw [hc, hd]
           show wpAny M A (if (["enumerate", "zip", "dict_itemiterator", "dict_reverseitemiterator", "odict_iterator", "itertools.zip_longest", "itertools.pairwise"].contains n && vs[0]? == some (rawInt _)) = true then _ else _) Q E s
           rw [if_neg (by intro h; rw [hn, Bool.false_and] at h; cases h)]
           exact wpAny_pure hQ))

/-- the list at a, as it stands at each turn (a loop may append to it) -/
def Itl (K : PySem.W.Frag) (a : Addr) : It :=
  ⟨fun i H => ∃ xs x, SqL K H a xs ∧ xs[i]? = some x, fun i H x H' => H' = H ∧ ∀ xs, SqL K H a xs → xs[i]? = some x, fun i H => ∃ xs, SqL K H a xs ∧ xs.length ≤ i⟩
def Itt (K : PySem.W.Frag) (a : Addr) : It :=
  ⟨fun i H => ∃ xs x, SqT K H a xs ∧ xs[i]? = some x, fun i H x H' => H' = H ∧ ∀ xs, SqT K H a xs → xs[i]? = some x, fun i H => ∃ xs, SqT K H a xs ∧ xs.length ≤ i⟩
/-- lo, lo + 1, .. (n of them) -/
def Itr (lo : Int) (n : Nat) : It := ⟨fun i _ => i < n, fun i H x H' => H' = H ∧ x = .int (lo + i), fun i _ => n ≤ i⟩
theorem turn_list {P : Program} {w : World} {K : PySem.W.Frag} {tg : Expr} (a it : Addr) : Turn P w K tg (Itl K a) [it] it (fun i h => h.IsListIter it a i) where
  mem := by simp
  obj := fun i h st b hb => by
    have e : b = it := by simpa using hb
    subst e
    obtain ⟨o, e, c, d⟩ := st
    exact ⟨o, e, fun v z => by rw [d] at z; cases z⟩
  keep := fun i h h' st k => st.at fun o e => k it (by simp) o e
  item := by
    intro X hP hw hK hc i pins s σ H E I hf st hg
    subst hP hw hK
    obtain ⟨xs, x, hq, hx⟩ := hg
    obtain ⟨its, rv, p, hz⟩ := I.list hq
    obtain ⟨u, hu, ru⟩ := rv.get hx
    obtain ⟨f0, f1, f2, f3, f4, f5⟩ := hf it (by simp)
    refine wpAny_pyNext_list_item st p.isList (x := u) (by simpa using hu) fun h' st' sb => ?_
    have I1 : Inv X pins σ H { s with heap := h' } := I.turned (t' := s.toks) (fun b o hb e => (sb.2 b hb).trans e) f0 f1 f3 f4 f5
    obtain ⟨o, e, c, d⟩ := id st'
    exact ⟨u, rfl, go_of (s := { s with heap := h' }) e c d (by decide) ⟨x, H, I1, ru, ⟨rfl, fun ys hy => by rw [I.list_inj hy hq]; exact hx⟩, st', fun b hb => (hf b hb).1⟩⟩
  done := by
    intro X hP hw hK hc i pins s σ H E I hf st hg
    subst hP hw hK
    obtain ⟨xs, hq, hx⟩ := hg
    obtain ⟨its, rv, p, hz⟩ := I.list hq
    obtain ⟨f0, f1, f2, f3, f4, f5⟩ := hf it (by simp)
    have hl := rv.length
    exact wpAny_pyNext_list_end (I.ok.hd hc) st p.isList (by simp; omega) fun h' eb => ⟨rfl, I.turned (t' := s.toks) (fun b o hb e => eb b o hb e) f0 f1 f3 f4 f5⟩
  self := fun _ _ _ _ _ st h => wpAny_pyIter_listiter st h
theorem turn_tuple {P : Program} {w : World} {K : PySem.W.Frag} {tg : Expr} (a it : Addr) : Turn P w K tg (Itt K a) [it] it (fun i h => h.IsTupleIter it a i) where
  mem := by simp
  obj := fun i h st b hb => by
    have e : b = it := by simpa using hb
    subst e
    obtain ⟨o, e, c, d⟩ := st
    exact ⟨o, e, fun v z => by rw [d] at z; cases z⟩
  keep := fun i h h' st k => st.at fun o e => k it (by simp) o e
  item := by
    intro X hP hw hK hc i pins s σ H E I hf st hg
    subst hP hw hK
    obtain ⟨xs, x, hq, hx⟩ := hg
    obtain ⟨its, rv, p, hz⟩ := I.tuple hq
    obtain ⟨u, hu, ru⟩ := rv.get hx
    obtain ⟨f0, f1, f2, f3, f4, f5⟩ := hf it (by simp)
    refine wpAny_pyNext_tuple_item st (show s.heap.IsTuple a its.toArray from p) (x := u) (by simpa using hu) fun h' st' sb => ?_
    have I1 : Inv X pins σ H { s with heap := h' } := I.turned (t' := s.toks) (fun b o hb e => (sb.2 b hb).trans e) f0 f1 f3 f4 f5
    obtain ⟨o, e, c, d⟩ := id st'
    exact ⟨u, rfl, go_of (s := { s with heap := h' }) e c d (by decide) ⟨x, H, I1, ru, ⟨rfl, fun ys hy => by rw [I.tuple_inj hy hq]; exact hx⟩, st', fun b hb => (hf b hb).1⟩⟩
  done := by
    intro X hP hw hK hc i pins s σ H E I hf st hg
    subst hP hw hK
    obtain ⟨xs, hq, hx⟩ := hg
    obtain ⟨its, rv, p, hz⟩ := I.tuple hq
    obtain ⟨f0, f1, f2, f3, f4, f5⟩ := hf it (by simp)
    have hl := rv.length
    exact wpAny_pyNext_tuple_end (I.ok.hd hc) st (show s.heap.IsTuple a its.toArray from p) (by simp; omega) fun h' eb => ⟨rfl, I.turned (t' := s.toks) (fun b o hb e => eb b o hb e) f0 f1 f3 f4 f5⟩
  self := fun _ _ _ _ _ st h => wpAny_pyIter_tupleiter st h
theorem turn_range {P : Program} {w : World} {K : PySem.W.Frag} {tg : Expr} (it : Addr) (lo : Int) (n : Nat) : Turn P w K tg (Itr lo n) [it] it (fun i h => IsRangeIter h it (lo + (i : Nat) * 1) ((n : Int) - (i : Nat)) 1) where
  mem := by simp
  obj := fun i h st b hb => by
    have e : b = it := by simpa using hb
    subst e
    exact ⟨_, st, fun v z => by
      have z' : Data.fields _ = Data.cell v := z
      cases z'⟩
  keep := fun i h h' st k => k it (by simp) _ st
  item := by
    intro X hP hw hK hc i pins s σ H E I hf st hg
    subst hP hw hK
    obtain ⟨f0, f1, f2, f3, f4, f5⟩ := hf it (by simp)
    have W := Walks.range (prog := X.prog) (w := X.w) (I.ok.hd hc) it lo 1 n
    refine W.item i s _ _ hg st fun v h' tk hv st' kk => ?_
    obtain ⟨t, rfl⟩ := hv
    have I1 : Inv X pins σ H { s with heap := h', toks := tk } := I.turned (fun b o hb e => kk b o (by simpa using hb) e) f0 f1 f3 f4 f5
    refine ⟨_, rfl, go_of (s := { s with heap := h', toks := tk }) (n := "range_iterator") st' rfl rfl (by decide) ⟨.int (lo + i), H, I1, ⟨t, ?_⟩, ⟨rfl, rfl⟩, st', fun b hb => (hf b hb).1⟩⟩
    rw [Int.mul_one]
  done := by
    intro X hP hw hK hc i pins s σ H E I hf st hg
    subst hP hw hK
    obtain ⟨f0, f1, f2, f3, f4, f5⟩ := hf it (by simp)
    exact wpAny_pyNext_range_end (I.ok.hd hc) st (by have : n ≤ i := hg; omega) fun h' eb => ⟨rfl, I.turned (t' := s.toks) (fun b o hb e => eb b o hb e) f0 f1 f3 f4 f5⟩
  self := fun _ _ _ _ _ st h => wpAny_pyIter_rangeiter st h
end L2

namespace L2
open PySem PySem.Spec PyProof.Rows
section
variable {X : Cx} {tg : Expr}
def iList (K : PySem.W.Frag) (tl : TE) : TI := fun σ H R => tl σ H fun x H1 => ∃ a, x = .ref a ∧ (∃ xs, SqL K H1 a xs) ∧ R (Itl K a) H1
def iTup (K : PySem.W.Frag) (tl : TE) : TI := fun σ H R => tl σ H fun x H1 => ∃ a, x = .ref a ∧ (∃ xs, SqT K H1 a xs) ∧ R (Itt K a) H1
theorem pi_list {l : Expr} {tl : TE} (hl : PE X l tl) : PI X tg l (iList X.K tl) := by
  intro pins s σ H R I h
  refine thn (hl pins s σ H _ I h) fun v s1 ⟨x, H1, I1, r1, q1⟩ => ?_
  obtain ⟨a, e, ⟨xs, hq⟩, q⟩ := q1
  subst e
  cases r1
  obtain ⟨its, rv, p, hz⟩ := I1.list hq
  refine wpAny_pyIter_list p.isList ?_
  refine ⟨s1.heap.objs.size, [s1.heap.objs.size], _, _, H1, rfl, I1.kept (t' := s1.toks) fun b o e => Heap.get?_push_of_some _ e, turn_list a _, ⟨_, Heap.get?_push_size _ rfl, rfl, rfl⟩, fun b hb => ?_, q⟩
  have e : b = s1.heap.objs.size := by simpa using hb
  subst e
  exact I1.fpOk (Nat.le_refl _) (I1.hok.fresh (Nat.le_refl _))
theorem pi_tup {l : Expr} {tl : TE} (hl : PE X l tl) : PI X tg l (iTup X.K tl) := by
  intro pins s σ H R I h
  refine thn (hl pins s σ H _ I h) fun v s1 ⟨x, H1, I1, r1, q1⟩ => ?_
  obtain ⟨a, e, ⟨xs, hq⟩, q⟩ := q1
  subst e
  cases r1
  obtain ⟨its, rv, p, hz⟩ := I1.tuple hq
  refine wpAny_pyIter_tuple (show s1.heap.IsTuple a its.toArray from p) ?_
  refine ⟨s1.heap.objs.size, [s1.heap.objs.size], _, _, H1, rfl, I1.kept (t' := s1.toks) fun b o e => Heap.get?_push_of_some _ e, turn_tuple a _, ⟨_, Heap.get?_push_size _ rfl, rfl, rfl⟩, fun b hb => ?_, q⟩
  have e : b = s1.heap.objs.size := by simpa using hb
  subst e
  exact I1.fpOk (Nat.le_refl _) (I1.hok.fresh (Nat.le_refl _))
/-- a range object just made, walked -/
theorem range_it {pins : List (Addr × Obj)} {σ : St} {H : Hp} {s : Shared} {R : It → Hp → Prop} {E : Value → Shared → Prop} {lo hi : Int} {t u v : Tok} {tk : Nat} (I : Inv X pins σ H s) (h1 : -(2 ^ 62) ≤ lo) (h2 : lo < 2 ^ 62) (h3 : -(2 ^ 62) ≤ hi) (h4 : hi < 2 ^ 62)
    (q : R (Itr lo (hi - lo).toNat) H) : wpAny (model X.prog X.w) X.A (pyIter (.ref s.heap.objs.size)) (PIE X pins σ tg R) E { s with heap := s.heap.push { cls := .type "range", data := .fields #[.int lo t, .int hi u, .int 1 v] }, toks := tk } := by
  refine wpAny_pyIter_range (IsRange.new ..) (small_one h1 h2 h3 h4) ?_
  have I1 : Inv X pins σ H { s with heap := s.heap.push { cls := .type "range", data := .fields #[.int lo t, .int hi u, .int 1 v] }, toks := tk } := I.kept fun b o e => Heap.get?_push_of_some _ e
  refine ⟨(s.heap.push { cls := .type "range", data := .fields #[.int lo t, .int hi u, .int 1 v] }).objs.size, [(s.heap.push { cls := .type "range", data := .fields #[.int lo t, .int hi u, .int 1 v] }).objs.size], _, _, H, rfl,
    I1.kept (t' := tk) fun b o e => Heap.get?_push_of_some _ e, turn_range _ lo (hi - lo).toNat, ?_, fun b hb => ?_, q⟩
  · have e1 : lo + ((0 : Nat) : Int) * 1 = lo := by simp
    have e2 : (((hi - lo).toNat : Nat) : Int) - ((0 : Nat) : Int) = Builtin.Range.rangeSize lo hi 1 := by rw [rangeSize_one]; split <;> omega
    show IsRangeIter _ _ (lo + ((0 : Nat) : Int) * 1) ((((hi - lo).toNat : Nat) : Int) - ((0 : Nat) : Int)) 1
    rw [e1, e2]
    exact Heap.get?_push_size _ rfl
  · have e : b = (s.heap.push { cls := .type "range", data := .fields #[.int lo t, .int hi u, .int 1 v] }).objs.size := by simpa using hb
    subst e
    exact I1.fpOk (Nat.le_refl _) (I1.hok.fresh (Nat.le_refl _))
def iRng1 (ta : TA) : TI := fun σ H R => ta σ H fun vs H1 => ∃ j : Int, vs = [.int j] ∧ -(2 ^ 62) ≤ j ∧ j < 2 ^ 62 ∧ R (Itr 0 j.toNat) H1
def iRng2 (ta : TA) : TI := fun σ H R => ta σ H fun vs H1 => ∃ i j : Int, vs = [.int i, .int j] ∧ (-(2 ^ 62) ≤ i ∧ i < 2 ^ 62 ∧ -(2 ^ 62) ≤ j ∧ j < 2 ^ 62) ∧ R (Itr i (j - i).toNat) H1
theorem pi_range1 {a : Expr} {ta : TA} {p pos : Pos} (hg : Gl X "range") (hm : X.mg "range" = none) (ha : PA X [a] ta) (hs : starEach [a] X.env = [(false, eval a X.env)] := by exact star_plain rfl) : PI X tg (.Call (.Name "range" p) [a] [] pos) (iRng1 ta) := by
  intro pins s σ H R I h
  refine Call_ (ld_blt I hg hm boot_range (PyProof.Rows.callWith_type1 (thn (ha pos pins s σ H _ I h) fun us s1 ⟨vs, H1, I1, r1, q1⟩ => ?_) hs rfl))
  obtain ⟨j, e, q1, q2, q⟩ := q1
  subst e
  cases r1 with
  | cons r rr =>
    cases rr
    obtain ⟨t, rfl⟩ := r
    exact call_range_1 (range_it I1 (by omega) (by omega) q1 q2 (by simpa using q))
theorem pi_range2 {a b : Expr} {ta : TA} {p pos : Pos} (hg : Gl X "range") (hm : X.mg "range" = none) (ha : PA X [a, b] ta) (hs : starEach [a, b] X.env = [(false, eval a X.env), (false, eval b X.env)] := by rfl) (hs2 : starEach [b] X.env = [(false, eval b X.env)] := by rfl) :
    PI X tg (.Call (.Name "range" p) [a, b] [] pos) (iRng2 ta) := by
  intro pins s σ H R I h
  refine Call_ (ld_blt I hg hm boot_range (PyProof.Rows.callWith_type1 (thn (ha pos pins s σ H _ I h) fun us s1 ⟨vs, H1, I1, r1, q1⟩ => ?_) (by rw [hs, hs2]) (by rw [hs2]; rfl)))
  obtain ⟨i, j, e, ⟨q1, q2, q3, q4⟩, q⟩ := q1
  subst e
  cases r1 with
  | cons r rr =>
    cases rr with
    | cons r' rr =>
      cases rr
      obtain ⟨t, rfl⟩ := r
      obtain ⟨t', rfl⟩ := r'
      exact call_range_2 (range_it I1 q1 q2 q3 q4 q)

/-! ### for -/
/-- W: the invariant by the turn and a measure; N: what the body is to reach -/
def tFor (wi : TI) (g : TG) (tb : TS) : TS := fun D σ H => wi σ H fun J H1 => ∃ W : Nat → Nat → St → Hp → Prop, (∃ m, W 0 m σ H1) ∧ ∀ i m σ H, W i m σ H →
  (J.stop i H ∧ D.nx σ H) ∨ (J.go i H ∧ ∃ N : St → Hp → Prop, (∀ σ' H', N σ' H' → ∃ m', m' < m ∧ W (i + 1) m' σ' H') ∧ ∀ x H', J.yld i H x H' → g x σ H' fun σ2 H2 => tb { D with nx := N, ct := N, bk := D.nx } σ2 H2)
/-- the records at fp as they stand -/
def pinsAt (fp : List Addr) (h : Heap) : List (Addr × Obj) := fp.filterMap fun b => (h.get? b).map fun o => (b, o)
theorem mem_pinsAt {fp : List Addr} {h : Heap} {b : Addr} {o : Obj} (hb : b ∈ fp) (e : h.get? b = some o) : (b, o) ∈ pinsAt fp h := List.mem_filterMap.mpr ⟨b, hb, by rw [e]; rfl⟩
theorem of_pinsAt {fp : List Addr} {h : Heap} {p : Addr × Obj} (hp : p ∈ pinsAt fp h) : p.1 ∈ fp ∧ h.get? p.1 = some p.2 := by
  obtain ⟨b, hb, e⟩ := List.mem_filterMap.mp hp
  cases q : h.get? b with
  | none => rw [q] at e; cases e
  | some o =>
    rw [q] at e
    have e' : (b, o) = p := Option.some.inj e
    subst e'
    exact ⟨hb, q⟩
theorem Inv.pinned {pins : List (Addr × Obj)} {σ : St} {H : Hp} {s : Shared} {fp : List Addr} (I : Inv X pins σ H s) (hf : ∀ b ∈ fp, FpOk X pins H b) (ho : ∀ b ∈ fp, ∃ o, s.heap.get? b = some o ∧ ∀ v, o.data ≠ .cell v) : Inv X (pins ++ pinsAt fp s.heap) σ H s :=
  I.pins_of fun p hp => (List.mem_append.mp hp).elim (fun z => I.pin p (List.mem_append_right _ z)) fun z => by
    obtain ⟨hb, e⟩ := of_pinsAt z
    obtain ⟨f0, f1, f2, _⟩ := hf p.1 hb
    obtain ⟨o, e', d⟩ := ho p.1 hb
    rw [e] at e'; cases e'
    exact ⟨e, f0, f1, f2, d⟩
theorem Inv.unpinned {pins pl : List (Addr × Obj)} {σ : St} {H : Hp} {s : Shared} (I : Inv X (pins ++ pl) σ H s) : Inv X pins σ H s := I.pins_of fun p hp => I.pin p (List.mem_append_right _ (List.mem_append_left _ hp))
theorem ps_for {iter : Expr} {body : List Stmt} {wi : TI} {g : TG} {tb : TS} {pos : Pos} (hp : PassesOwn (model X.prog X.w) X.A X.env X.xe) (hc : X.calm = true) (hi : PI X tg iter wi) (hg : PG X tg g) (hb : PSs X body tb)
    (hs : ∀ x, foldedSetIterable iter X.env x = pure x := by intro _; rfl) : PS X (.For tg iter body [] pos) (tFor wi g tb) := by
  intro pins s σ H D I h
  refine wpAny_For (thn (hi pins s σ H _ I h) fun v s1 h1 => thn h1 fun itv s2 h2 => ?_) hs
  obtain ⟨it, fp, tn, J, H2, e, I2, T, st2, f2, W, ⟨m0, w0⟩, turn⟩ := h2
  subst e
  -- what stays true of the iterator's objects through the loop
  have stat : ∀ {H' : Hp}, (∀ b ∈ fp, H' b = none) → ∀ b ∈ fp, FpOk X pins H' b := fun hn b hb => ⟨hn b hb, (f2 b hb).2⟩
  refine codeAny_forLoop_any (fun n s' => ∃ i σ' H', Inv X pins σ' H' s' ∧ tn i s'.heap ∧ (∀ b ∈ fp, H' b = none) ∧ W i n σ' H') ?_ m0 ⟨0, σ, H2, I2, st2, fun b hb => (f2 b hb).1, w0⟩
  rintro n s3 ⟨i, σ3, H3, I3, st3, fr3, w3⟩
  rcases turn i n σ3 H3 w3 with ⟨stop, qn⟩ | ⟨go, N, hN, step⟩
  · refine wpAny_passesOwn hp (thn (T.done X rfl rfl rfl hc i pins s3 σ3 H3 X.xe I3 (stat fr3) st3 stop) fun r s4 ⟨hr, I4⟩ => ?_)
    subst hr
    exact wpAny_execs_nil ⟨σ3, H3, I4, qn⟩
  · refine wpAny_passesOwn hp (thn (T.item X rfl rfl rfl hc i pins s3 σ3 H3 X.xe I3 (stat fr3) st3 go) fun r s4 ⟨u, hr, h4⟩ => ?_)
    subst hr
    refine wpAny_passesOwn hp (thn h4 fun _ s5 ⟨x, H5, I5, r5, y5, st5, fr5⟩ => ?_)
    have I5' := I5.pinned (stat fr5) (T.obj _ _ st5)
    refine wpAny_passesOwn hp (thn (hg _ s5 σ3 H5 x u _ I5' r5 (step x H5 y5)) fun _ s6 ⟨σ6, H6, I6, q6⟩ => ?_)
    refine wpAny_passesOwn hp (thn (hb _ s6 σ6 H6 _ I6 q6) fun f s7 q7 => ?_)
    have again : ∀ {σ7 : St} {H7 : Hp}, Inv X (pins ++ pinsAt fp s5.heap) σ7 H7 s7 → N σ7 H7 → ∃ m, m < n ∧ ∃ i σ' H', Inv X pins σ' H' s7 ∧ tn i s7.heap ∧ (∀ b ∈ fp, H' b = none) ∧ W i m σ' H' := fun {σ7 H7} I7 n7 => by
      obtain ⟨m', hm, w7⟩ := hN σ7 H7 n7
      refine ⟨m', hm, i + 1, σ7, H7, I7.unpinned, T.keep _ _ _ st5 fun b hb o e => (I7.pin (b, o) (List.mem_append_right _ (List.mem_append_right _ (mem_pinsAt hb e)))).1, fun b hb => ?_, w7⟩
      obtain ⟨o, e, d⟩ := T.obj _ _ st5 b hb
      exact (I7.pin (b, o) (List.mem_append_right _ (List.mem_append_right _ (mem_pinsAt hb e)))).2.1
    cases f with
    | next => obtain ⟨σ7, H7, I7, n7⟩ := q7; exact again I7 n7
    | cont => obtain ⟨σ7, H7, I7, n7⟩ := q7; exact again I7 n7
    | brk => obtain ⟨σ7, H7, I7, q7⟩ := q7; exact ⟨σ7, H7, I7.unpinned, q7⟩
    | ret v => obtain ⟨x7, σ7, H7, I7, r7, q7⟩ := q7; exact ⟨x7, σ7, H7, I7.unpinned, r7, q7⟩
end

/-! ### the forms one uses -/
/-- over a list that the body leaves as it is -/
theorem for_list {K : PySem.W.Frag} {a : Addr} {xs : List V} {g : TG} {tb : TS} {D : Ends} {σ : St} {H : Hp} (Pv : Nat → St → Hp → Prop) (h0 : Pv 0 σ H) (hl : ∀ i σ H, i ≤ xs.length → Pv i σ H → SqL K H a xs)
    (hs : ∀ i x σ H, xs[i]? = some x → Pv i σ H → g x σ H fun σ2 H2 => tb { D with nx := Pv (i + 1), ct := Pv (i + 1), bk := D.nx } σ2 H2) (hd : ∀ σ H, Pv xs.length σ H → D.nx σ H) :
    ∃ W : Nat → Nat → St → Hp → Prop, (∃ m, W 0 m σ H) ∧ ∀ i m σ H, W i m σ H →
      ((Itl K a).stop i H ∧ D.nx σ H) ∨ ((Itl K a).go i H ∧ ∃ N : St → Hp → Prop, (∀ σ' H', N σ' H' → ∃ m', m' < m ∧ W (i + 1) m' σ' H') ∧ ∀ x H', (Itl K a).yld i H x H' → g x σ H' fun σ2 H2 => tb { D with nx := N, ct := N, bk := D.nx } σ2 H2) := by
  refine ⟨fun i m σ H => m = xs.length - i ∧ i ≤ xs.length ∧ Pv i σ H, ⟨xs.length, by simp, Nat.zero_le _, h0⟩, ?_⟩
  rintro i m σ H ⟨rfl, hi, p⟩
  have q := hl i σ H hi p
  by_cases hlt : i < xs.length
  · refine .inr ⟨⟨xs, xs[i], q, by simp [hlt]⟩, Pv (i + 1), fun σ' H' p' => ⟨xs.length - (i + 1), by omega, rfl, hlt, p'⟩, fun x H' y => ?_⟩
    obtain ⟨e, y⟩ := y
    subst e
    exact hs i x σ _ (y xs q) p
  · have e : i = xs.length := by omega
    subst e
    exact .inl ⟨⟨xs, q, Nat.le_refl _⟩, hd σ H p⟩
theorem for_tup {K : PySem.W.Frag} {a : Addr} {xs : List V} {g : TG} {tb : TS} {D : Ends} {σ : St} {H : Hp} (Pv : Nat → St → Hp → Prop) (h0 : Pv 0 σ H) (hl : ∀ i σ H, i ≤ xs.length → Pv i σ H → SqT K H a xs)
    (hs : ∀ i x σ H, xs[i]? = some x → Pv i σ H → g x σ H fun σ2 H2 => tb { D with nx := Pv (i + 1), ct := Pv (i + 1), bk := D.nx } σ2 H2) (hd : ∀ σ H, Pv xs.length σ H → D.nx σ H) :
    ∃ W : Nat → Nat → St → Hp → Prop, (∃ m, W 0 m σ H) ∧ ∀ i m σ H, W i m σ H →
      ((Itt K a).stop i H ∧ D.nx σ H) ∨ ((Itt K a).go i H ∧ ∃ N : St → Hp → Prop, (∀ σ' H', N σ' H' → ∃ m', m' < m ∧ W (i + 1) m' σ' H') ∧ ∀ x H', (Itt K a).yld i H x H' → g x σ H' fun σ2 H2 => tb { D with nx := N, ct := N, bk := D.nx } σ2 H2) := by
  refine ⟨fun i m σ H => m = xs.length - i ∧ i ≤ xs.length ∧ Pv i σ H, ⟨xs.length, by simp, Nat.zero_le _, h0⟩, ?_⟩
  rintro i m σ H ⟨rfl, hi, p⟩
  have q := hl i σ H hi p
  by_cases hlt : i < xs.length
  · refine .inr ⟨⟨xs, xs[i], q, by simp [hlt]⟩, Pv (i + 1), fun σ' H' p' => ⟨xs.length - (i + 1), by omega, rfl, hlt, p'⟩, fun x H' y => ?_⟩
    obtain ⟨e, y⟩ := y
    subst e
    exact hs i x σ _ (y xs q) p
  · have e : i = xs.length := by omega
    subst e
    exact .inl ⟨⟨xs, q, Nat.le_refl _⟩, hd σ H p⟩
theorem for_range {lo : Int} {n : Nat} {g : TG} {tb : TS} {D : Ends} {σ : St} {H : Hp} (Pv : Nat → St → Hp → Prop) (h0 : Pv 0 σ H)
    (hs : ∀ i σ H, i < n → Pv i σ H → g (.int (lo + i)) σ H fun σ2 H2 => tb { D with nx := Pv (i + 1), ct := Pv (i + 1), bk := D.nx } σ2 H2) (hd : ∀ σ H, Pv n σ H → D.nx σ H) :
    ∃ W : Nat → Nat → St → Hp → Prop, (∃ m, W 0 m σ H) ∧ ∀ i m σ H, W i m σ H →
      ((Itr lo n).stop i H ∧ D.nx σ H) ∨ ((Itr lo n).go i H ∧ ∃ N : St → Hp → Prop, (∀ σ' H', N σ' H' → ∃ m', m' < m ∧ W (i + 1) m' σ' H') ∧ ∀ x H', (Itr lo n).yld i H x H' → g x σ H' fun σ2 H2 => tb { D with nx := N, ct := N, bk := D.nx } σ2 H2) := by
  refine ⟨fun i m σ H => m = n - i ∧ i ≤ n ∧ Pv i σ H, ⟨n, by simp, Nat.zero_le _, h0⟩, ?_⟩
  rintro i m σ H ⟨rfl, hi, p⟩
  by_cases hlt : i < n
  · refine .inr ⟨hlt, Pv (i + 1), fun σ' H' p' => ⟨n - (i + 1), by omega, rfl, hlt, p'⟩, fun x H' y => ?_⟩
    obtain ⟨e, y⟩ := y
    subst e y
    exact hs i σ _ hlt p
  · have e : i = n := by omega
    subst e
    exact .inl ⟨Nat.le_refl _, hd σ H p⟩
/-- while, by a word and a measure of the state -/
theorem while_by {c : TT} {tb : TS} {D : Ends} {σ : St} {H : Hp} (Pv : St → Hp → Prop) (μ : St → Hp → Nat) (h0 : Pv σ H)
    (hs : ∀ σ H, Pv σ H → c σ H fun b H1 => if b = true then tb { D with nx := fun σ' H' => Pv σ' H' ∧ μ σ' H' < μ σ H, ct := fun σ' H' => Pv σ' H' ∧ μ σ' H' < μ σ H, bk := D.nx } σ H1 else D.nx σ H1)
    (mono : ∀ σ H Q Q', (∀ b H1, Q b H1 → Q' b H1) → c σ H Q → c σ H Q') : tWhile c tb D σ H := by
  refine ⟨fun m σ H => m = μ σ H ∧ Pv σ H, ⟨_, rfl, h0⟩, ?_⟩
  rintro m σ H ⟨rfl, p⟩
  refine mono σ H _ _ (fun b H1 q => ?_) (hs σ H p)
  cases b with
  | true => exact ⟨_, fun σ' H' ⟨p', l⟩ => ⟨_, l, rfl, p'⟩, q⟩
  | false => exact q
end L2

namespace L2
open PySem PySem.Spec PyProof.Rows

abbrev R2 := V → V → Hp → VK → Prop
/-- a two-place operation on values: f is binaryOp op, inplaceOp op or compareOp op -/
def OpR (X : Cx) (f : Value → Value → Sem Value) (r : R2) : Prop :=
  ∀ (pins : List (Addr × Obj)) (s : Shared) (σ : St) (H : Hp) (x y : V) (v u : Value) (Q : VK), Inv X pins σ H s → RelV x v → RelV y u → r x y H Q →
    wpAny (model X.prog X.w) X.A (f v u) (EP X pins σ Q) X.xe s
/-- a one-place operation -/
def UnR (X : Cx) (f : Value → Sem Value) (r : V → Hp → VK → Prop) : Prop :=
  ∀ (pins : List (Addr × Obj)) (s : Shared) (σ : St) (H : Hp) (x : V) (v : Value) (Q : VK), Inv X pins σ H s → RelV x v → r x H Q →
    wpAny (model X.prog X.w) X.A (f v) (EP X pins σ Q) X.xe s
/-- a call of a value that is known (a builtin, a type) with values -/
def CallR (X : Cx) (f : Value) (r : List V → Hp → VK → Prop) : Prop :=
  ∀ (pins : List (Addr × Obj)) (s : Shared) (σ : St) (H : Hp) (xs : List V) (us : List Value) (Q : VK), Inv X pins σ H s → Vals xs us → r xs H Q →
    wpAny (model X.prog X.w) X.A (call f us) (EP X pins σ Q) X.xe s
/-- a value's truth -/
def TruR (X : Cx) (r : V → Hp → (Bool → Hp → Prop) → Prop) : Prop :=
  ∀ (pins : List (Addr × Obj)) (s : Shared) (σ : St) (H : Hp) (x : V) (v : Value) (Q : Bool → Hp → Prop), Inv X pins σ H s → RelV x v → r x H Q →
    wpAny (model X.prog X.w) X.A (truthy v) (TP X pins σ Q) X.xe s

def tOp (r : R2) (ta tb : TE) : TE := fun σ H Q => ta σ H fun x H1 => tb σ H1 fun y H2 => r x y H2 Q
def tUn (r : V → Hp → VK → Prop) (ta : TE) : TE := fun σ H Q => ta σ H fun x H1 => r x H1 Q
/-- ints in, under C, and a value out -/
def rI (C : Int → Int → Prop) (g : Int → Int → V) : R2 := fun x y H Q => ∃ i j, x = .int i ∧ y = .int j ∧ C i j ∧ Q (g i j) H
def rI0 (g : Int → Int → V) : R2 := fun x y H Q => ∃ i j, x = .int i ∧ y = .int j ∧ Q (g i j) H
def rU (g : Int → V) : V → Hp → VK → Prop := fun x H Q => ∃ i, x = .int i ∧ Q (g i) H

section
variable {X : Cx} {a b c : Expr} {ta tb tc : TE} {pos : Pos}

theorem binT (ha : PE X a ta) (hb : PE X b tb) {pins : List (Addr × Obj)} {s : Shared} {σ : St} {H : Hp} {R : V → V → Hp → Prop} (I : Inv X pins σ H s)
    (h : ta σ H fun x H1 => tb σ H1 fun y H2 => R x y H2) {Q : Value → Shared → Prop} {f : Value → Value → Sem Value}
    (hf : ∀ v u s2 x y H2, Inv X pins σ H2 s2 → RelV x v → RelV y u → R x y H2 → wpAny (model X.prog X.w) X.A (f v u) Q X.xe s2) :
    wpAny (model X.prog X.w) X.A (eval a X.env) (fun v s₁ => wpAny (model X.prog X.w) X.A (eval b X.env) (fun u s₂ => wpAny (model X.prog X.w) X.A (f v u) Q X.xe s₂) X.xe s₁) X.xe s := by
  refine thn (ha pins s σ H _ I h) fun v s1 ⟨x, H1, I1, r1, q1⟩ => ?_
  refine thn (hb pins s1 σ H1 _ I1 q1) fun u s2 ⟨y, H2, I2, r2, q2⟩ => ?_
  exact hf v u s2 x y H2 I2 r1 r2 q2

theorem pe_op {op : Operator} {r : R2} (ho : OpR X (binaryOp op) r) (ha : PE X a ta) (hb : PE X b tb) : PE X (.BinOp a op b pos) (tOp r ta tb) := by
  intro pins s σ H Q I h
  exact wpAny_BinOp (binT ha hb I h fun v u s2 x y H2 I2 rx ry q => ho pins s2 σ H2 x y v u Q I2 rx ry q)
theorem pe_un {op : UnaryOp} {r : V → Hp → VK → Prop} (ho : UnR X (unaryOp op) r) (ha : PE X a ta) : PE X (.UnaryOp op a pos) (tUn r ta) := by
  intro pins s σ H Q I h
  exact UnaryOp_ (thn (ha pins s σ H _ I h) fun v s1 ⟨x, H1, I1, r1, q1⟩ => ho pins s1 σ H1 x v Q I1 r1 q1)
/-- a op= e at a name: the name's slot i -/
theorem augR {op : Operator} {r : R2} (ho : OpR X (inplaceOp op) r) {pins : List (Addr × Obj)} {s : Shared} {σ : St} {H : Hp} {x y : V} {v u : Value} {Q : VK} (I : Inv X pins σ H s)
    (rx : RelV x v) (ry : RelV y u) (q : r x y H Q) : wpAny (model X.prog X.w) X.A (inplaceOp op v u) (EP X pins σ Q) X.xe s := ho pins s σ H x y v u Q I rx ry q

/-! ### ints -/
theorem opI {f : Value → Value → Sem Value} {C : Int → Int → Prop} {g : Int → Int → Int}
    (rule : ∀ (i j : Int) (t u : Tok) (s : Shared) (Q : Value → Shared → Prop) (E : Value → Shared → Prop), C i j → Q (.int (g i j) s.toks) { s with toks := s.toks + 1 } → wpAny (model X.prog X.w) X.A (f (.int i t) (.int j u)) Q E s) :
    OpR X f (rI C fun i j => .int (g i j)) := by
  intro pins s σ H x y v u Q I rx ry h
  obtain ⟨i, j, rfl, rfl, hc, q⟩ := h
  obtain ⟨t, rfl⟩ := rx
  obtain ⟨t', rfl⟩ := ry
  exact rule i j t t' s _ _ hc ⟨.int (g i j), H, I.tok _, ⟨_, rfl⟩, q⟩
theorem opI0 {f : Value → Value → Sem Value} {g : Int → Int → Int}
    (rule : ∀ (i j : Int) (t u : Tok) (s : Shared) (Q : Value → Shared → Prop) (E : Value → Shared → Prop), Q (.int (g i j) s.toks) { s with toks := s.toks + 1 } → wpAny (model X.prog X.w) X.A (f (.int i t) (.int j u)) Q E s) :
    OpR X f (rI0 fun i j => .int (g i j)) := by
  intro pins s σ H x y v u Q I rx ry h
  obtain ⟨i, j, rfl, rfl, q⟩ := h
  obtain ⟨t, rfl⟩ := rx
  obtain ⟨t', rfl⟩ := ry
  exact rule i j t t' s _ _ ⟨.int (g i j), H, I.tok _, ⟨_, rfl⟩, q⟩
theorem opB0 {f : Value → Value → Sem Value} {g : Int → Int → Bool}
    (rule : ∀ (i j : Int) (t u : Tok) (s : Shared) (Q : Value → Shared → Prop) (E : Value → Shared → Prop), Q (.bool (g i j)) s → wpAny (model X.prog X.w) X.A (f (.int i t) (.int j u)) Q E s) :
    OpR X f (rI0 fun i j => .bl (g i j)) := by
  intro pins s σ H x y v u Q I rx ry h
  obtain ⟨i, j, rfl, rfl, q⟩ := h
  obtain ⟨t, rfl⟩ := rx
  obtain ⟨t', rfl⟩ := ry
  exact rule i j t t' s _ _ ⟨.bl (g i j), H, I, rfl, q⟩

def CDiv (i j : Int) : Prop := 0 < j ∧ j < 1073741824
def CDivN (i j : Int) : Prop := j ≠ 0 ∧ j.natAbs < 1073741824
def CPow (i j : Int) : Prop := 0 ≤ j ∧ j ≤ 1000000 ∧ i.natAbs < 2 ^ 64
def CMul (i j : Int) : Prop := (-(2 ^ 64) < i ∧ i < 2 ^ 64) ∨ (-(2 ^ 64) < j ∧ j < 2 ^ 64)
theorem CMul.ok {i j : Int} (h : CMul i j) : IntMulOk i j := by
  rcases h with ⟨h1, h2⟩ | ⟨h1, h2⟩
  · exact .of_left (intBits_le_64 h1 h2)
  · exact .of_right (intBits_le_64 h1 h2)
theorem two_pow_nn (k : Nat) : (0 : Int) ≤ 2 ^ k := by
  rw [two_pow_cast]
  exact Int.natCast_nonneg _

theorem op_add : OpR X (binaryOp .Add) (rI0 fun i j => .int (i + j)) := opI0 fun _ _ _ _ _ _ _ q => add_int q
theorem op_sub : OpR X (binaryOp .Sub) (rI0 fun i j => .int (i - j)) := opI0 fun _ _ _ _ _ _ _ q => sub_int q
theorem op_mul : OpR X (binaryOp .Mult) (rI CMul fun i j => .int (i * j)) := opI fun _ _ _ _ _ _ _ hc q => mul_int q hc.ok
/-- // by a positive divisor -/
theorem op_fdiv : OpR X (binaryOp .FloorDiv) (rI CDiv fun i j => .int (i / j)) := opI fun i j _ _ _ _ _ hc q => by
  have h1 : (0 : Int) < j := hc.1
  have h2 : j < 1073741824 := hc.2
  exact floordiv_int (by omega) (by rw [Int.fdiv_eq_ediv_of_nonneg i (by omega)]; exact q) (.inl (PyProof.noPylong_small (by omega)))
theorem op_fdivN : OpR X (binaryOp .FloorDiv) (rI CDivN fun i j => .int (i.fdiv j)) := opI fun _ _ _ _ _ _ _ hc q => floordiv_int hc.1 q (.inl (PyProof.noPylong_small hc.2))
/-- % by a positive divisor of any size -/
theorem op_mod : OpR X (binaryOp .Mod) (rI (fun _ j => 0 < j) fun i j => .int (i % j)) := opI fun i j _ _ _ _ _ hc q => by
  have h1 : (0 : Int) < j := hc
  exact mod_int' (by omega) (by rw [Int.fmod_eq_emod_of_nonneg i (by omega)]; exact q)
theorem op_modN : OpR X (binaryOp .Mod) (rI (fun _ j => j ≠ 0) fun i j => .int (i.fmod j)) := opI fun _ _ _ _ _ _ _ hc q => mod_int' hc q
theorem op_pow : OpR X (binaryOp .Pow) (rI CPow fun i j => .int (i ^ j.toNat)) := opI fun _ _ _ _ _ _ _ hc q => pow_int_small hc.1 hc.2.1 hc.2.2 q
theorem op_shl : OpR X (binaryOp .LShift) (rI CPow fun i j => .int (i * 2 ^ j.toNat)) := opI fun _ _ _ _ _ _ _ hc q => lshift_int_small hc.1 hc.2.1 hc.2.2 q
theorem op_shr : OpR X (binaryOp .RShift) (rI (fun _ j => 0 ≤ j) fun i j => .int (i / 2 ^ j.toNat)) := opI fun i j _ _ _ _ _ hc q =>
  rshift_int hc (by rw [Int.fdiv_eq_ediv_of_nonneg i (two_pow_nn _)]; exact q)
theorem op_and : OpR X (binaryOp .BitAnd) (rI0 fun i j => .int (Builtin.bitAnd i j)) := opI0 fun _ _ _ _ _ _ _ q => and_int q
theorem op_or : OpR X (binaryOp .BitOr) (rI0 fun i j => .int (Builtin.bitOr i j)) := opI0 fun _ _ _ _ _ _ _ q => or_int q
theorem op_xor : OpR X (binaryOp .BitXor) (rI0 fun i j => .int (Builtin.bitXor i j)) := opI0 fun _ _ _ _ _ _ _ q => xor_int q

theorem iop_add : OpR X (inplaceOp .Add) (rI0 fun i j => .int (i + j)) := opI0 fun _ _ _ _ _ _ _ q => iadd_int q
theorem iop_sub : OpR X (inplaceOp .Sub) (rI0 fun i j => .int (i - j)) := opI0 fun _ _ _ _ _ _ _ q => isub_int q
theorem iop_mul : OpR X (inplaceOp .Mult) (rI CMul fun i j => .int (i * j)) := opI fun _ _ _ _ _ _ _ hc q => imul_int q hc.ok
theorem iop_fdiv : OpR X (inplaceOp .FloorDiv) (rI CDiv fun i j => .int (i / j)) := opI fun i j _ _ _ _ _ hc q => by
  have h1 : (0 : Int) < j := hc.1
  have h2 : j < 1073741824 := hc.2
  exact ifloordiv_int (by omega) (by rw [Int.fdiv_eq_ediv_of_nonneg i (by omega)]; exact q) (.inl (PyProof.noPylong_small (by omega)))
theorem iop_mod : OpR X (inplaceOp .Mod) (rI (fun _ j => 0 < j) fun i j => .int (i % j)) := opI fun i j _ _ _ _ _ hc q => by
  have h1 : (0 : Int) < j := hc
  exact imod_int (by omega) (by rw [Int.fmod_eq_emod_of_nonneg i (by omega)]; exact q)
theorem iop_shl : OpR X (inplaceOp .LShift) (rI CPow fun i j => .int (i * 2 ^ j.toNat)) := opI fun _ _ _ _ _ _ _ hc q => ilshift_int_small hc.1 hc.2.1 hc.2.2 q
theorem iop_shr : OpR X (inplaceOp .RShift) (rI (fun _ j => 0 ≤ j) fun i j => .int (i / 2 ^ j.toNat)) := opI fun i j _ _ _ _ _ hc q =>
  irshift_int hc (by rw [Int.fdiv_eq_ediv_of_nonneg i (two_pow_nn _)]; exact q)
theorem iop_and : OpR X (inplaceOp .BitAnd) (rI0 fun i j => .int (Builtin.bitAnd i j)) := opI0 fun _ _ _ _ _ _ _ q => iand_int q
theorem iop_or : OpR X (inplaceOp .BitOr) (rI0 fun i j => .int (Builtin.bitOr i j)) := opI0 fun _ _ _ _ _ _ _ q => ior_int q
theorem iop_xor : OpR X (inplaceOp .BitXor) (rI0 fun i j => .int (Builtin.bitXor i j)) := opI0 fun _ _ _ _ _ _ _ q => ixor_int q

theorem unI {f : Value → Sem Value} {g : Int → Int}
    (rule : ∀ (i : Int) (t : Tok) (s : Shared) (Q : Value → Shared → Prop) (E : Value → Shared → Prop), Q (.int (g i) s.toks) { s with toks := s.toks + 1 } → wpAny (model X.prog X.w) X.A (f (.int i t)) Q E s) :
    UnR X f (rU fun i => .int (g i)) := by
  intro pins s σ H x v Q I rx h
  obtain ⟨i, rfl, q⟩ := h
  obtain ⟨t, rfl⟩ := rx
  exact rule i t s _ _ ⟨.int (g i), H, I.tok _, ⟨_, rfl⟩, q⟩
theorem un_neg : UnR X (unaryOp .USub) (rU fun i => .int (-i)) := unI fun _ _ _ _ _ q => neg_int q
theorem un_inv : UnR X (unaryOp .Invert) (rU fun i => .int (Builtin.bitNot i)) := unI fun _ _ _ _ _ q => invert_int q

/-! ### bools among ints: n += (a < b) -/
theorem op_add_ib : OpR X (binaryOp .Add) (fun x y H Q => ∃ i k, x = .int i ∧ y = .bl k ∧ Q (.int (i + b2i k)) H) := by
  intro pins s σ H x y v u Q I rx ry h
  obtain ⟨i, k, rfl, rfl, q⟩ := h
  obtain ⟨t, rfl⟩ := rx
  cases ry
  exact add_int_bool ⟨.int (i + b2i k), H, I.tok _, ⟨_, rfl⟩, q⟩
end

/-! ### comparisons -/
/-- the scalars that == tells apart as data does -/
def scal : V → V → Bool
  | .non, .non => true | .non, .int _ => true | .int _, .non => true | .non, .bl _ => true | .bl _, .non => true | .non, .str _ => true | .str _, .non => true
  | .int _, .int _ => true | .bl _, .bl _ => true | .str _, .str _ => true | .byt _, .byt _ => true
  | .int _, .str _ => true | .str _, .int _ => true | .bl _, .str _ => true | .str _, .bl _ => true
  | _, _ => false
def rEq : R2 := fun x y H Q => scal x y = true ∧ Q (.bl (decide (x = y))) H
def rNe : R2 := fun x y H Q => scal x y = true ∧ Q (.bl (!decide (x = y))) H

theorem dec_int {i j : Int} : decide (V.int i = V.int j) = (i == j) := by
  rw [Bool.eq_iff_iff]
  simp
theorem dec_bl {i j : Bool} : decide (V.bl i = V.bl j) = (i == j) := by
  rw [Bool.eq_iff_iff]
  simp
theorem dec_str {i j : Str} : decide (V.str i = V.str j) = (i == j) := by
  rw [Bool.eq_iff_iff]
  simp
theorem dec_byt {i j : Array UInt8} : decide (V.byt i = V.byt j) = (i.toList == j.toList) := by
  rw [Bool.eq_iff_iff]
  cases i
  cases j
  simp

section
variable {X : Cx} {a b c : Expr} {ta tb tc : TE} {pos : Pos}
theorem fin_bl {pins : List (Addr × Obj)} {σ : St} {H : Hp} {s : Shared} {Q : VK} {k k' : Bool} (I : Inv X pins σ H s) (q : Q (.bl k) H) (e : k = k') : EP X pins σ Q (.bool k') s := by
  subst e
  exact ⟨.bl k, H, I, rfl, q⟩
theorem op_eq : OpR X (compareOp .Eq) rEq := by
  intro pins s σ H x y v u Q I rx ry h
  obtain ⟨hs, q⟩ := h
  cases x with
  | non =>
    cases rx
    cases y with
    | non => cases ry; exact PySem.EqNone.eq_none_none (fin_bl I q (by simp))
    | bl j => cases ry; exact PySem.EqNone.eq_none_bool (fin_bl I q (by simp))
    | int j => obtain ⟨t', rfl⟩ := ry; exact PySem.EqNone.eq_none_int (fin_bl I q (by simp))
    | str j => obtain ⟨t', rfl⟩ := ry; exact PySem.EqNone.eq_none_str (fin_bl I q (by simp))
    | _ => exact absurd (show false = true from hs) Bool.false_ne_true
  | bl i =>
    cases rx
    cases y with
    | non => cases ry; exact PySem.EqNone.eq_bool_none (fin_bl I q (by simp))
    | bl j => cases ry; exact eq_bool (fin_bl I q dec_bl)
    | str j => obtain ⟨t', rfl⟩ := ry; exact PySem.EqMixed.eq_bool_str (fin_bl I q (by simp))
    | _ => exact absurd (show false = true from hs) Bool.false_ne_true
  | int i =>
    obtain ⟨t, rfl⟩ := rx
    cases y with
    | non => cases ry; exact PySem.EqNone.eq_int_none (fin_bl I q (by simp))
    | int j => obtain ⟨t', rfl⟩ := ry; exact eq_int (fin_bl I q dec_int)
    | str j => obtain ⟨t', rfl⟩ := ry; exact PySem.EqMixed.eq_int_str (fin_bl I q (by simp))
    | _ => exact absurd (show false = true from hs) Bool.false_ne_true
  | str i =>
    obtain ⟨t, rfl⟩ := rx
    cases y with
    | non => cases ry; exact PySem.EqNone.eq_str_none (fin_bl I q (by simp))
    | bl j => cases ry; exact PySem.EqMixed.eq_str_bool (fin_bl I q (by simp))
    | int j => obtain ⟨t', rfl⟩ := ry; exact PySem.EqMixed.eq_str_int (fin_bl I q (by simp))
    | str j => obtain ⟨t', rfl⟩ := ry; exact eq_str (fin_bl I q dec_str)
    | _ => exact absurd (show false = true from hs) Bool.false_ne_true
  | byt i =>
    obtain ⟨t, rfl⟩ := rx
    cases y with
    | byt j => obtain ⟨t', rfl⟩ := ry; exact PySem.W.eq_bytes (fin_bl I q dec_byt)
    | _ => exact absurd (show false = true from hs) Bool.false_ne_true
  | _ => cases y <;> exact absurd (show false = true from hs) Bool.false_ne_true
theorem op_ne : OpR X (compareOp .NotEq) rNe := by
  intro pins s σ H x y v u Q I rx ry h
  obtain ⟨hs, q⟩ := h
  cases x with
  | non =>
    cases rx
    cases y with
    | non => cases ry; exact PySem.EqNone.ne_none_none (fin_bl I q (by simp))
    | bl j => cases ry; exact PySem.EqNone.ne_none_bool (fin_bl I q (by simp))
    | int j => obtain ⟨t', rfl⟩ := ry; exact PySem.EqNone.ne_none_int (fin_bl I q (by simp))
    | str j => obtain ⟨t', rfl⟩ := ry; exact PySem.EqNone.ne_none_str (fin_bl I q (by simp))
    | _ => exact absurd (show false = true from hs) Bool.false_ne_true
  | bl i =>
    cases rx
    cases y with
    | non => cases ry; exact PySem.EqNone.ne_bool_none (fin_bl I q (by simp))
    | bl j => cases ry; exact ne_bool (fin_bl I q (congrArg not dec_bl))
    | str j => obtain ⟨t', rfl⟩ := ry; exact PySem.EqMixed.ne_bool_str (fin_bl I q (by simp))
    | _ => exact absurd (show false = true from hs) Bool.false_ne_true
  | int i =>
    obtain ⟨t, rfl⟩ := rx
    cases y with
    | non => cases ry; exact PySem.EqNone.ne_int_none (fin_bl I q (by simp))
    | int j => obtain ⟨t', rfl⟩ := ry; exact ne_int (fin_bl I q (congrArg not dec_int))
    | str j => obtain ⟨t', rfl⟩ := ry; exact PySem.EqMixed.ne_int_str (fin_bl I q (by simp))
    | _ => exact absurd (show false = true from hs) Bool.false_ne_true
  | str i =>
    obtain ⟨t, rfl⟩ := rx
    cases y with
    | non => cases ry; exact PySem.EqNone.ne_str_none (fin_bl I q (by simp))
    | bl j => cases ry; exact PySem.EqMixed.ne_str_bool (fin_bl I q (by simp))
    | int j => obtain ⟨t', rfl⟩ := ry; exact PySem.EqMixed.ne_str_int (fin_bl I q (by simp))
    | str j => obtain ⟨t', rfl⟩ := ry; exact ne_str (fin_bl I q (congrArg not dec_str))
    | _ => exact absurd (show false = true from hs) Bool.false_ne_true
  | byt i =>
    obtain ⟨t, rfl⟩ := rx
    cases y with
    | byt j => obtain ⟨t', rfl⟩ := ry; exact PySem.W.ne_bytes (fin_bl I q (congrArg not dec_byt))
    | _ => exact absurd (show false = true from hs) Bool.false_ne_true
  | _ => cases y <;> exact absurd (show false = true from hs) Bool.false_ne_true

theorem op_lt : OpR X (compareOp .Lt) (rI0 fun i j => .bl (decide (i < j))) := opB0 fun _ _ _ _ _ _ _ q => lt_int q
theorem op_le : OpR X (compareOp .LtE) (rI0 fun i j => .bl (decide (i ≤ j))) := opB0 fun _ _ _ _ _ _ _ q => le_int q
theorem op_gt : OpR X (compareOp .Gt) (rI0 fun i j => .bl (decide (j < i))) := opB0 fun _ _ _ _ _ _ _ q => gt_int q
theorem op_ge : OpR X (compareOp .GtE) (rI0 fun i j => .bl (decide (j ≤ i))) := opB0 fun _ _ _ _ _ _ _ q => ge_int q
theorem op_lt_str : OpR X (compareOp .Lt) (fun x y H Q => ∃ i j, x = .str i ∧ y = .str j ∧ Q (.bl (decide (i.cps.toList < j.cps.toList))) H) := by
  intro pins s σ H x y v u Q I rx ry h
  obtain ⟨i, j, rfl, rfl, q⟩ := h
  obtain ⟨t, rfl⟩ := rx
  obtain ⟨t', rfl⟩ := ry
  exact lt_str (fin_bl I q rfl)
/-- the one string within the other -/
theorem op_in_str : OpR X (compareOp .In) (fun x y H Q => ∃ i j, x = .str i ∧ y = .str j ∧ Q (.bl (!(Builtin.Str.occurrences j i 0 j.length 1).isEmpty)) H) := by
  intro pins s σ H x y v u Q I rx ry h
  obtain ⟨i, j, rfl, rfl, q⟩ := h
  obtain ⟨t, rfl⟩ := rx
  obtain ⟨t', rfl⟩ := ry
  exact in_str (fin_bl I q rfl)

/-- is None, is not None: the right side a value none -/
theorem op_isN : OpR X (compareOp .Is) (fun x y H Q => y = .non ∧ Q (.bl (decide (x = .non))) H) := by
  intro pins s σ H x y v u Q I rx ry h
  obtain ⟨rfl, q⟩ := h
  cases ry
  refine is_none_gen (fin_bl I q ?_)
  cases x <;> first
    | (cases rx; rfl)
    | (obtain ⟨t, rfl⟩ := rx; rfl)
theorem op_notN : OpR X (compareOp .IsNot) (fun x y H Q => y = .non ∧ Q (.bl (!decide (x = .non))) H) := by
  intro pins s σ H x y v u Q I rx ry h
  obtain ⟨rfl, q⟩ := h
  cases ry
  refine isnot_none_gen (fin_bl I q ?_)
  cases x <;> first
    | (cases rx; rfl)
    | (obtain ⟨t, rfl⟩ := rx; rfl)

theorem op_notin_str : OpR X (compareOp .NotIn) (fun x y H Q => ∃ i j, x = .str i ∧ y = .str j ∧ Q (.bl (!(!(Builtin.Str.occurrences j i 0 j.length 1).isEmpty))) H) := by
  intro pins s σ H x y v u Q I rx ry h
  obtain ⟨i, j, rfl, rfl, q⟩ := h
  obtain ⟨t, rfl⟩ := rx
  obtain ⟨t', rfl⟩ := ry
  exact notIn_str (fin_bl I q rfl)
/-- is, is not of two objects that are tracked lists or instances -/
def isObj : HO → Bool
  | .lst _ => true
  | .ins _ _ _ => true
  | _ => false
theorem obj_there {pins : List (Addr × Obj)} {s : Shared} {σ : St} {H : Hp} {a : Addr} {o : HO} (I : Inv X pins σ H s) (h : H a = some o) (p : isObj o = true) : ∃ ob, s.heap.get? a = some ob ∧ ob.cls ≠ .type "tuple" := by
  cases o with
  | lst xs =>
    obtain ⟨_, its, n, _, e⟩ : xs.length ≤ sizeLine ∧ ∃ (its : List Value) (n : Nat), Vals xs its ∧ s.heap.get? a = some { cls := .type "list", data := .seq its.toArray n } := I.hok a _ h
    exact ⟨_, e, (by show Value.type "list" ≠ .type "tuple"; decide +kernel)⟩
  | ins C dx fs =>
    have x := I.hok a _ h
    obtain ⟨_, _, _, e, _⟩ := x
    exact ⟨_, e, (by show Value.ref C ≠ .type "tuple"; exact fun z => by cases z)⟩
  | _ => exact absurd (show false = true from p) Bool.false_ne_true
theorem op_is_ref : OpR X (compareOp .Is) (fun x y H Q => ∃ a b oa ob, x = .ref a ∧ y = .ref b ∧ H a = some oa ∧ isObj oa = true ∧ H b = some ob ∧ isObj ob = true ∧ Q (.bl (decide (a = b))) H) := by
  intro pins s σ H x y v u Q I rx ry h
  obtain ⟨a, b, oa, ob, rfl, rfl, ha, pa, hb, pb, q⟩ := h
  cases rx
  cases ry
  obtain ⟨o1, e1, n1⟩ := obj_there I ha pa
  obtain ⟨o2, e2, _⟩ := obj_there I hb pb
  by_cases z : a = b
  · subst z
    exact wpAny_is_ref_self (fin_bl I q (by simp))
  · exact wpAny_is_ref_other z e1 e2 n1 (fin_bl I q (by simp [z]))
theorem op_isnot_ref : OpR X (compareOp .IsNot) (fun x y H Q => ∃ a b oa ob, x = .ref a ∧ y = .ref b ∧ H a = some oa ∧ isObj oa = true ∧ H b = some ob ∧ isObj ob = true ∧ Q (.bl (!decide (a = b))) H) := by
  intro pins s σ H x y v u Q I rx ry h
  obtain ⟨a, b, oa, ob, rfl, rfl, ha, pa, hb, pb, q⟩ := h
  cases rx
  cases ry
  obtain ⟨o1, e1, n1⟩ := obj_there I ha pa
  obtain ⟨o2, e2, _⟩ := obj_there I hb pb
  by_cases z : a = b
  · subst z
    exact wpAny_isNot_ref_self (fin_bl I q (by simp))
  · exact wpAny_isNot_ref_other z e1 e2 n1 (fin_bl I q (by simp [z]))

/-- two rules for one operation: by cases -/
theorem OpR.or {f : Value → Value → Sem Value} {r r' : R2} (h : OpR X f r) (h' : OpR X f r') : OpR X f (fun x y H Q => r x y H Q ∨ r' x y H Q) := by
  intro pins s σ H x y v u Q I rx ry q
  rcases q with q | q
  · exact h pins s σ H x y v u Q I rx ry q
  · exact h' pins s σ H x y v u Q I rx ry q

theorem nomark (b : Expr) {op : CmpOp} (h : op ≠ .In := by decide) (h2 : op ≠ .NotIn := by decide) : behindInMarks op b = false := by
  have e1 : (op == CmpOp.In) = false := by cases op <;> first | rfl | exact absurd rfl h
  have e2 : (op == CmpOp.NotIn) = false := by cases op <;> first | rfl | exact absurd rfl h2
  cases b <;> simp [behindInMarks, e1, e2]
/-- a comparison as a value; hm: nomark b, or (for in, not in) by with_unfolding_all rfl -/
theorem pe_cmpR {op : CmpOp} {r : R2} (ho : OpR X (compareOp op) r) (ha : PE X a ta) (hb : PE X b tb) (hm : behindInMarks op b = false) : PE X (.Compare a [op] [b] pos) (tOp r ta tb) := by
  intro pins s σ H Q I h
  exact wpAny_Compare1 (binT ha hb I h fun v u s2 x y H2 I2 rx ry q => ho pins s2 σ H2 x y v u Q I2 rx ry q) hm
/-- a reading of a value as a test -/
def tTest (t : TE) : TT := fun σ H Q => t σ H fun x H' => ∃ k, x = .bl k ∧ Q k H'
theorem pt_cmpR {op : CmpOp} {r : R2} (ho : OpR X (compareOp op) r) (ha : PE X a ta) (hb : PE X b tb) (hm : behindInMarks op b = false) : PT X (.Compare a [op] [b] pos) (tTest (tOp r ta tb)) := by
  intro pins s σ H Q I h
  refine wpAny_isTrue_Compare1 (thn (ha pins s σ H _ I h) fun v s1 ⟨x, H1, I1, r1, q1⟩ => thn (hb pins s1 σ H1 _ I1 q1) fun u s2 ⟨y, H2, I2, r2, q2⟩ =>
    thn (ho pins s2 σ H2 x y v u _ I2 r1 r2 q2) fun c s3 ⟨z, H3, I3, r3, k, e, q3⟩ => ?_) hm
  subst e
  cases r3
  exact wpAny_truthy_bool ⟨H3, I3, q3⟩
/-- a op1 b op2 c -/
def tChain (r r' : R2) (ta tb tc : TE) : TE := fun σ H Q => ta σ H fun x H1 => tb σ H1 fun y H2 => r x y H2 fun z H3 => ∃ k, z = .bl k ∧
  (if k = true then tc σ H3 fun w' H4 => r' y w' H4 Q else Q (.bl false) H3)
theorem pe_chain {op op' : CmpOp} {r r' : R2} (ho : OpR X (compareOp op) r) (ho' : OpR X (compareOp op') r') (ha : PE X a ta) (hb : PE X b tb) (hc : PE X c tc)
    (hm : lastMarks [op, op'] [b, c] = false := by with_unfolding_all rfl) : PE X (.Compare a [op, op'] [b, c] pos) (tChain r r' ta tb tc) := by
  intro pins s σ H Q I h
  refine Compare_chain (thn (ha pins s σ H _ I h) fun v s1 ⟨x, H1, I1, r1, q1⟩ => chain_link (thn (hb pins s1 σ H1 _ I1 q1) fun u s2 ⟨y, H2, I2, r2, q2⟩ =>
    thn (ho pins s2 σ H2 x y v u _ I2 r1 r2 q2) fun d s3 ⟨z, H3, I3, r3, k, e, q3⟩ => ?_)) hm
  subst e
  cases r3
  refine wpAny_truthy_bool ?_
  cases k with
  | false => exact ite_ff ⟨.bl false, H3, I3, rfl, q3⟩
  | true => exact ite_tt (chain_last (thn (hc pins s3 σ H3 _ I3 q3) fun w' s4 ⟨z', H4, I4, r4, q4⟩ => ho' pins s4 σ H4 y z' u w' Q I4 r2 r4 q4))
theorem pt_chain {op op' : CmpOp} {r r' : R2} (ho : OpR X (compareOp op) r) (ho' : OpR X (compareOp op') r') (ha : PE X a ta) (hb : PE X b tb) (hc : PE X c tc)
    (hm : lastMarks [op, op'] [b, c] = false := by with_unfolding_all rfl) : PT X (.Compare a [op, op'] [b, c] pos) (tTest (tChain r r' ta tb tc)) := by
  intro pins s σ H Q I h
  refine isTrue_chain (thn (ha pins s σ H _ I h) fun v s1 ⟨x, H1, I1, r1, q1⟩ => test_link (thn (hb pins s1 σ H1 _ I1 q1) fun u s2 ⟨y, H2, I2, r2, q2⟩ =>
    thn (ho pins s2 σ H2 x y v u _ I2 r1 r2 q2) fun d s3 ⟨z, H3, I3, r3, k, e, q3⟩ => ?_)) hm
  subst e
  cases r3
  refine wpAny_truthy_bool ?_
  cases k with
  | false =>
    obtain ⟨k', e', q'⟩ := q3
    cases e'
    exact ite_ff ⟨H3, I3, q'⟩
  | true =>
    refine ite_tt (test_last (thn (hc pins s3 σ H3 _ I3 q3) fun w' s4 ⟨z', H4, I4, r4, q4⟩ => thn (ho' pins s4 σ H4 y z' u w' _ I4 r2 r4 q4) fun d' s5 ⟨z2, H5, I5, r5, k2, e2, q5⟩ => ?_))
    subst e2
    cases r5
    exact wpAny_truthy_bool ⟨H5, I5, q5⟩

/-! ### truth -/
/-- a value's truth by the abstract heap -/
def TruV (K : PySem.W.Frag) (x : V) (H : Hp) (k : Bool) : Prop :=
  match x with
  | .non => k = false
  | .bl b => k = b
  | .int i => k = (i != 0)
  | .str y => y.length ≤ sizeLine ∧ k = ((y.length : Int) != 0)
  | .byt y => y.size ≤ sizeLine ∧ k = ((y.size : Int) != 0)
  | .ref p => (∃ xs, SqL K H p xs ∧ k = !xs.isEmpty) ∨ (∃ xs, SqT K H p xs ∧ k = !xs.isEmpty) ∨ ∃ kvs, H p = some (.dK kvs) ∧ k = !kvs.isEmpty
  | _ => False
theorem isEmpty_kv {κ : Type} {kvs : List (κ × V)} {vs : List (κ × Value)} (r : KV kvs vs) : (!vs.isEmpty) = !kvs.isEmpty := by
  cases r <;> rfl
theorem isEmpty_of {xs : List V} {its : List Value} (r : Vals xs its) : (!its.toArray.isEmpty) = !xs.isEmpty := by
  cases r <;> simp
theorem line63 : (sizeLine : Nat) < 2 ^ 63 := by rw [sizeLine_eq]; decide
theorem tru_ok : TruR X (fun x H Q => ∃ k, TruV X.K x H k ∧ Q k H) := by
  intro pins s σ H x v Q I rx h
  obtain ⟨k, e, q⟩ := h
  have hl := line63
  have hs : sizeLine = 16777216 := sizeLine_eq
  cases x with
  | non =>
    cases rx
    have e' : k = false := e
    subst e'
    exact truthy_none ⟨H, I, q⟩
  | bl b =>
    cases rx
    have e' : k = b := e
    subst e'
    exact wpAny_truthy_bool ⟨H, I, q⟩
  | int i =>
    obtain ⟨t, rfl⟩ := rx
    have e' : k = (i != 0) := e
    subst e'
    exact PySem.P.truthy_int ⟨H, I, q⟩
  | str y =>
    obtain ⟨t, rfl⟩ := rx
    obtain ⟨hy, e'⟩ : y.length ≤ sizeLine ∧ k = ((y.length : Int) != 0) := e
    subst e'
    exact PySem.P.truthy_str (by omega) ⟨H, I.tok _, q⟩
  | byt y =>
    obtain ⟨t, rfl⟩ := rx
    obtain ⟨hy, e'⟩ : y.size ≤ sizeLine ∧ k = ((y.size : Int) != 0) := e
    subst e'
    exact PySem.W.truthy_bytes (by omega) ⟨H, I.tok _, q⟩
  | ref p =>
    cases rx
    have e' : (∃ xs, SqL X.K H p xs ∧ k = !xs.isEmpty) ∨ (∃ xs, SqT X.K H p xs ∧ k = !xs.isEmpty) ∨ ∃ kvs, H p = some (.dK kvs) ∧ k = !kvs.isEmpty := e
    rcases e' with ⟨xs, hx, e'⟩ | ⟨xs, hx, e'⟩ | ⟨kvs, hx, e'⟩
    · subst e'
      obtain ⟨its, r, pl, hz⟩ := I.list hx
      have hlen := r.length
      exact wpAny_truthy_list pl.isList (by simp only [List.size_toArray]; omega) ⟨H, I.tok _, by rw [isEmpty_of r]; exact q⟩
    · subst e'
      obtain ⟨its, r, pl, hz⟩ := I.tuple hx
      have hlen := r.length
      exact truthy_tuple pl (by simp only [List.size_toArray]; omega) ⟨H, I.tok _, by rw [isEmpty_of r]; exact q⟩
    · subst e'
      obtain ⟨hz, hS, vs, r, m⟩ : kvs.length ≤ sizeLine ∧ (p == sysModules) = false ∧ ∃ vs, KV kvs vs ∧ s.heap.DictOf (mixKind X.prog X.w) p vs := I.hok p _ hx
      have hlen : kvs.length = vs.length := Paired.length r
      exact wpAny_truthy_dict hS m (by omega) ⟨H, I.tok _, by rw [isEmpty_kv r]; exact q⟩
  | _ => exact (show False from e).elim
/-- any expression whose test is its value's truth (a name, a call, a subscript, a field ..: he by fun _ => rfl) -/
theorem pt_truth (ha : PE X a ta) (he : ∀ whole, isTrue a X.env whole = (do let v ← whole; standAt a.pos; holding [v] (truthy v))) :
    PT X a (fun σ H Q => ta σ H fun x H' => ∃ k, TruV X.K x H' k ∧ Q k H') := by
  intro pins s σ H Q I h
  exact isTrue_plain (thn (ha pins s σ H _ I h) fun v s1 ⟨x, H1, I1, r1, q1⟩ => tru_ok pins s1 σ H1 x v Q I1 r1 q1) (he _)

/-! ### strs and bytes -/
theorem pe_byt {x : List UInt8} {k : Nat} : PE X (.Constant (.bytes x) k pos) (fun _ H Q => Q (.byt x.toArray) H) := fun _ _ _ H _ I h => PySem.W.Constant_bytes ⟨.byt x.toArray, H, I.tok _, ⟨_, rfl⟩, h⟩
theorem op_add_str : OpR X (binaryOp .Add) (fun x y H Q => ∃ i j, x = .str i ∧ y = .str j ∧ i.length + j.length ≤ sizeLine ∧ Q (.str (i ++ j)) H) := by
  intro pins s σ H x y v u Q I rx ry h
  obtain ⟨i, j, rfl, rfl, hz, q⟩ := h
  obtain ⟨t, rfl⟩ := rx
  obtain ⟨t', rfl⟩ := ry
  exact add_str (fun t' tk => ⟨.str (i ++ j), H, I.tok _, ⟨_, rfl⟩, q⟩) hz
theorem iop_add_str : OpR X (inplaceOp .Add) (fun x y H Q => ∃ i j, x = .str i ∧ y = .str j ∧ i.length + j.length ≤ sizeLine ∧ Q (.str (i ++ j)) H) := by
  intro pins s σ H x y v u Q I rx ry h
  obtain ⟨i, j, rfl, rfl, hz, q⟩ := h
  obtain ⟨t, rfl⟩ := rx
  obtain ⟨t', rfl⟩ := ry
  exact iadd_str (fun t' tk => ⟨.str (i ++ j), H, I.tok _, ⟨_, rfl⟩, q⟩) hz
theorem op_add_byt : OpR X (binaryOp .Add) (fun x y H Q => ∃ i j, x = .byt i ∧ y = .byt j ∧ i.size + j.size ≤ 16777216 ∧ Q (.byt (i ++ j)) H) := by
  intro pins s σ H x y v u Q I rx ry h
  obtain ⟨i, j, rfl, rfl, hz, q⟩ := h
  obtain ⟨t, rfl⟩ := rx
  obtain ⟨t', rfl⟩ := ry
  exact PySem.W.KBy.add_bytes hz (fun t' tk => ⟨.byt (i ++ j), H, I.tok _, ⟨_, rfl⟩, q⟩)

def PlainIxT (b : Expr) : Prop := ∀ o i, subscripted b false o i = operate [o, i] (getItem o i)
/-- s[i], 0 ≤ i < len -/
theorem pe_item_str (ha : PE X a ta) (hb : PE X b tb) (hs : PlainIxT b) :
    PE X (.Subscript a b pos) (tOp (fun x y H Q => ∃ z i c, x = .str z ∧ y = .int i ∧ 0 ≤ i ∧ i < 2 ^ 63 ∧ i < z.length ∧ z.cps[i.toNat]? = some c ∧ Q (.str ⟨#[c]⟩) H) ta tb) := by
  intro pins s σ H Q I h
  refine Subscript_ (binT ha hb I h fun v u s2 x y H2 I2 rx ry q => ?_)
  obtain ⟨z, i, c, rfl, rfl, h0, h63, h1, hc, q⟩ := q
  obtain ⟨t, rfl⟩ := rx
  obtain ⟨t', rfl⟩ := ry
  have e : seqIndex? i z.length = some i.toNat := PySem.StrLaws.seqIndex_nonneg h0 h1
  exact tail_any (typeIs_str s2 z t) slot_str_getitem.lookup (getItem_str (c := c) (by
    have e1 : decide (i < -(2 ^ 63 : Int)) = false := decide_eq_false (by omega)
    have e2 : decide (i ≥ 2 ^ 63) = false := decide_eq_false (by omega)
    rw [e1, e2] <;> rfl) (by rw [e]; exact hc) ⟨.str ⟨#[c]⟩, H2, I2.tok _, ⟨_, rfl⟩, q⟩) (hs _ _)
/-- b[i], 0 ≤ i < len -/
theorem pe_item_byt (ha : PE X a ta) (hb : PE X b tb) (hs : PlainIxT b) :
    PE X (.Subscript a b pos) (tOp (fun x y H Q => ∃ (z : List UInt8) (i : Int), x = .byt z.toArray ∧ y = .int i ∧ z.length ≤ sizeLine ∧ 0 ≤ i ∧ i < z.length ∧ Q (.int ((z.getD i.toNat 0).toNat : Nat)) H) ta tb) := by
  intro pins s σ H Q I h
  refine Subscript_ (binT ha hb I h fun v u s2 x y H2 I2 rx ry q => ?_)
  obtain ⟨z, i, rfl, rfl, hz, h0, h1, q⟩ := q
  obtain ⟨t, rfl⟩ := rx
  obtain ⟨t', rfl⟩ := ry
  have hl : sizeLine = 16777216 := sizeLine_eq
  exact tail_any (PySem.W.typeIs_bytes s2 z.toArray t) PySem.W.FB.slot_bytes_getitem.lookup (PySem.W.getItem_bytes (by omega) h0 h1 ⟨.int ((z.getD i.toNat 0).toNat : Nat), H2, I2.tok _, ⟨_, rfl⟩, q⟩) (hs _ _)

/-! ### scalar builtins, by CallR -/
theorem vals1 {x : V} {us : List Value} (r : Vals [x] us) : ∃ u, us = [u] ∧ RelV x u := by
  cases r with
  | cons r1 r2 => cases r2; exact ⟨_, rfl, r1⟩
theorem vals2 {x y : V} {us : List Value} (r : Vals [x, y] us) : ∃ u w', us = [u, w'] ∧ RelV x u ∧ RelV y w' := by
  cases r with
  | cons r1 r2 =>
    cases r2 with
    | cons r3 r4 => cases r4; exact ⟨_, _, rfl, r1, r3⟩
theorem call_abs : CallR X (.builtin "abs") (fun xs H Q => ∃ i, xs = [.int i] ∧ Q (.int (if i < 0 then -i else i)) H) := by
  intro pins s σ H xs us Q I r h
  obtain ⟨i, rfl, q⟩ := h
  obtain ⟨u, rfl, t, rfl⟩ := vals1 r
  exact call_abs_int fun u tk => ⟨.int (if i < 0 then -i else i), H, I.tok _, ⟨_, rfl⟩, q⟩
theorem call_max2 (hc : X.calm = true) : CallR X (.builtin "max") (fun xs H Q => ∃ i j, xs = [.int i, .int j] ∧ Q (.int (if j > i then j else i)) H) := by
  intro pins s σ H xs us Q I r h
  obtain ⟨i, j, rfl, q⟩ := h
  obtain ⟨u, w', rfl, ⟨t, rfl⟩, ⟨t', rfl⟩⟩ := vals2 r
  refine max_two_ints (I.ok.hd hc) fun h' tk k => ⟨_, H, I.kept k, ?_, q⟩
  by_cases hj : j > i
  · rw [if_pos hj, if_pos hj]; exact ⟨_, rfl⟩
  · rw [if_neg hj, if_neg hj]; exact ⟨_, rfl⟩
theorem call_min2 (hc : X.calm = true) : CallR X (.builtin "min") (fun xs H Q => ∃ i j, xs = [.int i, .int j] ∧ Q (.int (if j < i then j else i)) H) := by
  intro pins s σ H xs us Q I r h
  obtain ⟨i, j, rfl, q⟩ := h
  obtain ⟨u, w', rfl, ⟨t, rfl⟩, ⟨t', rfl⟩⟩ := vals2 r
  refine min_two_ints (I.ok.hd hc) fun h' tk k => ⟨_, H, I.kept k, ?_, q⟩
  by_cases hj : j < i
  · rw [if_pos hj, if_pos hj]; exact ⟨_, rfl⟩
  · rw [if_neg hj, if_neg hj]; exact ⟨_, rfl⟩
theorem call_int1 : CallR X (.type "int") (fun xs H Q => (∃ i, xs = [.int i] ∧ Q (.int i) H) ∨ ∃ k, xs = [.bl k] ∧ Q (.int (if k then 1 else 0)) H) := by
  intro pins s σ H xs us Q I r h
  rcases h with ⟨i, rfl, q⟩ | ⟨k, rfl, q⟩
  · obtain ⟨u, rfl, t, rfl⟩ := vals1 r
    exact call_int_int ⟨.int i, H, I, ⟨_, rfl⟩, q⟩
  · obtain ⟨u, rfl, r1⟩ := vals1 r
    cases r1
    exact call_int_bool ⟨.int (if k then 1 else 0), H, I.tok _, ⟨_, rfl⟩, q⟩
theorem call_bool1 : CallR X (.type "bool") (fun xs H Q => (∃ i, xs = [.int i] ∧ Q (.bl (i != 0)) H) ∨ ∃ k, xs = [.bl k] ∧ Q (.bl k) H) := by
  intro pins s σ H xs us Q I r h
  rcases h with ⟨i, rfl, q⟩ | ⟨k, rfl, q⟩
  · obtain ⟨u, rfl, t, rfl⟩ := vals1 r
    exact call_bool_int ⟨.bl (i != 0), H, I, rfl, q⟩
  · obtain ⟨u, rfl, r1⟩ := vals1 r
    cases r1
    exact call_bool_bool ⟨.bl k, H, I, rfl, q⟩
theorem call_str_int : CallR X (.type "str") (fun xs H Q => ∃ i, xs = [.int i] ∧ i.natAbs.log2 < 1920 ∧ Q (.str (toString i)) H) := by
  intro pins s σ H xs us Q I r h
  obtain ⟨i, rfl, hz, q⟩ := h
  obtain ⟨u, rfl, t, rfl⟩ := vals1 r
  exact PySem.P.str_of_int hz ⟨.str _, H, I.tok _, ⟨_, rfl⟩, q⟩
theorem call_ord : CallR X (.builtin "ord") (fun xs H Q => ∃ x, xs = [.str x] ∧ x.length = 1 ∧ Q (.int (x.cps.getD 0 0 : Nat)) H) := by
  intro pins s σ H xs us Q I r h
  obtain ⟨x, rfl, hz, q⟩ := h
  obtain ⟨u, rfl, t, rfl⟩ := vals1 r
  exact ord_of_one hz ⟨.int _, H, I.tok _, ⟨_, rfl⟩, q⟩
theorem call_chr : CallR X (.builtin "chr") (fun xs H Q => ∃ i, xs = [.int i] ∧ 0 ≤ i ∧ i ≤ 1114111 ∧ Q (.str ⟨#[i.toNat]⟩) H) := by
  intro pins s σ H xs us Q I r h
  obtain ⟨i, rfl, h0, h1, q⟩ := h
  obtain ⟨u, rfl, t, rfl⟩ := vals1 r
  exact chr_of_range h0 h1 ⟨.str _, H, I.tok _, ⟨_, rfl⟩, q⟩
/-- len of a str, a bytes, a list, a tuple -/
def LenV (K : PySem.W.Frag) (x : V) (H : Hp) (n : Nat) : Prop :=
  match x with
  | .str y => y.length ≤ sizeLine ∧ n = y.length
  | .byt y => y.size ≤ sizeLine ∧ n = y.size
  | .ref p => (∃ xs, SqL K H p xs ∧ n = xs.length) ∨ ∃ xs, SqT K H p xs ∧ n = xs.length
  | _ => False
theorem call_len : CallR X (.builtin "len") (fun xs H Q => ∃ x n, xs = [x] ∧ LenV X.K x H n ∧ Q (.int n) H) := by
  intro pins s σ H xs us Q I r h
  obtain ⟨x, n, rfl, e, q⟩ := h
  obtain ⟨u, rfl, rx⟩ := vals1 r
  have hl := line63
  have hs : sizeLine = 16777216 := sizeLine_eq
  cases x with
  | str y =>
    obtain ⟨t, rfl⟩ := rx
    obtain ⟨hy, e'⟩ : y.length ≤ sizeLine ∧ n = y.length := e
    subst e'
    exact len_str (by omega) ⟨.int _, H, I.tok _, ⟨_, rfl⟩, q⟩
  | byt y =>
    obtain ⟨t, rfl⟩ := rx
    obtain ⟨hy, e'⟩ : y.size ≤ sizeLine ∧ n = y.size := e
    subst e'
    exact PySem.W.len_bytes (by omega) ⟨.int _, H, I.tok _, ⟨_, rfl⟩, q⟩
  | ref p =>
    cases rx
    have e' : (∃ xs, SqL X.K H p xs ∧ n = xs.length) ∨ ∃ xs, SqT X.K H p xs ∧ n = xs.length := e
    rcases e' with ⟨xs, hx, e'⟩ | ⟨xs, hx, e'⟩
    · subst e'
      obtain ⟨its, r', pl, hz⟩ := I.list hx
      have hlen := r'.length
      exact Calls.call_len_list pl.isList (by simp only [List.size_toArray]; omega) ⟨.int xs.length, H, I.tok _, ⟨_, by simp only [List.size_toArray]; rw [hlen]⟩, q⟩
    · subst e'
      obtain ⟨its, r', pl, hz⟩ := I.tuple hx
      have hlen := r'.length
      exact len_tuple pl (by simp only [List.size_toArray]; omega) ⟨.int xs.length, H, I.tok _, ⟨_, by simp only [List.size_toArray]; rw [hlen]⟩, q⟩
  | _ => exact (show False from e).elim
/-- divmod: a new tuple -/
theorem call_divmod : CallR X (.builtin "divmod") (fun xs H Q => ∃ i j, xs = [.int i, .int j] ∧ CDiv i j ∧ ∀ p, H p = none → Q (.ref p) (upd H p (.tup [.int (i / j), .int (i % j)]))) := by
  intro pins s σ H xs us Q I r h
  obtain ⟨i, j, rfl, ⟨h1, h2⟩, q⟩ := h
  obtain ⟨u, w', rfl, ⟨t, rfl⟩, ⟨t', rfl⟩⟩ := vals2 r
  refine divmod_int (by omega) ?_ (.inl (PyProof.noPylong_small (by omega)))
  rw [Int.fdiv_eq_ediv_of_nonneg i (by omega), Int.fmod_eq_emod_of_nonneg i (by omega)]
  have hn : H s.heap.objs.size = none := I.hok.fresh (Nat.le_refl _)
  refine ⟨.ref s.heap.objs.size, _, ?_, rfl, q _ hn⟩
  refine I.laid (fun b o e => Heap.get?_push_of_some _ e) (Nat.le_refl _) ⟨by simp only [List.length_cons, List.length_nil]; rw [sizeLine_eq]; decide, [.int (i / j) s.toks, .int (i % j) (s.toks + 1)], .cons ⟨_, rfl⟩ (.cons ⟨_, rfl⟩ .nil), ?_⟩
  exact ⟨_, Heap.get?_push_size s.heap rfl, rfl, 0, rfl⟩
end
end L2

namespace L2
open PySem PySem.Spec PyProof.Rows

/-! ### an instance, its attributes a map -/
structure ObjM (h : Heap) (x dx C : Addr) (mA : Str → Option Value) : Prop where
  obj : h.get? x = some (PySem.W.instObj C dx)
  ns : h.Ns1 dx mA
  ne : dx ≠ x

theorem lookIn_ns {h : Heap} {dx : Addr} {mA : Str → Option Value} (n : h.Ns1 dx mA) : ∃ od, h.get? dx = some od ∧ ∀ name, PySem.W.lookIn name od = some (mA name) := by
  obtain ⟨o, es, ep, ho, hd, hk, _, hm⟩ := n
  refine ⟨o, ho, fun name => ?_⟩
  have e := hm name
  unfold nsFind findBy at e
  rw [← Array.find?_toList] at e
  unfold PySem.W.lookIn
  rw [hd]
  dsimp only
  split
  · rename_i y q
    rw [q] at e
    exact congrArg some e
  · rename_i q
    rw [q] at e
    have a : es.toList.any (·.refKey) = false := by
      rw [List.any_eq_false]
      intro y hy
      obtain ⟨z, t, hkey⟩ := hk y (Array.mem_toList_iff.mp hy)
      simp [DictEntry.refKey, hkey]
    have a' : ¬ es.toList.any (·.refKey) = true := by rw [a]; exact Bool.false_ne_true
    rw [if_neg a']
    exact congrArg some e

theorem ObjM.look {h : Heap} {x dx C : Addr} {mA : Str → Option Value} (I : ObjM h x dx C mA) : ∃ od, PySem.W.InstAt h x (PySem.W.instObj C dx) C (some od) ∧ ∀ name, PySem.W.lookIn name od = some (mA name) :=
  let ⟨od, ho, hl⟩ := lookIn_ns I.ns
  ⟨od, ⟨I.obj, rfl, rfl, ho⟩, hl⟩

section
variable {prog : Program} {w : World} {A : Around} {E : Value → Shared → Prop} {s : Shared} {K : PySem.W.Frag} {x dx C f : Addr} {mA : Str → Option Value} {name : Str} {v : Value}

theorem get_map {expr : Bool} {Q : Value → Shared → Prop} (X : K.In s.heap) (I : ObjM s.heap x dx C mA) (hg : PySem.W.plainGet K C name = true) (hh : PySem.W.hasDictIn K C = true)
    (ha : PySem.W.findIn K (.ref C) name = some none) (hv : mA name = some v) (hv' : PySem.W.handedIn v = true) (h : Q v { s with toks := s.toks + 1 }) :
    wpAny (model prog w) A (getAttr (.ref x) name expr) Q E s := by
  obtain ⟨od, J, hl⟩ := I.look
  exact PySem.W.get_value X J (PySem.W.plainGet_of hg).1 (PySem.W.findObj_own hh ha rfl (by rw [hl, hv])) hv' h

theorem get_const {expr : Bool} {a : Value} {Q : Value → Shared → Prop} (X : K.In s.heap) (I : ObjM s.heap x dx C mA) (hg : PySem.W.plainGet K C name = true) (hh : PySem.W.hasDictIn K C = true)
    (ha : PySem.W.findIn K (.ref C) name = some (some a)) (hn : PySem.W.specialIn K a "__get__" = some none) (hc : PySem.W.copiedNames.contains name = false) (hv : mA name = none) (hv' : PySem.W.handedIn a = true)
    (h : Q a { s with toks := s.toks + 1 }) : wpAny (model prog w) A (getAttr (.ref x) name expr) Q E s := by
  obtain ⟨od, J, hl⟩ := I.look
  exact PySem.W.get_value X J (PySem.W.plainGet_of hg).1 (PySem.W.findObj_cls hh ha hn hv' hc (by rw [hl, hv])) hv' h

theorem get_meth {pl : Sem Bool} {Q : Value × List Value → Shared → Prop} (X : K.In s.heap) (I : ObjM s.heap x dx C mA) (hg : PySem.W.plainGet K C name = true)
    (hf : PySem.W.findIn K (.ref C) name = some (some (.ref f))) (ht : PySem.W.isFn K (.ref f) = true) (hv : mA name = none) (h : Q (.ref f, [.ref x]) s) :
    wpAny (model prog w) A (getMethod (.ref x) name pl) Q E s := by
  obtain ⟨od, J, hl⟩ := I.look
  exact PySem.W.method_fn X J (PySem.W.plainGet_of hg).1 (PySem.W.plainGet_of hg).2 hf (beq_iff_eq.mp ht) (by show (PySem.W.lookIn name od).map (·.isSome) = some false; rw [hl, hv]; rfl) h

theorem set_map {ns : List Str} {Q : Unit → Shared → Prop} (X : K.In s.heap) (I : ObjM s.heap x dx C mA)
    (hs : PySem.W.findIn K (.ref C) "__setattr__" = some (some (.builtin "object.__setattr__"))) (hp : PySem.W.plainOver K C = true) (ht : PySem.W.takerIn K C name = some none) (hh : PySem.W.hasDictIn K C = true)
    (hw : PySem.Within mA ns) (hsz : ns.length ≤ sizeLine)
    (h : ∀ h', ObjM h' x dx C (fun y => if y = name then some v else mA y) → Heap.SameBut dx s.heap h' → Q () { s with heap := h', toks := s.toks + 2 }) :
    wpAny (model prog w) A (setAttr (.ref x) name v) Q E s := by
  obtain ⟨od, J, hl⟩ := I.look
  refine PySem.W.set_plain X J hs (PySem.W.osa_open (s := { s with toks := s.toks + 1 }) (r := none) X J hp ht fun b => ?_)
  obtain ⟨cd, hc, hd'⟩ := PySem.W.any_some hh
  have hx : s.heap.get? x = some ⟨.ref C, some dx, .plain, #[]⟩ := I.obj
  refine wpAny_bind (wpAny_pure (wpAny_bind (wpAny_bind (wpAny_loadPart hx (wpAny_bind (PySem.W.Looks.here (s := { s with toks := s.toks + 1 }) (PySem.W.looks_clsIn X hc) ?_))))))
  rw [hd']
  refine wpAny_pure (a := some dx) (wpAny_bind (wpAny_pure (wpAny_bind ?_)))
  refine wpAny_nsSet1 (s := { s with toks := s.toks + 1 }) I.ns fun h' hn2 hs2 => ?_
  obtain ⟨oD, esD, epD, hoD, hdD, hcD⟩ := hn2.count (PySem.Within.cons name v hw)
  refine wpAny_bind (wpAny_lookBehind hoD (by rw [hdD]; exact pastItsLine_dict (Nat.le_trans hcD (by rw [List.length_cons]; omega))) ?_)
  exact wpAny_pure (h _ ⟨(hs2.2 _ (Ne.symm I.ne)).trans I.obj, hn2, I.ne⟩ hs2)

/-- C(..): the dict at the heap's end, the instance behind it; then its __init__ -/
theorem make_map {R : Result → Shared → Prop} {vs : List Value} {kw : List (Str × Value)} (X : K.In s.heap) (hm : PySem.W.makesIn K C = true)
    (hi : PySem.W.findIn K (.ref C) "__init__" = some (some (.ref f))) (hf : PySem.W.typeIn K (.ref f) = some (.type "function"))
    (h : codeAny (model prog w) (A.under (.builtin "type.__call__" ⟨.ref C :: vs, kw⟩)) (.call (.ref f) ⟨.ref (s.heap.objs.size + 1) :: vs, kw⟩) (PySem.W.InitBack (s.heap.objs.size + 1) R)
      { s with heap := (s.heap.push PySem.W.emptyDict).push (PySem.W.instObj C s.heap.objs.size) }) :
    codeAny (model prog w) A (.call (.ref C) ⟨vs, kw⟩) R s := by
  obtain ⟨hh, g, d, t, os⟩ := s
  exact PySem.W.make_core (PySem.W.makes_of X hm) (PySem.W.looks_findIn X hi) (fun self => PySem.W.bind_fn X self hf) (.inl rfl) h
/-- C() where there is no __init__ but object's -/
theorem make_map0 {R : Result → Shared → Prop} (X : K.In s.heap) (hm : PySem.W.makesIn K C = true)
    (hi : PySem.W.findIn K (.ref C) "__init__" = some (some (.builtin "object.__init__")))
    (hb : ∀ self, PySem.W.Looks (model prog w) s.heap (bindSpecial (.builtin "object.__init__") self) (.builtin "object.__init__", [self]))
    (h : codeAny (model prog w) (A.under (.builtin "type.__call__" ⟨[.ref C], []⟩)) (.call (.builtin "object.__init__") ⟨[.ref (s.heap.objs.size + 1)], []⟩) (PySem.W.InitBack (s.heap.objs.size + 1) R)
      { s with heap := (s.heap.push PySem.W.emptyDict).push (PySem.W.instObj C s.heap.objs.size) }) :
    codeAny (model prog w) A (.call (.ref C) ⟨[], []⟩) R s := by
  obtain ⟨hh, g, d, t, os⟩ := s
  exact PySem.W.make_core (PySem.W.makes_of X hm) (PySem.W.looks_findIn X hi) hb (.inr ⟨rfl, rfl⟩) h
end

/-! ### the attributes as a list of pairs -/
def putF (f : Str) (v : V) : List (Str × V) → List (Str × V)
  | [] => [(f, v)]
  | (g, x) :: r => if g = f then (g, v) :: r else (g, x) :: putF f v r
theorem lookup_putF (f g : Str) (v : V) : ∀ fs : List (Str × V), (putF f v fs).lookup g = if g = f then some v else fs.lookup g
  | [] => by
    show List.lookup g [(f, v)] = _
    by_cases h : g = f
    · have hb : (g == f) = true := beq_iff_eq.mpr h
      simp only [List.lookup, hb, if_pos h]
    · have hb : (g == f) = false := beq_eq_false_iff_ne.mpr h
      simp only [List.lookup, hb, if_neg h]
  | (k, x) :: r => by
    have ih := lookup_putF f g v r
    rw [show putF f v ((k, x) :: r) = (if k = f then (k, v) :: r else (k, x) :: putF f v r) from rfl]
    by_cases hk : k = f
    · rw [if_pos hk]
      by_cases h : g = k
      · have hb : (g == k) = true := beq_iff_eq.mpr h
        simp only [List.lookup, hb, if_pos (h.trans hk)]
      · have hb : (g == k) = false := beq_eq_false_iff_ne.mpr h
        simp only [List.lookup, hb, if_neg (fun e : g = f => h (e.trans hk.symm))]
    · rw [if_neg hk]
      by_cases h : g = k
      · have hb : (g == k) = true := beq_iff_eq.mpr h
        simp only [List.lookup, hb, if_neg (fun e : g = f => hk (h.symm.trans e))]
      · have hb : (g == k) = false := beq_eq_false_iff_ne.mpr h
        simp only [List.lookup, hb]
        exact ih
theorem keys_putF (f : Str) (v : V) : ∀ fs : List (Str × V), f ∈ (putF f v fs).map (·.1) ∧ ∀ g, g ∈ fs.map (·.1) → g ∈ (putF f v fs).map (·.1)
  | [] => ⟨by simp [putF], fun g h => by simp at h⟩
  | (k, x) :: r => by
    obtain ⟨i1, i2⟩ := keys_putF f v r
    rw [show putF f v ((k, x) :: r) = (if k = f then (k, v) :: r else (k, x) :: putF f v r) from rfl]
    by_cases hk : k = f
    · rw [if_pos hk]
      subst hk
      exact ⟨by simp, fun g h => by simpa using h⟩
    · rw [if_neg hk]
      refine ⟨?_, fun g h => ?_⟩
      · rw [List.map_cons]
        exact List.mem_cons_of_mem _ i1
      · rw [List.map_cons] at h ⊢
        rcases List.mem_cons.mp h with e | e
        · exact List.mem_cons.mpr (.inl e)
        · exact List.mem_cons_of_mem _ (i2 g e)
theorem length_putF (f : Str) (v : V) : ∀ fs : List (Str × V), (putF f v fs).length ≤ fs.length + 1
  | [] => by simp [putF]
  | (k, x) :: r => by
    have ih := length_putF f v r
    rw [show putF f v ((k, x) :: r) = (if k = f then (k, v) :: r else (k, x) :: putF f v r) from rfl]
    by_cases hk : k = f
    · rw [if_pos hk, List.length_cons, List.length_cons]; omega
    · rw [if_neg hk, List.length_cons, List.length_cons]; omega

theorem RelO.some_of {v : V} {o : Option Value} (r : RelO (some v) o) : ∃ u, o = some u ∧ RelV v u := by
  cases o with
  | none => exact (show False from r).elim
  | some u => exact ⟨u, rfl, r⟩
theorem RelO.none_of {o : Option Value} (r : RelO none o) : o = none := by
  cases o with
  | none => rfl
  | some u => exact (show False from r).elim
theorem handed_of {v : V} {u : Value} (r : RelV v u) : PySem.W.handedIn u = true := by
  cases v with
  | non => cases (show u = Value.none from r); rfl
  | bl b => cases (show u = Value.bool b from r); rfl
  | int i => obtain ⟨t, e⟩ := (show ∃ t, u = Value.int i t from r); cases e; rfl
  | str x => obtain ⟨t, e⟩ := (show ∃ t, u = Value.str x t from r); cases e; rfl
  | byt b => obtain ⟨t, e⟩ := (show ∃ t, u = Value.bytes b t from r); cases e; rfl
  | flt b => obtain ⟨t, e⟩ := (show ∃ t, u = Value.float b t from r); cases e; rfl
  | ref a => cases (show u = Value.ref a from r); rfl
  | ty n => cases (show u = Value.type n from r); rfl

section
variable {P : Program} {w : World} {H H' : Hp} {h h' : Heap} {a C dx : Addr} {fs fs' : List (Str × V)}
theorem ins_get (hok : HOk P w H h) (e : H a = some (.ins C dx fs)) : ∃ mA, ObjM h a dx C mA ∧ (∀ f, RelO (fs.lookup f) (mA f)) ∧ PySem.Within mA (fs.map (·.1)) ∧ fs.length ≤ 1000 ∧ H dx = some (.own a) := by
  obtain ⟨d, z, ne, ob, mA, n, r, q⟩ := (show ObjOk P w H h a (.ins C dx fs) from hok a _ e)
  exact ⟨mA, ⟨ob, n, ne⟩, r, q, z, d⟩
end

/-! ### what of the text a class must have -/
structure Cls (K : PySem.W.Frag) (C : Addr) : Prop where
  pg : PySem.W.plainGet K C Str.empty = true
  hd : PySem.W.hasDictIn K C = true
  po : PySem.W.plainOver K C = true
  sa : PySem.W.findIn K (.ref C) "__setattr__" = some (some (.builtin "object.__setattr__"))
theorem Cls.get {K : PySem.W.Frag} {C : Addr} (c : Cls K C) (f : Str) : PySem.W.plainGet K C f = true := c.pg
/-- no class of it has the name -/
def NoAttr (K : PySem.W.Frag) (C : Addr) (f : Str) : Prop := PySem.W.findIn K (.ref C) f = some none
theorem NoAttr.taker {K : PySem.W.Frag} {C : Addr} {f : Str} (n : NoAttr K C f) : PySem.W.takerIn K C f = some none := by
  unfold PySem.W.takerIn
  rw [show PySem.W.findIn K (.ref C) f = some none from n]
  rfl
/-- a constant of the class -/
structure Con (K : PySem.W.Frag) (C : Addr) (f : Str) (v : V) (u : Value) : Prop where
  at_ : PySem.W.findIn K (.ref C) f = some (some u)
  rel : RelV v u
  get : PySem.W.specialIn K u "__get__" = some none
  cp : PySem.W.copiedNames.contains f = false
/-- a method: a plain def of the class or of one above it -/
structure Meth (K : PySem.W.Frag) (C : Addr) (m : Str) (f : Addr) : Prop where
  at_ : PySem.W.findIn K (.ref C) m = some (some (.ref f))
  fn : PySem.W.isFn K (.ref f) = true
  kp : PySem.W.keepIn K (.ref f) = true

section
variable {X : Cx} {pins : List (Addr × Obj)} {σ : St} {H : Hp} {s : Shared} {a C dx : Addr} {fs : List (Str × V)} {f : Str} {v : V} {A : Around} {E : Value → Shared → Prop}

theorem getattr_ok {b : Bool} {Q : Value → Shared → Prop} (I : Inv X pins σ H s) (e : H a = some (.ins C dx fs)) (c : Cls X.K C) (n : NoAttr X.K C f) (l : fs.lookup f = some v)
    (h : ∀ u s', Inv X pins σ H s' → RelV v u → Q u s') : wpAny (model X.prog X.w) A (getAttr (.ref a) f b) Q E s := by
  obtain ⟨mA, O, r, _, _, _⟩ := ins_get I.hok e
  obtain ⟨u, hu, ru⟩ := RelO.some_of (v := v) (o := mA f) (by rw [← l]; exact r f)
  exact get_map I.kIn O (c.get f) c.hd n hu (handed_of ru) (h u _ (I.tok _) ru)

theorem getcon_ok {b : Bool} {u : Value} {Q : Value → Shared → Prop} (I : Inv X pins σ H s) (e : H a = some (.ins C dx fs)) (c : Cls X.K C) (k : Con X.K C f v u) (l : fs.lookup f = none)
    (h : ∀ s', Inv X pins σ H s' → Q u s') : wpAny (model X.prog X.w) A (getAttr (.ref a) f b) Q E s := by
  obtain ⟨mA, O, r, _, _, _⟩ := ins_get I.hok e
  have hn : mA f = none := RelO.none_of (by rw [← l]; exact r f)
  exact get_const I.kIn O (c.get f) c.hd k.at_ k.get k.cp hn (handed_of k.rel) (h _ (I.tok _))

theorem getmeth_ok {m : Str} {g : Addr} {pl : Sem Bool} {Q : Value × List Value → Shared → Prop} (I : Inv X pins σ H s) (e : H a = some (.ins C dx fs)) (c : Cls X.K C) (k : Meth X.K C m g) (l : fs.lookup m = none)
    (h : Q (.ref g, [.ref a]) s) : wpAny (model X.prog X.w) A (getMethod (.ref a) m pl) Q E s := by
  obtain ⟨mA, O, r, _, _, _⟩ := ins_get I.hok e
  have hn : mA m = none := RelO.none_of (by rw [← l]; exact r m)
  exact get_meth I.kIn O (c.get m) k.at_ k.fn hn h

theorem setattr_ok {y : V} {u : Value} {Q : Unit → Shared → Prop} (I : Inv X pins σ H s) (e : H a = some (.ins C dx fs)) (c : Cls X.K C) (n : NoAttr X.K C f) (hl : fs.length < 1000) (ry : RelV y u)
    (h : ∀ s', Inv X pins σ (upd H a (.ins C dx (putF f y fs))) s' → Q () s') : wpAny (model X.prog X.w) A (setAttr (.ref a) f u) Q E s := by
  obtain ⟨mA, O, r, wi, _, ho⟩ := ins_get I.hok e
  have hz : (fs.map (·.1)).length ≤ sizeLine := by rw [List.length_map, sizeLine_eq]; omega
  refine set_map I.kIn O c.sa c.po n.taker c.hd wi hz fun h' O' sb => h _ ?_
  have hd : ∃ o, h'.get? dx = some o := let ⟨o, _, _, e', _⟩ := O'.ns; ⟨o, e'⟩
  refine I.write (x := a) (e := dx) (by rw [e]; exact True.intro) (.inr ho) (fun b q hb z => (sb.2 b hb).trans z) hd ?_
  refine ⟨by rw [upd_ne O.ne]; exact ho, ?_, O.ne, O'.obj, _, O'.ns, fun g => ?_, fun g hg => ?_⟩
  · have := length_putF f y fs; omega
  · show RelO ((putF f y fs).lookup g) (if g = f then some u else mA g)
    rw [lookup_putF]
    by_cases q : g = f
    · rw [if_pos q, if_pos q]; exact ry
    · rw [if_neg q, if_neg q]; exact r g
  · by_cases q : g = f
    · rw [q]; exact (keys_putF f y fs).1
    · refine (keys_putF f y fs).2 g (wi g fun z => hg ?_)
      show (if g = f then some u else mA g) = none
      rw [if_neg q]; exact z

/-- a new instance, tracked, without attributes -/
theorem Inv.made (I : Inv X pins σ H s) : Inv X pins σ (upd (upd H s.heap.objs.size (.own (s.heap.objs.size + 1))) (s.heap.objs.size + 1) (.ins C s.heap.objs.size []))
    { s with heap := (s.heap.push PySem.W.emptyDict).push (PySem.W.instObj C s.heap.objs.size) } := by
  have e1 : (s.heap.push PySem.W.emptyDict).get? s.heap.objs.size = some PySem.W.emptyDict := Heap.get?_push_size s.heap rfl
  have e2 : ((s.heap.push PySem.W.emptyDict).push (PySem.W.instObj C s.heap.objs.size)).get? (s.heap.objs.size + 1) = some (PySem.W.instObj C s.heap.objs.size) := by
    have := Heap.get?_push_size (s.heap.push PySem.W.emptyDict) (o := PySem.W.instObj C s.heap.objs.size) rfl
    rwa [Heap.size_push] at this
  have e3 : (s.heap.push PySem.W.emptyDict).Ns s.heap.objs.size (fun _ => none) := ⟨PySem.W.emptyDict, #[], _, e1, rfl, (fun e he => absurd he (by simp)), fun _ => rfl⟩
  have I1 := I.laid (a := s.heap.objs.size) (o := .own (s.heap.objs.size + 1)) (h' := s.heap.push PySem.W.emptyDict) (t' := s.toks) (fun b u q => Heap.get?_push_of_some _ q) (Nat.le_refl _) ⟨_, e1⟩
  refine I1.laid (a := s.heap.objs.size + 1) (o := .ins C s.heap.objs.size []) (t' := s.toks) (fun b u q => Heap.get?_push_of_some _ q) (Nat.le_of_eq (Heap.size_push _ _)) ?_
  have ne : s.heap.objs.size ≠ s.heap.objs.size + 1 := Nat.ne_of_lt (Nat.lt_succ_self _)
  refine ⟨by rw [upd_ne ne, upd_same], Nat.zero_le _, ne, e2, fun _ => none, (Heap.Ns1.of_empty e3).at fun o q => Heap.get?_push_of_some _ q, fun _ => True.intro, fun y hy => absurd rfl hy⟩

/-- e.f where nothing but the object is asked: through attributeBase (super) and the last hold -/
theorem attr_of {prog : Program} {w : World} {env : Env} {e : Expr} {f : Str} {pos : Pos} {s : Shared} {Q : Value → Shared → Prop} (hb : attributeBase e f env (eval e env) = eval e env)
    (h : wpAny (model prog w) A (eval e env) (fun o s₁ => wpAny (model prog w) A (getAttr o f true) Q E s₁) E s) : wpAny (model prog w) A (eval (.Attribute e f pos) env) Q E s :=
  Attribute_any_ h (by rw [arm_eval_Attribute, hb])
end

/-! ### readings and rules -/
/-- e.f, an attribute of the instance -/
def tFld (K : PySem.W.Frag) (ta : TE) (f : Str) : TE := fun σ H Q => ta σ H fun x H1 => ∃ a C dx fs v, x = .ref a ∧ H1 a = some (.ins C dx fs) ∧ Cls K C ∧ NoAttr K C f ∧ fs.lookup f = some v ∧ Q v H1
/-- e.f, a constant of the class -/
def tCon (K : PySem.W.Frag) (ta : TE) (f : Str) : TE := fun σ H Q => ta σ H fun x H1 => ∃ a C dx fs v u, x = .ref a ∧ H1 a = some (.ins C dx fs) ∧ Cls K C ∧ Con K C f v u ∧ fs.lookup f = none ∧ Q v H1
/-- e.f = value -/
def sFld (K : PySem.W.Frag) (ta tv : TE) (f : Str) : TS := fun D σ H => tv σ H fun y H1 => ta σ H1 fun x H2 => ∃ a C dx fs, x = .ref a ∧ H2 a = some (.ins C dx fs) ∧ Cls K C ∧ NoAttr K C f ∧ fs.length < 1000 ∧
  D.nx σ (upd H2 a (.ins C dx (putF f y fs)))
/-- an augmented operator on two values -/
def InOp (X : Cx) (op : Operator) (rd : V → V → Hp → VK → Prop) : Prop :=
  ∀ (pins : List (Addr × Obj)) (s : Shared) (σ : St) (H : Hp) (x y : V) (u v : Value) (Q : VK), Inv X pins σ H s → RelV x u → RelV y v → rd x y H Q → wpAny (model X.prog X.w) X.A (inplaceOp op u v) (EP X pins σ Q) X.xe s
/-- e.f op= value -/
def sFldAug (K : PySem.W.Frag) (ta tv : TE) (rd : V → V → Hp → VK → Prop) (f : Str) : TS := fun D σ H => ta σ H fun x H1 => ∃ a C dx fs v, x = .ref a ∧ H1 a = some (.ins C dx fs) ∧ Cls K C ∧ NoAttr K C f ∧ fs.lookup f = some v ∧
  tv σ H1 fun y H2 => rd v y H2 fun z H3 => ∃ dx' fs', H3 a = some (.ins C dx' fs') ∧ fs'.length < 1000 ∧ D.nx σ (upd H3 a (.ins C dx' (putF f z fs')))

section
variable {X : Cx} {o e value : Expr} {f : Str} {pos pos' tpos : Pos} {ta tv : TE}
theorem pe_fld (he : PE X e ta) (hb : attributeBase e f X.env (eval e X.env) = eval e X.env) : PE X (.Attribute e f pos) (tFld X.K ta f) := by
  intro pins s σ H Q I h
  refine attr_of hb (thn (he pins s σ H _ I h) fun u s1 ⟨x, H1, I1, rx, a, C, dx, fs, v, ex, ea, c, n, l, q⟩ => ?_)
  subst ex
  obtain rfl : u = Value.ref a := rx
  exact getattr_ok I1 ea c n l fun u' s2 I2 ru => ⟨v, H1, I2, ru, q⟩
theorem pe_con (he : PE X e ta) (hb : attributeBase e f X.env (eval e X.env) = eval e X.env) : PE X (.Attribute e f pos) (tCon X.K ta f) := by
  intro pins s σ H Q I h
  refine attr_of hb (thn (he pins s σ H _ I h) fun u s1 ⟨x, H1, I1, rx, a, C, dx, fs, v, u0, ex, ea, c, k, l, q⟩ => ?_)
  subst ex
  obtain rfl : u = Value.ref a := rx
  exact getcon_ok I1 ea c k l fun s2 I2 => ⟨v, H1, I2, k.rel, q⟩
theorem ps_fld (ha : PE X o ta) (hv : PE X value tv) (hs : swapsWith value (some (.Attribute o f pos')) pos.line X.env = pure false) : PS X (.Assign [.Attribute o f pos'] value pos) (sFld X.K ta tv f) := by
  intro pins s σ H D I h
  refine plainObj_wpAny_Assign_Attribute (thn (hv pins s σ H _ I h) fun u s1 ⟨y, H1, I1, ry, q⟩ => thn (ha pins s1 σ H1 _ I1 q) fun ov s2 ⟨x, H2, I2, rx, a, C, dx, fs, ex, ea, c, n, l, q2⟩ => ?_) hs
  subst ex
  obtain rfl : ov = Value.ref a := rx
  exact setattr_ok I2 ea c n l ry fun s3 I3 => ⟨σ, _, I3, q2⟩
theorem ps_fldaug {op : Operator} {rd : V → V → Hp → VK → Prop} (ha : PE X o ta) (hv : PE X value tv) (hop : InOp X op rd) : PS X (.AugAssign (.Attribute o f tpos) op value pos) (sFldAug X.K ta tv rd f) := by
  intro pins s σ H D I h
  refine wpAny_AugAssign_AttributeAny (thn (ha pins s σ H _ I h) fun ov s1 ⟨x, H1, I1, rx, a, C, dx, fs, v, ex, ea, c, n, l, q⟩ => ?_)
  subst ex
  obtain rfl : ov = Value.ref a := rx
  refine getattr_ok I1 ea c n l fun u s2 I2 ru => thn (hv pins s2 σ H1 _ I2 q) fun w3 s3 ⟨y, H2, I3, ry, q3⟩ => thn (hop pins s3 σ H2 v y u w3 _ I3 ru ry q3) fun w4 s4 ⟨z, H3, I4, rz, dx', fs', ea', l', q4⟩ => ?_
  exact setattr_ok I4 ea' c n l' rz fun s5 I5 => ⟨σ, _, I5, q4⟩
def rAdd : V → V → Hp → VK → Prop := fun x y H Q => ∃ i j, x = .int i ∧ y = .int j ∧ Q (.int (i + j)) H
def rSub : V → V → Hp → VK → Prop := fun x y H Q => ∃ i j, x = .int i ∧ y = .int j ∧ Q (.int (i - j)) H
theorem in_add : InOp X .Add rAdd := by
  rintro pins s σ H x y u v Q I rx ry ⟨i, j, rfl, rfl, q⟩
  obtain ⟨t, rfl⟩ := (show ∃ t, u = Value.int i t from rx)
  obtain ⟨t', rfl⟩ := (show ∃ t', v = Value.int j t' from ry)
  exact PyProof.Rows.iadd_int ⟨.int (i + j), H, I.tok _, ⟨_, rfl⟩, q⟩
theorem in_sub : InOp X .Sub rSub := by
  rintro pins s σ H x y u v Q I rx ry ⟨i, j, rfl, rfl, q⟩
  obtain ⟨t, rfl⟩ := (show ∃ t, u = Value.int i t from rx)
  obtain ⟨t', rfl⟩ := (show ∃ t', v = Value.int j t' from ry)
  exact PyProof.Rows.isub_int ⟨.int (i - j), H, I.tok _, ⟨_, rfl⟩, q⟩

/-- what is between an instance and its method: the tree of a method call -/
theorem methcall_of {pl : Sem Bool} {m : Str} {apos : Pos} {args : List Expr} {pins : List (Addr × Obj)} {s : Shared} {σ : St} {H : Hp} {Q : Value → Shared → Prop} {te : TE} (he : PE X e te) (I : Inv X pins σ H s)
    (h : te σ H fun x H1 => ∃ a C dx fs g, x = .ref a ∧ H1 a = some (.ins C dx fs) ∧ Cls X.K C ∧ Meth X.K C m g ∧ fs.lookup m = none ∧
      ∀ s1, Inv X pins σ H1 s1 → wpAny (model X.prog X.w) X.A (callWith pos (.ref g) [.ref a] (backTo pos (starEach args X.env)) (backToKw pos (keywordEach [] X.env))) Q X.xe s1)
    (ht : eval (.Call (.Attribute e m apos) args [] pos) X.env = (do
      let ov ← eval e X.env
      standAt apos.atName
      let (f, first) ← holding [ov] (getMethod ov m pl)
      callWith pos f first (backTo pos (starEach args X.env)) (backToKw pos (keywordEach [] X.env)))) :
    wpAny (model X.prog X.w) X.A (eval (.Call (.Attribute e m apos) args [] pos) X.env) Q X.xe s := by
  refine PySem.W.methodCall_KW (pl := pl) (thn (he pins s σ H _ I h) fun u s1 ⟨x, H1, I1, rx, a, C, dx, fs, g, ex, ea, c, k, l, q⟩ => ?_) ht
  subst ex
  obtain rfl : u = Value.ref a := rx
  exact getmeth_ok I1 ea c k l (q s1 I1)
end

/-! ### isinstance -/
section
variable {X : Cx} {pins : List (Addr × Obj)} {σ : St} {H : Hp} {s : Shared} {A : Around} {E : Value → Shared → Prop} {Q : Value → Shared → Prop} {c : Value} {b : Bool}
/-- the type of a value, as the fragment's deciders take it; for an instance its class -/
inductive TyOf (K : PySem.W.Frag) (H : Hp) : V → Value → Prop where
  | non : TyOf K H .non (.type "NoneType")
  | bl (x : Bool) : TyOf K H (.bl x) (.type "bool")
  | int (i : Int) : TyOf K H (.int i) (.type "int")
  | str (x : Str) : TyOf K H (.str x) (.type "str")
  | flt (x : UInt64) : TyOf K H (.flt x) (.type "float")
  | lst {a : Addr} {xs : List V} (e : H a = some (.lst xs)) : TyOf K H (.ref a) (.type "list")
  | frz {a : Addr} {o : Obj} {xs : List V} (e : H a = some (.frz o (.lst xs))) : TyOf K H (.ref a) (.type "list")
  | tup {a : Addr} {xs : List V} (e : H a = some (.tup xs)) : TyOf K H (.ref a) (.type "tuple")
  | dK {a : Addr} {kvs : List (Key × V)} (e : H a = some (.dK kvs)) : TyOf K H (.ref a) (.type "dict")
  | dT {a : Addr} {kvs : List (List Key × V)} (e : H a = some (.dT kvs)) : TyOf K H (.ref a) (.type "dict")
  | ins {a C dx : Addr} {fs : List (Str × V)} (e : H a = some (.ins C dx fs)) (cl : Cls K C) (ha : PySem.W.findIn K (.ref C) "__class__" = some (some (.builtin "object.__class__")))
      (hn : PySem.W.specialIn K (.builtin "object.__class__") "__get__" = some (some (.builtin "getset_descriptor.__get__"))) (htk : PySem.W.takesIn K (.builtin "object.__class__") = some true)
      (hm : PySem.W.mroIn K C (.type "object") = some true) : TyOf K H (.ref a) (.ref C)
/-- isinstance(x, c) for one class c, a built-in or an own one: kitOne's answer -/
theorem isinst_ok {x : V} {u t : Value} (I : Inv X pins σ H s) (rx : RelV x u) (ty : TyOf X.K H x t) (e : PySem.W.kitOne X.K t c = some b) (h : ∀ tk, Q (.bool b) { s with toks := tk }) :
    wpAny (model X.prog X.w) A (call (.builtin "isinstance") [u, c]) Q E s := by
  cases ty with
  | non => cases (show u = Value.none from rx); exact PySem.W.kia_one PySem.W.kitx_none I.kIn True.intro e (fun z => nomatch z) h
  | bl y => cases (show u = Value.bool y from rx); exact PySem.W.kia_one PySem.W.kitx_bool I.kIn True.intro e (fun z => nomatch z) h
  | int i => obtain ⟨t, q⟩ := (show ∃ t, u = Value.int i t from rx); cases q; exact PySem.W.kia_one PySem.W.kitx_int I.kIn True.intro e (fun z => nomatch z) h
  | str y => obtain ⟨t, q⟩ := (show ∃ t, u = Value.str y t from rx); cases q; exact PySem.W.kia_one PySem.W.kitx_str I.kIn True.intro e (fun z => nomatch z) h
  | flt y => obtain ⟨t, q⟩ := (show ∃ t, u = Value.float y t from rx); cases q; exact PySem.W.kia_one PySem.W.kitx_float I.kIn True.intro e (fun z => nomatch z) h
  | @lst a xs ea =>
    cases (show u = Value.ref a from rx)
    obtain ⟨_, _, n, _, h1⟩ := (show ObjOk X.prog X.w H s.heap a (.lst xs) from I.hok a _ ea)
    exact PySem.W.kia_one PySem.W.kitx_list I.kIn ⟨_, h1, rfl⟩ e (fun z => nomatch z) h
  | @frz a ob xs ea =>
    cases (show u = Value.ref a from rx)
    obtain ⟨_, _, _, n, _, h1⟩ := (show ObjOk X.prog X.w H s.heap a (.frz ob (.lst xs)) from I.hok a _ ea)
    exact PySem.W.kia_one PySem.W.kitx_list I.kIn ⟨_, h1, rfl⟩ e (fun z => nomatch z) h
  | @tup a xs ea =>
    cases (show u = Value.ref a from rx)
    obtain ⟨_, _, _, p⟩ := (show ObjOk X.prog X.w H s.heap a (.tup xs) from I.hok a _ ea)
    obtain ⟨o, h1, h2, _⟩ := p
    exact PySem.W.kia_one PySem.W.kitx_tuple I.kIn ⟨o, h1, h2⟩ e (fun z => nomatch z) h
  | @dK a kvs ea =>
    cases (show u = Value.ref a from rx)
    obtain ⟨_, _, vs, _, p⟩ := (show ObjOk X.prog X.w H s.heap a (.dK kvs) from I.hok a _ ea)
    obtain ⟨o, es, ep, h1, h2, _⟩ := p
    exact PySem.W.kia_one PySem.W.kitx_dict I.kIn ⟨o, h1, h2.1⟩ e (fun z => nomatch z) h
  | @dT a kvs ea =>
    cases (show u = Value.ref a from rx)
    obtain ⟨_, _, xs, _, o, es, ep, h1, h2, _⟩ := (show ObjOk X.prog X.w H s.heap a (.dT kvs) from I.hok a _ ea)
    exact PySem.W.kia_one PySem.W.kitx_dict I.kIn ⟨o, h1, h2.1⟩ e (fun z => nomatch z) h
  | @ins a C dx fs ea cl ha hn htk hm =>
    cases (show u = Value.ref a from rx)
    obtain ⟨mA, O, _⟩ := ins_get I.hok ea
    obtain ⟨od, J, _⟩ := O.look
    exact PySem.W.kia_one (PySem.W.kitx_own (cl.get _) cl.hd ha hn htk hm) I.kIn J e (fun z => nomatch z) h
end
end L2

namespace L2
open PySem PySem.Spec PyProof.Rows

/-! ### room -/
structure Room (k : Nat) (A : Around) : Prop where
  hd : 50 ≤ k → A.handled = none
  dp : A.depth + 3 * k + 5 < recursionLimit
  un : A.units + 16 * k + 200 < cLine
theorem Room.mono {j k : Nat} {A : Around} (r : Room k A) (h : j ≤ k) : Room j A := ⟨fun z => r.hd (Nat.le_trans z h), by have := r.dp; omega, by have := r.un; omega⟩
theorem Room.deeper {k : Nat} {A : Around} (r : Room (k + 1) A) (env : Env) : Room k (A.deeper env) :=
  ⟨fun z => r.hd (Nat.le_succ_of_le z), by have := r.dp; show A.depth + 1 + 3 * k + 5 < _; omega, by have := r.un; show A.units + 3 + 16 * k + 200 < _; omega⟩
theorem Room.in1 {k : Nat} {A : Around} (r : Room (k + 1) A) : Room k A.in1 :=
  ⟨fun z => r.hd (Nat.le_succ_of_le z), by have := r.dp; show A.depth + 3 * k + 5 < _; omega, by have := r.un; show A.units + 1 + 16 * k + 200 < _; omega⟩
theorem make_depth {A : Around} {C : Addr} {us : List Value} {kw : List (Str × Value)} : (A.under (.builtin "type.__call__" ⟨.ref C :: us, kw⟩)).depth = A.depth + 1 := by
  first | rfl | simp [Around.under, Code.weight, Code.isCreation, Code.isGuard, Code.isCaller, Code.frames, Code.isFrame, guardIds]
theorem make_units {A : Around} {C : Addr} {us : List Value} {kw : List (Str × Value)} : (A.under (.builtin "type.__call__" ⟨.ref C :: us, kw⟩)).units = A.units + 1 := by
  first | rfl | simp [Around.under, Code.cUnits, Code.frames, Code.isFrame]
theorem Room.make {k : Nat} {A : Around} (r : Room (k + 1) A) (C : Addr) (us : List Value) (kw : List (Str × Value)) : Room k (A.under (.builtin "type.__call__" ⟨.ref C :: us, kw⟩)) :=
  ⟨fun z => r.hd (Nat.le_succ_of_le z), by have := r.dp; rw [make_depth]; omega, by have := r.un; rw [make_units]; omega⟩
theorem Room.depth {k : Nat} {A : Around} (r : Room k A) : A.depth < recursionLimit := by have := r.dp; omega
theorem Room.units {k : Nat} {A : Around} (r : Room k A) : A.units + 64 < cLine := by have := r.un; omega
theorem Room.units0 {k : Nat} {A : Around} (r : Room k A) : A.units < cLine := by have := r.un; omega

/-! ### argument lists and displays -/
def tNil : TA := fun _ H Q => Q [] H
def tCons (ta : TE) (tr : TA) : TA := fun σ H Q => ta σ H fun x H1 => tr σ H1 fun xs H2 => Q (x :: xs) H2
section
variable {X : Cx} {e : Expr} {es : List Expr} {te : TE} {t : TA} {pos : Pos}
theorem pa_nil : PA X [] tNil := fun _ _ _ _ H Q I h => Calls.spliced_nil ⟨[], H, I, .nil, h⟩
theorem pa_cons (ha : PE X e te) (hr : PA X es t) (hs : starEach (e :: es) X.env = (false, eval e X.env) :: starEach es X.env := by exact star_plain rfl) : PA X (e :: es) (tCons te t) := by
  intro pos pins s σ H Q I h
  rw [hs]
  show wpAny _ _ (spliced ((false, eval e X.env) :: backTo pos (starEach es X.env))) _ _ s
  refine Calls.spliced_cons (thn (ha pins s σ H _ I h) fun u s1 ⟨x, H1, I1, r1, q1⟩ => ?_)
  exact thn (hr pos pins s1 σ H1 _ I1 q1) fun us s2 ⟨xs, H2, I2, r2, q2⟩ => ⟨x :: xs, H2, I2, .cons r1 r2, q2⟩

/-- a tuple, a list of written items -/
def tTup (t : TA) : TE := fun σ H Q => t σ H fun xs H1 => xs.length ≤ sizeLine ∧ ∀ p, H1 p = none → Q (.ref p) (upd H1 p (.tup xs))
def tLst (t : TA) : TE := fun σ H Q => t σ H fun xs H1 => xs.length ≤ sizeLine ∧ ∀ p, H1 p = none → Q (.ref p) (upd H1 p (.lst xs))
theorem pe_tup {x1} (h : PA X es t) : PE X (.Tuple es x1 pos) (tTup t) := by
  intro pins s σ H Q I hq
  refine wpAny_Tuple_spliced (thn (h pos pins s σ H _ I hq) fun us s1 ⟨xs, H1, I1, r, z, q⟩ => ⟨by rw [← r.length]; exact z, ?_⟩)
  have hf : H1 s1.heap.objs.size = none := I1.hok.fresh (Nat.le_refl _)
  refine ⟨.ref s1.heap.objs.size, upd H1 s1.heap.objs.size (.tup xs), I1.laid (t' := s1.toks) (fun b u e => Heap.get?_push_of_some _ e) (Nat.le_refl _) ?_, rfl, q _ hf⟩
  exact ⟨z, us, r, ⟨_, Heap.get?_push_size _ rfl, rfl, _, rfl⟩⟩
theorem pe_lst (h : PA X es t) : PE X (.List es pos) (tLst t) := by
  intro pins s σ H Q I hq
  refine wpAny_List_spliced (thn (h pos pins s σ H _ I hq) fun us s1 ⟨xs, H1, I1, r, z, q⟩ => ⟨by rw [← r.length]; exact z, ?_⟩)
  have hf : H1 s1.heap.objs.size = none := I1.hok.fresh (Nat.le_refl _)
  refine ⟨.ref s1.heap.objs.size, upd H1 s1.heap.objs.size (.lst xs), I1.laid (t' := s1.toks) (fun b u e => Heap.get?_push_of_some _ e) (Nat.le_refl _) ?_, rfl, q _ hf⟩
  exact ⟨z, us, 0, r, Heap.get?_push_size _ rfl⟩
end

/-! ### what a def promises -/
/-- a def's promise: the bound arguments in the parameters' order, the heap, the wanted end, the wanted exception -/
abbrev Sp := List V → Hp → VK → XK → Prop
/-- how an exception lies behind a call (file 08 gives it): the callers' frames, abstract heap and state ahead of the call, the wish, the exception, the state -/
abbrev CXT := List Env → Hp → Shared → XK → Value → Shared → Prop

/-- the state at a call -/
structure Env0 (P : Program) (w : World) (K : PySem.W.Frag) (mg : Str → Option Value) (base : Heap) (A : Around) (outer : List Env) (s : Shared) (H : Hp) : Prop where
  frames : A.frames = some outer
  mod : Mod K mg base
  bs : ∀ b o, base.get? b = some o → s.heap.get? b = some o ∧ H b = none
  bsz : base.objs.size ≤ s.heap.objs.size
  funs : s.heap.FunFrames base outer
  frf : ∀ b ∈ frs outer, H b = none
  hok : HOk P w H s.heap
  bare : AllBare s.gens
/-- a call's end -/
def CE (outer : List Env) (P : Program) (w : World) (H : Hp) (s : Shared) (Q : VK) (u : Value) (s' : Shared) : Prop :=
  ∃ v H', s'.os = s.os ∧ AllBare s'.gens ∧ Un (frs outer) [] H H' s.heap s'.heap ∧ HOk P w H' s'.heap ∧ RelV v u ∧ Q v H'
def CR (CX : CXT) (outer : List Env) (P : Program) (w : World) (H : Hp) (s : Shared) (Q : VK) (E : XK) (r : Result) (s' : Shared) : Prop :=
  match r with
  | .ok (.ret u) => CE outer P w H s Q u s'
  | .ok _ => False
  | .error e => CX outer H s E e s'
structure FnOk (P : Program) (w : World) (K : PySem.W.Frag) (mg : Str → Option Value) (base : Heap) (CX : CXT) (k : Nat) (f : Addr) (fd : FuncData) (ps : List Str) (sp : Sp) : Prop where
  len : ∀ vs H Q E, sp vs H Q E → vs.length = ps.length
  run : ∀ (A : Around) (outer : List Env) (s : Shared) (H : Hp) (args : Args) (us : List Value) (vs : List V) (Q : VK) (E : XK), Room k A → Env0 P w K mg base A outer s H → BindsTo s fd args (ps.zip us) → Vals vs us → sp vs H Q E →
    codeAny (model P w) A (.call (.ref f) args) (CR CX outer P w H s Q E) s
theorem FnOk.mono {P : Program} {w : World} {K : PySem.W.Frag} {mg : Str → Option Value} {base : Heap} {CX : CXT} {j k : Nat} {f : Addr} {fd : FuncData} {ps : List Str} {sp : Sp} (F : FnOk P w K mg base CX j f fd ps sp) (h : j ≤ k) :
    FnOk P w K mg base CX k f fd ps sp := ⟨F.len, fun A outer s H args us vs Q E hr => F.run A outer s H args us vs Q E (hr.mono h)⟩
/-- a weaker promise -/
theorem FnOk.imp {P : Program} {w : World} {K : PySem.W.Frag} {mg : Str → Option Value} {base : Heap} {CX : CXT} {k : Nat} {f : Addr} {fd : FuncData} {ps : List Str} {sp sp' : Sp} (F : FnOk P w K mg base CX k f fd ps sp)
    (h : ∀ vs H Q E, sp' vs H Q E → sp vs H Q E) : FnOk P w K mg base CX k f fd ps sp' :=
  ⟨fun vs H Q E q => F.len vs H Q E (h _ _ _ _ q), fun A outer s H args us vs Q E hr he hb hv hs => F.run A outer s H args us vs Q E hr he hb hv (h _ _ _ _ hs)⟩

theorem Env0.make {P : Program} {w : World} {K : PySem.W.Frag} {mg : Str → Option Value} {base : Heap} {A : Around} {outer : List Env} {s : Shared} {H : Hp} (e : Env0 P w K mg base A outer s H) (C : Addr) (us : List Value) (kw : List (Str × Value)) :
    Env0 P w K mg base (A.under (.builtin "type.__call__" ⟨.ref C :: us, kw⟩)) outer s H := ⟨by first | exact e.frames | (simpa [Around.under, Code.envs, Code.isFrame, pushEnvs] using e.frames), e.mod, e.bs, e.bsz, e.funs, e.frf, e.hok, e.bare⟩
theorem Env0.in1 {P : Program} {w : World} {K : PySem.W.Frag} {mg : Str → Option Value} {base : Heap} {A : Around} {outer : List Env} {s : Shared} {H : Hp} (e : Env0 P w K mg base A outer s H) :
    Env0 P w K mg base A.in1 outer s H := ⟨e.frames, e.mod, e.bs, e.bsz, e.funs, e.frf, e.hok, e.bare⟩

section
variable {X : Cx} {pins : List (Addr × Obj)} {σ : St} {H : Hp} {s s' : Shared}
/-- from a body: what a callee wants -/
theorem Inv.env0 (I : Inv X pins σ H s) : Env0 X.prog X.w X.K X.mg X.base X.A X.stack s H :=
  ⟨I.ok.frames, I.ok.mod, I.bs, Nat.le_trans I.ok.bsz I.sz, I.stack, I.stkFree, I.hok, I.bare⟩
/-- behind a call -/
theorem Inv.after {Q : VK} {u : Value} (I : Inv X pins σ H s) (h : CE X.stack X.prog X.w H s Q u s') : EP X pins σ Q u s' := by
  obtain ⟨v, H', os, bare, un, hok, r, q⟩ := h
  obtain ⟨hh, g, d, t, os'⟩ := s'
  obtain rfl : os' = s.os := os
  exact ⟨v, H', I.call (h' := hh) (g' := g) (d' := d) (t' := t) (ch := []) un hok bare (fun b z => absurd z (by simp)), r, q⟩
end

/-! ### calls -/
/-- f(..): the written arguments, then the defaults dvs; E: what is wanted of an exception -/
def tCall (sp : Sp) (dvs : List V) (E : XK) (t : TA) : TE := fun σ H Q => t σ H fun vs H1 => sp (vs ++ dvs) H1 Q E
/-- o.m(..) of an instance of the class at C -/
def tMeth (C : Addr) (m : Str) (sp : Sp) (dvs : List V) (E : XK) (ta : TE) (t : TA) : TE := fun σ H Q => ta σ H fun x H1 => ∃ a dx fs, x = .ref a ∧ H1 a = some (.ins C dx fs) ∧ fs.lookup m = none ∧
  t σ H1 fun vs H2 => sp (x :: (vs ++ dvs)) H2 Q E
/-- C(..): a new instance and its dict, then __init__ -/
def tMake (C : Addr) (sp : Sp) (dvs : List V) (E : XK) (t : TA) : TE := fun σ H Q => t σ H fun vs H1 => ∀ x dx, H1 x = none → H1 dx = none → dx ≠ x →
  sp (.ref x :: (vs ++ dvs)) (upd (upd H1 dx (.own x)) x (.ins C dx [])) (fun v H2 => v = .non ∧ Q (.ref x) H2) E

/-- how the parameters are bound: us the positional arguments, kw the keywords' values by name, ds the defaults that fill up -/
def Binds (K : PySem.W.Frag) (fd : FuncData) (ps : List Str) (ds : List Value) : Prop :=
  ∀ (s : Shared) (us : List Value), K.In s.heap → (us ++ ds).length = ps.length → BindsTo s fd ⟨us, []⟩ (ps.zip (us ++ ds))
/-- every parameter is given -/
theorem Binds.all {K : PySem.W.Frag} {fd : FuncData} {ps : List Str} (h : ∀ us : List Value, us.length = ps.length → bindArgs fd ⟨us, []⟩ = pure (ps.zip us)) : Binds K fd ps [] := fun s us _ hl => by
  rw [List.append_nil] at hl ⊢
  exact .of_eq (h us hl)

/-- an exception of a callee reaches what this body wants of exceptions -/
def Passes (CX : CXT) (X : Cx) (E : XK) : Prop := ∀ (pins : List (Addr × Obj)) (σ : St) (H : Hp) (s : Shared) (e : Value) (s' : Shared), Inv X pins σ H s → CX X.stack H s E e s' → X.xe e s'

section
variable {X : Cx} {CX : CXT} {k : Nat} {f C : Addr} {fd : FuncData} {ps : List Str} {sp : Sp} {dvs : List V} {ds : List Value} {E : XK} {x m : Str} {p pos apos : Pos} {e o : Expr} {es : List Expr} {ta : TE} {t : TA}

/-- the callee runs -/
theorem run_fn {pins : List (Addr × Obj)} {σ : St} {H : Hp} {s : Shared} {Q : VK} {us : List Value} {vs : List V} (F : FnOk X.prog X.w X.K X.mg X.base CX k f fd ps sp) (hr : Room k X.A) (hb : Binds X.K fd ps ds) (hd : Vals dvs ds) (hx : Passes CX X E)
    (I : Inv X pins σ H s) (r : Vals vs us) (h : sp (vs ++ dvs) H Q E) : wpAny (model X.prog X.w) X.A (call (.ref f) us) (EP X pins σ Q) X.xe s := by
  have r2 : Vals (vs ++ dvs) (us ++ ds) := r.append hd
  have hl : (us ++ ds).length = ps.length := by rw [← r2.length]; exact F.len _ _ _ _ h
  refine wpAny_call (codeAny_mono (F.run X.A X.stack s H ⟨us, []⟩ (us ++ ds) (vs ++ dvs) Q E hr I.env0 (hb s us I.kIn hl) r2 h) fun r s' hq => ?_)
  cases r with
  | error e => exact hx pins σ H s e s' I hq
  | ok fl =>
    cases fl with
    | ret u => exact I.after hq
    | next => exact False.elim hq
    | brk => exact False.elim hq
    | cont => exact False.elim hq

theorem pe_call (F : FnOk X.prog X.w X.K X.mg X.base CX k f fd ps sp) (hr : Room k X.A) (hg : Gl X x) (hm : X.mg x = some (.ref f)) (hk : PySem.W.keepIn X.K (.ref f) = true) (hb : Binds X.K fd ps ds) (hd : Vals dvs ds) (hx : Passes CX X E)
    (ha : PA X (e :: es) t) (hdb : (x == ("__debug__" : Str)) = false := by decide) (he : starEach (e :: es) X.env = (false, eval e X.env) :: starEach es X.env := by exact star_plain rfl) (hpl : (backTo pos (starEach es X.env)).any (·.1) = false := by exact any_plain rfl) :
    PE X (.Call (.Name x p) (e :: es) [] pos) (tCall sp dvs E t) := by
  intro pins s σ H Q I h
  refine wpAny_Call_Name_kw (ld_glob I hg hm ?_ hdb)
  refine PySem.W.callWith_K (h₀ := X.base) I.ok.mod.kin hk (thn (ha pos pins s σ H _ I h) fun us s1 ⟨vs, H1, I1, r, q⟩ => ⟨I1.kIn, ?_⟩) he hpl
  exact run_fn F hr hb hd hx I1 r q
theorem pe_call0 (F : FnOk X.prog X.w X.K X.mg X.base CX k f fd ps sp) (hr : Room k X.A) (hg : Gl X x) (hm : X.mg x = some (.ref f)) (hk : PySem.W.keepIn X.K (.ref f) = true) (hb : Binds X.K fd ps ds) (hd : Vals dvs ds) (hx : Passes CX X E)
    (hdb : (x == ("__debug__" : Str)) = false := by decide) : PE X (.Call (.Name x p) [] [] pos) (tCall sp dvs E tNil) := by
  intro pins s σ H Q I h
  refine wpAny_Call_Name_kw (ld_glob I hg hm ?_ hdb)
  exact PySem.W.callWith_K0 I.kIn hk (run_fn (us := []) F hr hb hd hx I .nil h)

/-- o.m(e, ..) -/
theorem pe_meth {pl : Sem Bool} (he : PE X o ta) (c : Cls X.K C) (hm : Meth X.K C m f) (F : FnOk X.prog X.w X.K X.mg X.base CX k f fd ps sp) (hr : Room k X.A) (hb : Binds X.K fd ps ds) (hd : Vals dvs ds) (hx : Passes CX X E) (ha : PA X (e :: es) t)
    (hst : starEach (e :: es) X.env = (false, eval e X.env) :: starEach es X.env := by exact star_plain rfl) (hpl : (backTo pos (starEach es X.env)).any (·.1) = false := by exact any_plain rfl)
    (ht : eval (.Call (.Attribute o m apos) (e :: es) [] pos) X.env = (do
      let ov ← eval o X.env
      standAt apos.atName
      let (f, first) ← holding [ov] (getMethod ov m pl)
      callWith pos f first (backTo pos (starEach (e :: es) X.env)) (backToKw pos (keywordEach [] X.env))) := by rfl) :
    PE X (.Call (.Attribute o m apos) (e :: es) [] pos) (tMeth C m sp dvs E ta t) := by
  intro pins s σ H Q I h
  refine PySem.W.methodCall_KW (pl := pl) (thn (he pins s σ H _ I h) fun u s1 ⟨x, H1, I1, rx, a, dx, fs, ex, ea, l, q⟩ => ?_) ht
  subst ex
  obtain rfl : u = Value.ref a := rx
  refine getmeth_ok I1 ea c hm l ?_
  refine PySem.W.callWith_K (first := [.ref a]) (h₀ := X.base) I.ok.mod.kin hm.kp (thn (ha pos pins s1 σ H1 _ I1 q) fun us s2 ⟨vs, H2, I2, r, q2⟩ => ⟨I2.kIn, ?_⟩) hst hpl
  exact run_fn (us := .ref a :: us) (vs := .ref a :: vs) F hr hb hd hx I2 (.cons rfl r) q2
/-- o.m() -/
theorem pe_meth0 {pl : Sem Bool} (he : PE X o ta) (c : Cls X.K C) (hm : Meth X.K C m f) (F : FnOk X.prog X.w X.K X.mg X.base CX k f fd ps sp) (hr : Room k X.A) (hb : Binds X.K fd ps ds) (hd : Vals dvs ds) (hx : Passes CX X E)
    (ht : eval (.Call (.Attribute o m apos) [] [] pos) X.env = (do
      let ov ← eval o X.env
      standAt apos.atName
      let (f, first) ← holding [ov] (getMethod ov m pl)
      callWith pos f first (backTo pos (starEach [] X.env)) (backToKw pos (keywordEach [] X.env))) := by rfl) :
    PE X (.Call (.Attribute o m apos) [] [] pos) (tMeth C m sp dvs E ta tNil) := by
  intro pins s σ H Q I h
  refine PySem.W.methodCall_KW (pl := pl) (thn (he pins s σ H _ I h) fun u s1 ⟨x, H1, I1, rx, a, dx, fs, ex, ea, l, q⟩ => ?_) ht
  subst ex
  obtain rfl : u = Value.ref a := rx
  refine getmeth_ok I1 ea c hm l ?_
  exact PySem.W.callWith_K0 (first := [.ref a]) I1.kIn hm.kp (run_fn (us := [.ref a]) (vs := [.ref a]) F hr hb hd hx I1 (.cons rfl .nil) q)

/-- what a class must have to be made -/
structure Mk (K : PySem.W.Frag) (C f : Addr) : Prop where
  makes : PySem.W.makesIn K C = true
  init : PySem.W.findIn K (.ref C) "__init__" = some (some (.ref f))
  fn : PySem.W.isFn K (.ref f) = true
  kp : PySem.W.keepIn K (.ref C) = true

theorem run_make {pins : List (Addr × Obj)} {σ : St} {H : Hp} {s : Shared} {Q : VK} {us : List Value} {vs : List V} (M : Mk X.K C f) (F : FnOk X.prog X.w X.K X.mg X.base CX k f fd ps sp) (hr : Room (k + 1) X.A) (hb : Binds X.K fd ps ds) (hd : Vals dvs ds)
    (hx : Passes CX X E) (I : Inv X pins σ H s) (r : Vals vs us)
    (h : ∀ x dx, H x = none → H dx = none → dx ≠ x → sp (.ref x :: (vs ++ dvs)) (upd (upd H dx (.own x)) x (.ins C dx [])) (fun v H2 => v = .non ∧ Q (.ref x) H2) E) :
    wpAny (model X.prog X.w) X.A (call (.ref C) us) (EP X pins σ Q) X.xe s := by
  have hq := h (s.heap.objs.size + 1) s.heap.objs.size (I.hok.fresh (Nat.le_succ _)) (I.hok.fresh (Nat.le_refl _)) (Nat.ne_of_lt (Nat.lt_succ_self _))
  have I2 := Inv.made (C := C) I
  have r2 : Vals (V.ref (s.heap.objs.size + 1) :: (vs ++ dvs)) (Value.ref (s.heap.objs.size + 1) :: (us ++ ds)) := .cons rfl (r.append hd)
  have hl : (Value.ref (s.heap.objs.size + 1) :: us ++ ds).length = ps.length := by
    have e := r2.length
    rw [F.len _ _ _ _ hq] at e
    exact e.symm
  refine wpAny_call (make_map (f := f) I.kIn M.makes M.init (beq_iff_eq.mp M.fn) (codeAny_mono (F.run _ X.stack _ _ ⟨Value.ref (s.heap.objs.size + 1) :: us, []⟩ (Value.ref (s.heap.objs.size + 1) :: (us ++ ds)) _ _ E (hr.make C us [])
    (I2.env0.make C us []) (hb _ (Value.ref (s.heap.objs.size + 1) :: us) I2.kIn hl) r2 hq) fun r s' hq' => ?_))
  cases r with
  | error e => exact hx pins σ _ _ e s' I2 hq'
  | ok fl =>
    cases fl with
    | ret u =>
      obtain ⟨v, H', I3, rv, ev, q3⟩ := I2.after hq'
      subst ev
      exact ⟨rv, ⟨V.ref (s.heap.objs.size + 1), H', I3, rfl, q3⟩⟩
    | next => exact False.elim hq'
    | brk => exact False.elim hq'
    | cont => exact False.elim hq'
theorem pe_make (M : Mk X.K C f) (F : FnOk X.prog X.w X.K X.mg X.base CX k f fd ps sp) (hr : Room (k + 1) X.A) (hg : Gl X x) (hm : X.mg x = some (.ref C)) (hb : Binds X.K fd ps ds) (hd : Vals dvs ds) (hx : Passes CX X E)
    (ha : PA X (e :: es) t) (hdb : (x == ("__debug__" : Str)) = false := by decide) (he : starEach (e :: es) X.env = (false, eval e X.env) :: starEach es X.env := by exact star_plain rfl) (hpl : (backTo pos (starEach es X.env)).any (·.1) = false := by exact any_plain rfl) :
    PE X (.Call (.Name x p) (e :: es) [] pos) (tMake C sp dvs E t) := by
  intro pins s σ H Q I h
  refine wpAny_Call_Name_kw (ld_glob I hg hm ?_ hdb)
  refine PySem.W.callWith_K (h₀ := X.base) I.ok.mod.kin M.kp (thn (ha pos pins s σ H _ I h) fun us s1 ⟨vs, H1, I1, r, q⟩ => ⟨I1.kIn, ?_⟩) he hpl
  exact run_make M F hr hb hd hx I1 r q
theorem pe_make0 (M : Mk X.K C f) (F : FnOk X.prog X.w X.K X.mg X.base CX k f fd ps sp) (hr : Room (k + 1) X.A) (hg : Gl X x) (hm : X.mg x = some (.ref C)) (hb : Binds X.K fd ps ds) (hd : Vals dvs ds) (hx : Passes CX X E)
    (hdb : (x == ("__debug__" : Str)) = false := by decide) : PE X (.Call (.Name x p) [] [] pos) (tMake C sp dvs E tNil) := by
  intro pins s σ H Q I h
  refine wpAny_Call_Name_kw (ld_glob I hg hm ?_ hdb)
  exact PySem.W.callWith_K0 I.kIn M.kp (run_make (us := []) M F hr hb hd hx I .nil h)
end

/-! ### keywords -/
/-- the values of the keywords, from the left -/
def PK (X : Cx) (kws : List Keyword) (t : TA) : Prop :=
  ∀ (pos : Pos) (pins : List (Addr × Obj)) (s : Shared) (σ : St) (H : Hp) (Q : List V → Hp → Prop), Inv X pins σ H s → t σ H Q → wpAny (model X.prog X.w) X.A (evalAll ((backToKw pos (keywordEach kws X.env)).map (·.2))) (AP X pins σ Q) X.xe s
section
variable {X : Cx} {CX : CXT} {k : Nat} {f C : Addr} {fd : FuncData} {ps ks : List Str} {sp : Sp} {E : XK} {x m : Str} {p pos apos kpos : Pos} {e o : Expr} {es : List Expr} {kws : List Keyword} {te ta : TE} {t tk : TA} {nm : Option Str}
theorem pk_nil : PK X [] tNil := fun _ _ _ _ H Q I h => wpAny_evalAll_nil ⟨[], H, I, .nil, h⟩
theorem pk_cons (ha : PE X e te) (hr : PK X kws t) : PK X (⟨nm, e, kpos⟩ :: kws) (tCons te t) := by
  intro pos pins s σ H Q I h
  show wpAny _ _ (evalAll ((do let v ← eval e X.env; standAt pos; pure v) :: (backToKw pos (keywordEach kws X.env)).map (·.2))) _ _ s
  refine wpAny_evalAll_cons (wpAny_bind (thn (ha pins s σ H _ I h) fun u s1 ⟨x, H1, I1, r1, q1⟩ => wpAny_bind (wpAny_standAt (wpAny_pure ?_))))
  exact thn (hr pos pins s1 σ H1 _ I1 q1) fun us s2 ⟨xs, H2, I2, r2, q2⟩ => ⟨x :: xs, H2, I2, .cons r1 r2, q2⟩

/-- how a call with keywords binds: g puts the positional values us and the keywords' values ws (names ks) in the parameters' order, defaults among them -/
structure KBinds (K : PySem.W.Frag) (fd : FuncData) (ps ks : List Str) (g : List Value → List Value → List Value) (gV : List V → List V → List V) : Prop where
  to : ∀ (s : Shared) (us ws : List Value), K.In s.heap → (g us ws).length = ps.length → BindsTo s fd ⟨us, ks.zip ws⟩ (ps.zip (g us ws))
  rel : ∀ {vs : List V} {us : List Value} {zs : List V} {ws : List Value}, Vals vs us → Vals zs ws → Vals (gV vs zs) (g us ws)
def tCallK (sp : Sp) (gV : List V → List V → List V) (E : XK) (t tk : TA) : TE := fun σ H Q => t σ H fun vs H1 => tk σ H1 fun zs H2 => sp (gV vs zs) H2 Q E
variable {g : List Value → List Value → List Value} {gV : List V → List V → List V}
theorem run_fnk {pins : List (Addr × Obj)} {σ : St} {H : Hp} {s : Shared} {Q : VK} {us ws : List Value} {vs zs : List V} (F : FnOk X.prog X.w X.K X.mg X.base CX k f fd ps sp) (hr : Room k X.A) (hb : KBinds X.K fd ps ks g gV) (hx : Passes CX X E)
    (I : Inv X pins σ H s) (r : Vals vs us) (rz : Vals zs ws) (h : sp (gV vs zs) H Q E) : wpAny (model X.prog X.w) X.A (call (.ref f) us (ks.zip ws)) (EP X pins σ Q) X.xe s := by
  have r2 := hb.rel r rz
  have hl : (g us ws).length = ps.length := by rw [← r2.length]; exact F.len _ _ _ _ h
  refine wpAny_call (codeAny_mono (F.run X.A X.stack s H ⟨us, ks.zip ws⟩ (g us ws) (gV vs zs) Q E hr I.env0 (hb.to s us ws I.kIn hl) r2 h) fun r s' hq => ?_)
  cases r with
  | error e => exact hx pins σ H s e s' I hq
  | ok fl =>
    cases fl with
    | ret u => exact I.after hq
    | next => exact False.elim hq
    | brk => exact False.elim hq
    | cont => exact False.elim hq
/-- f(e, .., k = v, ..) -/
theorem pe_callK (F : FnOk X.prog X.w X.K X.mg X.base CX k f fd ps sp) (hr : Room k X.A) (hg : Gl X x) (hm : X.mg x = some (.ref f)) (hk : PySem.W.keepIn X.K (.ref f) = true) (hb : KBinds X.K fd ps ks g gV) (hx : Passes CX X E)
    (ha : PA X (e :: es) t) (hkw : PK X kws tk) (hall : (backToKw pos (keywordEach kws X.env)).all (·.1.isSome) = true := by rfl) (hks : (backToKw pos (keywordEach kws X.env)).filterMap (·.1) = ks := by rfl)
    (hdb : (x == ("__debug__" : Str)) = false := by decide) (he : starEach (e :: es) X.env = (false, eval e X.env) :: starEach es X.env := by exact star_plain rfl)
    (hpl : ((backTo pos (starEach (e :: es) X.env)).any (·.1) || (backToKw pos (keywordEach kws X.env)).any (·.1.isNone)) = false := by rfl) :
    PE X (.Call (.Name x p) (e :: es) kws pos) (tCallK sp gV E t tk) := by
  intro pins s σ H Q I h
  refine wpAny_Call_Name_kw (ld_glob I hg hm ?_ hdb)
  refine PySem.W.callWith_KW (h₀ := X.base) I.ok.mod.kin hk hall (thn (ha pos pins s σ H _ I h) fun us s1 ⟨vs, H1, I1, r, q⟩ => ?_) hpl he
  refine thn (hkw pos pins s1 σ H1 _ I1 q) fun ws s2 ⟨zs, H2, I2, rz, q2⟩ => ⟨I2.kIn, ?_⟩
  rw [hks]
  exact run_fnk F hr hb hx I2 r rz q2
end

/-! ### a def's body keeps its promise -/
/-- names: the parameters first -/
structure FnScope (N P : List Str) (sc : Scope) : Prop where
  kind : sc.kind = .function
  co : sc.isCoroutine = false
  gen : sc.isGenerator = false
  nd : N.Nodup
  pre : N.take P.length = P
  par : ∀ x ∈ P, sc.names.lookup x = some .local ∨ sc.names.lookup x = some .cell
  nofree : ∀ y ∈ sc.names, y.2 ≠ .free

theorem bindL_out {kindOf : Str → Option NameKind} {x : Str} : ∀ {binds : List (Str × Value)} {m : Str → Option Value}, (∀ v, (x, v) ∉ binds) → bindL kindOf binds m x = m x
  | [], _, _ => rfl
  | (n, v) :: r, m, h => by
    unfold bindL
    rw [bindL_out fun w hw => h w (List.mem_cons_of_mem _ hw)]
    split
    · have : x ≠ n := by rintro rfl; exact h v List.mem_cons_self
      simp [this]
    · rfl
theorem bindC_out {kindOf : Str → Option NameKind} {x : Str} : ∀ {binds : List (Str × Value)} {m : Str → Option Value}, (∀ v, (x, v) ∉ binds) → bindC kindOf binds m x = m x
  | [], _, _ => rfl
  | (n, v) :: r, m, h => by
    unfold bindC
    rw [bindC_out fun w hw => h w (List.mem_cons_of_mem _ hw)]
    split
    · rfl
    · have : x ≠ n := by rintro rfl; exact h v List.mem_cons_self
      simp [this]
theorem bindL_get {kindOf : Str → Option NameKind} {x : Str} {v : Value} : ∀ {P : List Str} {vs : List Value} {i : Nat} {m : Str → Option Value}, P.Nodup → P[i]? = some x → vs[i]? = some v → kindOf x = some .local →
    bindL kindOf (P.zip vs) m x = some v
  | [], _, _, _, _, h, _, _ => by simp at h
  | _ :: _, [], _, _, _, _, h, _ => by simp at h
  | p :: P, w :: vs, 0, m, nd, h1, h2, hk => by
    simp at h1 h2; subst h1; subst h2
    show bindL kindOf ((p, w) :: P.zip vs) m p = _
    unfold bindL
    rw [bindL_out fun v hv => (List.nodup_cons.mp nd).1 (List.of_mem_zip hv).1, if_pos hk]
    simp
  | p :: P, w :: vs, i + 1, m, nd, h1, h2, hk => by
    show bindL kindOf ((p, w) :: P.zip vs) m x = _
    unfold bindL
    exact bindL_get (i := i) (List.nodup_cons.mp nd).2 (by simpa using h1) (by simpa using h2) hk
theorem bindC_get {kindOf : Str → Option NameKind} {x : Str} {v : Value} : ∀ {P : List Str} {vs : List Value} {i : Nat} {m : Str → Option Value}, P.Nodup → P[i]? = some x → vs[i]? = some v → kindOf x ≠ some .local →
    bindC kindOf (P.zip vs) m x = some v
  | [], _, _, _, _, h, _, _ => by simp at h
  | _ :: _, [], _, _, _, _, h, _ => by simp at h
  | p :: P, w :: vs, 0, m, nd, h1, h2, hk => by
    simp at h1 h2; subst h1; subst h2
    show bindC kindOf ((p, w) :: P.zip vs) m p = _
    unfold bindC
    rw [bindC_out fun v hv => (List.nodup_cons.mp nd).1 (List.of_mem_zip hv).1, if_neg hk]
    simp
  | p :: P, w :: vs, i + 1, m, nd, h1, h2, hk => by
    show bindC kindOf ((p, w) :: P.zip vs) m x = _
    unfold bindC
    exact bindC_get (i := i) (List.nodup_cons.mp nd).2 (by simpa using h1) (by simpa using h2) hk

/-- the names' values at the entry -/
def start (N : List Str) (vs : List V) : St := vs.map some ++ List.replicate (N.length - vs.length) none

/-- the context of a def's body, at its entry; an exception leaves the frame, then lies as CX says -/
def cxOf (cm : Bool) (CX : CXT) (P : Program) (w : World) (K : PySem.W.Frag) (mg : Str → Option Value) (base : Heap) (N : List Str) (qual : Str) (scope : Scope) (f : Addr) (cd : Value) (A : Around) (outer : List Env) (s : Shared) (H : Hp) (E : XK) : Cx where
  prog := P
  w := w
  K := K
  mg := mg
  base := base
  A := A.deeper (envOfC qual scope s.heap.objs.size f cd)
  N := N
  s₀ := s
  H₀ := H
  env := envOfC qual scope s.heap.objs.size f cd
  outer := outer
  stack := envOfC qual scope s.heap.objs.size f cd :: outer
  ex := []
  calm := cm
  fn := fun _ => true
  pn := []
  xe := fun e s' => wpAny (model P w) (A.deeper (envOfC qual scope s.heap.objs.size f cd)) (leaving (envOfC qual scope s.heap.objs.size f cd) e) (fun _ s'' => CX outer H s E e s'') (fun e' s'' => CX outer H s E e' s'') s'

theorem cell_has {sc : Scope} {n : Nat} {x : Str} (h : sc.names.lookup x = some .cell) : ∃ c, (cellsFrom n sc.names []).lookup x = some c := by
  have q := PySem.W.cellsFrom_some sc.names n [] (.inl h)
  exact Option.isSome_iff_exists.mp q

theorem inv_start {cm : Bool} {CX : CXT} {P : Program} {w : World} {K : PySem.W.Frag} {mg : Str → Option Value} {base : Heap} {N ps : List Str} {qual : Str} {scope : Scope} {f : Addr} {cd : Value} {A : Around} {outer : List Env} {s s1 : Shared} {H : Hp} {E : XK} {us : List Value} {vs : List V}
    (S : FnScope N ps scope) (hd : cm = true → A.handled = none) (e0 : Env0 P w K mg base A outer s H) (hl : vs.length = ps.length) (r : Vals vs us)
    (x : InCallC s s.heap.objs.size (bindL (envOfC qual scope s.heap.objs.size f cd).kindOf (ps.zip us) fun _ => none) (cellsFrom (s.heap.objs.size + 1) scope.names []) (bindC (envOfC qual scope s.heap.objs.size f cd).kindOf (ps.zip us) fun _ => none) s1) :
    Inv (cxOf cm CX P w K mg base N qual scope f cd A outer s H E) [] (start N vs) H s1 := by
  have hpl : ps.length ≤ N.length := by have := congrArg List.length S.pre; rw [List.length_take] at this; omega
  obtain ⟨h1, tk, rfl, hk⟩ := x.done
  have noA : ∀ b : Addr, b ∉ (cxOf cm CX P w K mg base N qual scope f cd A outer s H E).ex := fun b z => absurd (show b ∈ ([] : List Addr) from z) (by simp)
  refine ⟨⟨e0.mod, S.kind, rfl, rfl, Nat.le_refl _, fun y z c h1 h2 => ?_, fun y hy => ?_, fun y c _ h => ?_, hd, Around.frames_deeper e0.frames, .inr ⟨rfl, rfl⟩, fun b z => absurd z (noA b), e0.bs, e0.bsz, fun b _ _ => noA b, fun b z => absurd z (noA b), e0.funs, e0.frf⟩,
    rfl, e0.bare, Un.kept hk, ⟨_, x.toInCall.ns, fun i y v h1 h2 h3 => ?_⟩, fun y c h => ⟨_, x.cell y c h⟩, e0.hok.fresh (Nat.le_refl _), fun y c h => ?_, fun p hp => absurd (show p ∈ ([] : List (Addr × Obj)) from hp) (by simp), e0.hok.kept hk, ?_⟩
  · exact name_of_addr x.apart (PySem.mem_of_lookup h1) (PySem.mem_of_lookup h2)
  · have hy : scope.names.lookup y = some .cell ∨ scope.names.lookup y = some .free := hy
    rcases hy with hy | hy
    · exact cell_has hy
    · exact absurd rfl (S.nofree _ (PySem.mem_of_lookup hy))
  · exact Nat.le_of_lt (x.above y c (PySem.mem_of_lookup h))
  · have hi : i < vs.length := by
      unfold start at h2
      by_cases hi : i < vs.length
      · exact hi
      · rw [List.getElem?_append_right (by simpa using hi)] at h2
        rw [List.getElem?_replicate] at h2
        split at h2 <;> cases h2
    have ha : vs[i]? = some v := by
      unfold start at h2
      rw [List.getElem?_append_left (by simpa using hi), List.getElem?_map] at h2
      cases e : vs[i]? with
      | none => rw [e] at h2; cases h2
      | some a => rw [e] at h2; cases h2; rfl
    obtain ⟨u, hu, rv⟩ := r.get ha
    have hp : ps[i]? = some y := by
      rw [← S.pre, List.getElem?_take_of_lt (by omega)]; exact h1
    have ndP : ps.Nodup := by rw [← S.pre]; exact S.nd.sublist (List.take_sublist _ _)
    refine ⟨u, rv, ?_⟩
    rcases S.par y (List.mem_of_getElem? hp) with k | k
    · exact .inl ⟨k, bindL_get ndP hp hu k⟩
    · obtain ⟨c, e⟩ := cell_has (n := s.heap.objs.size + 1) k
      refine .inr ⟨.inl k, c, e, ?_⟩
      have q := x.cell y c e
      rw [bindC_get ndP hp hu (by show scope.names.lookup y ≠ _; rw [k]; decide)] at q
      exact q
  · exact e0.hok.fresh (Nat.le_of_lt (x.above y c (PySem.mem_of_lookup h)))
  · unfold start
    show _ = N.length
    rw [List.length_append, List.length_map, List.length_replicate]
    omega

/-- THE RULE: a def (or a method) of the text, by its body. The body's reading t is chosen for each entry; it is run at the parameters' values -/
theorem fn_of {cm : Bool} {CX : CXT} {P : Program} {w : World} {K : PySem.W.Frag} {mg : Str → Option Value} {base : Heap} {k : Nat} {f : Addr} {name qual : Str} {params : Arguments} {body : List Stmt} {scope : Scope} {dV kV doc pm cdv ct oc : Value} {an od : Option Addr}
    {osl : Array (Option Value)} {N ps : List Str} {sp : Sp} (lk : K.lookup f = some ⟨oc, od, .func (PySem.W.fnOf name qual params body scope dV kV doc pm an cdv ct), osl⟩) (hcd : PySem.W.codeIn K cdv qual = true) (S : FnScope N ps scope)
    (len : ∀ vs H Q E, sp vs H Q E → vs.length = ps.length) (hcm : cm = true → 50 ≤ k + 1)
    (hbody : ∀ (A : Around) (outer : List Env) (s : Shared) (H : Hp) (vs : List V) (Q : VK) (E : XK), Room k (A.deeper (envOfC qual scope s.heap.objs.size f cdv)) → sp vs H Q E →
      ∃ t, PSs (cxOf cm CX P w K mg base N qual scope f cdv A outer s H E) body t ∧ t { nx := fun _ H' => Q .non H', rt := Q } (start N vs) H) :
    FnOk P w K mg base CX (k + 1) f (PySem.W.fnOf name qual params body scope dV kV doc pm an cdv ct) ps sp := by
  refine ⟨len, fun A outer s H args us vs Q E hr e0 hb r hsp => ?_⟩
  have hl := len _ _ _ _ hsp
  have KX : K.In s.heap := e0.mod.kin.keeps fun b o e => (e0.bs b o e).1
  have lim : s.heap.NoLimit := e0.mod.nolimit.keeps fun b o e => (e0.bs b o e).1
  have hkind : ∀ y ∈ ps.zip us, scope.names.lookup y.1 = some .local ∨ (scope.names.lookup y.1 = some .cell ∧ ((cellsFrom (s.heap.objs.size + 1) scope.names []).lookup y.1).isSome = true) := fun ⟨n, v⟩ hy => by
    rcases S.par n (List.of_mem_zip hy).1 with q | q
    · exact .inl q
    · exact .inr ⟨q, PySem.W.cellsFrom_some _ _ _ (.inl q)⟩
  refine codeAny_call_function hr.depth (KX _ _ lk) rfl S.co S.gen rfl (PySem.W.codeRec_of KX hcd) (hb _ _ _ _ ?_)
  refine wpAny_newFunctionEnv_cells S.kind hkind fun env he s1 x => ?_
  subst he
  refine ⟨lim.keeps x.toInCall.keep, codeAny_func ?_⟩
  obtain ⟨t, ht, hq⟩ := hbody A outer s H vs Q E (hr.deeper _) hsp
  have I : Inv (cxOf cm CX P w K mg base N qual scope f cdv A outer s H E) [] (start N vs) H s1 := inv_start S (fun z => hr.hd (hcm z)) e0 hl r x
  refine wpAny_mono (ht [] s1 (start N vs) H _ I hq) (fun fl s' hs => ?_) fun e s' hs => hs
  have fin : ∀ {σ' : St} {H' : Hp} {v : V} {u : Value}, Inv (cxOf cm CX P w K mg base N qual scope f cdv A outer s H E) [] σ' H' s' → RelV v u → Q v H' → CE outer P w H s Q u s' :=
    fun {σ' H' v u} J rv q => ⟨v, H', J.os, J.bare, J.base, J.hok, rv, q⟩
  cases fl with
  | ret u =>
    obtain ⟨v, σ', H', J, rv, q⟩ := hs
    exact fin J rv q
  | next =>
    obtain ⟨σ', H', J, q⟩ := hs
    exact fin (v := V.non) (u := Value.none) J rfl q
  | brk =>
    obtain ⟨_, _, _, q⟩ := hs
    exact False.elim q
  | cont =>
    obtain ⟨_, _, _, q⟩ := hs
    exact False.elim q
end L2

namespace L2
open PySem PySem.Spec PyProof.Rows
section
variable {X : Cx} {x : Str} {p pos : Pos} {e : Expr} {es : List Expr} {t : TA} {id T : String} {r : List V → Hp → VK → Prop}

def tCB (r : List V → Hp → VK → Prop) (t : TA) : TE := fun σ H Q => t σ H fun vs H1 => r vs H1 Q
/-- f(e, ..), f a built-in function -/
theorem pe_callB (hc : CallR X (.builtin id) r) (hg : Gl X x) (hm : X.mg x = none) (hv : bootBuiltins x = some (.builtin id)) (ha : PA X (e :: es) t) (hn : x ≠ "__name__" := by decide) (hdb : (x == ("__debug__" : Str)) = false := by decide)
    (he : starEach (e :: es) X.env = (false, eval e X.env) :: starEach es X.env := by exact star_plain rfl) (hpl : (backTo pos (starEach es X.env)).any (·.1) = false := by exact any_plain rfl) : PE X (.Call (.Name x p) (e :: es) [] pos) (tCB r t) := by
  intro pins s σ H Q I h
  refine wpAny_Call_Name_kw (ld_blt I hg hm hv ?_ hn hdb)
  exact PyProof.Rows.callWith_builtin1 (thn (ha pos pins s σ H _ I h) fun us s1 ⟨vs, H1, I1, r1, q1⟩ => hc pins s1 σ H1 vs us Q I1 r1 q1) he hpl
/-- T(e, ..), T a built-in type -/
theorem pe_callTy (hc : CallR X (.type T) r) (hg : Gl X x) (hm : X.mg x = none) (hv : bootBuiltins x = some (.type T)) (ha : PA X (e :: es) t) (hn : x ≠ "__name__" := by decide) (hdb : (x == ("__debug__" : Str)) = false := by decide)
    (he : starEach (e :: es) X.env = (false, eval e X.env) :: starEach es X.env := by exact star_plain rfl) (hpl : (backTo pos (starEach es X.env)).any (·.1) = false := by exact any_plain rfl) : PE X (.Call (.Name x p) (e :: es) [] pos) (tCB r t) := by
  intro pins s σ H Q I h
  refine wpAny_Call_Name_kw (ld_blt I hg hm hv ?_ hn hdb)
  exact PyProof.Rows.callWith_type1 (thn (ha pos pins s σ H _ I h) fun us s1 ⟨vs, H1, I1, r1, q1⟩ => hc pins s1 σ H1 vs us Q I1 r1 q1) he hpl
/-- T() -/
theorem pe_callTy0 (hc : CallR X (.type T) r) (hg : Gl X x) (hm : X.mg x = none) (hv : bootBuiltins x = some (.type T)) (hn : x ≠ "__name__" := by decide) (hdb : (x == ("__debug__" : Str)) = false := by decide) :
    PE X (.Call (.Name x p) [] [] pos) (tCB r tNil) := by
  intro pins s σ H Q I h
  refine wpAny_Call_Name_kw (ld_blt I hg hm hv ?_ hn hdb)
  exact PyProof.Rows.callWith_type0 (hc pins s σ H [] [] Q I .nil h)
end
end L2

namespace HT
open PySem PyProof.Rows

/-- t < u of tuples of ints -/
def lexLt : List Int → List Int → Bool
  | [], [] => false
  | [], _ :: _ => true
  | _ :: _, [] => false
  | x :: xs, y :: ys => if x = y then lexLt xs ys else decide (x < y)
theorem lexLt_cons (x y : Int) (xs ys : List Int) : lexLt (x :: xs) (y :: ys) = if x = y then lexLt xs ys else decide (x < y) := rfl
theorem lexLt_nil_nil : lexLt [] [] = false := rfl
theorem lexLt_nil_cons (y : Int) (ys : List Int) : lexLt [] (y :: ys) = true := rfl
theorem lexLt_cons_nil (x : Int) (xs : List Int) : lexLt (x :: xs) [] = false := rfl

theorem eqAt_int (A : Around) (s : Shared) (a : Int) (t : Tok) (c : Int) (u : Tok) : ∃ e, SeqAt.EqAt A s (.int a t) (.int c u) e ∧ (e = true ↔ a = c) :=
  ⟨(a == c), SeqAt.EqAt.int_int a t c u, by simp⟩
theorem rcLt_int (A : Around) (s : Shared) (a : Int) (t : Tok) (c : Int) (u : Tok) (prog : Program) (w : World) (E : Value → Shared → Prop) (Q : Value → Shared → Prop) (h : Q (.bool (decide (a < c))) s) :
    wpAny (model prog w) A (richCompare .Lt (.int a t) (.int c u)) Q E s :=
  (PyProof.Rows.lt_int h : wpAny (model prog w) A (compareOp .Lt (.int a t) (.int c u)) Q E s)

section
open PySem.SeqAt
open PySem.AutoSeq1 (wpAny_loadPart')
open PySem.MeetsSeq PySem.MeetsSeq2 PySem.MeetsSeq3

theorem tuple_lt_ints (l b : Addr) (items items2 : Array Value) (n n2 : Nat) (dd dd2 : Option Addr) (sl sl2 : Array (Option Value)) (ns ms : List Int) (hi : IntsAre items.toList ns) (hj : IntsAre items2.toList ms) :
    Meets (Builtin.«tuple.__lt__» ⟨[.ref l, .ref b], []⟩)
      (fun _ R s => s.heap.get? l = some { cls := .type "tuple", dict := dd, data := .seq items n, slots := sl } ∧ s.heap.get? b = some { cls := .type "tuple", dict := dd2, data := .seq items2 n2, slots := sl2 } ∧
        R (.ok (.ret (.bool (lexLt ns ms)))) s) :=
  .of_wp fun prog w A R s h => by
    obtain ⟨hp, g, d, tk, os⟩ := s; obtain ⟨hl, hb, h⟩ := h
    have f2 := AutoSeq1.sub_tuple_tuple
    have z1 : items.size = ns.length := by rw [← hi.length]; simp
    have z2 : items2.size = ms.length := by rw [← hj.length]; simp
    wp_walk using wpAny_loadPart' hl, wpAny_loadPart' hb, wpAny_forIn_list _ (fun rest b s' => b.1 = none ∧ s' = ⟨hp, g, d, tk, os⟩ ∧ ∃ (vs ws : List Value) (ns' ms' : List Int), rest = vs.zip ws ∧
      IntsAre vs ns' ∧ IntsAre ws ms' ∧ ns'.length + items2.size = ms'.length + items.size ∧ R (.ok (.ret (.bool (lexLt ns' ms')))) ⟨hp, g, d, tk, os⟩) _
    case turn =>
      rintro ⟨y, x⟩ rest b s' ⟨hb', rfl, vs, ws, ns', ms', hz, hvi, hwi, hlen, hR⟩
      cases hvi with
      | nil => rw [List.zip_nil_left] at hz; cases hz
      | cons a t hvi' =>
        cases hwi with
        | nil => rw [List.zip_nil_right] at hz; cases hz
        | cons c u hwi' =>
          rw [List.zip_cons_cons] at hz
          injection hz with hyx hrest
          injection hyx with hy hx
          subst hy hx
          rw [lexLt_cons] at hR
          simp only [List.length_cons] at hlen
          obtain ⟨e, he, hiff⟩ := eqAt_int A.in1 ⟨hp, g, d, tk, os⟩ a t c u
          refine wpAny_bind (he prog w _ _ ?_)
          cases e with
          | true =>
            rw [if_pos (hiff.mp rfl)] at hR
            wp_walk
            exact ⟨rfl, rfl, _, _, _, _, hrest, hvi', hwi', by omega, hR⟩
          | false =>
            rw [if_neg (fun q => absurd (hiff.mpr q) Bool.false_ne_true)] at hR
            have hri := rcLt_int A.in1 ⟨hp, g, d, tk, os⟩ a t c u prog w
            wp_walk using hri
            exact ⟨_, rfl, by simpa using hR⟩
    case fin =>
      rintro ⟨b1, b2⟩ s' ⟨hb', rfl, vs, ws, ns', ms', hz, hvi, hwi, hlen, hR⟩
      simp only at hb'
      subst hb'
      have hv : lexLt ns' ms' = decide (items.size < items2.size) := by
        cases hvi with
        | nil =>
          cases hwi with
          | nil =>
            simp only [List.length_nil] at hlen
            rw [lexLt_nil_nil]
            exact (decide_eq_false (by omega)).symm
          | cons c u hw =>
            simp only [List.length_nil, List.length_cons] at hlen
            rw [lexLt_nil_cons]
            exact (decide_eq_true (by omega)).symm
        | cons a t hv =>
          cases hwi with
          | nil =>
            simp only [List.length_nil, List.length_cons] at hlen
            rw [lexLt_cons_nil]
            exact (decide_eq_false (by omega)).symm
          | cons c u hw =>
            rw [List.zip_cons_cons] at hz
            cases hz
      rw [hv] at hR
      wp_walk
      exact ⟨_, rfl, by simpa [Builtin.Tuple.tupleCompareSizes] using hR⟩
    case h =>
      exact ⟨rfl, rfl, items.toList, items2.toList, ns, ms, rfl, hi, hj, by omega, h⟩
end

section
variable {prog : Program} {w : World} {A : Around} {E : Value → Shared → Prop} {s : Shared}

theorem lt_tupInts {l b : Addr} {items items2 : Array Value} {ns ms : List Int} {Q : Value → Shared → Prop} (hl : IsTup s.heap l items) (hb : IsTup s.heap b items2) (hi : IntsAre items.toList ns) (hj : IntsAre items2.toList ms)
    (hu : A.units < cLine) (h : Q (.bool (lexLt ns ms)) s) : wpAny (model prog w) A (compareOp .Lt (.ref l) (.ref b)) Q E s := by
  obtain ⟨⟨cls, dd, data, sl⟩, ho, hc, n, hd⟩ := id hl
  obtain ⟨⟨cls2, dd2, data2, sl2⟩, ho2, hc2, n2, hd2⟩ := id hb
  simp only at hc hd hc2 hd2
  subst hc hd hc2 hd2
  exact richCompare_meets_room (op := .Lt) ⟨_, ho, rfl⟩ ⟨_, ho2, rfl⟩ PySem.F.slot_tuple_lt PySem.F.entry_tuple_lt (PySem.F.args_tuple_lt_2 _ _) (tuple_lt_ints l b items items2 n n2 dd dd2 sl sl2 ns ms hi hj)
    ⟨ho, ho2, show Value.bool (lexLt ns ms) ≠ Value.notImplemented ∧ Q (.bool (lexLt ns ms)) s from ⟨(fun x => nomatch x), h⟩⟩ hu

/-- t + u, t not empty -/
theorem cat_tup {t b : Addr} {vs ws : List Value} {Q : Value → Shared → Prop} (ht : IsTup s.heap t vs.toArray) (hb : IsTup s.heap b ws.toArray) (hv : vs ≠ [])
    (h1 : ws = [] → Q (.ref t) s) (h2 : ws ≠ [] → Q (.ref s.heap.objs.size) { s with heap := s.heap.push { cls := .type "tuple", data := .seq (vs ++ ws).toArray } })
    (hsz : vs.length + ws.length ≤ sizeLine) : wpAny (model prog w) A (binaryOp .Add (.ref t) (.ref b)) Q E s := by
  obtain ⟨⟨cls, dd, data, sl⟩, ho, hc, n, hd⟩ := id ht
  obtain ⟨⟨cls2, dd2, data2, sl2⟩, ho2, hc2, n2, hd2⟩ := id hb
  simp only at hc hd hc2 hd2
  subst hc hd hc2 hd2
  have e : vs.toArray ++ ws.toArray = (vs ++ ws).toArray := by simp
  by_cases hw : ws = []
  · exact concat_meets ⟨_, ho, rfl⟩ ⟨_, ho2, rfl⟩ noFill_tuple_add seq_tuple_add PySem.F.slot_tuple_add PySem.F.entry_tuple_add (PySem.F.args_tuple_add_2 _ _)
      (tuple_addW1 t b vs.toArray ws.toArray n n2 dd dd2 sl sl2 (by simpa using hv) (by simp [hw])) ⟨ho, ho2, h1 hw⟩
  · refine concat_meets ⟨_, ho, rfl⟩ ⟨_, ho2, rfl⟩ noFill_tuple_add seq_tuple_add PySem.F.slot_tuple_add PySem.F.entry_tuple_add (PySem.F.args_tuple_add_2 _ _)
      (tuple_addW2 t b vs.toArray ws.toArray n n2 dd dd2 sl sl2 (by simpa using hv) (by simpa using hw) (by rw [List.size_toArray, List.size_toArray]; exact hsz)) ⟨ho, ho2, ?_⟩
    rw [e]
    exact h2 hw

/-! ### t[a:b], not the whole -/
/-- a slice's bound as a place among n (d where it is left out) -/
def sIx (n d : Nat) : Option Int → Nat
  | none => d
  | some v => if v < 0 then (v + (n : Int)).toNat else min v.toNat n
theorem sIx_none (n d : Nat) : sIx n d none = d := rfl
theorem sIx_nat (n d k : Nat) : sIx n d (some (k : Int)) = min k n := by
  show (if (k : Int) < 0 then ((k : Int) + (n : Int)).toNat else min (k : Int).toNat n) = min k n
  rw [if_neg (by omega), Int.toNat_natCast]
theorem sIx_le (n d : Nat) (hd : d ≤ n) (o : Option Int) : sIx n d o ≤ n := by
  cases o with
  | none => exact hd
  | some v =>
    show (if v < 0 then (v + (n : Int)).toNat else min v.toNat n) ≤ n
    by_cases hv : v < 0
    · rw [if_pos hv]; omega
    · rw [if_neg hv]; exact Nat.min_le_right _ _
theorem clip_eq (v : Int) (n d : Nat) : (if v < 0 then max (v + (n : Int)) 0 else min v (n : Int)) = ((sIx n d (some v) : Nat) : Int) := by
  show (if v < 0 then max (v + (n : Int)) 0 else min v (n : Int)) = (((if v < 0 then (v + (n : Int)).toNat else min v.toNat n) : Nat) : Int)
  by_cases hv : v < 0
  · simp only [if_pos hv]; omega
  · simp only [if_neg hv]; omega
theorem adjust_gen (lo hi : Option Int) (n : Nat) : Builtin.Slice.sliceAdjust lo hi 1 (n : Int) = (((sIx n 0 lo : Nat) : Int), ((sIx n n hi : Nat) : Int)) := by
  have h1 : ¬ ((1 : Int) < 0) := by omega
  unfold Builtin.Slice.sliceAdjust
  simp only [h1, if_false]
  refine Prod.ext ?_ ?_
  · cases lo with
    | none => rfl
    | some v => exact clip_eq v n 0
  · cases hi with
    | none => rfl
    | some v => exact clip_eq v n n
theorem places_gen (i j : Nat) : Builtin.Slice.slicePlaces (i : Int) (j : Int) 1 = j - i := by
  unfold Builtin.Slice.slicePlaces
  have h1 : (1 : Int) > 0 := by omega
  simp only [h1, if_true, Int.ediv_one]
  split <;> omega
theorem slicePart_ {v : Value} {o : Option Int} {Q : Option Int → Shared → Prop} (p : IsPart v o) (h : Q o s) : wpAny (model prog w) A (Builtin.Slice.slicePartIndex v) Q E s := by
  cases p with
  | none => exact slicePart_none h
  | int i t => exact slicePart_int h
theorem sliceApplied_gen {sl : Addr} {vl vu : Value} {lo hi : Option Int} {n : Nat} {Q : Int × Int × Nat → Shared → Prop} (hs : s.heap.IsSliceOf sl vl vu .none) (pl : IsPart vl lo) (pu : IsPart vu hi)
    (h : Q (((sIx n 0 lo : Nat) : Int), 1, sIx n n hi - sIx n 0 lo) s) : wpAny (model prog w) A (Builtin.Slice.sliceApplied (.ref sl) (pure (n : Int))) Q E s := by
  obtain ⟨os, hos, hcs, hds⟩ := id hs
  unfold Builtin.Slice.sliceApplied Builtin.Slice.sliceFields
  refine wpAny_bind (wpAny_bind (wpAny_field hos hds (x := vl) rfl (wpAny_bind (wpAny_field hos hds (x := vu) rfl (wpAny_bind (wpAny_field hos hds (x := .none) rfl (wpAny_pure ?_)))))))
  refine wpAny_bind (slicePart_none ?_)
  show wpAny _ _ (if ((1 : Int) == 0) = true then _ else _) _ _ s
  rw [if_neg (by decide)]
  refine wpAny_bind (slicePart_ pl (wpAny_bind (slicePart_ pu (wpAny_bind (wpAny_pure ?_)))))
  show wpAny _ _ (match Builtin.Slice.sliceAdjust lo hi 1 (n : Int) with | (lo, hi) => pure (lo, (1 : Int), Builtin.Slice.slicePlaces lo hi 1)) _ _ s
  rw [adjust_gen lo hi n]
  show wpAny _ _ (pure (((sIx n 0 lo : Nat) : Int), (1 : Int), Builtin.Slice.slicePlaces ((sIx n 0 lo : Nat) : Int) ((sIx n n hi : Nat) : Int) 1)) _ _ s
  rw [places_gen]
  exact wpAny_pure h
theorem pick_gen (xs : Array Value) (i k : Nat) : ((List.range k).filterMap fun (m : Nat) => xs[((i : Int) + (m : Int) * 1).toNat]?).toArray = ((xs.toList.drop i).take k).toArray := by
  have e : (fun (m : Nat) => xs[((i : Int) + (m : Int) * 1).toNat]?) = fun m => xs[i + m]? := by
    funext m
    have : ((i : Int) + (m : Int) * 1).toNat = i + m := by omega
    rw [this]
  rw [e]
  have := pick_run xs i k
  rw [List.filterMap_map] at this
  have e2 : ((fun x => xs[x]?) ∘ fun x => i + x) = fun m => xs[i + m]? := rfl
  rw [e2] at this
  rw [this]

theorem getItem_tuple_cut {t sl : Addr} {items : Array Value} {vl vu : Value} {lo hi : Option Int} {Q : Value → Shared → Prop} (ht : IsTup s.heap t items) (hs : s.heap.IsSliceOf sl vl vu .none) (pl : IsPart vl lo) (pu : IsPart vu hi)
    (hw : ¬ (sIx items.size 0 lo = 0 ∧ sIx items.size items.size hi = items.size))
    (h : Q (.ref s.heap.objs.size) { s with heap := s.heap.push { cls := .type "tuple", data := .seq ((items.toList.drop (sIx items.size 0 lo)).take (sIx items.size items.size hi - sIx items.size 0 lo)).toArray } })
    (hsz : items.size ≤ sizeLine) : wpAny (model prog w) A (getItem (.ref t) (.ref sl)) Q E s := by
  have htake : sizeOk (.seq ((items.toList.drop (sIx items.size 0 lo)).take (sIx items.size items.size hi - sIx items.size 0 lo)).toArray) := by
    show ((items.toList.drop (sIx items.size 0 lo)).take (sIx items.size items.size hi - sIx items.size 0 lo)).toArray.size ≤ sizeLine
    rw [List.size_toArray, List.length_take, List.length_drop, Array.length_toList]
    omega
  have hj : sIx items.size items.size hi ≤ items.size := sIx_le _ _ (Nat.le_refl _) hi
  obtain ⟨os, hos, hcs, hds⟩ := id hs
  have hTs : s.TypeIs (.ref sl) "slice" := ⟨os, hos, hcs⟩
  unfold getItem
  try with_reducible refine wpAny_holding ?_
  first | refine wpAny_bind (wpAny_pure ?_) | skip
  refine wpAny_bind (wpAny_sequenceKey ht.typeIs (by decide) ?_)
  refine wpAny_bind (wpAny_callSpecial?_slot (name := Str.ofString "__getitem__") ht.typeIs PyProof.Rows.slot_tuple_getitem
    (wpAny_call_entry PyProof.Rows.slot_tuple_getitem ht.typeIs entry_tuple_getitem ?_ (args_tuple_getitem _ _)))
  show wpAny _ _ (Builtin.Tuple.tupleItemsOf (.ref t) >>= _) _ _ s
  refine wpAny_bind (tupleItemsOf_ ht ?_)
  refine wpAny_bind (wpAny_typeOf hTs ?_)
  rw [if_pos (by decide)]
  refine wpAny_bind (sliceApplied_gen hs pl pu ?_)
  have hno : ¬ ((((sIx items.size 0 lo : Nat) : Int) == 0 && (1 : Int) == 1 && (sIx items.size items.size hi - sIx items.size 0 lo) == items.size) = true) := by
    intro q
    rw [Bool.and_eq_true, Bool.and_eq_true] at q
    have q1 : ((sIx items.size 0 lo : Nat) : Int) = 0 := eq_of_beq q.1.1
    have q2 : sIx items.size items.size hi - sIx items.size 0 lo = items.size := eq_of_beq q.2
    exact hw ⟨by omega, by omega⟩
  show wpAny _ _ (if (((sIx items.size 0 lo : Nat) : Int) == 0 && (1 : Int) == 1 && (sIx items.size items.size hi - sIx items.size 0 lo) == items.size) = true then _ else _) _ _ s
  rw [if_neg hno, pick_gen]
  first
    | exact wpAny_bind (m := Builtin.Tuple.tupleExact _) (wpAny_newObj_type (wpAny_pure ⟨_, rfl, wpAny_pure h⟩) htake)
    | exact wpAny_bind (m := Builtin.Tuple.tupleExact _) (wpAny_newObj_type (wpAny_bind (wpAny_pure (wpAny_pure ⟨_, rfl, wpAny_pure h⟩))) htake)
    | exact wpAny_bind (wpAny_bind (m := Builtin.Tuple.tupleExact _) (wpAny_newObj_type (wpAny_pure (wpAny_pure ⟨_, rfl, wpAny_pure h⟩)) htake))
    | exact wpAny_bind (wpAny_bind (m := Builtin.Tuple.tupleExact _) (wpAny_newObj_type (wpAny_pure ⟨_, rfl, wpAny_pure h⟩) htake))
end
end HT

namespace L2
open PySem PySem.Spec PyProof.Rows

/-! ### the parts of a slice -/
abbrev TO := St → Hp → (Option Int → Hp → Prop) → Prop
/-- a slice's part (left out, or an int) -/
def PO (X : Cx) (e : Option Expr) (t : TO) : Prop :=
  ∀ (pins : List (Addr × Obj)) (s : Shared) (σ : St) (H : Hp) (Q : Option Int → Hp → Prop), Inv X pins σ H s → t σ H Q →
    wpAny (model X.prog X.w) X.A (evalPart e X.env) (fun u s' => ∃ o H', Inv X pins σ H' s' ∧ IsPart u o ∧ Q o H') X.xe s
def tNoPart : TO := fun _ H Q => Q none H
def tPart (t : TE) : TO := fun σ H Q => t σ H fun x H1 => ∃ i, x = .int i ∧ Q (some i) H1

theorem intsAre_of {ns : List Int} : ∀ {us : List Value}, Vals (ns.map V.int) us → IntsAre us ns := by
  induction ns with
  | nil => intro us r; rw [List.map_nil] at r; cases r; exact .nil
  | cons n ns ih =>
    intro us r
    rw [List.map_cons] at r
    cases r with
    | cons r1 r2 =>
      obtain ⟨t, e⟩ := r1
      subst e
      exact .cons n t (ih r2)

section
variable {X : Cx} {e : Expr} {te : TE} {lo hi : Option Expr} {tl th : TO} {pos p2 : Pos}

theorem po_none : PO X none tNoPart := by
  intro pins s σ H Q I h
  rw [evalPart_none]
  exact wpAny_pure ⟨none, H, I, .none, h⟩
theorem po_some (h : PE X e te) : PO X (some e) (tPart te) := by
  intro pins s σ H Q I hw
  rw [evalPart_some]
  refine thn (h pins s σ H _ I hw) fun u s1 ⟨x, H1, I1, r1, q1⟩ => ?_
  obtain ⟨i, rfl, q⟩ := q1
  obtain ⟨t, rfl⟩ := r1
  exact ⟨some i, H1, I1, .int i t, q⟩

/-- what a slice of a value is, by values: the slice object stands at sl -/
def SlR (X : Cx) (r : V → Option Int → Option Int → Hp → VK → Prop) : Prop :=
  ∀ (pins : List (Addr × Obj)) (s : Shared) (σ : St) (H : Hp) (x : V) (v vl vu : Value) (lo hi : Option Int) (sl : Addr) (Q : VK), Inv X pins σ H s → RelV x v → s.heap.IsSliceOf sl vl vu .none → IsPart vl lo → IsPart vu hi → r x lo hi H Q →
    ∃ T id, typeLookup (.type T) "__getitem__" = pure (some (.builtin id)) ∧ s.TypeIs v T ∧ wpAny (model X.prog X.w) X.A (getItem v (.ref sl)) (EP X pins σ Q) X.xe s
theorem SlR.or {r r' : V → Option Int → Option Int → Hp → VK → Prop} (h : SlR X r) (h' : SlR X r') : SlR X (fun x lo hi H Q => r x lo hi H Q ∨ r' x lo hi H Q) := by
  intro pins s σ H x v vl vu lo hi sl Q I rx hs pl pu q
  rcases q with q | q
  · exact h pins s σ H x v vl vu lo hi sl Q I rx hs pl pu q
  · exact h' pins s σ H x v vl vu lo hi sl Q I rx hs pl pu q
def tSl (r : V → Option Int → Option Int → Hp → VK → Prop) (te : TE) (tl th : TO) : TE := fun σ H Q => te σ H fun x H1 => tl σ H1 fun l H2 => th σ H2 fun u H3 => r x l u H3 Q
/-- a[lo:hi], any a -/
theorem pe_slice {r : V → Option Int → Option Int → Hp → VK → Prop} (hr : SlR X r) (he : PE X e te) (hl : PO X lo tl) (hu : PO X hi th) : PE X (.Subscript e (.Slice lo hi none p2) pos) (tSl r te tl th) := by
  intro pins s σ H Q I h
  refine Subscript_ (thn (he pins s σ H _ I h) fun v s1 ⟨x, H1, I1, r1, q1⟩ => ?_)
  refine wpAny_Slice (thn (hl pins s1 σ H1 _ I1 q1) fun vl s2 ⟨l, H2, I2, pl, q2⟩ => thn (hu pins s2 σ H2 _ I2 q2) fun vu s3 ⟨u, H3, I3, pu, q3⟩ => ?_)
  rw [evalPart_none]
  refine wpAny_pure ?_
  have I4 : Inv X pins σ H3 { s3 with heap := s3.heap.push { cls := .type "slice", data := .fields #[vl, vu, .none] } } := I3.kept (t' := s3.toks) fun b ob q => Heap.get?_push_of_some _ q
  obtain ⟨T, id, hT, ht, hg⟩ := hr pins { s3 with heap := s3.heap.push { cls := .type "slice", data := .fields #[vl, vu, .none] } } σ H3 x v vl vu l u s3.heap.objs.size Q I4 r1 (Heap.IsSliceOf.new ..) pl pu q3
  show wpAny (model X.prog X.w) X.A (subscriptTail e (.Slice lo hi none p2) v (.ref s3.heap.objs.size)) (EP X pins σ Q) X.xe { s3 with heap := s3.heap.push { cls := .type "slice", data := .fields #[vl, vu, .none] } }
  exact tail_any (ops := [.ref s3.heap.objs.size, v]) ht hT hg (by with_unfolding_all rfl)

/-- the items of xs[lo:hi] -/
def cutV (xs : List V) (lo hi : Option Int) : List V := (xs.drop (HT.sIx xs.length 0 lo)).take (HT.sIx xs.length xs.length hi - HT.sIx xs.length 0 lo)
theorem cutV_length (xs : List V) (lo hi : Option Int) : (cutV xs lo hi).length ≤ xs.length := by
  unfold cutV
  rw [List.length_take, List.length_drop]
  omega
/-- t[lo:hi], not the whole of it (the whole would be t itself) -/
def rSlT (K : PySem.W.Frag) : V → Option Int → Option Int → Hp → VK → Prop := fun x lo hi H Q => ∃ a xs, x = .ref a ∧ SqT K H a xs ∧
  ¬ (HT.sIx xs.length 0 lo = 0 ∧ HT.sIx xs.length xs.length hi = xs.length) ∧ ∀ p, H p = none → Q (.ref p) (upd H p (.tup (cutV xs lo hi)))
theorem sl_tup : SlR X (rSlT X.K) := by
  intro pins s σ H x v vl vu lo hi sl Q I rx hs pl pu h
  obtain ⟨a, xs, rfl, hx, hw, q⟩ := h
  cases rx
  obtain ⟨its, r, ht, hz⟩ := I.tuple hx
  have hlen : its.toArray.size = xs.length := by rw [List.size_toArray]; exact r.length.symm
  refine ⟨"tuple", _, PyProof.Rows.slot_tuple_getitem.lookup, ht.typeIs, ?_⟩
  refine HT.getItem_tuple_cut ht hs pl pu (by rw [hlen]; exact hw) ?_ (by rw [hlen]; exact hz)
  rw [hlen]
  refine ⟨.ref s.heap.objs.size, _, I.laid (t' := s.toks) (o := .tup (cutV xs lo hi)) (fun b ob q => Heap.get?_push_of_some _ q) (Nat.le_refl _) ?_, rfl, q _ (I.hok.fresh (Nat.le_refl _))⟩
  exact ⟨Nat.le_trans (cutV_length xs lo hi) hz, _, (r.drop (HT.sIx xs.length 0 lo)).take (HT.sIx xs.length xs.length hi - HT.sIx xs.length 0 lo), IsTup.new _ _⟩

/-! ### t < u, t + u -/
def rLtT (K : PySem.W.Frag) : R2 := fun x y H Q => ∃ a b ns ms, x = .ref a ∧ y = .ref b ∧ SqT K H a (ns.map V.int) ∧ SqT K H b (ms.map V.int) ∧ Q (.bl (HT.lexLt ns ms)) H
theorem op_ltT (hu : X.A.units < cLine) : OpR X (compareOp .Lt) (rLtT X.K) := by
  intro pins s σ H x y v u Q I rx ry h
  obtain ⟨a, b, ns, ms, rfl, rfl, ha, hb, q⟩ := h
  cases rx
  cases ry
  obtain ⟨its, r1, p1, _⟩ := I.tuple ha
  obtain ⟨its2, r2, p2, _⟩ := I.tuple hb
  have i1 : IntsAre its.toArray.toList ns := intsAre_of r1
  have i2 : IntsAre its2.toArray.toList ms := intsAre_of r2
  exact HT.lt_tupInts p1 p2 i1 i2 hu ⟨.bl (HT.lexLt ns ms), H, I, rfl, q⟩
/-- t + u, t not empty: u empty gives t itself -/
def rCatT (K : PySem.W.Frag) : R2 := fun x y H Q => ∃ a b xs ys, x = .ref a ∧ y = .ref b ∧ SqT K H a xs ∧ SqT K H b ys ∧ xs ≠ [] ∧ xs.length + ys.length ≤ sizeLine ∧
  (ys = [] → Q (.ref a) H) ∧ (ys ≠ [] → ∀ p, H p = none → Q (.ref p) (upd H p (.tup (xs ++ ys))))
theorem Vals.nil_iff {xs : List V} {us : List Value} (r : Vals xs us) : us = [] ↔ xs = [] := by
  cases r with
  | nil => simp
  | cons _ _ => simp
theorem op_catT : OpR X (binaryOp .Add) (rCatT X.K) := by
  intro pins s σ H x y v u Q I rx ry h
  obtain ⟨a, b, xs, ys, rfl, rfl, ha, hb, hx, hz, q1, q2⟩ := h
  cases rx
  cases ry
  obtain ⟨its, r1, p1, _⟩ := I.tuple ha
  obtain ⟨its2, r2, p2, _⟩ := I.tuple hb
  refine HT.cat_tup p1 p2 (fun z => hx (r1.nil_iff.mp z)) (fun z => ⟨.ref a, H, I, rfl, q1 (r2.nil_iff.mp z)⟩) (fun z => ?_) (by rw [← r1.length, ← r2.length]; exact hz)
  refine ⟨.ref s.heap.objs.size, _, I.laid (t' := s.toks) (o := .tup (xs ++ ys)) (fun b ob q => Heap.get?_push_of_some _ q) (Nat.le_refl _) ?_, rfl, q2 (fun w => z (r2.nil_iff.mpr w)) _ (I.hok.fresh (Nat.le_refl _))⟩
  exact ⟨by rw [List.length_append]; exact hz, _, r1.append r2, IsTup.new _ _⟩
/-- tuple(t) -/
theorem call_tupleT : CallR X (.type "tuple") (fun xs H Q => ∃ a ys, xs = [.ref a] ∧ SqT X.K H a ys ∧ Q (.ref a) H) := by
  intro pins s σ H xs us Q I r h
  obtain ⟨a, ys, rfl, ha, q⟩ := h
  obtain ⟨u, rfl, ru⟩ := vals1 r
  cases ru
  obtain ⟨its, _, p1, _⟩ := I.tuple ha
  exact call_tuple_same (items := its.toArray) p1 ⟨.ref a, H, I, rfl, q⟩
end
end L2

namespace L2
open PySem PySem.Spec PyProof.Rows

/-! ### places -/
/-- the place that an index of any sign means -/
def ixN (n : Nat) (i : Int) : Option Nat := if 0 ≤ i then (if i < n then some i.toNat else none) else if -(n : Int) ≤ i then some (i + n).toNat else none
def atI {α : Type} (xs : List α) (i : Int) : Option α := (ixN xs.length i).bind fun j => xs[j]?
theorem ixN_seq {n : Nat} {i : Int} {j : Nat} (h : ixN n i = some j) : seqIndex? i n = some j ∧ j < n ∧ -(n : Int) ≤ i ∧ i < n := by
  unfold ixN at h
  by_cases h0 : 0 ≤ i
  · rw [if_pos h0] at h
    by_cases h1 : i < n
    · rw [if_pos h1] at h
      have e : i.toNat = j := Option.some.inj h
      exact ⟨by rw [seqIndex_of h0 h1, e], by omega, by omega, h1⟩
    · rw [if_neg h1] at h; cases h
  · rw [if_neg h0] at h
    by_cases h1 : -(n : Int) ≤ i
    · rw [if_pos h1] at h
      have e : (i + n).toNat = j := Option.some.inj h
      exact ⟨by rw [seqIndex_neg (by omega) h1, e], by omega, h1, by omega⟩
    · rw [if_neg h1] at h; cases h
theorem atI_get {α : Type} {xs : List α} {i : Int} {v : α} (h : atI xs i = some v) : ∃ j, seqIndex? i xs.length = some j ∧ xs[j]? = some v ∧ j < xs.length ∧ -(xs.length : Int) ≤ i ∧ i < xs.length := by
  unfold atI at h
  cases e : ixN xs.length i with
  | none => rw [e] at h; cases h
  | some j =>
    rw [e] at h
    obtain ⟨h1, h2, h3, h4⟩ := ixN_seq e
    exact ⟨j, h1, h, h2, h3, h4⟩
theorem atI_nat {α : Type} {xs : List α} {j : Nat} {v : α} (h : xs[j]? = some v) : atI xs (j : Int) = some v := by
  have hj : j < xs.length := (List.getElem?_eq_some_iff.mp h).1
  have e : ixN xs.length (j : Int) = some j := by
    unfold ixN
    rw [if_pos (by omega), if_pos (by omega)]; simp
  unfold atI; rw [e]; exact h
theorem atI_last {α : Type} (xs : List α) (v : α) : atI (xs ++ [v]) (-1) = some v := by
  have hl : (xs ++ [v]).length = xs.length + 1 := by simp
  have e : ixN (xs ++ [v]).length (-1) = some xs.length := by
    unfold ixN
    rw [hl, if_neg (by decide), if_pos (by omega)]
    congr 1
    omega
  unfold atI
  rw [e]
  show (xs ++ [v])[xs.length]? = some v
  simp

/-! ### what may be subscripted -/
/-- what stands as an index of a plain subscript -/
def PlainIx (b : Expr) : Prop := ∀ o i, subscripted b false o i = operate [o, i] (getItem o i)
/-- a subscript by values -/
def IxR (X : Cx) (r : R2) : Prop :=
  ∀ (value slice : Expr) (pins : List (Addr × Obj)) (s : Shared) (σ : St) (H : Hp) (x y : V) (v u : Value) (Q : VK), Inv X pins σ H s → RelV x v → RelV y u → r x y H Q →
    subscripted slice false v u = operate [v, u] (getItem v u) → wpAny (model X.prog X.w) X.A (subscriptTail value slice v u) (EP X pins σ Q) X.xe s
/-- a call of a builtin's method by values: the receiver, the arguments -/
def MtR (X : Cx) (id : String) (r : V → List V → Hp → VK → Prop) : Prop :=
  ∀ (pins : List (Addr × Obj)) (s : Shared) (σ : St) (H : Hp) (x : V) (xs : List V) (v : Value) (us : List Value) (Q : VK), Inv X pins σ H s → RelV x v → Vals xs us → r x xs H Q →
    wpAny (model X.prog X.w) X.A (call (.builtin id) (v :: us)) (EP X pins σ Q) X.xe s
section
variable {X : Cx} {a b : Expr} {ta tb : TE} {pos : Pos}
theorem IxR.or {r r' : R2} (h : IxR X r) (h' : IxR X r') : IxR X (fun x y H Q => r x y H Q ∨ r' x y H Q) := by
  intro value slice pins s σ H x y v u Q I rx ry q hs
  rcases q with q | q
  · exact h value slice pins s σ H x y v u Q I rx ry q hs
  · exact h' value slice pins s σ H x y v u Q I rx ry q hs
theorem MtR.or {id : String} {r r' : V → List V → Hp → VK → Prop} (h : MtR X id r) (h' : MtR X id r') : MtR X id (fun x xs H Q => r x xs H Q ∨ r' x xs H Q) := by
  intro pins s σ H x xs v us Q I rx rs q
  rcases q with q | q
  · exact h pins s σ H x xs v us Q I rx rs q
  · exact h' pins s σ H x xs v us Q I rx rs q
/-- a[b] -/
theorem pe_ix {r : R2} (hr : IxR X r) (ha : PE X a ta) (hb : PE X b tb) (hs : PlainIx b) : PE X (.Subscript a b pos) (tOp r ta tb) := by
  intro pins s σ H Q I h
  exact Subscript_ (binT ha hb I h fun v u s2 x y H2 I2 rx ry q => hr a b pins s2 σ H2 x y v u Q I2 rx ry q (hs _ _))

def rIxL (K : PySem.W.Frag) : R2 := fun x y H Q => ∃ p xs i v, x = .ref p ∧ y = .int i ∧ SqL K H p xs ∧ atI xs i = some v ∧ Q v H
def rIxT (K : PySem.W.Frag) : R2 := fun x y H Q => ∃ p xs i v, x = .ref p ∧ y = .int i ∧ SqT K H p xs ∧ atI xs i = some v ∧ Q v H
def rIxS : R2 := fun x y H Q => ∃ z i c, x = .str z ∧ y = .int i ∧ z.length ≤ sizeLine ∧ atI z.cps.toList i = some c ∧ Q (.str ⟨#[c]⟩) H
theorem ix_list : IxR X (rIxL X.K) := by
  intro value slice pins s σ H x y v u Q I rx ry h hs
  obtain ⟨p, xs, i, z, rfl, rfl, hq, he, q⟩ := h
  cases rx
  obtain ⟨t, rfl⟩ := ry
  obtain ⟨its, r, pl, hz⟩ := I.list hq
  obtain ⟨j, h1, h2, h3, h4, h5⟩ := atI_get he
  obtain ⟨w, ew, rw'⟩ := r.get h2
  have hl := r.length
  have hn := line63
  have fin : EP X pins σ Q w s := ⟨z, H, I, rw', q⟩
  by_cases h0 : 0 ≤ i
  · have hj : i.toNat = j := by
      rw [seqIndex_of h0 h5] at h1
      exact Option.some.inj h1
    exact item_listR pl.isList h0 (by omega) (by rw [hj]; simpa using ew) fin hs
  · have hj : (i + (its.toArray.size : Int)).toNat = j := by
      rw [seqIndex_neg (by omega) h4] at h1
      rw [List.size_toArray, ← hl]
      exact Option.some.inj h1
    exact subscriptTail_builtinR (x := w) pl.isList.typeIs slot_list_getitem.lookup
      (wpAny_getItem_list_neg (Q := fun r s' => r = w ∧ EP X pins σ Q r s') pl.isList (by omega) (by rw [List.size_toArray] <;> omega) (by omega) (by rw [hj]; simpa using ew) ⟨rfl, fin⟩) hs
theorem ix_tup : IxR X (rIxT X.K) := by
  intro value slice pins s σ H x y v u Q I rx ry h hs
  obtain ⟨p, xs, i, z, rfl, rfl, hq, he, q⟩ := h
  cases rx
  obtain ⟨t, rfl⟩ := ry
  obtain ⟨its, r, pl, hz⟩ := I.tuple hq
  obtain ⟨j, h1, h2, h3, h4, h5⟩ := atI_get he
  obtain ⟨w, ew, rw'⟩ := r.get h2
  have hl := r.length
  have hn := line63
  have fin : EP X pins σ Q w s := ⟨z, H, I, rw', q⟩
  exact subscriptTail_builtinR (x := w) pl.typeIs slot_tuple_getitem.lookup
    (getItem_tuple (j := j) (Q := fun r s' => r = w ∧ EP X pins σ Q r s') pl (by omega) (by omega) (by rw [List.size_toArray, ← hl]; exact h1) (by simpa using ew) ⟨rfl, fin⟩) hs
theorem ix_str : IxR X rIxS := by
  intro value slice pins s σ H x y v u Q I rx ry h hs
  obtain ⟨z, i, c, rfl, rfl, hz, he, q⟩ := h
  obtain ⟨t, rfl⟩ := rx
  obtain ⟨t', rfl⟩ := ry
  obtain ⟨j, h1, h2, h3, h4, h5⟩ := atI_get he
  have hl : z.cps.toList.length = z.length := by simp [Str.length]
  rw [hl] at h1 h4 h5
  have hn := line63
  exact tail_any (typeIs_str s z t) slot_str_getitem.lookup (getItem_str (c := c) (by
    have e1 : decide (i < -(2 ^ 63 : Int)) = false := decide_eq_false (by omega)
    have e2 : decide (i ≥ 2 ^ 63) = false := decide_eq_false (by omega)
    rw [e1, e2, Bool.or_false]) (by rw [h1]; simpa using h2) ⟨.str ⟨#[c]⟩, H, I.tok _, ⟨_, rfl⟩, q⟩) hs
/-- list, tuple or str -/
def rIx (K : PySem.W.Frag) : R2 := fun x y H Q => rIxL K x y H Q ∨ rIxT K x y H Q ∨ rIxS x y H Q
theorem ix_seq : IxR X (rIx X.K) := ix_list.or (ix_tup.or ix_str)

/-! ### xs[i] = v, any sign -/
/-- the list's object behind a store -/
theorem mapSeq_set (its : List Value) (n j : Nat) (u : Value) : Obj.mapSeq (·.setIfInBounds j u) { cls := .type "list", data := .seq its.toArray n } = { cls := .type "list", data := .seq (its.set j u).toArray n } := by
  simp [Obj.mapSeq]
theorem Inv.lst {pins : List (Addr × Obj)} {σ : St} {H : Hp} {s : Shared} {p : Addr} {xs : List V} (I : Inv X pins σ H s) (h : H p = some (.lst xs)) :
    ∃ (its : List Value) (n : Nat), Vals xs its ∧ s.heap.get? p = some { cls := .type "list", data := .seq its.toArray n } ∧ xs.length ≤ sizeLine := by
  obtain ⟨z, its, n, r, e⟩ := I.hok p _ h
  exact ⟨its, n, r, e, z⟩
/-- the list at p is written by an update of its object -/
theorem Inv.lstUpd {pins : List (Addr × Obj)} {σ : St} {H : Hp} {s : Shared} {p : Addr} {xs ys : List V} {its its' : List Value} {n n' : Nat} {f : Obj → Obj} (I : Inv X pins σ H s) (h : H p = some (.lst xs))
    (ho : s.heap.get? p = some { cls := .type "list", data := .seq its.toArray n }) (hf : f { cls := .type "list", data := .seq its.toArray n } = { cls := .type "list", data := .seq its'.toArray n' }) (r : Vals ys its') (hz : ys.length ≤ sizeLine) (t : Nat) :
    Inv X pins σ (upd H p (.lst ys)) { s with heap := s.heap.update p f, toks := t } := by
  have e : (s.heap.update p f).get? p = some { cls := .type "list", data := .seq its'.toArray n' } := by
    rw [Heap.get?_update_self f ho (by rw [hf] <;> rfl), hf]
  refine I.write (x := p) (e := p) (by rw [h]; trivial) (.inl rfl) (fun b u hb q => (Heap.get?_update_other _ _ (Ne.symm hb)).trans q) ⟨_, e⟩ ?_
  exact ⟨hz, its', n', r, e⟩
def rSetL : V → V → V → Hp → (Hp → Prop) → Prop := fun o i v H Q => ∃ p xs k j, o = .ref p ∧ i = .int k ∧ H p = some (.lst xs) ∧ ixN xs.length k = some j ∧ Q (upd H p (.lst (xs.set j v)))
theorem set_list : PSet X rSetL := by
  intro pins s σ H o i v ov iv u Q I ro ri rv h
  obtain ⟨p, xs, k, j, rfl, rfl, hp, hj, q⟩ := h
  cases ro
  obtain ⟨t, rfl⟩ := ri
  obtain ⟨its, n, r, ho, hz⟩ := I.lst hp
  obtain ⟨h1, h2, h3, h4⟩ := ixN_seq hj
  have hl := r.length
  have hn := line63
  have I' : Inv X pins σ (upd H p (.lst (xs.set j v))) { s with heap := s.heap.update p (Obj.mapSeq (·.setIfInBounds j u)) } :=
    I.lstUpd hp ho (mapSeq_set its n j u) (r.set rv j) (by rw [List.length_set]; exact hz) s.toks
  by_cases h0 : 0 ≤ k
  · have hk : k.toNat = j := by
      rw [seqIndex_of h0 h4] at h1
      exact Option.some.inj h1
    exact PySem.W.ki_setAt ho h0 (by omega) (by rw [List.size_toArray, ← hl]; exact h4) (by rw [hk]; exact ⟨_, I', q⟩)
  · have hk : (k + (its.toArray.size : Int)).toNat = j := by
      rw [seqIndex_neg (by omega) h3] at h1
      rw [List.size_toArray, ← hl]
      exact Option.some.inj h1
    exact PySem.W.ki_setBack ho (by omega) (by rw [List.size_toArray, ← hl]; exact h3) (by omega) (by rw [hk]; exact ⟨_, I', q⟩)

/-! ### slices -/
theorem slice_bounds (lo hi : Option Int) (n : Nat) : (sliceBounds lo hi none n).1 = ((HT.sIx n 0 lo : Nat) : Int) ∧ (sliceBounds lo hi none n).2.1 = ((HT.sIx n n hi : Nat) : Int) ∧ (sliceBounds lo hi none n).2.2 = 1 := by
  refine ⟨?_, ?_, rfl⟩
  · cases lo with
    | none => simp [sliceBounds, HT.sIx]
    | some i =>
      simp only [sliceBounds, HT.sIx, Option.getD_none, show (1 : Int) > 0 by decide, if_true]
      by_cases h : i < 0
      · simp only [h, if_true] <;> omega
      · simp only [h, if_false] <;> omega
  · cases hi with
    | none => simp [sliceBounds, HT.sIx]
    | some i =>
      simp only [sliceBounds, HT.sIx, Option.getD_none, show (1 : Int) > 0 by decide, if_true]
      by_cases h : i < 0
      · simp only [h, if_true] <;> omega
      · simp only [h, if_false] <;> omega
theorem slicePick_cut (its : List Value) (lo hi : Option Int) : slicePick its.toArray lo hi none = ((its.drop (HT.sIx its.length 0 lo)).take (HT.sIx its.length its.length hi - HT.sIx its.length 0 lo)).toArray := by
  obtain ⟨h1, h2, h3⟩ := slice_bounds lo hi its.toArray.size
  unfold slicePick
  rw [h1, h2, h3]
  simp only [sliceRange_one, pick_run, List.size_toArray] <;> rfl
/-- xs[lo:hi] of a list: a new list -/
def rSlL (K : PySem.W.Frag) : V → Option Int → Option Int → Hp → VK → Prop := fun x lo hi H Q => ∃ a xs, x = .ref a ∧ SqL K H a xs ∧ ∀ p, H p = none → Q (.ref p) (upd H p (.lst (cutV xs lo hi)))
theorem sl_list : SlR X (rSlL X.K) := by
  intro pins s σ H x v vl vu lo hi sl Q I rx hs pl pu h
  obtain ⟨a, xs, rfl, hx, q⟩ := h
  cases rx
  obtain ⟨its, r, ht, hz⟩ := I.list hx
  have hlen := r.length
  refine ⟨"list", _, slot_list_getitem.lookup, ht.isList.typeIs, ?_⟩
  refine wpAny_getItem_list_slice ht.isList hs pl pu .none (by simp) ?_ (by rw [List.size_toArray] <;> omega)
  rw [slicePick_cut, ← hlen]
  refine ⟨.ref s.heap.objs.size, _, I.laid (t' := s.toks) (o := .lst (cutV xs lo hi)) (fun b ob q => Heap.get?_push_of_some _ q) (Nat.le_refl _) ?_, rfl, q _ (I.hok.fresh (Nat.le_refl _))⟩
  exact ⟨Nat.le_trans (cutV_length xs lo hi) hz, _, 0, (r.drop (HT.sIx xs.length 0 lo)).take (HT.sIx xs.length xs.length hi - HT.sIx xs.length 0 lo), Heap.get?_push_size _ rfl⟩

/-! ### in, not in: flat items -/
def flatV : V → Bool
  | .non => true
  | .bl _ => true
  | .int _ => true
  | .str _ => true
  | _ => false
/-- == of flat values -/
def eqV : V → V → Bool
  | .non, .non => true
  | .bl a, .bl b => a == b
  | .bl a, .int b => (if a then 1 else 0) == b
  | .int a, .bl b => a == (if b then 1 else 0)
  | .int a, .int b => a == b
  | .str a, .str b => a == b
  | _, _ => false
theorem eqAt_V {A : Around} {s : Shared} {y x : V} {u v : Value} (ry : RelV y u) (rx : RelV x v) (fy : flatV y = true) (fx : flatV x = true) : SeqAt.EqAt A s u v (eqV y x) := by
  cases y with
  | non =>
    cases ry
    cases x with
    | non => cases rx; exact SeqAt.EqAt.same _
    | bl b => cases rx; exact SeqAt.EqAt.none_bool b
    | int b => obtain ⟨t, rfl⟩ := rx; exact SeqAt.EqAt.none_int b t
    | str b => obtain ⟨t, rfl⟩ := rx; exact SeqAt.EqAt.none_str b t
    | _ => exact absurd (show false = true from fx) Bool.false_ne_true
  | bl a =>
    cases ry
    cases x with
    | non => cases rx; exact SeqAt.EqAt.bool_none a
    | bl b => cases rx; exact SeqAt.EqAt.bool_bool a b
    | int b => obtain ⟨t, rfl⟩ := rx; exact SeqAt.EqAt.bool_int a b t
    | str b => obtain ⟨t, rfl⟩ := rx; exact SeqAt.EqAt.bool_str a b t
    | _ => exact absurd (show false = true from fx) Bool.false_ne_true
  | int a =>
    obtain ⟨t', rfl⟩ := ry
    cases x with
    | non => cases rx; exact SeqAt.EqAt.int_none a t'
    | bl b => cases rx; exact SeqAt.EqAt.int_bool a t' b
    | int b => obtain ⟨t, rfl⟩ := rx; exact SeqAt.EqAt.int_int a t' b t
    | str b => obtain ⟨t, rfl⟩ := rx; exact SeqAt.EqAt.int_str a t' b t
    | _ => exact absurd (show false = true from fx) Bool.false_ne_true
  | str a =>
    obtain ⟨t', rfl⟩ := ry
    cases x with
    | non => cases rx; exact SeqAt.EqAt.str_none a t'
    | bl b => cases rx; exact SeqAt.EqAt.str_bool a t' b
    | int b => obtain ⟨t, rfl⟩ := rx; exact SeqAt.EqAt.str_int a t' b t
    | str b => obtain ⟨t, rfl⟩ := rx; exact SeqAt.EqAt.str_str a t' b t
    | _ => exact absurd (show false = true from fx) Bool.false_ne_true
  | _ => exact absurd (show false = true from fy) Bool.false_ne_true
/-- the items' answers, read off the values (a value's own answer does not lean on its token) -/
def eqU (x : V) (u : Value) : Bool := match u with
  | .none => eqV .non x
  | .bool b => eqV (.bl b) x
  | .int i _ => eqV (.int i) x
  | .str z _ => eqV (.str z) x
  | _ => false
theorem eqU_of {x y : V} {u : Value} (r : RelV y u) (f : flatV y = true) : eqU x u = eqV y x := by
  cases y with
  | non => cases r; rfl
  | bl b => cases r; rfl
  | int i => obtain ⟨t, rfl⟩ := r; rfl
  | str z => obtain ⟨t, rfl⟩ := r; rfl
  | _ => exact absurd (show false = true from f) Bool.false_ne_true
theorem any_eqU {x : V} : ∀ {xs : List V} {us : List Value}, Vals xs us → xs.all flatV = true → us.any (eqU x) = xs.any fun y => eqV y x
  | _, _, .nil, _ => rfl
  | y :: xs, u :: us, .cons r t, f => by
    rw [List.all_cons, Bool.and_eq_true] at f
    rw [List.any_cons, List.any_cons, eqU_of r f.1, any_eqU t f.2]
theorem mem_eqAt {A : Around} {s : Shared} {x : V} {v : Value} (rx : RelV x v) (fx : flatV x = true) : ∀ {xs : List V} {us : List Value}, Vals xs us → xs.all flatV = true → ∀ u ∈ us, SeqAt.EqAt A s u v (eqU x u)
  | _, _, .nil, _ => fun u hu => by cases hu
  | y :: xs, u :: us, .cons r t, f => fun u' hu => by
    rw [List.all_cons, Bool.and_eq_true] at f
    rcases List.mem_cons.mp hu with rfl | hu
    · rw [eqU_of r f.1]; exact eqAt_V r rx f.1 fx
    · exact mem_eqAt rx fx t f.2 u' hu
def inV (x : V) (xs : List V) : Bool := xs.any fun y => eqV y x
/-- x in a list or tuple of flat items -/
def rIn (K : PySem.W.Frag) (neg : Bool) : R2 := fun x y H Q => ∃ p xs, y = .ref p ∧ (SqL K H p xs ∨ SqT K H p xs) ∧ flatV x = true ∧ xs.all flatV = true ∧ Q (.bl (if neg then !inV x xs else inV x xs)) H
theorem op_in_seq : OpR X (compareOp .In) (rIn X.K false) := by
  intro pins s σ H x y v u Q I rx ry h
  obtain ⟨p, xs, rfl, hq, fx, fs, q⟩ := h
  cases ry
  rcases hq with hq | hq
  · obtain ⟨its, r, pl, hz⟩ := I.list hq
    refine SeqAt.in_listAt (eqU x) pl.isList (fun w hw => mem_eqAt rx fx r fs w (by simpa using hw)) ⟨.bl _, H, I, rfl, ?_⟩
    rw [show its.toArray.any (eqU x) = its.any (eqU x) by simp, any_eqU r fs]
    exact q
  · obtain ⟨its, r, pl, hz⟩ := I.tuple hq
    refine SeqAt.in_tupleAt (eqU x) pl (fun w hw => mem_eqAt rx fx r fs w (by simpa using hw)) ⟨.bl _, H, I, rfl, ?_⟩
    rw [show its.toArray.any (eqU x) = its.any (eqU x) by simp, any_eqU r fs]
    exact q
theorem op_notIn_seq : OpR X (compareOp .NotIn) (rIn X.K true) := by
  intro pins s σ H x y v u Q I rx ry h
  obtain ⟨p, xs, rfl, hq, fx, fs, q⟩ := h
  cases ry
  rcases hq with hq | hq
  · obtain ⟨its, r, pl, hz⟩ := I.list hq
    refine SeqAt.notIn_listAt (eqU x) pl.isList (fun w hw => mem_eqAt rx fx r fs w (by simpa using hw)) ⟨.bl _, H, I, rfl, ?_⟩
    rw [show its.toArray.any (eqU x) = its.any (eqU x) by simp, any_eqU r fs]
    exact q
  · obtain ⟨its, r, pl, hz⟩ := I.tuple hq
    refine SeqAt.notIn_tupleAt (eqU x) pl (fun w hw => mem_eqAt rx fx r fs w (by simpa using hw)) ⟨.bl _, H, I, rfl, ?_⟩
    rw [show its.toArray.any (eqU x) = its.any (eqU x) by simp, any_eqU r fs]
    exact q
theorem op_notIn_str : OpR X (compareOp .NotIn) (fun x y H Q => ∃ i j, x = .str i ∧ y = .str j ∧ Q (.bl (!(!(Builtin.Str.occurrences j i 0 j.length 1).isEmpty))) H) := by
  intro pins s σ H x y v u Q I rx ry h
  obtain ⟨i, j, rfl, rfl, q⟩ := h
  obtain ⟨t, rfl⟩ := rx
  obtain ⟨t', rfl⟩ := ry
  exact notIn_str ⟨.bl _, H, I, rfl, q⟩

/-! ### len, list(x), tuple(x) of any list or tuple that is read -/
theorem call_len_seq : CallR X (.builtin "len") (fun xs H Q => ∃ p ys, xs = [.ref p] ∧ (SqL X.K H p ys ∨ SqT X.K H p ys) ∧ Q (.int ys.length) H) := by
  intro pins s σ H xs us Q I r h
  obtain ⟨p, ys, rfl, hq, q⟩ := h
  obtain ⟨u, rfl, rx⟩ := vals1 r
  cases rx
  have hn := line63
  rcases hq with hq | hq
  · obtain ⟨its, r', pl, hz⟩ := I.list hq
    have hlen := r'.length
    exact Calls.call_len_list pl.isList (by simp only [List.size_toArray] <;> omega) ⟨.int ys.length, H, I.tok _, ⟨s.toks + 1, by rw [List.size_toArray, hlen]⟩, q⟩
  · obtain ⟨its, r', pl, hz⟩ := I.tuple hq
    have hlen := r'.length
    exact len_tuple pl (by simp only [List.size_toArray] <;> omega) ⟨.int ys.length, H, I.tok _, ⟨s.toks + 1, by rw [List.size_toArray, hlen]⟩, q⟩
theorem call_len_str : CallR X (.builtin "len") (fun xs H Q => ∃ z, xs = [.str z] ∧ z.length ≤ sizeLine ∧ Q (.int z.length) H) := by
  intro pins s σ H xs us Q I r h
  obtain ⟨z, rfl, hz, q⟩ := h
  obtain ⟨u, rfl, t, rfl⟩ := vals1 r
  have hn := line63
  exact len_str (by omega) ⟨.int z.length, H, I.tok _, ⟨_, rfl⟩, q⟩
theorem CallR.or {f : Value} {r r' : List V → Hp → VK → Prop} (h : CallR X f r) (h' : CallR X f r') : CallR X f (fun xs H Q => r xs H Q ∨ r' xs H Q) := by
  intro pins s σ H xs us Q I rs q
  rcases q with q | q
  · exact h pins s σ H xs us Q I rs q
  · exact h' pins s σ H xs us Q I rs q
theorem call_list_of : CallR X (.type "list") (fun xs H Q => ∃ p ys, xs = [.ref p] ∧ (SqL X.K H p ys ∨ SqT X.K H p ys) ∧ ∀ l, H l = none → Q (.ref l) (upd H l (.lst ys))) := by
  intro pins s σ H xs us Q I r h
  obtain ⟨p, ys, rfl, hq, q⟩ := h
  obtain ⟨u, rfl, rx⟩ := vals1 r
  cases rx
  have fin : ∀ (its : List Value), Vals ys its → ys.length ≤ sizeLine → ∀ (h' : Heap) (c' : Nat), (∀ b o', s.heap.get? b = some o' → h'.get? b = some o') →
      h'.get? s.heap.objs.size = some { cls := .type "list", dict := none, data := .seq its.toArray c', slots := #[] } → EP X pins σ Q (.ref s.heap.objs.size) { s with heap := h' } := fun its r' hz h' c' kp e =>
    ⟨.ref s.heap.objs.size, _, I.laid (t' := s.toks) kp (Nat.le_refl _) (show ObjOk X.prog X.w _ h' _ (.lst ys) from ⟨hz, its, c', r', e⟩), rfl, q _ (I.hok.fresh (Nat.le_refl _))⟩
  rcases hq with hq | hq
  · obtain ⟨its, r', pl, hz⟩ := I.list hq
    have hlen := r'.length
    obtain ⟨o, ho, hc, n, hd⟩ := pl.isList
    exact call_list_seq p (.inl rfl) ho hc hd (fun h' c' kp e => fin its r' hz h' c' kp e) (by simp only [List.size_toArray] <;> omega)
  · obtain ⟨its, r', pl, hz⟩ := I.tuple hq
    have hlen := r'.length
    obtain ⟨o, ho, hc, n, hd⟩ := pl
    exact call_list_seq p (.inr rfl) ho hc hd (fun h' c' kp e => fin its r' hz h' c' kp e) (by simp only [List.size_toArray] <;> omega)
theorem call_tuple_of : CallR X (.type "tuple") (fun xs H Q => ∃ p ys, xs = [.ref p] ∧ ((SqL X.K H p ys ∧ ∀ l, H l = none → Q (.ref l) (upd H l (.tup ys))) ∨ (SqT X.K H p ys ∧ Q (.ref p) H))) := by
  intro pins s σ H xs us Q I r h
  obtain ⟨p, ys, rfl, h⟩ := h
  obtain ⟨u, rfl, rx⟩ := vals1 r
  cases rx
  rcases h with ⟨hq, q⟩ | ⟨hq, q⟩
  · obtain ⟨its, r', pl, hz⟩ := I.list hq
    have hlen := r'.length
    refine call_tuple_list pl.isList (fun h' kp => ?_) (by simp only [List.size_toArray] <;> omega)
    have I1 : Inv X pins σ H { s with heap := h' } := I.kept (t' := s.toks) kp
    have I2 : Inv X pins σ (upd H h'.objs.size (.tup ys)) { s with heap := h'.push { cls := .type "tuple", data := .seq its.toArray } } :=
      I1.laid (t' := s.toks) (fun b o e => Heap.get?_push_of_some _ e) (Nat.le_refl _) (show ObjOk X.prog X.w _ _ _ (.tup ys) from ⟨hz, its, r', IsTup.new _ _⟩)
    exact ⟨.ref h'.objs.size, _, I2, rfl, q _ (I1.hok.fresh (Nat.le_refl _))⟩
  · obtain ⟨its, r', pl, hz⟩ := I.tuple hq
    exact call_tuple_same pl ⟨.ref p, H, I, rfl, q⟩

/-! ### the call of a builtin's method: o.m(..) -/
/-- the value is of that builtin type -/
def tyV (K : PySem.W.Frag) (T : String) (x : V) (H : Hp) : Prop := match x with
  | .str _ => T = "str"
  | .int _ => T = "int"
  | .ref p => (T = "list" ∧ ∃ xs, SqL K H p xs) ∨ (T = "tuple" ∧ ∃ o, K.lookup p = some o ∧ o.cls = .type "tuple" ∧ o.dict = none) ∨
      (T = "dict" ∧ ((∃ kvs, H p = some (.dK kvs)) ∨ ∃ kvs, H p = some (.dT kvs))) ∨ (T = "set" ∧ ∃ S n, H p = some (.set S n))
  | _ => False
theorem tyV_is {pins : List (Addr × Obj)} {σ : St} {H : Hp} {s : Shared} {T : String} {x : V} {v : Value} (I : Inv X pins σ H s) (r : RelV x v) (ty : tyV X.K T x H) :
    s.TypeIs v T ∧ ∀ a, v = .ref a → ∃ ob, s.heap.get? a = some ob ∧ ob.dict = none := by
  cases x with
  | str z =>
    obtain ⟨t, rfl⟩ := r
    cases (show T = "str" from ty)
    exact ⟨typeIs_str s z t, fun _ e => nomatch e⟩
  | int i =>
    obtain ⟨t, rfl⟩ := r
    cases (show T = "int" from ty)
    exact ⟨typeIs_int s i t, fun _ e => nomatch e⟩
  | ref p =>
    cases r
    rcases ty with ⟨rfl, xs, hq⟩ | ⟨rfl, o, hk, hc, hd⟩ | ⟨rfl, hk⟩ | ⟨rfl, S, n, hk⟩
    · obtain ⟨its, _, pl, _⟩ := I.list hq
      refine ⟨pl.isList.typeIs, fun a e => ?_⟩
      cases e
      obtain ⟨o, n, e, c, hd, _⟩ := pl
      exact ⟨o, e, hd⟩
    · refine ⟨⟨o, I.kIn p o hk, hc⟩, fun a e => ?_⟩
      cases e
      exact ⟨o, I.kIn _ o hk, hd⟩
    · have z : ∃ o, s.heap.get? p = some o ∧ o.ExactDict := by
        rcases hk with ⟨kvs, hk⟩ | ⟨kvs, hk⟩
        · obtain ⟨_, _, _, _, o, _, _, e, ex, _⟩ := I.hok p _ hk
          exact ⟨o, e, ex⟩
        · obtain ⟨_, _, _, _, o, _, _, e, ex, _⟩ := I.hok p _ hk
          exact ⟨o, e, ex⟩
      obtain ⟨o, e, ex⟩ := z
      refine ⟨⟨o, e, ex.1⟩, fun a e2 => ?_⟩
      cases e2
      exact ⟨o, e, ex.2.1⟩
    · obtain ⟨o, _, _, _, e, ex, _⟩ := I.hok p _ hk
      refine ⟨⟨o, e, ex.1⟩, fun a e2 => ?_⟩
      cases e2
      exact ⟨o, e, ex.2.1⟩
  | _ => exact False.elim ty
def tBM0 (K : PySem.W.Frag) (T : String) (r : V → List V → Hp → VK → Prop) (to : TE) : TE := fun σ H Q => to σ H fun x H1 => tyV K T x H1 ∧ r x [] H1 Q
def tBM (K : PySem.W.Frag) (T : String) (r : V → List V → Hp → VK → Prop) (to : TE) (t : TA) : TE := fun σ H Q => to σ H fun x H1 => tyV K T x H1 ∧ t σ H1 fun xs H2 => r x xs H2 Q
variable {o e : Expr} {es : List Expr} {to : TE} {t : TA} {name : Str} {apos cpos : Pos} {T id : String} {r : V → List V → Hp → VK → Prop}
theorem pe_bm0 (pa : PlainAttrs T) (slot : Slot T name id) (hty : typeOf (.builtin id) = pure (.type "method_descriptor")) (hm : MtR X id r) (ho : PE X o to)
    (hbase : attributeBase o name X.env (eval o X.env) = eval o X.env := by rfl) (hline : (apos.endLine == cpos.line) = true := by rfl) : PE X (.Call (.Attribute o name apos) [] [] cpos) (tBM0 X.K T r to) := by
  intro pins s σ H Q I h
  refine wpAny_Call_method0_late hbase hline (thn (ho pins s σ H _ I h) fun v s1 ⟨x, H1, I1, r1, ty, q1⟩ => ?_)
  obtain ⟨h1, h2⟩ := tyV_is I1 r1 ty
  exact ⟨T, id, pa, slot, hty, h1, h2, Calls.callWith_builtin rfl (PySem.evalArgs_none (hm pins s1 σ H1 x [] v [] Q I1 r1 .nil q1))⟩
theorem pe_bm (pa : PlainAttrs T) (slot : Slot T name id) (hty : typeOf (.builtin id) = pure (.type "method_descriptor")) (hm : MtR X id r) (ho : PE X o to) (ha : PA X (e :: es) t)
    (hbase : attributeBase o name X.env (eval o X.env) = eval o X.env := by rfl)
    (hfew : ((backTo cpos (starEach (e :: es) X.env)).all (fun x => !x.1) && (backToKw cpos (keywordEach [] X.env)).all (fun x => x.1.isSome)
      && decide ((e :: es).length + ([] : List Keyword).length + (if ([] : List Keyword).isEmpty then 0 else 1) < 30)) = true := by rfl)
    (hline : (apos.endLine == cpos.line) = true := by rfl) (hs : starEach (e :: es) X.env = (false, eval e X.env) :: starEach es X.env := by exact star_plain rfl) (hplain : (backTo cpos (starEach es X.env)).any (·.1) = false := by exact any_plain rfl) :
    PE X (.Call (.Attribute o name apos) (e :: es) [] cpos) (tBM X.K T r to t) := by
  intro pins s σ H Q I h
  refine wpAny_Call_method_late hbase hfew hline rfl (thn (ho pins s σ H _ I h) fun v s1 ⟨x, H1, I1, r1, ty, q1⟩ => ?_)
  obtain ⟨h1, h2⟩ := tyV_is I1 r1 ty
  refine ⟨T, id, pa, slot, hty, h1, h2, ?_⟩
  have hA := ha cpos pins s1 σ H1 _ I1 q1
  rw [hs] at hA ⊢
  refine Calls.callWith_builtin (by show (false || (backTo cpos (starEach es X.env)).any (·.1)) = false; rw [hplain] <;> rfl) (Calls.evalArgs_plain ?_)
  exact thn hA fun us s2 ⟨vs, H2, I2, r2, q2⟩ => hm pins s2 σ H2 x vs v us Q I2 r1 r2 q2
/- xs.append(e), list.index on a module's tuple .. are MtR facts of 06m -/
end
end L2

namespace L2
open PySem PySem.Spec PyProof.Rows

def MtM (X : Cx) (id : String) (r : V → List V → Hp → VK → Prop) : Prop :=
  ∀ (pins : List (Addr × Obj)) (s : Shared) (σ : St) (H : Hp) (x : V) (xs : List V) (v : Value) (us : List Value) (Q : VK), Inv X pins σ H s → RelV x v → Vals xs us → r x xs H Q →
    wpAny (model X.prog X.w) X.A (call (.builtin id) (v :: us)) (EP X pins σ Q) X.xe s

/-! ### lists of values -/
theorem Vals.one : ∀ {x : V} {us : List Value}, Vals [x] us → ∃ u, us = [u] ∧ RelV x u
  | _, _, .cons r .nil => ⟨_, rfl, r⟩
theorem Vals.two : ∀ {x y : V} {us : List Value}, Vals [x, y] us → ∃ u v, us = [u, v] ∧ RelV x u ∧ RelV y v
  | _, _, _, .cons r (.cons q .nil) => ⟨_, _, rfl, r, q⟩
theorem Vals.zero : ∀ {us : List Value}, Vals [] us → us = []
  | _, .nil => rfl
theorem Vals.dropLast {xs : List V} {us : List Value} (h : Vals xs us) : Vals xs.dropLast us.dropLast := by
  induction h with
  | nil => exact .nil
  | cons r t ih =>
    cases t with
    | nil => exact .nil
    | cons q t' => exact .cons r ih
theorem Vals.eraseIdx : ∀ {xs : List V} {us : List Value} (i : Nat), Vals xs us → Vals (xs.eraseIdx i) (us.eraseIdx i)
  | _, _, _, .nil => .nil
  | _, _, 0, .cons _ t => t
  | _, _, i + 1, .cons r t => .cons r (Vals.eraseIdx i t)
theorem Vals.reverse {xs : List V} {us : List Value} (h : Vals xs us) : Vals xs.reverse us.reverse := by
  induction h with
  | nil => exact .nil
  | cons r t ih => rw [List.reverse_cons, List.reverse_cons]; exact Vals.append ih (.cons r .nil)
theorem Vals.rep {xs : List V} {us : List Value} (h : Vals xs us) : ∀ k : Nat, Vals (List.replicate k xs).flatten (List.replicate k us).flatten
  | 0 => .nil
  | k + 1 => by
    rw [List.replicate_succ, List.replicate_succ, List.flatten_cons, List.flatten_cons]
    exact Vals.append h (Vals.rep h k)
theorem erase_last {α : Type} (l : List α) : l.eraseIdx (l.length - 1) = l.dropLast := by
  induction l with
  | nil => rfl
  | cons a r ih =>
    cases r with
    | nil => rfl
    | cons b r =>
      have e : (a :: b :: r).length - 1 = ((b :: r).length - 1) + 1 := by
        have h1 : (a :: b :: r).length = r.length + 2 := rfl
        have h2 : (b :: r).length = r.length + 1 := rfl
        omega
      rw [e, List.eraseIdx_cons_succ, ih]
      all_goals rfl
theorem len_erase {α : Type} : ∀ (l : List α) (i : Nat), (l.eraseIdx i).length ≤ l.length
  | [], _ => Nat.le_refl _
  | _ :: _, 0 => Nat.le_succ _
  | _ :: r, i + 1 => Nat.succ_le_succ (len_erase r i)
theorem foldl_rep (its : List Value) : ∀ (k : Nat) (acc : List Value),
    List.foldl (fun x1 x2 => x1 ++ x2) acc.toArray (List.replicate k its.toArray) = (acc ++ (List.replicate k its).flatten).toArray
  | 0, acc => by simp
  | k + 1, acc => by
    have e : acc.toArray ++ its.toArray = (acc ++ its).toArray := by simp
    have e2 : (acc ++ its) ++ (List.replicate k its).flatten = acc ++ (List.replicate (k + 1) its).flatten := by
      rw [List.replicate_succ, List.flatten_cons, List.append_assoc]
    rw [← e2, ← foldl_rep its k (acc ++ its), ← e, List.replicate_succ, List.foldl_cons]

section
variable {X : Cx} {pins : List (Addr × Obj)} {σ : St} {H : Hp} {s : Shared} {l b : Addr} {xs ys zs : List V}

/-! ### the two steps: a tracked list is rewritten, a new list is laid -/
theorem Inv.lset {its its' : List Value} {n : Nat} {f : Array Value → Array Value} {t' : Nat} (I : Inv X pins σ H s) (hH : H l = some (.lst xs))
    (e : s.heap.get? l = some { cls := .type "list", data := .seq its.toArray n }) (hf : f its.toArray = its'.toArray) (hv : Vals ys its') (hz : ys.length ≤ sizeLine) :
    Inv X pins σ (upd H l (.lst ys)) { s with heap := s.heap.update l (Obj.mapSeq f), toks := t' } := by
  have q := PySem.IsL.update e f
  rw [hf] at q
  refine I.write (x := l) (e := l) (by rw [hH]; exact trivial) (.inl rfl) (fun b' u hb hu => (Heap.get?_update_other s.heap (Obj.mapSeq f) (Ne.symm hb)).trans hu) ⟨_, q⟩ ?_
  exact ⟨hz, its', _, hv, q⟩
theorem Inv.lnew {its : List Value} {t' : Nat} (I : Inv X pins σ H s) (hv : Vals ys its) (hz : ys.length ≤ sizeLine) :
    Inv X pins σ (upd H s.heap.objs.size (.lst ys)) { s with heap := s.heap.push { cls := .type "list", data := .seq its.toArray }, toks := t' } :=
  I.laid (fun _ _ q => Heap.get?_push_of_some _ q) (Nat.le_refl _) ⟨hz, its, 0, hv, Heap.get?_push_size _ rfl⟩
theorem Inv.fresh (I : Inv X pins σ H s) : H s.heap.objs.size = none := I.hok.fresh (Nat.le_refl _)
theorem Inv.lstM (I : Inv X pins σ H s) (hH : H l = some (.lst xs)) : xs.length ≤ sizeLine ∧ ∃ (its : List Value) (n : Nat), Vals xs its ∧ xs.length = its.length ∧ s.heap.get? l = some { cls := .type "list", data := .seq its.toArray n } := by
  obtain ⟨z, its, n, r, e⟩ := I.hok l _ hH
  exact ⟨z, its, n, r, r.length, e⟩

theorem notLongL {n : Nat} (h : n ≤ sizeLine) : Builtin.List.listTooLong n = false := by
  unfold Builtin.List.listTooLong
  exact decide_eq_false (by omega)
end

section
variable {X : Cx}

/-! ### methods -/
def rAppend : V → List V → Hp → VK → Prop := fun x vs H Q => ∃ l xs y, x = .ref l ∧ vs = [y] ∧ H l = some (.lst xs) ∧ xs.length < sizeLine ∧ Q .non (upd H l (.lst (xs ++ [y])))
theorem mt_append : MtM X "list.append" rAppend := by
  intro pins s σ H x vs v us Q I rx rv h
  obtain ⟨l, xs, y, rfl, rfl, hH, hz, q⟩ := h
  cases rx
  obtain ⟨u, rfl, ru⟩ := rv.one
  obtain ⟨z, its, n, r, hl, e⟩ := I.lstM hH
  refine call_meets F.slot_list_append ⟨_, e, rfl⟩ F.entry_list_append (F.args_list_append_2 _ _) (PySem.list_append l its.toArray n u (by rw [List.size_toArray]; omega)) ⟨e, ?_⟩
  refine ⟨.non, _, I.lset (its' := its ++ [u]) hH e (by simp) (r.append (.cons ru .nil)) ?_, rfl, q⟩
  rw [List.length_append, List.length_singleton]
  omega

def rExtend : V → List V → Hp → VK → Prop := fun x vs H Q => ∃ l b xs zs, x = .ref l ∧ vs = [.ref b] ∧ H l = some (.lst xs) ∧ H b = some (.lst zs) ∧ xs.length + zs.length ≤ sizeLine ∧ Q .non (upd H l (.lst (xs ++ zs)))
theorem mt_extend : MtM X "list.extend" rExtend := by
  intro pins s σ H x vs v us Q I rx rv h
  obtain ⟨l, b, xs, zs, rfl, rfl, hH, hB, hz, q⟩ := h
  cases rx
  obtain ⟨u, rfl, ru⟩ := rv.one
  cases ru
  obtain ⟨z, its, n, r, hl, e⟩ := I.lstM hH
  obtain ⟨z2, its2, n2, r2, hl2, e2⟩ := I.lstM hB
  have hsz : its.toArray.size + its2.toArray.size ≤ sizeLine := by rw [List.size_toArray, List.size_toArray]; omega
  have hlong : ¬ (!its.toArray.isEmpty && Builtin.List.listTooLong (its.toArray.size + its2.toArray.size)) = true := by
    rw [notLongL hsz, Bool.and_false]
    exact Bool.false_ne_true
  refine call_meets F.slot_list_extend ⟨_, e, rfl⟩ F.entry_list_extend (F.args_list_extend_2 _ _)
    (AutoSeq1.list_extend_list_list_0 l its.toArray n b its2.toArray n2 hlong (by rw [List.size_toArray]; omega) (by omega)) ⟨e, e2, ?_⟩
  refine ⟨.non, _, I.lset (its' := its ++ its2) hH e (by simp) (r.append r2) ?_, rfl, q⟩
  rw [List.length_append]
  omega

def rPop : V → List V → Hp → VK → Prop := fun x vs H Q => ∃ l xs y, x = .ref l ∧ vs = [] ∧ H l = some (.lst xs) ∧ xs[xs.length - 1]? = some y ∧ Q y (upd H l (.lst xs.dropLast))
theorem mt_pop : MtM X "list.pop" rPop := by
  intro pins s σ H x vs v us Q I rx rv h
  obtain ⟨l, xs, y, rfl, rfl, hH, hy, q⟩ := h
  cases rx
  have hus := rv.zero
  subst hus
  obtain ⟨z, its, n, r, hl, e⟩ := I.lstM hH
  obtain ⟨u, hu, ru⟩ := r.get hy
  have hy' : its.toArray[its.toArray.size - 1]? = some u := by
    show its.toArray[its.length - 1]? = some u
    rw [← Array.getElem?_toList, ← hl]
    exact hu
  refine call_meets F.slot_list_pop ⟨_, e, rfl⟩ F.entry_list_pop (F.args_list_pop_1 _) (MeetsSeq.list_pop_last l its.toArray n u hy' (by rw [List.size_toArray]; omega)) ⟨e, ?_⟩
  refine ⟨y, _, I.lset (its' := its.dropLast) hH e ?_ r.dropLast ?_, ru, q⟩
  · show its.toArray.eraseIdxIfInBounds (its.toArray.size - 1) = its.dropLast.toArray
    rw [List.size_toArray, List.eraseIdxIfInBounds_toArray, erase_last]
  · rw [List.length_dropLast]
    omega

def rPopAt : V → List V → Hp → VK → Prop := fun x vs H Q => ∃ l xs i k y, x = .ref l ∧ vs = [.int i] ∧ H l = some (.lst xs) ∧ -(2 ^ 63) ≤ i ∧ i < 2 ^ 63 ∧ seqIndex? i xs.length = some k ∧ xs[k]? = some y ∧ Q y (upd H l (.lst (xs.eraseIdx k)))
theorem mt_popAt : MtM X "list.pop" rPopAt := by
  intro pins s σ H x vs v us Q I rx rv h
  obtain ⟨l, xs, i, k, y, rfl, rfl, hH, h1, h2, hk, hy, q⟩ := h
  cases rx
  obtain ⟨u, rfl, ru⟩ := rv.one
  obtain ⟨t, rfl⟩ := ru
  obtain ⟨z, its, n, r, hl, e⟩ := I.lstM hH
  obtain ⟨w, hw, rw'⟩ := r.get hy
  refine call_meets F.slot_list_pop ⟨_, e, rfl⟩ F.entry_list_pop (F.args_list_pop_2 _ _)
    (MeetsSeq.list_pop_at l its.toArray n i t k w (fitsIndex_both h1 h2) (by rw [List.size_toArray, ← hl]; exact hk) (by rw [← Array.getElem?_toList]; exact hw) (by rw [List.size_toArray]; omega)) ⟨e, ?_⟩
  refine ⟨y, _, I.lset (its' := its.eraseIdx k) hH e ?_ (r.eraseIdx k) ?_, rw', q⟩
  · show its.toArray.eraseIdxIfInBounds k = (its.eraseIdx k).toArray
    rw [List.eraseIdxIfInBounds_toArray]
  · have := len_erase xs k
    omega

def rReverse : V → List V → Hp → VK → Prop := fun x vs H Q => ∃ l xs, x = .ref l ∧ vs = [] ∧ H l = some (.lst xs) ∧ Q .non (upd H l (.lst xs.reverse))
theorem mt_reverse : MtM X "list.reverse" rReverse := by
  intro pins s σ H x vs v us Q I rx rv h
  obtain ⟨l, xs, rfl, rfl, hH, q⟩ := h
  cases rx
  have hus := rv.zero
  subst hus
  obtain ⟨z, its, n, r, hl, e⟩ := I.lstM hH
  refine call_meets F.slot_list_reverse ⟨_, e, rfl⟩ F.entry_list_reverse (F.args_list_reverse_1 _) (AutoSeq1.list_reverse_list_0 l its.toArray n (by rw [List.size_toArray]; omega)) ⟨e, ?_⟩
  refine ⟨.non, _, I.lset (its' := its.reverse) hH e (by simp) r.reverse ?_, rfl, q⟩
  rw [List.length_reverse]
  omega

def rClear : V → List V → Hp → VK → Prop := fun x vs H Q => ∃ l xs, x = .ref l ∧ vs = [] ∧ H l = some (.lst xs) ∧ Q .non (upd H l (.lst []))
theorem mt_clear : MtM X "list.clear" rClear := by
  intro pins s σ H x vs v us Q I rx rv h
  obtain ⟨l, xs, rfl, rfl, hH, q⟩ := h
  cases rx
  have hus := rv.zero
  subst hus
  obtain ⟨z, its, n, r, hl, e⟩ := I.lstM hH
  refine call_meets F.slot_list_clear ⟨_, e, rfl⟩ F.entry_list_clear (F.args_list_clear_1 _) (AutoSeq1.list_clear_list_0 l its.toArray n (by rw [List.size_toArray]; omega)) ⟨e, ?_⟩
  exact ⟨.non, _, I.lset (its' := []) (ys := []) hH e rfl .nil (Nat.zero_le _), rfl, q⟩

/-! ### list + list, list += list, list * int -/
def rCat : R2 := fun x y H Q => ∃ l b xs zs, x = .ref l ∧ y = .ref b ∧ H l = some (.lst xs) ∧ H b = some (.lst zs) ∧ xs.length + zs.length ≤ sizeLine ∧ ∀ p, H p = none → Q (.ref p) (upd H p (.lst (xs ++ zs)))
theorem op_cat : OpR X (binaryOp .Add) rCat := by
  intro pins s σ H x y v u Q I rx ry h
  obtain ⟨l, b, xs, zs, rfl, rfl, hH, hB, hz, q⟩ := h
  cases rx
  cases ry
  obtain ⟨z, its, n, r, hl, e⟩ := I.lstM hH
  obtain ⟨z2, its2, n2, r2, hl2, e2⟩ := I.lstM hB
  refine PySem.P.add_list e e2 ?_ (by rw [List.size_toArray, List.size_toArray]; omega)
  have ea : its.toArray ++ its2.toArray = (its ++ its2).toArray := by simp
  rw [ea]
  exact ⟨.ref _, _, I.lnew (t' := s.toks) (r.append r2) (by rw [List.length_append]; omega), rfl, q _ I.fresh⟩
/-- a list times an int (a negative one is nothing) -/
def rRep : R2 := fun x y H Q => ∃ l k xs, x = .ref l ∧ y = .int k ∧ H l = some (.lst xs) ∧ -(2 ^ 63) ≤ k ∧ k < 2 ^ 63 ∧ xs.length * k.toNat ≤ sizeLine ∧
  ∀ p, H p = none → Q (.ref p) (upd H p (.lst (List.replicate k.toNat xs).flatten))
theorem len_rep {α : Type} (xs : List α) (k : Nat) : (List.replicate k xs).flatten.length = k * xs.length := by
  induction k with
  | zero => simp
  | succ k ih => rw [List.replicate_succ, List.flatten_cons, List.length_append, ih, Nat.succ_mul, Nat.add_comm]
theorem op_rep : OpR X (binaryOp .Mult) rRep := by
  intro pins s σ H x y v u Q I rx ry h
  obtain ⟨l, k, xs, rfl, rfl, hH, h1, h2, hz, q⟩ := h
  cases rx
  obtain ⟨t, rfl⟩ := ry
  obtain ⟨z, its, n, r, hl, e⟩ := I.lstM hH
  have hlen : its.toArray.size * k.toNat ≤ sizeLine := by rw [List.size_toArray, ← hl]; exact hz
  have hcap : ¬ its.toArray.size * k.toNat > (2 ^ 63 - 1) / 8 := by
    have : (sizeLine : Nat) ≤ (2 ^ 63 - 1) / 8 := by decide
    omega
  have hfit : ¬ (!Builtin.List.listFitsIndex k) = true := by
    rw [fitsIndex_both h1 h2]
    exact Bool.false_ne_true
  have hlong : ¬ Builtin.List.listTooLong (its.toArray.size * k.toNat) = true := by
    rw [notLongL hlen]
    exact Bool.false_ne_true
  have hnew : List.foldl (fun x1 x2 => x1 ++ x2) #[] (List.replicate (if its.toArray.isEmpty = true then 0 else k.toNat) its.toArray) = (List.replicate k.toNat its).flatten.toArray := by
    have f0 : ∀ m : Nat, List.foldl (fun x1 x2 => x1 ++ x2) #[] (List.replicate m its.toArray) = (List.replicate m its).flatten.toArray := fun m => by
      have := foldl_rep its m []
      rw [List.nil_append] at this
      exact this
    rw [f0]
    cases its with
    | nil => simp
    | cons a r' => rw [if_neg (by simp)]
  refine wpAny_binaryOp_repeat_ref (T := "list") (U := "int") (by decide) ⟨_, e, rfl⟩ (fun s' => typeIs_int s' k t) noFill_list_mul F.fills_int_mul F.slot_int_rmul repeat_list F.slot_int_index.lookup
    (call_meets F.slot_int_rmul (typeIs_int s k t) F.entry_int_rmul (F.args_int_rmul_2 _ _) (int___rmul___int_list k t l its.toArray n)
      ⟨e, rfl, ⟨_, e, rfl⟩, call_meets F.slot_list_mul ⟨_, e, rfl⟩ F.entry_list_mul (F.args_list_mul_2 _ _) (AutoListH.list___mul___list_int_3 l its.toArray n k t hfit hcap hlong) ⟨e, ?_⟩⟩)
  rw [hnew]
  exact ⟨.ref _, _, I.lnew (t' := s.toks) (r.rep k.toNat) (by rw [len_rep, Nat.mul_comm]; exact hz), rfl, q _ I.fresh⟩

/-! ### del xs[i] -/
theorem del_list {pins : List (Addr × Obj)} {s : Shared} {σ : St} {H : Hp} {l : Addr} {xs : List V} {i : Int} {t : Tok} {k : Nat} {Q : Unit → Shared → Prop} (I : Inv X pins σ H s) (hH : H l = some (.lst xs))
    (h1 : -(2 ^ 63) ≤ i) (h2 : i < 2 ^ 63) (hk : seqIndex? i xs.length = some k) (h : ∀ s', Inv X pins σ (upd H l (.lst (xs.eraseIdx k))) s' → Q () s') :
    wpAny (model X.prog X.w) X.A (delItem (.ref l) (.int i t)) Q X.xe s := by
  obtain ⟨z, its, n, r, hl, e⟩ := I.lstM hH
  refine PySem.P.delItem_list (k := k) e (fitsIndex_both h1 h2) (by rw [List.size_toArray, ← hl]; exact hk) (h _ ?_) (by rw [List.size_toArray]; omega)
  refine I.lset (its' := its.eraseIdx k) (t' := s.toks) hH e ?_ (r.eraseIdx k) ?_
  · show its.toArray.eraseIdxIfInBounds k = (its.eraseIdx k).toArray
    rw [List.eraseIdxIfInBounds_toArray]
  · have := len_erase xs k
    omega
end

/-! ### xs[a:b] = ys -/
section
variable {prog : Program} {w : World} {A : Around} {E : Value → Shared → Prop} {s : Shared}
theorem splice_eq (its its2 : List Value) (a c : Nat) : its.toArray.extract 0 a ++ its2.toArray ++ its.toArray.extract c its.toArray.size = (its.take a ++ its2 ++ its.drop c).toArray := by
  apply Array.toList_inj.mp
  first
    | (simp
       exact List.take_of_length_le (by simp))
    | simp [List.take_of_length_le]
    | simp
theorem bounds_run {a c n : Nat} (hac : a ≤ c) (hc : c ≤ n) : sliceBounds (some (a : Int)) (some (c : Int)) none n = ((a : Int), (c : Int), 1) := by
  simp only [sliceBounds, Option.getD_none]
  have h1 : ¬ ((a : Int) < 0) := by omega
  have h2 : ¬ ((c : Int) < 0) := by omega
  simp only [h1, h2, if_false, show (1 : Int) > 0 by decide, if_true]
  congr 1
  · omega
  · congr 1; omega
set_option maxRecDepth 100000 in
/-- list.__setitem__ with a slice of step one and another list -/
theorem setItem_slice {l b sl : Addr} {items new : Array Value} {n n2 : Nat} {vl vu : Value} {a c : Nat} {Q : Unit → Shared → Prop}
    (e : s.heap.get? l = some { cls := .type "list", data := .seq items n }) (e2 : s.heap.get? b = some { cls := .type "list", data := .seq new n2 }) (hne : l ≠ b)
    (hs : s.heap.IsSliceOf sl vl vu .none) (pl : IsPart vl (some (a : Int))) (pu : IsPart vu (some (c : Int))) (hac : a ≤ c) (hc : c ≤ items.size)
    (hsz : items.size + new.size ≤ sizeLine) (h : Q () { s with heap := s.heap.update l (Obj.mapSeq fun xs => xs.extract 0 a ++ new ++ xs.extract c xs.size) }) :
    wpAny (model prog w) A (setItem (.ref l) (.ref sl) (.ref b)) Q E s := by
  have hl : s.heap.IsList l items := PySem.IsL.isList e
  have hb : s.heap.IsList b new := PySem.IsL.isList e2
  obtain ⟨os, hos, hcs, hds⟩ := id hs
  have hTs : s.TypeIs (.ref sl) "slice" := ⟨os, hos, hcs⟩
  have hstep : ¬ ((rawPart none == rawInt 0) = true) := Bool.false_ne_true
  have hsame : Builtin.List.listSameRef (.ref l) (.ref b) = false := by
    unfold Builtin.List.listSameRef
    exact beq_eq_false_iff_ne.mpr hne
  have hmax : (max (a : Int) (c : Int)).toNat = c := by omega
  have hz' : ((fun xs : Array Value => xs.extract 0 a ++ new ++ xs.extract c xs.size) items).size ≤ sizeLine + 1 := by
    simp only [Array.size_append, Array.size_extract]
    omega
  unfold setItem
  try with_reducible refine wpAny_holding ?_
  first | refine wpAny_bind (wpAny_pure ?_) | skip
  refine wpAny_bind (wpAny_sequenceKey hl.typeIs (by decide) ?_)
  refine wpAny_bind (wpAny_callSpecial?_slot (name := Str.ofString "__setitem__") hl.typeIs slot_list_setitem
    (wpAny_call_entry slot_list_setitem hl.typeIs entry_list_setitem ?_ (args_list_setitem _ _ _)))
  show wpAny _ _ (Builtin.List.listSubscript? (.ref sl) >>= _) _ _ s
  refine wpAny_bind ?_
  unfold Builtin.List.listSubscript?
  refine wpAny_bind (wpAny_specialOf hTs slice_no_index ?_)
  simp only [Option.isNone_none, if_true]
  refine wpAny_pure ?_
  show wpAny _ _ (typeOf (.ref sl) >>= _) _ _ s
  refine wpAny_bind (wpAny_typeOf hTs ?_)
  first
    | rw [if_neg (by decide)]
    | refine PySem.W.KFB.if_not (by decide) ?_
  rw [listSliceParts_eq]
  refine wpAny_bind (wpAny_bind (wpAny_field hos hds (x := .none) rfl (wpAny_bind (wpAny_listPart .none ?_))))
  rw [if_neg hstep]
  refine wpAny_bind (wpAny_field hos hds (x := vl) rfl (wpAny_bind (wpAny_listPart pl ?_)))
  refine wpAny_bind (wpAny_field hos hds (x := vu) rfl (wpAny_bind (wpAny_listPart pu (wpAny_pure ?_))))
  first
    | simp only [hsame, Bool.false_eq_true, if_false]
    | refine PySem.W.KFB.if_not hsame ?_
    | (dsimp only
       rw [if_neg (by rw [hsame]; exact Bool.false_ne_true)])
  refine wpAny_bind (m := Builtin.List.listAllItems (.ref b) "must assign iterable to extended slice") ?_
  unfold Builtin.List.listAllItems
  refine wpAny_bind (wpAny_typeOf hb.typeIs ?_)
  first
    | refine PySem.W.KFB.if_so (by decide) ?_
    | rw [if_pos (by decide)]
    | simp only [beq_self_eq_true, Bool.true_or, if_true]
  unfold Builtin.List.listItems
  refine wpAny_bind (wpAny_seqItems e2 rfl (wpAny_pure ?_))
  refine wpAny_bind (wpAny_bind (wpAny_seqItems e rfl (wpAny_pure ?_)))
  refine wpAny_bind (wpAny_of_eq ((sliceIndices_raw (some (a : Int)) (some (c : Int)) none items.size (by simp)).trans (congrArg (pure : Int × Int × Int → Sem (Int × Int × Int)) (bounds_run hac hc))) ?_)
  show wpAny _ _ (if ((1 : Int) == 1) = true then _ else _) _ _ s
  rw [if_pos (by decide)]
  refine wpAny_bind (wpAny_rule ?_)
  first
    | simp only [notLongL hsz, Bool.false_eq_true, if_false]
    | refine PySem.W.KFB.if_not (notLongL hsz) ?_
  first | refine wpAny_bind (wpAny_pure ?_) | skip
  show wpAny _ _ (updateSeq l (fun xs => xs.extract 0 ((a : Int)).toNat ++ new ++ xs.extract (max (a : Int) (c : Int)).toNat xs.size) >>= _) _ _ s
  rw [hmax, Int.toNat_natCast]
  refine wpAny_bind (wpAny_updateSeq (hz := Nat.le_trans (Nat.le_add_right _ _) hsz) (_hz' := hz') e rfl ?_)
  refine wpAny_bind (wpAny_letGo ?_)
  first
    | exact wpAny_bind (wpAny_pure (wpAny_pure ⟨.none, rfl, wpAny_pure h⟩))
    | exact wpAny_pure ⟨.none, rfl, wpAny_pure h⟩
end

section
variable {X : Cx}
/-- xs[a:c] = ys of another list, at the value level: sl is the slice object that was just made -/
theorem set_slice {pins : List (Addr × Obj)} {s : Shared} {σ : St} {H : Hp} {l b sl : Addr} {xs ys : List V} {a c : Int} {vl vu : Value} {Q : Unit → Shared → Prop} (I : Inv X pins σ H s)
    (hH : H l = some (.lst xs)) (hB : H b = some (.lst ys)) (hne : l ≠ b) (hs : s.heap.IsSliceOf sl vl vu .none) (ra : RelV (.int a) vl) (rc : RelV (.int c) vu) (h0 : 0 ≤ a) (hac : a ≤ c) (hc : c ≤ xs.length)
    (hz : xs.length + ys.length ≤ sizeLine) (h : ∀ s', Inv X pins σ (upd H l (.lst (xs.take a.toNat ++ ys ++ xs.drop c.toNat))) s' → Q () s') :
    wpAny (model X.prog X.w) X.A (setItem (.ref l) (.ref sl) (.ref b)) Q X.xe s := by
  obtain ⟨ta, rfl⟩ := ra
  obtain ⟨tc, rfl⟩ := rc
  obtain ⟨z, its, n, r, hl, e⟩ := I.lstM hH
  obtain ⟨z2, its2, n2, r2, hl2, e2⟩ := I.lstM hB
  obtain ⟨a', rfl⟩ := Int.eq_ofNat_of_zero_le h0
  obtain ⟨c', rfl⟩ := Int.eq_ofNat_of_zero_le (Int.le_trans h0 hac)
  simp only [Int.toNat_natCast] at h
  refine setItem_slice (a := a') (c := c') e e2 hne hs (.int _ _) (.int _ _) (by omega) (by rw [List.size_toArray]; omega) (by rw [List.size_toArray, List.size_toArray]; omega) (h _ ?_)
  refine I.lset (its' := its.take a' ++ its2 ++ its.drop c') (t' := s.toks) hH e ?_ (Vals.append (Vals.append (r.take _) r2) (r.drop _)) ?_
  · exact splice_eq its its2 a' c'
  · rw [List.length_append, List.length_append, List.length_take, List.length_drop]
    omega
end
end L2

namespace L2
open PySem PySem.Spec PyProof.Rows

/-! ### lists of pairs as tables -/
section
variable {κ : Type} [DecidableEq κ]
def valV (kvs : List (κ × V)) (k : κ) : Option V := (kvs.find? fun kv => decide (kv.1 = k)).map (·.2)
/-- in its place, or at the end -/
def putK (kvs : List (κ × V)) (k : κ) (v : V) : List (κ × V) :=
  if (kvs.any fun kv => decide (kv.1 = k)) = true then kvs.map (fun kv => if kv.1 = k then (kv.1, v) else kv) else kvs ++ [(k, v)]
def dropK (kvs : List (κ × V)) (k : κ) : List (κ × V) := kvs.filter fun kv => decide (kv.1 ≠ k)

theorem valV_nil {k : κ} : valV ([] : List (κ × V)) k = none := rfl
theorem valV_pos {p : κ × V} {r : List (κ × V)} {k : κ} (e : p.1 = k) : valV (p :: r) k = some p.2 := by simp [valV, List.find?_cons, e]
theorem valV_neg {p : κ × V} {r : List (κ × V)} {k : κ} (e : ¬ p.1 = k) : valV (p :: r) k = valV r k := by simp [valV, List.find?_cons, e]
theorem valV_any (k : κ) : ∀ kvs : List (κ × V), (kvs.any fun kv => decide (kv.1 = k)) = (valV kvs k).isSome
  | [] => rfl
  | p :: r => by
    rw [List.any_cons]
    by_cases e : p.1 = k
    · simp only [valV_pos e, decide_eq_true e, Bool.true_or, Option.isSome_some]
    · rw [valV_neg e, decide_eq_false e, Bool.false_or]; exact valV_any k r
theorem valV_map (k j : κ) (y : V) : ∀ kvs : List (κ × V), valV (kvs.map fun kv => if kv.1 = k then (kv.1, y) else kv) j = (valV kvs j).map fun x => if j = k then y else x
  | [] => rfl
  | p :: r => by
    have ih := valV_map k j y r
    rw [List.map_cons]
    by_cases h : p.1 = k
    · rw [if_pos h]
      by_cases e : p.1 = j
      · rw [valV_pos (p := (p.1, y)) e, valV_pos e, Option.map_some, if_pos (e.symm.trans h)]
      · rw [valV_neg (p := (p.1, y)) e, valV_neg e, ih]
    · rw [if_neg h]
      by_cases e : p.1 = j
      · rw [valV_pos (p := p) e, valV_pos e, Option.map_some, if_neg (fun z => h (e.trans z))]
      · rw [valV_neg (p := p) e, valV_neg e, ih]
theorem valV_snoc (k j : κ) (y : V) : ∀ kvs : List (κ × V), valV kvs k = none → valV (kvs ++ [(k, y)]) j = if j = k then some y else valV kvs j
  | [], _ => by
    by_cases e : k = j
    · rw [if_pos e.symm]; exact valV_pos (p := (k, y)) e
    · rw [if_neg (fun z => e z.symm)]; exact valV_neg (p := (k, y)) e
  | p :: r, hn => by
    rw [List.cons_append]
    have hk : ¬ p.1 = k := fun z => by rw [valV_pos z] at hn; cases hn
    rw [valV_neg hk] at hn
    have ih := valV_snoc k j y r hn
    by_cases e : p.1 = j
    · rw [valV_pos e, valV_pos e, if_neg (fun z => hk (e.trans z))]
    · rw [valV_neg e, valV_neg e, ih]
theorem valV_put (kvs : List (κ × V)) (k j : κ) (y : V) : valV (putK kvs k y) j = if j = k then some y else valV kvs j := by
  unfold putK
  by_cases a : (kvs.any fun kv => decide (kv.1 = k)) = true
  · rw [if_pos a, valV_map]
    rw [valV_any] at a
    by_cases e : j = k
    · obtain ⟨x, hx⟩ := Option.isSome_iff_exists.mp a
      rw [if_pos e, e, hx, Option.map_some, if_pos rfl]
    · rw [if_neg e]
      cases valV kvs j with
      | none => rfl
      | some x => rw [Option.map_some, if_neg e]
  · rw [if_neg a]
    refine valV_snoc k j y kvs ?_
    rw [valV_any] at a
    cases q : valV kvs k with
    | none => rfl
    | some x => rw [q] at a; exact (a rfl).elim
theorem length_putK (kvs : List (κ × V)) (k : κ) (v : V) : (putK kvs k v).length ≤ kvs.length + 1 := by
  unfold putK
  split
  · rw [List.length_map]; omega
  · rw [List.length_append, List.length_cons, List.length_nil]; omega
theorem putK_new {kvs : List (κ × V)} {k : κ} (v : V) (h : valV kvs k = none) : putK kvs k v = kvs ++ [(k, v)] := by
  unfold putK
  rw [valV_any, h]
  exact if_neg (by decide)

theorem RelO.isSome_eq {o : Option V} {u : Option Value} (r : RelO o u) : o.isSome = u.isSome := by
  cases o with
  | none => cases u with
    | none => rfl
    | some _ => exact (show False from r).elim
  | some _ => cases u with
    | none => exact (show False from r).elim
    | some _ => rfl
theorem RelO.getD {o : Option V} {u : Option Value} {d : V} {d' : Value} (r : RelO o u) (rd : RelV d d') : RelV (o.getD d) (u.getD d') := by
  cases o with
  | none => cases u with
    | none => exact rd
    | some _ => exact (show False from r).elim
  | some _ => cases u with
    | none => exact (show False from r).elim
    | some _ => exact r

/-- raw tables of the same keys -/
theorem KV.val {kvs : List (κ × V)} {vs : List (κ × Value)} (r : KV kvs vs) (k : κ) : RelO (valV kvs k) (valueAt vs k) := by
  unfold KV at r
  induction r with
  | nil => exact True.intro
  | @cons p q ps qs h t ih =>
    obtain ⟨h1, h2⟩ := h
    by_cases e : p.1 = k
    · have e' : q.1 = k := h1.symm.trans e
      have b : valueAt (q :: qs) k = some q.2 := by simp [valueAt, List.find?_cons, e']
      rw [valV_pos e, b]; exact h2
    · have e' : ¬ q.1 = k := fun z => e (h1.trans z)
      have b : valueAt (q :: qs) k = valueAt qs k := by simp [valueAt, List.find?_cons, e']
      rw [valV_neg e, b]; exact ih
theorem KV.any {kvs : List (κ × V)} {vs : List (κ × Value)} (r : KV kvs vs) (k : κ) : (kvs.any fun kv => decide (kv.1 = k)) = vs.any fun kv => decide (kv.1 = k) := by
  unfold KV at r
  induction r with
  | nil => rfl
  | cons h t ih => rw [List.any_cons, List.any_cons, ih, h.1]
theorem KV.repl {kvs : List (κ × V)} {vs : List (κ × Value)} (r : KV kvs vs) (k : κ) {y : V} {u : Value} (ry : RelV y u) :
    KV (kvs.map fun kv => if kv.1 = k then (kv.1, y) else kv) (vs.map fun kv => if kv.1 = k then (kv.1, u) else kv) := by
  unfold KV at r ⊢
  induction r with
  | nil => exact .nil
  | @cons p q ps qs h t ih =>
    rw [List.map_cons, List.map_cons]
    refine .cons ?_ ih
    obtain ⟨h1, h2⟩ := h
    by_cases e : p.1 = k
    · rw [if_pos e, if_pos (h1.symm.trans e)]; exact ⟨h1, ry⟩
    · rw [if_neg e, if_neg (fun z => e (h1.trans z))]; exact ⟨h1, h2⟩
theorem KV.put {kvs : List (κ × V)} {vs : List (κ × Value)} (r : KV kvs vs) (k : κ) {y : V} {u : Value} (ry : RelV y u) : KV (putK kvs k y) (stored vs k u) := by
  unfold putK stored
  rw [r.any k]
  by_cases e : (vs.any fun kv => decide (kv.1 = k)) = true
  · rw [if_pos e, if_pos e]; exact r.repl k ry
  · rw [if_neg e, if_neg e]; exact Paired.snoc r ⟨rfl, ry⟩
theorem KV.drop {kvs : List (κ × V)} {vs : List (κ × Value)} (r : KV kvs vs) (k : κ) : KV (dropK kvs k) (without vs k) := by
  unfold KV at r ⊢
  unfold dropK without
  induction r with
  | nil => exact .nil
  | @cons p q ps qs h t ih =>
    obtain ⟨h1, h2⟩ := h
    rw [List.filter_cons, List.filter_cons]
    by_cases e : p.1 = k
    · have a : ¬ decide (p.1 ≠ k) = true := by simp [e]
      have b : ¬ decide (q.1 ≠ k) = true := by simp [h1.symm.trans e]
      rw [if_neg a, if_neg b]; exact ih
    · have e' : ¬ q.1 = k := fun z => e (h1.trans z)
      have a : decide (p.1 ≠ k) = true := by simp [e]
      have b : decide (q.1 ≠ k) = true := by simp [e']
      rw [if_pos a, if_pos b]; exact .cons ⟨h1, h2⟩ ih
theorem KV.keys {kvs : List (κ × V)} {vs : List (κ × Value)} (r : KV kvs vs) : kvs.map (·.1) = vs.map (·.1) := by
  unfold KV at r
  induction r with
  | nil => rfl
  | cons h t ih => rw [List.map_cons, List.map_cons, ih, h.1]
theorem KV.length {kvs : List (κ × V)} {vs : List (κ × Value)} (r : KV kvs vs) : kvs.length = vs.length := Paired.length r
theorem dropK_le (kvs : List (κ × V)) (k : κ) : (dropK kvs k).length ≤ kvs.length := List.length_filter_le _ _
end


/-! ### a tracked dict, its keys ints and texts or tuples of these -/
theorem kV_is {P : Program} {w : World} {k : Key} {u : Value} (r : RelV (kV k) u) : (mixKind P w).is k u = true := by
  cases k with
  | inl i => obtain ⟨t, e⟩ := (show ∃ t, u = Value.int i t from r); subst e; exact mixKind_int P w i t
  | inr x => obtain ⟨t, e⟩ := (show ∃ t, u = Value.str x t from r); subst e; exact mixKind_str P w x t
theorem kV_inj {a b : Key} (e : kV a = kV b) : a = b := by
  cases a with
  | inl i => cases b with
    | inl j => have e' : V.int i = V.int j := e; injection e' with e'; rw [e']
    | inr y => exact nomatch (show V.int i = V.str y from e)
  | inr x => cases b with
    | inl j => exact nomatch (show V.str x = V.int j from e)
    | inr y => have e' : V.str x = V.str y := e; injection e' with e'; rw [e']
theorem kVs_inj : ∀ {a b : List Key}, a.map kV = b.map kV → a = b
  | [], [], _ => rfl
  | [], _ :: _, e => by simp at e
  | _ :: _, [], e => by simp at e
  | x :: xs, y :: ys, e => by
    rw [List.map_cons, List.map_cons] at e
    injection e with e1 e2
    rw [kV_inj e1, kVs_inj e2]
theorem items_are {P : Program} {w : World} : ∀ {ks : List Key} {us : List Value}, Vals (ks.map kV) us → ItemsAre (mixKind P w) ks us
  | [], _, r => by rw [List.map_nil] at r; cases r; exact .nil
  | k :: ks, _, r => by
    rw [List.map_cons] at r
    cases r with
    | cons h t => exact .cons (kV_is h) (items_are t)

/-- raw entries of a dict with tuple keys -/
abbrev KT (H : Hp) : List (List Key × V) → List (List Key × Addr × Value) → Prop := Paired fun p q => p.1 = q.1 ∧ H q.2.1 = some (.tup (p.1.map kV)) ∧ RelV p.2 q.2.2
theorem KT.val {H : Hp} {kvs : List (List Key × V)} {xs : List (List Key × Addr × Value)} (r : KT H kvs xs) (k : List Key) : RelO (valV kvs k) ((atKey xs k).map (·.2)) := by
  induction r with
  | nil => exact True.intro
  | @cons p q ps qs h t ih =>
    obtain ⟨h1, _, h2⟩ := h
    by_cases e : p.1 = k
    · have e' : q.1 = k := h1.symm.trans e
      have b : atKey (q :: qs) k = some q.2 := by simp [atKey, List.find?_cons, e']
      rw [valV_pos e, b]; exact h2
    · have e' : ¬ q.1 = k := fun z => e (h1.trans z)
      have b : atKey (q :: qs) k = atKey qs k := by simp [atKey, List.find?_cons, e']
      rw [valV_neg e, b]; exact ih
theorem KT.repl {H : Hp} {kvs : List (List Key × V)} {xs : List (List Key × Addr × Value)} (r : KT H kvs xs) (k : List Key) {y : V} {u : Value} (ry : RelV y u) :
    KT H (kvs.map fun kv => if kv.1 = k then (kv.1, y) else kv) (xs.map (putAt k u)) := by
  induction r with
  | nil => exact .nil
  | @cons p q ps qs h t ih =>
    rw [List.map_cons, List.map_cons]
    refine .cons ?_ ih
    obtain ⟨h1, h2, h3⟩ := h
    unfold putAt
    by_cases e : p.1 = k
    · rw [if_pos e, if_pos (h1.symm.trans e)]; exact ⟨h1, h2, ry⟩
    · rw [if_neg e, if_neg (fun z => e (h1.trans z))]; exact ⟨h1, h2, h3⟩
theorem KT.put {H : Hp} {kvs : List (List Key × V)} {xs : List (List Key × Addr × Value)} (r : KT H kvs xs) (k : List Key) {b : Addr} {y : V} {u : Value} (hb : H b = some (.tup (k.map kV))) (ry : RelV y u) :
    KT H (putK kvs k y) (storedH xs k b u) := by
  have e : (kvs.any fun kv => decide (kv.1 = k)) = (atKey xs k).isSome := by
    rw [valV_any, (r.val k).isSome_eq, Option.isSome_map]
  unfold putK storedH
  rw [e]
  by_cases q : (atKey xs k).isSome = true
  · rw [if_pos q, if_pos q]; exact r.repl k ry
  · rw [if_neg q, if_neg q]; exact Paired.snoc r ⟨rfl, hb, ry⟩
theorem KT.keeps {H H' : Hp} {kvs : List (List Key × V)} {xs : List (List Key × Addr × Value)} (r : KT H kvs xs) (ht : ∀ b ys, H b = some (.tup ys) → H' b = some (.tup ys)) : KT H' kvs xs :=
  Paired.mapP r fun _ _ z => ⟨z.1, ht _ _ z.2.1, z.2.2⟩

section
variable {P : Program} {w : World} {H : Hp} {h : Heap} {a : Addr}
theorem rd_of {u : HO} (ok : HOk P w H h) (e : Rd H a u) : ObjOk P w H h a u := e.ok ok
theorem dk_rd {kvs : List (Key × V)} (ok : HOk P w H h) (e : Rd H a (.dK kvs)) : kvs.length ≤ sizeLine ∧ (a == sysModules) = false ∧ ∃ vs, KV kvs vs ∧ h.DictOf (mixKind P w) a vs :=
  show ObjOk P w H h a (.dK kvs) from rd_of ok e
theorem dk_of {kvs : List (Key × V)} (ok : HOk P w H h) (e : H a = some (.dK kvs)) : kvs.length ≤ sizeLine ∧ (a == sysModules) = false ∧ ∃ vs, KV kvs vs ∧ h.DictOf (mixKind P w) a vs := dk_rd ok (.inl e)
/-- a tracked tuple of ints and texts is a key -/
theorem key_of {ks : List Key} (ok : HOk P w H h) (e : H a = some (.tup (ks.map kV))) : (tupleKind (mixKind P w)).is h ks a := by
  obtain ⟨_, its, r, o, h1, h2, n, h3⟩ := (show ObjOk P w H h a (.tup (ks.map kV)) from ok a _ e)
  exact ⟨o, its.toArray, n, h1, h2, h3, by simpa using items_are r⟩
theorem dt_rd {kvs : List (List Key × V)} (ok : HOk P w H h) (e : Rd H a (.dT kvs)) : kvs.length ≤ sizeLine ∧ (a == sysModules) = false ∧
    ∃ xs, KT H kvs xs ∧ h.DictOfH (tupleKind (mixKind P w)) a xs := by
  obtain ⟨z, y, xs, r, o, es, ep, h1, h2, h3, h4, h5⟩ := (show ObjOk P w H h a (.dT kvs) from rd_of ok e)
  refine ⟨z, y, xs, r, o, es, ep, h1, h2, h3, h4, fun x hx => ?_, h5⟩
  have all : ∀ {l : List (List Key × V)} {m : List (List Key × Addr × Value)}, KT H l m → ∀ x ∈ m, (tupleKind (mixKind P w)).is h x.1 x.2.1 := by
    intro l m q
    induction q with
    | nil => intro x hx; exact nomatch hx
    | @cons p q ps qs hq t ih =>
      intro x hx
      rcases List.mem_cons.mp hx with e | hx
      · subst e
        exact key_of ok (by rw [← hq.1]; exact hq.2.1)
      · exact ih x hx
  exact all r x hx
theorem dt_of {kvs : List (List Key × V)} (ok : HOk P w H h) (e : H a = some (.dT kvs)) : kvs.length ≤ sizeLine ∧ (a == sysModules) = false ∧
    ∃ xs, KT H kvs xs ∧ h.DictOfH (tupleKind (mixKind P w)) a xs := dt_rd ok (.inl e)
end

/-- what the dict at a holds at the key y -/
def DGet (H : Hp) (a : Addr) (y : V) (r : Option V) : Prop :=
  (∃ kvs k, Rd H a (.dK kvs) ∧ y = kV k ∧ r = valV kvs k) ∨ ∃ kvs k b, Rd H a (.dT kvs) ∧ y = .ref b ∧ H b = some (.tup (k.map kV)) ∧ r = valV kvs k
/-- the heap behind a[y] = v -/
def DPut (H : Hp) (a : Addr) (y v : V) (H' : Hp) : Prop :=
  (∃ kvs k, H a = some (.dK kvs) ∧ y = kV k ∧ kvs.length < sizeLine ∧ H' = upd H a (.dK (putK kvs k v))) ∨
  ∃ kvs k b, H a = some (.dT kvs) ∧ y = .ref b ∧ H b = some (.tup (k.map kV)) ∧ kvs.length < sizeLine ∧ H' = upd H a (.dT (putK kvs k v))
theorem DGet.k {H : Hp} {a : Addr} {kvs : List (Key × V)} {k : Key} (e : H a = some (.dK kvs)) : DGet H a (kV k) (valV kvs k) := .inl ⟨kvs, k, .inl e, rfl, rfl⟩
theorem DGet.t {H : Hp} {a b : Addr} {kvs : List (List Key × V)} {k : List Key} (e : H a = some (.dT kvs)) (eb : H b = some (.tup (k.map kV))) : DGet H a (.ref b) (valV kvs k) := .inr ⟨kvs, k, b, .inl e, rfl, eb, rfl⟩
theorem DPut.k {H : Hp} {a : Addr} {kvs : List (Key × V)} {k : Key} {v : V} (e : H a = some (.dK kvs)) (hl : kvs.length < sizeLine) : DPut H a (kV k) v (upd H a (.dK (putK kvs k v))) := .inl ⟨kvs, k, e, rfl, hl, rfl⟩
theorem DPut.t {H : Hp} {a b : Addr} {kvs : List (List Key × V)} {k : List Key} {v : V} (e : H a = some (.dT kvs)) (eb : H b = some (.tup (k.map kV))) (hl : kvs.length < sizeLine) :
    DPut H a (.ref b) v (upd H a (.dT (putK kvs k v))) := .inr ⟨kvs, k, b, e, rfl, eb, hl, rfl⟩


section
variable {X : Cx} {pins : List (Addr × Obj)} {σ : St} {H : Hp} {s : Shared} {a : Addr} {y v : V} {u r : Value} {o : Option V} {A : Around} {E : Value → Shared → Prop}

theorem Inv.big (I : Inv X pins σ H s) : sysModules < s.heap.objs.size := by
  have h : mainGlobals < s.heap.objs.size := (I.mod.glob.keeps I.bk).lt
  exact Nat.lt_trans (by decide) h

/-- d[y], there -/
theorem d_getItem {Q : Value → Shared → Prop} (hu : A.units + 1 < cLine) (I : Inv X pins σ H s) (g : DGet H a y (some v)) (ry : RelV y u) (h : ∀ w' s', Inv X pins σ H s' → RelV v w' → Q w' s') :
    wpAny (model X.prog X.w) A (getItem (.ref a) u) Q E s := by
  rcases g with ⟨kvs, k, e, ey, l⟩ | ⟨kvs, k, b, e, ey, eb, l⟩
  · subst ey
    obtain ⟨z, hd, vs, rel, dd⟩ := dk_rd I.hok e
    obtain ⟨w', hw, rw'⟩ := RelO.some_of (v := v) (o := valueAt vs k) (by rw [l]; exact rel.val k)
    exact wpAny_getItem_of (kV_is ry) dd.mapOf hw (h w' _ (I.tok _) rw')
  · subst ey
    cases (show u = Value.ref b from ry)
    obtain ⟨z, hd, xs, rel, dd⟩ := dt_rd I.hok e
    obtain ⟨w', hw, rw'⟩ := RelO.some_of (v := v) (o := (atKey xs k).map (·.2)) (by rw [l]; exact rel.val k)
    obtain ⟨p, hp, hp2⟩ := Option.map_eq_some_iff.mp hw
    refine wpAny_getItem_heap (tupleKind_room_in1 hu) (key_of I.hok eb) dd hp ?_
    rw [hp2]
    exact h w' _ (I.tok _) rw'
/-- y in d -/
theorem d_in {Q : Value → Shared → Prop} (hu : A.units + 1 < cLine) (I : Inv X pins σ H s) (g : DGet H a y o) (ry : RelV y u) (h : ∀ s', Inv X pins σ H s' → Q (.bool o.isSome) s') :
    wpAny (model X.prog X.w) A (compareOp .In u (.ref a)) Q E s := by
  rcases g with ⟨kvs, k, e, ey, l⟩ | ⟨kvs, k, b, e, ey, eb, l⟩
  · subst ey
    obtain ⟨z, hd, vs, rel, dd⟩ := dk_rd I.hok e
    refine wpAny_in_of (kV_is ry) hd dd.mapOf ?_
    rw [← (rel.val k).isSome_eq, ← l]
    exact h _ (I.tok _)
  · subst ey
    cases (show u = Value.ref b from ry)
    obtain ⟨z, hd, xs, rel, dd⟩ := dt_rd I.hok e
    refine wpAny_in_heap (tupleKind_room_in1 hu) (key_of I.hok eb) hd dd ?_
    have q := (rel.val k).isSome_eq
    rw [Option.isSome_map] at q
    rw [← q, ← l]
    exact h _ (I.tok _)
theorem d_notIn {Q : Value → Shared → Prop} (hu : A.units + 1 < cLine) (I : Inv X pins σ H s) (g : DGet H a y o) (ry : RelV y u) (h : ∀ s', Inv X pins σ H s' → Q (.bool (!o.isSome)) s') :
    wpAny (model X.prog X.w) A (compareOp .NotIn u (.ref a)) Q E s := by
  rcases g with ⟨kvs, k, e, ey, l⟩ | ⟨kvs, k, b, e, ey, eb, l⟩
  · subst ey
    obtain ⟨z, hd, vs, rel, dd⟩ := dk_rd I.hok e
    refine wpAny_notIn_of (kV_is ry) hd dd.mapOf ?_
    rw [← (rel.val k).isSome_eq, ← l]
    exact h _ (I.tok _)
  · subst ey
    cases (show u = Value.ref b from ry)
    obtain ⟨z, hd, xs, rel, dd⟩ := dt_rd I.hok e
    refine wpAny_notIn_heap (tupleKind_room_in1 hu) (key_of I.hok eb) hd dd ?_
    have q := (rel.val k).isSome_eq
    rw [Option.isSome_map] at q
    rw [← q, ← l]
    exact h _ (I.tok _)
/-- a dict's object is replaced -/
theorem d_write {h' : Heap} {t' : Nat} {ob : HO} (I : Inv X pins σ H s) (mu : Mut (H a)) (hs : Heap.SameBut a s.heap h') (he : ∃ q, h'.get? a = some q) (new : ObjOk X.prog X.w (upd H a ob) h' a ob) :
    Inv X pins σ (upd H a ob) { s with heap := h', toks := t' } :=
  I.write (x := a) (e := a) mu (.inl rfl) (fun b q hb z => (hs.2 b hb).trans z) he new
theorem dk_new {P : Program} {w : World} {H' : Hp} {h' : Heap} {kvs : List (Key × V)} {vs : List (Key × Value)} (z : kvs.length ≤ sizeLine) (hd : (a == sysModules) = false) (rel : KV kvs vs) (dd : h'.DictOf (mixKind P w) a vs) :
    ObjOk P w H' h' a (.dK kvs) := ⟨z, hd, vs, rel, dd⟩
/-- d[y] = v -/
theorem d_setItem {H' : Hp} {Q : Unit → Shared → Prop} (hu : A.units + 1 < cLine) (I : Inv X pins σ H s) (g : DPut H a y v H') (ry : RelV y u) (rv : RelV v r) (h : ∀ s', Inv X pins σ H' s' → Q () s') :
    wpAny (model X.prog X.w) A (setItem (.ref a) u r) Q E s := by
  rcases g with ⟨kvs, k, e, ey, l, eH⟩ | ⟨kvs, k, b, e, ey, eb, l, eH⟩
  · subst ey eH
    obtain ⟨z, hd, vs, rel, dd⟩ := dk_of I.hok e
    have hz : vs.length ≤ sizeLine := by rw [← rel.length]; exact z
    have hl : (putK kvs k v).length ≤ sizeLine := by have := length_putK kvs k v; omega
    refine wpAny_setItem_pairs (hsz := hz) (kV_is ry) dd fun h' dd' hs => h _ ?_
    have he : ∃ q, h'.get? a = some q := let ⟨q, _, _, hq, _⟩ := dd'; ⟨q, hq⟩
    exact d_write I (by rw [e]; exact True.intro) hs he (dk_new hl hd (rel.put k rv) dd')
  · subst ey eH
    cases (show u = Value.ref b from ry)
    obtain ⟨z, hd, xs, rel, dd⟩ := dt_of I.hok e
    have hz : xs.length ≤ sizeLine := by rw [← Paired.length rel]; exact z
    have hl : (putK kvs k v).length ≤ sizeLine := by have := length_putK kvs k v; omega
    refine wpAny_setItem_heap (hsz := hz) (tupleKind_room_in1 hu) (key_of I.hok eb) dd fun h' dd' hs => h _ ?_
    obtain ⟨q, es, ep, hq, h2, h3, h4, _, h5⟩ := dd'
    refine d_write I (by rw [e]; exact True.intro) hs ⟨q, hq⟩ ⟨hl, hd, _, (rel.put k eb rv).keeps fun c ys ec => ?_, q, es, ep, hq, h2, h3, h4, h5⟩
    rw [upd_ne (ne_of ec e (fun z => nomatch z))]
    exact ec
end

section
variable {X : Cx} {pins : List (Addr × Obj)} {σ : St} {H : Hp} {s : Shared} {a : Addr} {kvs : List (Key × V)} {k : Key} {u : Value} {A : Around} {E : Value → Shared → Prop}
/-- del d[k] -/
theorem d_delItem {Q : Unit → Shared → Prop} (I : Inv X pins σ H s) (e : H a = some (.dK kvs)) (ry : RelV (kV k) u) (l : (valV kvs k).isSome = true) (h : ∀ s', Inv X pins σ (upd H a (.dK (dropK kvs k))) s' → Q () s') :
    wpAny (model X.prog X.w) A (delItem (.ref a) u) Q E s := by
  obtain ⟨z, hd, vs, rel, dd⟩ := dk_of I.hok e
  refine wpAny_delItem_slot dd.typeIs (by decide) PySem.F.slot_dict_delitem
    (call_meetsIn PySem.F.slot_dict_delitem dd.typeIs PySem.F.entry_dict_delitem (PySem.F.args_dict_delitem_2 _ _) (meets_dict_delitem_pairs (mixKind X.prog X.w) a (kV_is ry)) ⟨vs, dd, by rw [← rel.length]; exact z, by rw [← (rel.val k).isSome_eq]; exact l, fun h' dd' hs => h _ ?_⟩)
  have he : ∃ q, h'.get? a = some q := let ⟨q, _, _, hq, _⟩ := dd'; ⟨q, hq⟩
  exact d_write I (by rw [e]; exact True.intro) hs he (dk_new (Nat.le_trans (dropK_le kvs k) z) hd (rel.drop k) dd')
/-- d.pop(k[, x]), there -/
theorem d_pop {v : V} {more : List Value} {Q : Value → Shared → Prop} (I : Inv X pins σ H s) (e : H a = some (.dK kvs)) (ry : RelV (kV k) u) (l : valV kvs k = some v) (hm : more = [] ∨ ∃ x, more = [x])
    (h : ∀ w' s', Inv X pins σ (upd H a (.dK (dropK kvs k))) s' → RelV v w' → Q w' s') : wpAny (model X.prog X.w) A (call (.builtin "dict.pop") (.ref a :: u :: more)) Q E s := by
  obtain ⟨z, hd, vs, rel, dd⟩ := dk_of I.hok e
  obtain ⟨w', hw, rw'⟩ := RelO.some_of (v := v) (o := valueAt vs k) (by rw [← l]; exact rel.val k)
  have hp : (keyPart u).isSome = true := by
    cases k with
    | inl i => obtain ⟨t, q⟩ := (show ∃ t, u = Value.int i t from ry); subst q; rfl
    | inr x => obtain ⟨t, q⟩ := (show ∃ t, u = Value.str x t from ry); subst q; rfl
  have ha : argsOk "dict.pop" ⟨.ref a :: u :: more, []⟩ := by
    rcases hm with q | ⟨x, q⟩
    · subst q; exact PySem.F.args_dict_pop_2 _ _
    · subst q; exact PySem.F.args_dict_pop_3 _ _ _
  refine call_meetsIn PySem.F.slot_dict_pop dd.typeIs PySem.F.entry_dict_pop ha (meets_dict_pop_there (mixKind X.prog X.w) a (kV_is ry) more hm hp)
    ⟨vs, w', dd, by rw [← rel.length]; exact z, hw, fun h' dd' hs => h w' _ ?_ rw'⟩
  have he : ∃ q, h'.get? a = some q := let ⟨q, _, _, hq, _⟩ := dd'; ⟨q, hq⟩
  exact d_write I (by rw [e]; exact True.intro) hs he (dk_new (Nat.le_trans (dropK_le kvs k) z) hd (rel.drop k) dd')
/-- d.pop(k, x), not there -/
theorem d_popD {r : Value} {Q : Value → Shared → Prop} (I : Inv X pins σ H s) (e : H a = some (.dK kvs)) (ry : RelV (kV k) u) (l : valV kvs k = none) (h : ∀ s', Inv X pins σ H s' → Q r s') :
    wpAny (model X.prog X.w) A (call (.builtin "dict.pop") [.ref a, u, r]) Q E s := by
  obtain ⟨z, hd, vs, rel, dd⟩ := dk_of I.hok e
  have hn : valueAt vs k = none := RelO.none_of (by rw [← l]; exact rel.val k)
  have hp : (keyPart u).isSome = true := by
    cases k with
    | inl i => obtain ⟨t, q⟩ := (show ∃ t, u = Value.int i t from ry); subst q; rfl
    | inr x => obtain ⟨t, q⟩ := (show ∃ t, u = Value.str x t from ry); subst q; rfl
  exact call_meetsIn PySem.F.slot_dict_pop dd.typeIs PySem.F.entry_dict_pop (PySem.F.args_dict_pop_3 _ _ _) (meets_dict_pop_default (mixKind X.prog X.w) a (kV_is ry) hd hp r) ⟨vs, dd, hn, h _ (I.tok _)⟩
/-- d.clear() -/
theorem d_clear {Q : Value → Shared → Prop} (I : Inv X pins σ H s) (e : H a = some (.dK kvs)) (h : ∀ s', Inv X pins σ (upd H a (.dK [])) s' → Q .none s') : wpAny (model X.prog X.w) A (call (.builtin "dict.clear") [.ref a]) Q E s := by
  obtain ⟨z, hd, vs, rel, dd⟩ := dk_of I.hok e
  refine call_meetsIn PySem.F.slot_dict_clear dd.typeIs PySem.F.entry_dict_clear (PySem.F.args_dict_clear_1 _) (meets_dict_clear (mixKind X.prog X.w) a) ⟨vs, dd, by rw [← rel.length]; exact z, fun h' dd' hs => h _ ?_⟩
  have he : ∃ q, h'.get? a = some q := let ⟨q, _, _, hq, _⟩ := dd'; ⟨q, hq⟩
  exact d_write (t' := s.toks) I (by rw [e]; exact True.intro) hs he (dk_new (Nat.zero_le _) hd .nil dd')
/-- len(d) -/
theorem d_len {Q : Value → Shared → Prop} (I : Inv X pins σ H s) (e : Rd H a (.dK kvs)) (h : ∀ t s', Inv X pins σ H s' → Q (.int kvs.length t) s') : wpAny (model X.prog X.w) A (call (.builtin "len") [.ref a]) Q E s := by
  obtain ⟨z, hd, vs, rel, dd⟩ := dk_rd I.hok e
  refine call_len_dict hd dd (by rw [← rel.length]; rw [sizeLine_eq] at z; omega) ?_
  rw [← rel.length]
  exact h _ _ (I.tok _)
/-- if d -/
theorem d_truth {Q : Bool → Shared → Prop} (I : Inv X pins σ H s) (e : Rd H a (.dK kvs)) (h : ∀ s', Inv X pins σ H s' → Q (!kvs.isEmpty) s') : wpAny (model X.prog X.w) A (truthy (.ref a)) Q E s := by
  obtain ⟨z, hd, vs, rel, dd⟩ := dk_rd I.hok e
  refine wpAny_truthy_dict hd dd (by rw [← rel.length]; rw [sizeLine_eq] at z; omega) ?_
  have q : kvs.isEmpty = vs.isEmpty := by cases rel <;> rfl
  rw [← q]
  exact h _ (I.tok _)
end


/-! ### readings and rules -/
/-- the element of a subscription, not a slice -/
def NoSl (i : Expr) : Prop := ∀ ov iv, subscripted i false ov iv = operate [ov, iv] (getItem ov iv)
theorem subD_of {prog : Program} {w : World} {A : Around} {E : Value → Shared → Prop} {s : Shared} {env : Env} {value slice : Expr} {pos : Pos} {T id : String} {Q : Value → Shared → Prop}
    (hl : typeLookup (.type T) "__getitem__" = pure (some (.builtin id))) (hs : NoSl slice)
    (h : wpAny (model prog w) A (eval value env) (fun o s₁ => wpAny (model prog w) A (eval slice env) (fun i s₂ => s₂.TypeIs o T ∧ wpAny (model prog w) A (getItem o i) Q E s₂) E s₁) E s) :
    wpAny (model prog w) A (eval (.Subscript value slice pos) env) Q E s := by
  refine Subscript_ (wpAny_mono h (fun o s₁ h₁ => wpAny_mono h₁ (fun i s₂ h₂ => ?_) fun _ _ x => x) fun _ _ x => x)
  obtain ⟨hT, h₂⟩ := h₂
  unfold subscriptTail
  refine wpAny_bind ?_
  rw [getitemInPython_of_ne hT.not_modules]
  refine wpAny_bind (wpAny_specialOf hT hl ?_)
  have fin : wpAny (model prog w) A (subscripted slice false o i) (fun r s₃ => wpAny (model prog w) A (letTemporaryGo value o r >>= fun _ => pure r) Q E s₃) E s₂ := by
    rw [hs o i]
    exact wpAny_operating (wpAny_mono h₂ (fun r s₃ h₃ => wpAny_bind (wpAny_letTemporaryGo (wpAny_pure h₃))) fun _ _ x => x)
  first
    | exact wpAny_pure (wpAny_bind fin)
    | exact wpAny_bind (wpAny_pure (wpAny_bind fin))
    | exact wpAny_bind fin

theorem dict_typeIs {X : Cx} {pins : List (Addr × Obj)} {σ : St} {H : Hp} {s : Shared} {a : Addr} {y : V} {o : Option V} (I : Inv X pins σ H s) (g : DGet H a y o) : s.TypeIs (.ref a) "dict" := by
  rcases g with ⟨kvs, k, e, _, _⟩ | ⟨kvs, k, b, e, _, _, _⟩
  · obtain ⟨_, _, vs, _, dd⟩ := dk_rd I.hok e
    exact dd.typeIs
  · obtain ⟨_, _, xs, _, dd⟩ := dt_rd I.hok e
    exact dd.typeIs
theorem dict_noDict {X : Cx} {pins : List (Addr × Obj)} {σ : St} {H : Hp} {s : Shared} {a : Addr} {y : V} {o : Option V} (I : Inv X pins σ H s) (g : DGet H a y o) :
    ∀ b, Value.ref a = .ref b → ∃ ob, s.heap.get? b = some ob ∧ ob.dict = none := fun b q => by
  cases q
  rcases g with ⟨kvs, k, e, _, _⟩ | ⟨kvs, k, b, e, _, _, _⟩
  · obtain ⟨_, _, vs, _, ob, _, _, h1, h2, _⟩ := dk_rd I.hok e
    exact ⟨ob, h1, h2.2.1⟩
  · obtain ⟨_, _, xs, _, ob, _, _, h1, h2, _⟩ := dt_rd I.hok e
    exact ⟨ob, h1, h2.2.1⟩

/-- d[y] -/
def tDGet (td ty : TE) : TE := fun σ H Q => td σ H fun x H1 => ty σ H1 fun y H2 => ∃ a v, x = .ref a ∧ DGet H2 a y (some v) ∧ Q v H2
/-- y in d, y not in d -/
def tDIn (ty td : TE) : TE := fun σ H Q => ty σ H fun y H1 => td σ H1 fun x H2 => ∃ a o, x = .ref a ∧ DGet H2 a y o ∧ Q (.bl o.isSome) H2
def tDNotIn (ty td : TE) : TE := fun σ H Q => ty σ H fun y H1 => td σ H1 fun x H2 => ∃ a o, x = .ref a ∧ DGet H2 a y o ∧ Q (.bl (!o.isSome)) H2
/-- d[y] = v -/
def sDPut (td ty tv : TE) : TS := fun D σ H => tv σ H fun v H1 => td σ H1 fun x H2 => ty σ H2 fun y H3 => ∃ a H4, x = .ref a ∧ DPut H3 a y v H4 ∧ D.nx σ H4
/-- d[y] op= v -/
def sDAug (td ty tv : TE) (rd : V → V → Hp → VK → Prop) : TS := fun D σ H => td σ H fun x H1 => ty σ H1 fun y H2 => ∃ a v, x = .ref a ∧ DGet H2 a y (some v) ∧
  tv σ H2 fun y2 H3 => rd v y2 H3 fun z H4 => ∃ H5, DPut H4 a y z H5 ∧ D.nx σ H5
/-- del d[y] -/
def sDDel (td ty : TE) : TS := fun D σ H => td σ H fun x H1 => ty σ H1 fun y H2 => ∃ a kvs k, x = .ref a ∧ H2 a = some (.dK kvs) ∧ y = kV k ∧ (valV kvs k).isSome = true ∧ D.nx σ (upd H2 a (.dK (dropK kvs k)))

section
variable {X : Cx} {o i e value : Expr} {pos pos' tpos : Pos} {td ty tv : TE}
theorem pe_dget (hu : X.A.units + 1 < cLine) (ho : PE X o td) (hi : PE X i ty) (hs : NoSl i) : PE X (.Subscript o i pos) (tDGet td ty) := by
  intro pins s σ H Q I h
  refine subD_of PySem.F.slot_dict_getitem.lookup hs (thn (ho pins s σ H _ I h) fun u s1 ⟨x, H1, I1, rx, q1⟩ => thn (hi pins s1 σ H1 _ I1 q1) fun iv s2 ⟨y, H2, I2, ry, a, v, ex, g, q2⟩ => ?_)
  subst ex
  obtain rfl : u = Value.ref a := rx
  exact ⟨dict_typeIs I2 g, d_getItem hu I2 g ry fun w' s3 I3 rw' => ⟨v, H2, I3, rw', q2⟩⟩
theorem pc_din (hu : X.A.units + 1 < cLine) (hi : PE X i ty) (ho : PE X o td) : PC X .In i o (tDIn ty td) := by
  intro pins s σ H Q I h
  refine thn (hi pins s σ H _ I h) fun iv s1 ⟨y, H1, I1, ry, q1⟩ => thn (ho pins s1 σ H1 _ I1 q1) fun u s2 ⟨x, H2, I2, rx, a, ov, ex, g, q2⟩ => ?_
  subst ex
  obtain rfl : u = Value.ref a := rx
  exact d_in hu I2 g ry fun s3 I3 => ⟨.bl ov.isSome, H2, I3, rfl, q2⟩
theorem pc_dnotin (hu : X.A.units + 1 < cLine) (hi : PE X i ty) (ho : PE X o td) : PC X .NotIn i o (tDNotIn ty td) := by
  intro pins s σ H Q I h
  refine thn (hi pins s σ H _ I h) fun iv s1 ⟨y, H1, I1, ry, q1⟩ => thn (ho pins s1 σ H1 _ I1 q1) fun u s2 ⟨x, H2, I2, rx, a, ov, ex, g, q2⟩ => ?_
  subst ex
  obtain rfl : u = Value.ref a := rx
  exact d_notIn hu I2 g ry fun s3 I3 => ⟨.bl (!ov.isSome), H2, I3, rfl, q2⟩
theorem ps_dput (hu : X.A.units + 1 < cLine) (ho : PE X o td) (hi : PE X i ty) (hv : PE X value tv) (hs : swapsWith value (some (.Subscript o i pos')) pos.line X.env = pure false) :
    PS X (.Assign [.Subscript o i pos'] value pos) (sDPut td ty tv) := by
  intro pins s σ H D I h
  refine wpAny_Assign_Subscript (thn (hv pins s σ H _ I h) fun r s1 ⟨v, H1, I1, rv, q1⟩ => thn (ho pins s1 σ H1 _ I1 q1) fun u s2 ⟨x, H2, I2, rx, q2⟩ => thn (hi pins s2 σ H2 _ I2 q2) fun iv s3 ⟨y, H3, I3, ry, a, H4, ex, g, q3⟩ => ?_) hs
  subst ex
  obtain rfl : u = Value.ref a := rx
  exact d_setItem hu I3 g ry rv fun s4 I4 => ⟨σ, H4, I4, q3⟩
theorem ps_daug {op : Operator} {rd : V → V → Hp → VK → Prop} (hu : X.A.units + 1 < cLine) (ho : PE X o td) (hi : PE X i ty) (hv : PE X value tv) (hop : InOp X op rd)
    (ha : ∀ ov iv new, augStore i ov iv new = (do holding [new, ov, iv] (setItem ov iv new); release [new, ov, iv] []; pure .next)) : PS X (.AugAssign (.Subscript o i tpos) op value pos) (sDAug td ty tv rd) := by
  intro pins s σ H D I h
  refine wpAny_AugAssign_SubscriptAny (thn (ho pins s σ H _ I h) fun u s1 ⟨x, H1, I1, rx, q1⟩ => thn (hi pins s1 σ H1 _ I1 q1) fun iv s2 ⟨y, H2, I2, ry, a, v, ex, g, q2⟩ => ?_) ha
  subst ex
  obtain rfl : u = Value.ref a := rx
  refine d_getItem hu I2 g ry fun w' s3 I3 rw' => thn (hv pins s3 σ H2 _ I3 q2) fun w2 s4 ⟨y2, H3, I4, ry2, q3⟩ => thn (hop pins s4 σ H3 v y2 w' w2 _ I4 rw' ry2 q3) fun w3 s5 ⟨z, H4, I5, rz, H5, g5, q4⟩ => ?_
  exact d_setItem hu I5 g5 ry rz fun s6 I6 => ⟨σ, H5, I6, q4⟩
theorem ps_ddel (ho : PE X o td) (hi : PE X i ty) : PS X (.Delete [.Subscript o i tpos] pos) (sDDel td ty) := by
  intro pins s σ H D I h
  refine wpAny_Delete (wpAny_deleteEach_cons (wpAny_delete_Subscript (thn (ho pins s σ H _ I h) fun u s1 ⟨x, H1, I1, rx, q1⟩ => thn (hi pins s1 σ H1 _ I1 q1) fun iv s2 ⟨y, H2, I2, ry, a, kvs, k, ex, e, ey, l, q2⟩ => ?_)))
  subst ex ey
  obtain rfl : u = Value.ref a := rx
  exact d_delItem I2 e ry l fun s3 I3 => wpAny_deleteEach_nil ⟨σ, _, I3, q2⟩
end


/-! ### displays -/
theorem dk_empty {P : Program} {w : World} {H : Hp} (h : Heap) (hb : sysModules < h.objs.size) : ObjOk P w H (h.push { cls := .type "dict", data := .dict #[] }) h.objs.size (.dK []) :=
  ⟨Nat.zero_le _, beq_eq_false_iff_ne.mpr (Ne.symm (Nat.ne_of_lt hb)), [], .nil, Heap.DictOf.new h⟩
theorem dt_empty {P : Program} {w : World} {H : Hp} (h : Heap) (hb : sysModules < h.objs.size) : ObjOk P w H (h.push { cls := .type "dict", data := .dict #[] }) h.objs.size (.dT []) :=
  ⟨Nat.zero_le _, beq_eq_false_iff_ne.mpr (Ne.symm (Nat.ne_of_lt hb)), [], .nil, _, #[], 0, Heap.get?_push_size _ rfl, ⟨rfl, rfl, rfl⟩, rfl, rfl, List.nodup_nil⟩
/-- {}, to be a dict of the kind that is wanted -/
def tDNewK : TE := fun _ H Q => ∀ p, H p = none → Q (.ref p) (upd H p (.dK []))
def tDNewT : TE := fun _ H Q => ∀ p, H p = none → Q (.ref p) (upd H p (.dT []))
section
variable {X : Cx} {pos : Pos}
theorem pe_dnewK : PE X (.Dict [] [] pos) tDNewK := fun pins s σ H Q I h =>
  wpAny_Dict_empty ⟨.ref s.heap.objs.size, _, I.laid (a := s.heap.objs.size) (o := .dK []) (t' := s.toks) (fun _ _ q => Heap.get?_push_of_some _ q) (Nat.le_refl _) (dk_empty s.heap I.big), rfl, h _ (I.hok.fresh (Nat.le_refl _))⟩
theorem pe_dnewT : PE X (.Dict [] [] pos) tDNewT := fun pins s σ H Q I h =>
  wpAny_Dict_empty ⟨.ref s.heap.objs.size, _, I.laid (a := s.heap.objs.size) (o := .dT []) (t' := s.toks) (fun _ _ q => Heap.get?_push_of_some _ q) (Nat.le_refl _) (dt_empty s.heap I.big), rfl, h _ (I.hok.fresh (Nat.le_refl _))⟩
end

/-- the pairs of a display, from the left -/
def tPairs : List (TE × TE) → St → Hp → (List (V × V) → Hp → Prop) → Prop
  | [], _, H, Q => Q [] H
  | (tk, tv) :: r, σ, H, Q => tk σ H fun x H1 => tv σ H1 fun y H2 => tPairs r σ H2 fun ps H3 => Q ((x, y) :: ps) H3
abbrev VV : List (V × V) → List (Value × Value) → Prop := Paired fun p q => RelV p.1 q.1 ∧ RelV p.2 q.2
def PPs (X : Cx) (pos : Pos) (keys : List (Option Expr)) (values : List Expr) (trs : List (TE × TE)) : Prop :=
  ∀ (pins : List (Addr × Obj)) (s : Shared) (σ : St) (H : Hp) (Q : List (V × V) → Hp → Prop), Inv X pins σ H s → tPairs trs σ H Q →
    wpAny (model X.prog X.w) X.A (evalPairs (pairTrees keys values X.env pos)) (fun vs s' => ∃ ps H', Inv X pins σ H' s' ∧ VV ps vs ∧ Q ps H') X.xe s
theorem pps_nil {X : Cx} {pos : Pos} : PPs X pos [] [] [] := fun pins s σ H Q I h => pairTrees_nil_walk ⟨[], H, I, .nil, h⟩
theorem pps_cons {X : Cx} {pos : Pos} {k v : Expr} {ks : List (Option Expr)} {vs : List Expr} {tk tv : TE} {trs : List (TE × TE)} (hk : PE X k tk) (hv : PE X v tv) (hr : PPs X pos ks vs trs) :
    PPs X pos (some k :: ks) (v :: vs) ((tk, tv) :: trs) := fun pins s σ H Q I h =>
  pairTrees_cons_walk (thn (hk pins s σ H _ I h) fun u s1 ⟨x, H1, I1, rx, q1⟩ => thn (hv pins s1 σ H1 _ I1 q1) fun w2 s2 ⟨y, H2, I2, ry, q2⟩ =>
    thn (hr pins s2 σ H2 _ I2 q2) fun ws s3 ⟨ps, H3, I3, rel, q3⟩ => ⟨(x, y) :: ps, H3, I3, .cons ⟨rx, ry⟩ rel, q3⟩)

def mergeK (kvs more : List (Key × V)) : List (Key × V) := more.foldl (fun acc kv => putK acc kv.1 kv.2) kvs
theorem KV.merge : ∀ {more : List (Key × V)} {rs : List (Key × Value)} {kvs : List (Key × V)} {vs : List (Key × Value)}, KV more rs → KV kvs vs → KV (mergeK kvs more) (merged vs rs) := by
  intro more rs kvs vs r
  unfold KV at r
  induction r generalizing kvs vs with
  | nil => intro q; exact q
  | @cons p q ps qs h t ih =>
    intro r0
    have e : KV (putK kvs p.1 p.2) (stored vs q.1 q.2) := by
      have := r0.put p.1 h.2
      rw [← h.1]; exact this
    exact ih e
theorem length_mergeK : ∀ (more kvs : List (Key × V)), (mergeK kvs more).length ≤ kvs.length + more.length
  | [], kvs => by show kvs.length ≤ kvs.length + 0; omega
  | p :: r, kvs => by
    have h1 := length_mergeK r (putK kvs p.1 p.2)
    have h2 := length_putK kvs p.1 p.2
    show (mergeK (putK kvs p.1 p.2) r).length ≤ _
    rw [List.length_cons]; omega
theorem carries_of {P : Program} {w : World} : ∀ {kvs : List (Key × V)} {ws : List (Value × Value)}, VV (kvs.map fun kv => (kV kv.1, kv.2)) ws → ∃ rs, Carries (mixKind P w) ws rs ∧ KV kvs rs
  | [], _, r => by rw [List.map_nil] at r; cases r; exact ⟨[], True.intro, .nil⟩
  | p :: kvs, _, r => by
    rw [List.map_cons] at r
    cases r with
    | @cons a b as bs h t =>
      obtain ⟨rs, c, q⟩ := carries_of (P := P) (w := w) t
      obtain ⟨b1, b2⟩ := b
      exact ⟨(p.1, b2) :: rs, ⟨kV_is h.1, rfl, c⟩, .cons ⟨rfl, h.2⟩ q⟩
/-- {k: v, ..} with keys ints and texts; the new dict stands empty while the pairs are made -/
def tDisp (trs : List (TE × TE)) : TE := fun σ H Q => ∀ p, H p = none → tPairs trs σ (upd H p (.dK [])) fun ps H2 => H2 p = some (.dK []) ∧ ∃ kvs : List (Key × V), ps = kvs.map (fun kv => (kV kv.1, kv.2)) ∧ kvs.length ≤ 15 ∧ Q (.ref p) (upd H2 p (.dK (mergeK [] kvs)))
theorem pe_disp {X : Cx} {pos : Pos} {keys : List (Option Expr)} {values : List Expr} {trs : List (TE × TE)} (h : PPs X pos keys values trs) (hall : keys.all (·.isSome) = true) (hl : keys.length = values.length) (h0 : keys ≠ [])
    (h15 : keys.length ≤ 15) : PE X (.Dict keys values pos) (tDisp trs) := by
  intro pins s σ H Q I q
  have hn := I.hok.fresh (Nat.le_refl s.heap.objs.size)
  have I1 := I.laid (a := s.heap.objs.size) (o := .dK []) (h' := s.heap.push { cls := .type "dict", data := .dict #[] }) (t' := s.toks) (fun _ _ q => Heap.get?_push_of_some _ q) (Nat.le_refl _) (dk_empty s.heap I.big)
  refine wpAny_Dict_walk (knd := mixKind X.prog X.w) hall hl h0 h15 (thn (h pins _ σ _ _ I1 (q _ hn)) fun ws s2 ⟨ps, H2, I2, rel, e, kvs, ep, lk, q2⟩ => ?_)
  subst ep
  obtain ⟨rs, c, rk⟩ := carries_of (P := X.prog) (w := X.w) rel
  obtain ⟨z, hd, vs0, r0, dd⟩ := dk_of I2.hok e
  cases r0
  refine ⟨rs, c, dd, fun h' dd' hs => ⟨.ref s.heap.objs.size, _, ?_, rfl, q2⟩⟩
  have hz : (mergeK [] kvs).length ≤ sizeLine := by
    have h1 := length_mergeK kvs []
    rw [List.length_nil] at h1
    rw [sizeLine_eq]; omega
  have he : ∃ q, h'.get? s.heap.objs.size = some q := let ⟨q, _, _, hq, _⟩ := dd'; ⟨q, hq⟩
  exact d_write I2 (by rw [e]; exact True.intro) hs he (dk_new hz hd (rk.merge .nil) dd')


/-! ### methods -/
/-- a method call o.m(e) of a built-in, with one argument: what must be seen of the text -/
structure M1 (X : Cx) (o : Expr) (m : Str) (apos : Pos) (e : Expr) (cpos : Pos) : Prop where
  base : attributeBase o m X.env (eval o X.env) = eval o X.env
  few : ((backTo cpos (starEach [e] X.env)).all (fun x => !x.1) && (backToKw cpos (keywordEach [] X.env)).all (fun x => x.1.isSome)
    && decide (([e] : List Expr).length + ([] : List Keyword).length + (if ([] : List Keyword).isEmpty then 0 else 1) < 30)) = true
  line : (apos.endLine == cpos.line) = true
  trees : backTo cpos (starEach [e] X.env) = [(false, eval e X.env)]
structure M2 (X : Cx) (o : Expr) (m : Str) (apos : Pos) (e f : Expr) (cpos : Pos) : Prop where
  base : attributeBase o m X.env (eval o X.env) = eval o X.env
  few : ((backTo cpos (starEach [e, f] X.env)).all (fun x => !x.1) && (backToKw cpos (keywordEach [] X.env)).all (fun x => x.1.isSome)
    && decide (([e, f] : List Expr).length + ([] : List Keyword).length + (if ([] : List Keyword).isEmpty then 0 else 1) < 30)) = true
  line : (apos.endLine == cpos.line) = true
  trees : backTo cpos (starEach [e, f] X.env) = [(false, eval e X.env), (false, eval f X.env)]

/-- a is a dict, whatever its keys -/
def IsD (H : Hp) (a : Addr) : Prop := (∃ kvs, Rd H a (.dK kvs)) ∨ ∃ kvs, Rd H a (.dT kvs)
theorem isD_at {X : Cx} {pins : List (Addr × Obj)} {σ : St} {H : Hp} {s : Shared} {a : Addr} (I : Inv X pins σ H s) (d : IsD H a) :
    s.TypeIs (.ref a) "dict" ∧ (∀ b, Value.ref a = .ref b → ∃ ob, s.heap.get? b = some ob ∧ ob.dict = none) ∧ (a == sysModules) = false := by
  rcases d with ⟨kvs, e⟩ | ⟨kvs, e⟩
  · obtain ⟨_, hd, vs, _, dd⟩ := dk_rd I.hok e
    refine ⟨dd.typeIs, fun b q => ?_, hd⟩
    cases q
    obtain ⟨ob, _, _, h1, h2, _⟩ := dd
    exact ⟨ob, h1, h2.2.1⟩
  · obtain ⟨_, hd, xs, _, dd⟩ := dt_rd I.hok e
    refine ⟨dd.typeIs, fun b q => ?_, hd⟩
    cases q
    obtain ⟨ob, _, _, h1, h2, _⟩ := dd
    exact ⟨ob, h1, h2.2.1⟩

section
variable {X : Cx} {pins : List (Addr × Obj)} {σ : St} {H : Hp} {s : Shared} {a : Addr} {y d : V} {u r : Value} {o : Option V} {A : Around} {E : Value → Shared → Prop}
/-- d.get(y) -/
theorem d_get1 {Q : Value → Shared → Prop} (hu : A.units + 1 < cLine) (I : Inv X pins σ H s) (g : DGet H a y o) (ry : RelV y u) (h : ∀ w' s', Inv X pins σ H s' → RelV (o.getD .non) w' → Q w' s') :
    wpAny (model X.prog X.w) A (call (.builtin "dict.get") [.ref a, u]) Q E s := by
  rcases g with ⟨kvs, k, e, ey, l⟩ | ⟨kvs, k, b, e, ey, eb, l⟩
  · subst ey
    obtain ⟨z, hd, vs, rel, dd⟩ := dk_rd I.hok e
    refine call_meetsIn PySem.F.slot_dict_get dd.typeIs PySem.F.entry_dict_get (PySem.F.args_dict_get_2 _ _) (meets_dict_get (mixKind X.prog X.w) a (kV_is ry) hd) ⟨_, dd.mapOf, h _ _ (I.tok _) ?_⟩
    rw [l]
    exact (rel.val k).getD rfl
  · subst ey
    cases (show u = Value.ref b from ry)
    obtain ⟨z, hd, xs, rel, dd⟩ := dt_rd I.hok e
    refine call_meetsIn PySem.F.slot_dict_get dd.typeIs PySem.F.entry_dict_get (PySem.F.args_dict_get_2 _ _) (meetsH_dict_get (tupleKind (mixKind X.prog X.w)) a b hd) ⟨tupleKind_room_in1 hu, k, xs, key_of I.hok eb, dd, h _ _ (I.tok _) ?_⟩
    rw [l]
    exact (rel.val k).getD rfl
/-- d.get(y, x) -/
theorem d_get2 {Q : Value → Shared → Prop} (hu : A.units + 1 < cLine) (I : Inv X pins σ H s) (g : DGet H a y o) (ry : RelV y u) (rd : RelV d r) (h : ∀ w' s', Inv X pins σ H s' → RelV (o.getD d) w' → Q w' s') :
    wpAny (model X.prog X.w) A (call (.builtin "dict.get") [.ref a, u, r]) Q E s := by
  rcases g with ⟨kvs, k, e, ey, l⟩ | ⟨kvs, k, b, e, ey, eb, l⟩
  · subst ey
    obtain ⟨z, hd, vs, rel, dd⟩ := dk_rd I.hok e
    refine call_meetsIn PySem.F.slot_dict_get dd.typeIs PySem.F.entry_dict_get (PySem.F.args_dict_get_3 _ _ _) (meets_dict_get_default (mixKind X.prog X.w) a (kV_is ry) hd r) ⟨_, dd.mapOf, h _ _ (I.tok _) ?_⟩
    rw [l]
    exact (rel.val k).getD rd
  · subst ey
    cases (show u = Value.ref b from ry)
    obtain ⟨z, hd, xs, rel, dd⟩ := dt_rd I.hok e
    refine call_meetsIn PySem.F.slot_dict_get dd.typeIs PySem.F.entry_dict_get (PySem.F.args_dict_get_3 _ _ _) (meetsH_dict_get_default (tupleKind (mixKind X.prog X.w)) a b hd r) ⟨tupleKind_room_in1 hu, k, xs, key_of I.hok eb, dd, h _ _ (I.tok _) ?_⟩
    rw [l]
    exact (rel.val k).getD rd
end

def tDGet1 (td ty : TE) : TE := fun σ H Q => td σ H fun x H1 => ∃ a, x = .ref a ∧ IsD H1 a ∧ ty σ H1 fun y H2 => ∃ o, DGet H2 a y o ∧ Q (o.getD .non) H2
def tDGet2 (td ty tx : TE) : TE := fun σ H Q => td σ H fun x H1 => ∃ a, x = .ref a ∧ IsD H1 a ∧ ty σ H1 fun y H2 => tx σ H2 fun z H3 => ∃ o, DGet H3 a y o ∧ Q (o.getD z) H3
/-- d.pop(k): there; d.pop(k, x): there or not -/
def tDPop1 (td ty : TE) : TE := fun σ H Q => td σ H fun x H1 => ∃ a, x = .ref a ∧ IsD H1 a ∧ ty σ H1 fun y H2 => ∃ kvs k v, H2 a = some (.dK kvs) ∧ y = kV k ∧ valV kvs k = some v ∧ Q v (upd H2 a (.dK (dropK kvs k)))
def tDPop2 (td ty tx : TE) : TE := fun σ H Q => td σ H fun x H1 => ∃ a, x = .ref a ∧ IsD H1 a ∧ ty σ H1 fun y H2 => tx σ H2 fun z H3 => ∃ kvs k, H3 a = some (.dK kvs) ∧ y = kV k ∧
  (∀ v, valV kvs k = some v → Q v (upd H3 a (.dK (dropK kvs k)))) ∧ (valV kvs k = none → Q z H3)
section
variable {X : Cx} {o e f : Expr} {apos cpos : Pos} {td ty tx : TE}
theorem pe_dget1 (hu : X.A.units + 1 < cLine) (ho : PE X o td) (he : PE X e ty) (m : M1 X o "get" apos e cpos) : PE X (.Call (.Attribute o "get" apos) [e] [] cpos) (tDGet1 td ty) := by
  intro pins s σ H Q I h
  refine wpAny_Call_method m.base m.few m.line PySem.F.plainAttrs_dict PySem.F.slot_dict_get PySem.F.type_dict_get (thn (ho pins s σ H _ I h) fun u s1 ⟨x, H1, I1, rx, a, ex, d, q1⟩ => ?_)
  subst ex
  obtain rfl : u = Value.ref a := rx
  obtain ⟨t1, t2, _⟩ := isD_at I1 d
  refine ⟨t1, t2, ?_⟩
  rw [m.trees]
  refine Calls.callWith_builtin rfl (Calls.evalArgs_plain (Calls.spliced_cons (thn (he pins s1 σ H1 _ I1 q1) fun iv s2 ⟨y, H2, I2, ry, ov, g, q2⟩ => Calls.spliced_nil ?_)))
  exact d_get1 hu I2 g ry fun w' s3 I3 rw' => ⟨_, H2, I3, rw', q2⟩
theorem pe_dget2 (hu : X.A.units + 1 < cLine) (ho : PE X o td) (he : PE X e ty) (hf : PE X f tx) (m : M2 X o "get" apos e f cpos) : PE X (.Call (.Attribute o "get" apos) [e, f] [] cpos) (tDGet2 td ty tx) := by
  intro pins s σ H Q I h
  refine wpAny_Call_method m.base m.few m.line PySem.F.plainAttrs_dict PySem.F.slot_dict_get PySem.F.type_dict_get (thn (ho pins s σ H _ I h) fun u s1 ⟨x, H1, I1, rx, a, ex, d, q1⟩ => ?_)
  subst ex
  obtain rfl : u = Value.ref a := rx
  obtain ⟨t1, t2, _⟩ := isD_at I1 d
  refine ⟨t1, t2, ?_⟩
  rw [m.trees]
  refine Calls.callWith_builtin rfl (Calls.evalArgs_plain (Calls.spliced_cons (thn (he pins s1 σ H1 _ I1 q1) fun iv s2 ⟨y, H2, I2, ry, q2⟩ =>
    Calls.spliced_cons (thn (hf pins s2 σ H2 _ I2 q2) fun fv s3 ⟨z, H3, I3, rz, ov, g, q3⟩ => Calls.spliced_nil ?_))))
  exact d_get2 hu I3 g ry rz fun w' s4 I4 rw' => ⟨_, H3, I4, rw', q3⟩
theorem pe_dpop1 (ho : PE X o td) (he : PE X e ty) (m : M1 X o "pop" apos e cpos) : PE X (.Call (.Attribute o "pop" apos) [e] [] cpos) (tDPop1 td ty) := by
  intro pins s σ H Q I h
  refine wpAny_Call_method m.base m.few m.line PySem.F.plainAttrs_dict PySem.F.slot_dict_pop PySem.F.type_dict_pop (thn (ho pins s σ H _ I h) fun u s1 ⟨x, H1, I1, rx, a, ex, d, q1⟩ => ?_)
  subst ex
  obtain rfl : u = Value.ref a := rx
  obtain ⟨t1, t2, _⟩ := isD_at I1 d
  refine ⟨t1, t2, ?_⟩
  rw [m.trees]
  refine Calls.callWith_builtin rfl (Calls.evalArgs_plain (Calls.spliced_cons (thn (he pins s1 σ H1 _ I1 q1) fun iv s2 ⟨y, H2, I2, ry, kvs, k, v, ea, ey, l, q2⟩ => Calls.spliced_nil ?_)))
  subst ey
  exact d_pop I2 ea ry l (.inl rfl) fun w' s3 I3 rw' => ⟨v, _, I3, rw', q2⟩
theorem pe_dpop2 (ho : PE X o td) (he : PE X e ty) (hf : PE X f tx) (m : M2 X o "pop" apos e f cpos) : PE X (.Call (.Attribute o "pop" apos) [e, f] [] cpos) (tDPop2 td ty tx) := by
  intro pins s σ H Q I h
  refine wpAny_Call_method m.base m.few m.line PySem.F.plainAttrs_dict PySem.F.slot_dict_pop PySem.F.type_dict_pop (thn (ho pins s σ H _ I h) fun u s1 ⟨x, H1, I1, rx, a, ex, d, q1⟩ => ?_)
  subst ex
  obtain rfl : u = Value.ref a := rx
  obtain ⟨t1, t2, _⟩ := isD_at I1 d
  refine ⟨t1, t2, ?_⟩
  rw [m.trees]
  refine Calls.callWith_builtin rfl (Calls.evalArgs_plain (Calls.spliced_cons (thn (he pins s1 σ H1 _ I1 q1) fun iv s2 ⟨y, H2, I2, ry, q2⟩ =>
    Calls.spliced_cons (thn (hf pins s2 σ H2 _ I2 q2) fun fv s3 ⟨z, H3, I3, rz, kvs, k, ea, ey, q3, q4⟩ => Calls.spliced_nil ?_))))
  subst ey
  cases l : valV kvs k with
  | some v => exact d_pop I3 ea ry l (.inr ⟨fv, rfl⟩) fun w' s4 I4 rw' => ⟨v, _, I4, rw', q3 v l⟩
  | none => exact d_popD I3 ea ry l fun s4 I4 => ⟨z, H3, I4, rz, q4 l⟩
end

/-! ### dict(d): a copy -/
section
variable {X : Cx} {pins : List (Addr × Obj)} {σ : St} {H : Hp} {s : Shared} {a : Addr} {kvs : List (Key × V)} {A : Around} {E : Value → Shared → Prop}
theorem d_copyOf {Q : Value → Shared → Prop} (I : Inv X pins σ H s) (e : Rd H a (.dK kvs)) (h : ∀ p s', H p = none → Inv X pins σ (upd H p (.dK kvs)) s' → Q (.ref p) s') : wpAny (model X.prog X.w) A (call (.type "dict") [.ref a]) Q E s := by
  obtain ⟨z, hd, vs, rel, dd⟩ := dk_rd I.hok e
  refine kt_call_dict hd dd (by rw [← rel.length]; exact z) fun h' dd' hs => ?_
  refine h _ _ (I.hok.fresh (Nat.le_refl _)) (I.laid (a := s.heap.objs.size) (o := .dK kvs) (t' := s.toks) (fun b q hq => ?_) (Nat.le_refl _) (dk_new z (beq_eq_false_iff_ne.mpr (Ne.symm (Nat.ne_of_lt I.big))) rel dd'))
  exact (hs.2 b (Nat.ne_of_lt (Heap.lt_size hq))).trans (Heap.get?_push_of_some _ hq)
end


section
variable {X : Cx} {pins : List (Addr × Obj)} {σ : St} {H : Hp} {s : Shared} {a : Addr} {y : V} {u : Value} {A : Around} {E : Value → Shared → Prop}
/-- d[y], not there: a KeyError -/
theorem d_missing {Q : Value → Shared → Prop} (hu : A.units + 1 < cLine) (hh : A.handled = none) (I : Inv X pins σ H s) (g : DGet H a y none) (ry : RelV y u)
    (h : ∀ h' e t', Heap.NewExc s.heap h' e "KeyError" → E (.ref e) { s with heap := h', toks := t' }) : wpAny (model X.prog X.w) A (getItem (.ref a) u) Q E s := by
  rcases g with ⟨kvs, k, e, ey, l⟩ | ⟨kvs, k, b, e, ey, eb, l⟩
  · subst ey
    obtain ⟨z, hd, vs, rel, dd⟩ := dk_rd I.hok e
    have hn : valueAt vs k = none := RelO.none_of (by rw [l]; exact rel.val k)
    exact wpAny_getItem_missing_of (kV_is ry) hd hh dd.mapOf hn fun h' ex ne => h h' ex _ ne
  · subst ey
    cases (show u = Value.ref b from ry)
    obtain ⟨z, hd, xs, rel, dd⟩ := dt_rd I.hok e
    have hn : (atKey xs k).map (·.2) = none := RelO.none_of (by rw [l]; exact rel.val k)
    exact wpAny_getItem_missing_heap (tupleKind_room_in1 hu) (key_of I.hok eb) hd hh dd (Option.map_eq_none_iff.mp hn) fun h' ex ne => h h' ex _ ne
end
end L2

namespace Att
open PySem PySem.W PySem.Calls PyProof.Rows

/-! ### the script -/
theorem ints_of_wellAll {P : Params} {h : Heap} : ∀ (ns : List Int) (vs : List Value), WellAll P h vs (ns.map WData.int) → IntsAre vs ns := by
  intro ns
  induction ns with
  | nil =>
    intro vs w
    rw [List.map_nil] at w
    cases w
    exact .nil
  | cons n ns ih =>
    intro vs w
    rw [List.map_cons] at w
    cases w with
    | cons a b =>
      cases a
      exact .cons _ _ (ih _ b)

theorem script_of {l : OpenLaw} {n : Nat} (hn : l.most = some n) {P : Params} {h : Heap} {args : List WData} {vals : List Value}
    (hpre : l.row.toRowW.claim.pre args = true) (hwl : WellAll P h vals args) :
    ∃ a vs ns, vals = [Value.ref a] ∧ args = [WData.list (ns.map WData.int)] ∧ h.get? a = some { cls := .type "list", data := .seq vs.toArray } ∧ IntsAre vs ns ∧ ns.length ≤ n := by
  have hsh : WShape.hasAll [] args [.list .int] = true := (pre_splitW hpre).1
  have hc : l.pre.holds [] { args := args } = true := (pre_splitW hpre).2
  obtain ⟨d, r, rfl, h1, h2⟩ := hasAllW_cons hsh
  obtain rfl := hasAllW_nil h2
  obtain ⟨xs, rfl, h3⟩ := hasW_list h1
  obtain ⟨ns, rfl⟩ := items_int h3
  have hlen : ns.length ≤ n := by
    unfold OpenLaw.pre at hc
    have h4 : (WTm.not (.lt (.lit (.int (n : Int))) (.len (.arg 0)))).holds [] { args := [.list (ns.map .int)] } = true := by
      have h4 := (holds_andW hc).1
      rw [hn] at h4
      exact h4
    have h5 := condW_of h4 (w_not (w_lt w_lit (w_len_list (w_arg rfl))))
    rw [List.length_map] at h5
    refine Nat.le_of_not_lt fun q => ?_
    have q' : (n : Int) < ((ns.length : Nat) : Int) := by omega
    first
      | (rw [decide_eq_true q'] at h5; exact absurd h5 (by decide))
      | (simp at h5; omega)
  cases hwl with
  | cons w1 w2 =>
    cases w2
    cases w1 with
    | list ho hall => exact ⟨_, _, ns, rfl, rfl, ho, ints_of_wellAll ns _ hall, hlen⟩

theorem post_true (l : OpenLaw) (args : List WData) : l.row.toRowW.claim.post args (.bool true) args = true :=
  postW_of (r := l.row.toRowW) (X := (true == true))
    (show WShape.has [] (.bool true) .bool = true by first | rfl | decide | simp [WShape.has, WShape.arms, WShape.armsAll])
    (show (WTm.eq .res (.lit (.bool true))).value [] { args := args, res := some (.bool true), after := args } = some (.bool (true == true)) from w_eq_bool (w_res rfl) w_lit) rfl

/-! ### the attachment: holds_open's last premise (the goal 'hc' behind k_head) from a wpAny of the law's body -/
theorem attach {l : OpenLaw} {n : Nat} {q : Program} {loose : List Str} {XP : (Str → Option Value) → Heap → Prop} {YP : World → Heap → Prop} {d : DefRec} {x : Str}
    (hn : l.most = some n) (hdf : d.params.defaults = [])
    (hbind : ∀ pm cd doc v : Value, bindArgs (docDef d.name d.params d.body d.scope pm cd doc) ⟨[v], []⟩ = pure [(x, v)])
    (hx : d.scope.names.lookup x = some .local ∨ d.scope.names.lookup x = some .cell)
    (hk : d.scope.kind = .function) (hco : d.scope.isCoroutine = false) (hgen : d.scope.isGenerator = false)
    (body : ∀ (w : World) (s₀ s₁ s : Shared) (mg mb : Str → Option Value) (fa : Addr) (o : Obj) (pm cd doc : Value) (a : Addr) (vs : List Value) (ns : List Int),
      Ground q loose [] XP w s₀ mg mb s₁.heap → YP w s₁.heap →
      s₁.heap.get? fa = some o → o.data = .func (docDef d.name d.params d.body d.scope pm cd doc) → s₁.heap.CodeRec cd d.name → mg d.name = some (.ref fa) →
      s₁.heap.get? a = some { cls := .type "list", data := .seq vs.toArray } → IntsAre vs ns → ns.length ≤ n →
      s.gens = #[] → s.os = s₁.os →
      Fr s₁.heap s₁.heap.objs.size s.heap (bindL (envOfC d.name d.scope s₁.heap.objs.size fa cd).kindOf [(x, .ref a)] fun _ => none) →
      Cl s₁.heap.objs.size (cellsFrom (s₁.heap.objs.size + 1) d.scope.names []) s.heap (bindC (envOfC d.name d.scope s₁.heap.objs.size fa cd).kindOf [(x, .ref a)] fun _ => none) →
      wpAny (model l.prog w) (callerA.deeper (envOfC d.name d.scope s₁.heap.objs.size fa cd)) (execs d.body (envOfC d.name d.scope s₁.heap.objs.size fa cd))
        (fun f s' => f = .ret (.bool true) ∧ OldK s₁.heap s'.heap ∧ s'.os = s₁.os ∧ AllBare s'.gens) (fun _ _ => False) s) :
    WalkO q loose XP YP l.row.toRowW d [] (fun f vs => PySem.call f vs) := by
  intro w s₀ s₁ mg mb G Y fa o pm cd doc dV kV ho hd hcd hD hmg hg args vals as hpre hlay hrd hwl hlo
  obtain rfl : dV = .none := Dflts.none hD hdf
  obtain rfl : kV = .none := Dflts.noKw hD
  obtain ⟨a, vs, ns, rfl, rfl, hobj, hints, hlen⟩ := script_of hn hpre hwl
  refine enter_call ?_
  refine call_cells_ret (o := o) (by rw [depth_caller]; decide) ho (fd_plain hd) G.T.nolimit hcd (hbind pm cd doc (.ref a)) (fun y hy => ?_) (fun h₁ tk F X => ?_) hco hgen hk
  · obtain rfl : y = (x, Value.ref a) := List.mem_singleton.mp hy
    rcases hx with e | e
    · exact .inl e
    · exact .inr ⟨e, cellsFrom_some _ _ _ (.inl e)⟩
  · refine wpAny_mono (body w s₀ s₁ { s₁ with heap := h₁, toks := tk } mg mb fa o pm cd doc a vs ns G Y ho (fd_plain hd) hcd hmg hobj hints hlen hg rfl F X) (fun f s' hq => ?_) (fun _ _ hq => hq)
    obtain ⟨rfl, h2, h3, h4⟩ := hq
    exact ⟨.inl ⟨.bool true, .bool true, [], rfl, fun _ => rfl, .bool true, post_true l _, fun _ => ⟨List.Pairwise.nil, fun _ hm => (nomatch hm)⟩⟩, h2, h3, h4⟩

/-- the same from a codeAny of the CALL (for a layer whose function contracts speak of calls) -/
theorem attach_call {l : OpenLaw} {n : Nat} {q : Program} {loose : List Str} {XP : (Str → Option Value) → Heap → Prop} {YP : World → Heap → Prop} {d : DefRec}
    (hn : l.most = some n) (hdf : d.params.defaults = [])
    (call : ∀ (w : World) (s₀ s₁ : Shared) (mg mb : Str → Option Value) (fa : Addr) (o : Obj) (pm cd doc : Value) (a : Addr) (vs : List Value) (ns : List Int),
      Ground q loose [] XP w s₀ mg mb s₁.heap → YP w s₁.heap →
      s₁.heap.get? fa = some o → o.data = .func (docDef d.name d.params d.body d.scope pm cd doc) → s₁.heap.CodeRec cd d.name → mg d.name = some (.ref fa) →
      s₁.heap.get? a = some { cls := .type "list", data := .seq vs.toArray } → IntsAre vs ns → ns.length ≤ n → s₁.gens = #[] →
      codeAny (model l.prog w) callerA (.call (.ref fa) ⟨[.ref a], []⟩) (fun r s' => r = .ok (.ret (.bool true)) ∧ OldK s₁.heap s'.heap ∧ s'.os = s₁.os ∧ AllBare s'.gens) s₁) :
    WalkO q loose XP YP l.row.toRowW d [] (fun f vs => PySem.call f vs) := by
  intro w s₀ s₁ mg mb G Y fa o pm cd doc dV kV ho hd hcd hD hmg hg args vals as hpre hlay hrd hwl hlo
  obtain rfl : dV = .none := Dflts.none hD hdf
  obtain rfl : kV = .none := Dflts.noKw hD
  obtain ⟨a, vs, ns, rfl, rfl, hobj, hints, hlen⟩ := script_of hn hpre hwl
  refine enter_call (codeAny_mono (call w s₀ s₁ mg mb fa o pm cd doc a vs ns G Y ho (fd_plain hd) hcd hmg hobj hints hlen hg) fun r s' hq => ?_)
  obtain ⟨rfl, h2, h3, h4⟩ := hq
  exact ⟨.inl ⟨.bool true, .bool true, [], rfl, fun _ => rfl, .bool true, post_true l _, fun _ => ⟨List.Pairwise.nil, fun _ hm => (nomatch hm)⟩⟩, h2, h3, h4⟩

/-- the same where the top left finished generators (o_head chose holds_openN): nothing may have changed at all and no generator may be left -/
theorem attachN {l : OpenLaw} {n : Nat} {q : Program} {loose : List Str} {XP : (Str → Option Value) → Heap → Prop} {YP : World → Heap → Prop} {d : DefRec} {x : Str}
    (hn : l.most = some n) (hdf : d.params.defaults = [])
    (hbind : ∀ pm cd doc v : Value, bindArgs (docDef d.name d.params d.body d.scope pm cd doc) ⟨[v], []⟩ = pure [(x, v)])
    (hx : d.scope.names.lookup x = some .local ∨ d.scope.names.lookup x = some .cell)
    (hk : d.scope.kind = .function) (hco : d.scope.isCoroutine = false) (hgen : d.scope.isGenerator = false)
    (body : ∀ (w : World) (s₀ s₁ s : Shared) (mg mb : Str → Option Value) (fa : Addr) (o : Obj) (pm cd doc : Value) (a : Addr) (vs : List Value) (ns : List Int),
      Ground q loose [] XP w s₀ mg mb s₁.heap → YP w s₁.heap →
      s₁.heap.get? fa = some o → o.data = .func (docDef d.name d.params d.body d.scope pm cd doc) → s₁.heap.CodeRec cd d.name → mg d.name = some (.ref fa) →
      s₁.heap.get? a = some { cls := .type "list", data := .seq vs.toArray } → IntsAre vs ns → ns.length ≤ n →
      s.gens = #[] → s.os = s₁.os →
      Fr s₁.heap s₁.heap.objs.size s.heap (bindL (envOfC d.name d.scope s₁.heap.objs.size fa cd).kindOf [(x, .ref a)] fun _ => none) →
      Cl s₁.heap.objs.size (cellsFrom (s₁.heap.objs.size + 1) d.scope.names []) s.heap (bindC (envOfC d.name d.scope s₁.heap.objs.size fa cd).kindOf [(x, .ref a)] fun _ => none) →
      wpAny (model l.prog w) (callerA.deeper (envOfC d.name d.scope s₁.heap.objs.size fa cd)) (execs d.body (envOfC d.name d.scope s₁.heap.objs.size fa cd))
        (fun f s' => f = .ret (.bool true) ∧ (∀ b o, s₁.heap.get? b = some o → s'.heap.get? b = some o) ∧ s'.os = s₁.os ∧ s'.gens = #[]) (fun _ _ => False) s) :
    WalkN q loose XP YP l.row.toRowW d [] (fun f vs => PySem.call f vs) := by
  intro w s₀ s₁ mg mb G Y fa o pm cd doc dV kV ho hd hcd hD hmg hg args vals as hpre hlay hrd hwl hlo
  obtain rfl : dV = .none := Dflts.none hD hdf
  obtain rfl : kV = .none := Dflts.noKw hD
  obtain ⟨a, vs, ns, rfl, rfl, hobj, hints, hlen⟩ := script_of hn hpre hwl
  refine enter_callW ?_
  refine call_cells_ret (o := o) (by rw [depth_caller]; decide) ho (fd_plain hd) G.T.nolimit hcd (hbind pm cd doc (.ref a)) (fun y hy => ?_) (fun h₁ tk F X => ?_) hco hgen hk
  · obtain rfl : y = (x, Value.ref a) := List.mem_singleton.mp hy
    rcases hx with e | e
    · exact .inl e
    · exact .inr ⟨e, cellsFrom_some _ _ _ (.inl e)⟩
  · refine wpAny_mono (body w s₀ s₁ { s₁ with heap := h₁, toks := tk } mg mb fa o pm cd doc a vs ns G Y ho (fd_plain hd) hcd hmg hobj hints hlen hg rfl F X) (fun f s' hq => ?_) (fun _ _ hq => hq)
    obtain ⟨rfl, h2, h3, h4⟩ := hq
    exact ⟨.inl ⟨.bool true, .bool true, [], rfl, fun _ => rfl, .bool true, post_true l _, fun _ => ⟨List.Pairwise.nil, fun _ hm => (nomatch hm)⟩⟩, h2, h3, h4⟩

/-! ### rules over ANY heap (no ledger) from facts about the written part K: the library's own take a ledger (News) for what they write -/
section
variable {prog : Program} {w : World} {A : Around} {E : Value → Shared → Prop} {s : Shared} {K : Frag}

/-- a def of the module, or a method (qual 'C.m'), entered: the frame is the next address; cells behind it -/
theorem call_fn {R : Result → Shared → Prop} {name qual : Str} {params : Arguments} {body : List Stmt} {scope : Scope} {dV kV doc pm cdv ct oc : Value} {an od : Option Addr} {osl : Array (Option Value)} {f : Addr} {args : Args} {binds : List (Str × Value)}
    (X : K.In s.heap) (hlim : s.heap.NoLimit) (ho : K.lookup f = some ⟨oc, od, .func (fnOf name qual params body scope dV kV doc pm an cdv ct), osl⟩) (hcd : codeIn K cdv qual = true) (hroom : A.depth < recursionLimit)
    (hbind : BindsTo s (fnOf name qual params body scope dV kV doc pm an cdv ct) args binds)
    (hkind : (binds.all fun y => scope.names.lookup y.1 == some .local || scope.names.lookup y.1 == some .cell) = true)
    (h : ∀ s₁, InCallC s s.heap.objs.size (bindL (envOfC qual scope s.heap.objs.size f cdv).kindOf binds fun _ => none) (cellsFrom (s.heap.objs.size + 1) scope.names [])
        (bindC (envOfC qual scope s.heap.objs.size f cdv).kindOf binds fun _ => none) s₁ →
      wpAny (model prog w) (A.deeper (envOfC qual scope s.heap.objs.size f cdv)) (execs body (envOfC qual scope s.heap.objs.size f cdv))
        (fun fl s' => R (.ok (.ret (match fl with | .ret v => v | _ => .none))) s')
        (fun e s' => wpAny (model prog w) (A.deeper (envOfC qual scope s.heap.objs.size f cdv)) (leaving (envOfC qual scope s.heap.objs.size f cdv) e) (fun _ s'' => R (.error e) s'') (fun e' s'' => R (.error e') s'') s') s₁)
    (hco : scope.isCoroutine = false) (hgen : scope.isGenerator = false) (hk : scope.kind = .function) : codeAny (model prog w) A (.call (.ref f) args) R s := by
  refine codeAny_call_function hroom (X _ _ ho) rfl hco hgen rfl (codeRec_of X hcd) (hbind _ _ _ _ ?_)
  refine wpAny_newFunctionEnv_cells hk (kindsX hkind _) fun env he s₁ x => ?_
  subst he
  exact ⟨hlim.keeps x.toInCall.keep, codeAny_func (h s₁ x)⟩

/-- C(..): dict at size, instance at size + 1, then __init__ -/
theorem make_obj {R : Result → Shared → Prop} {C fI : Addr} {rest : List Value} {kw : List (Str × Value)}
    (X : K.In s.heap) (hm : makesIn K C = true) (hi : findIn K (.ref C) "__init__" = some (some (.ref fI))) (hf : isFn K (.ref fI) = true)
    (h : codeAny (model prog w) (A.under (.builtin "type.__call__" ⟨.ref C :: rest, kw⟩)) (.call (.ref fI) ⟨.ref (s.heap.objs.size + 1) :: rest, kw⟩) (InitBack (s.heap.objs.size + 1) R)
      { s with heap := (s.heap.push emptyDict).push (instObj C s.heap.objs.size) }) : codeAny (model prog w) A (.call (.ref C) ⟨rest, kw⟩) R s := by
  obtain ⟨hh, g, d, t, os⟩ := s
  exact make_core (makes_of X hm) (looks_findIn X hi) (fun self => bind_fn X self (beq_iff_eq.mp hf)) (.inl rfl) h

/-- x.name where the instance's dict holds the name and the class does not -/
theorem get_field {x C : Addr} {ox : Obj} {es : List DictEntry} {n : Nat} {name : Str} {expr : Bool} {v : Value} {Q : Value → Shared → Prop}
    (X : K.In s.heap) (I : PySem.W.InstAt s.heap x ox C (some (dictOf es n))) (hg : plainGet K C name = true) (hh : hasDictIn K C = true) (ha : findIn K (.ref C) name = some none)
    (hl : getL name es = some (some v)) (hv : handedIn v = true) (h : Q v { s with toks := s.toks + 1 }) : wpAny (model prog w) A (getAttr (.ref x) name expr) Q E s :=
  get_value X I (plainGet_of hg).1 (findObj_own hh ha rfl hl) hv h

/-- x.m(..): the method found in the class -/
theorem get_method {x C f : Addr} {ox : Obj} {es : List DictEntry} {n : Nat} {name : Str} {pl : Sem Bool} {Q : Value × List Value → Shared → Prop}
    (X : K.In s.heap) (I : PySem.W.InstAt s.heap x ox C (some (dictOf es n))) (hg : plainGet K C name = true) (hf : findIn K (.ref C) name = some (some (.ref f))) (ht : isFn K (.ref f) = true)
    (hl : getL name es = some none) (h : Q (.ref f, [.ref x]) s) : wpAny (model prog w) A (getMethod (.ref x) name pl) Q E s :=
  method_fn X I (plainGet_of hg).1 (plainGet_of hg).2 hf (beq_iff_eq.mp ht) (by show (lookIn name (dictOf es n)).map _ = _; rw [lookIn_dict, hl]; rfl) h

/-! the whole heap as the ledger: makes every rule that writes through a ledger a rule over any heap -/
def noObjs (h : Heap) : Heap := { h with objs := #[] }
theorem noObjs_get (h : Heap) (b : Addr) : (noObjs h).get? b = none := by
  cases e : (noObjs h).get? b with
  | none => rfl
  | some o => exact absurd (Heap.lt_size e) (Nat.not_lt_zero _)
def ledger (h : Heap) (L d : Addr) : List (Addr × Obj) := (List.range h.objs.size).filterMap fun a => if a = L ∨ a = d then none else (h.get? a).map fun o => (a, o)
theorem mem_ledger {h : Heap} {L d a : Addr} {o : Obj} : (a, o) ∈ ledger h L d ↔ a ≠ L ∧ a ≠ d ∧ h.get? a = some o := by
  unfold ledger
  rw [List.mem_filterMap]
  constructor
  · rintro ⟨b, _, e⟩
    split at e
    · cases e
    · rename_i hb
      obtain ⟨o', ho, e'⟩ := Option.map_eq_some_iff.mp e
      cases e'
      exact ⟨fun q => hb (.inl q), fun q => hb (.inr q), ho⟩
  · rintro ⟨n1, n2, ho⟩
    refine ⟨a, List.mem_range.mpr (Heap.lt_size ho), ?_⟩
    rw [if_neg (show ¬ (a = L ∨ a = d) from fun q => q.elim n1 n2), ho] <;> rfl
theorem news_ledger {h : Heap} {L d : Addr} {od : Obj} (hne : d ≠ L) (ho : h.get? d = some od) : News (noObjs h) L h ([] ++ (d, od) :: ledger h L d) := by
  rintro ⟨a, o⟩ hp
  rcases List.mem_cons.mp hp with e | hp
  · cases e
    exact ⟨ho, hne, noObjs_get _ _⟩
  · obtain ⟨n1, n2, e⟩ := mem_ledger.mp hp
    exact ⟨e, n1, noObjs_get _ _⟩
theorem fr_all {h : Heap} {L : Addr} {m : Str → Option Value} (n : h.Ns L m) : Fr (noObjs h) L h m :=
  ⟨n, fun b o e => (by rw [noObjs_get] at e; cases e), Nat.zero_le _⟩
/-- Upd of the head entry (for append_K, setItem_K ..) -/
theorem upd_ledger {h : Heap} {L d : Addr} {o o' : Obj} : Upd d o o' ((d, o) :: ledger h L d) ((d, o') :: ledger h L d) :=
  .head fun ⟨_, _⟩ hp => (mem_ledger.mp hp).2.1

/-- x.name = v over any heap: L is any namespace of the heap (the frame's, say): its map stays, its object is not told; all else but the dict stays -/
theorem set_field {x C dx L : Addr} {ox : Obj} {m : Str → Option Value} {es es' : List DictEntry} {n n' : Nat} {name : Str} {v : Value} {Q : Unit → Shared → Prop}
    (X : K.In s.heap) (I : PySem.W.InstAt s.heap x ox C (some (dictOf es n))) (hd : ox.dict = some dx) (hL : s.heap.Ns L m) (hne : dx ≠ L)
    (hs : findIn K (.ref C) "__setattr__" = some (some (.builtin "object.__setattr__"))) (hp : plainOver K C = true) (ht : takerIn K C name = some none) (hh : hasDictIn K C = true) (hl : (getL name es).isSome = true)
    (e : (putL name (PyData.keyHash w.params name) (.str name (s.toks + 1)) v es, putN name es n) = (es', n')) (hz : es'.length ≤ 1000)
    (h : ∀ h' : Heap, h'.Ns L m → h'.get? dx = some (dictOf es' n') → (∀ b o, b ≠ dx → b ≠ L → s.heap.get? b = some o → h'.get? b = some o) → Q () { s with heap := h', toks := s.toks + 2 }) :
    wpAny (model prog w) A (setAttr (.ref x) name v) Q E s := by
  obtain ⟨e1, e2⟩ := Prod.mk.inj e
  have hdx : s.heap.get? dx = some (dictOf es n) := by
    have := I.dict
    rw [hd] at this
    exact this
  refine set_plain X I hs (osa_dict (s := { s with toks := s.toks + 1 }) (h₀ := noObjs s.heap) (L := L) (m := m) (od := dictOf es n) (od' := dictOf es' n') (es := es') (n := n') (pre := []) (post := ledger s.heap L dx)
    (fr_all hL) (news_ledger hne hdx) X I hd hp ht hh hl (fun _ q => nomatch q) (fun ⟨_, _⟩ q => (mem_ledger.mp q).2.1) (by rw [putName_dict, e1, e2]) rfl hz fun h' F' N' => ?_)
  exact h h' F'.ns (N'.get (List.Mem.head _)) fun b o n1 n2 ho => N'.get (List.Mem.tail _ (mem_ledger.mpr ⟨n2, n1, ho⟩))
end
end Att

namespace L2
open PySem PySem.Spec PyProof.Rows

theorem vals_ints : ∀ {vs : List Value} {ns : List Int}, IntsAre vs ns → Vals (ns.map V.int) vs
  | _, _, .nil => .nil
  | _, _, .cons n t h => .cons ⟨t, rfl⟩ (vals_ints h)

/-- nothing is tracked but the script, known to the object (or it is an object of the module) -/
def Only (H : Hp) : Prop := ∀ b, H b = none ∨ ∃ o xs, H b = some (.frz o (.lst xs))

/-- THE HEAD: the law's promise, at the heap behind the top. F, the promise of the law's def, may use that base is part of the heap (so K.In base, base.Ns mainGlobals mg stand in Mod) -/
theorem law_call {P : Program} {w : World} {K : PySem.W.Frag} {mg mb : Str → Option Value} {CX : CXT} {k : Nat} {fa a : Addr} {fd : FuncData} {x : Str} {sp : Sp} {s₁ : Shared} {vs : List Value} {ns : List Int}
    (KX : K.In s₁.heap) (hns : s₁.heap.Ns mainGlobals mg) (hb : s₁.heap.Ns builtinsNs mb) (hbb : ∀ x : Str, x ≠ "__name__" → mb x = bootBuiltins x) (hlim : s₁.heap.NoLimit) (hg : s₁.gens = #[])
    (ha : s₁.heap.get? a = some { cls := .type "list", data := .seq vs.toArray }) (hi : IntsAre vs ns) (hl : ns.length ≤ sizeLine) (hr : Room k callerA)
    (F : ∀ base : Heap, K.In base → base.Ns mainGlobals mg → FnOk P w K mg base CX k fa fd [x] sp) (hbind : ∀ (s : Shared) (u : Value), BindsTo s fd ⟨[u], []⟩ [(x, u)])
    (hsp : ∀ H : Hp, Only H → SqL K H a (ns.map V.int) → sp [.ref a] H (fun v _ => v = .bl true) fun _ _ _ => False)
    (hCX : ∀ H e s', CX [] H s₁ (fun _ _ _ => False) e s' → False) :
    codeAny (model P w) callerA (.call (.ref fa) ⟨[.ref a], []⟩) (fun r s' => r = .ok (.ret (.bool true)) ∧ OldK s₁.heap s'.heap ∧ s'.os = s₁.os ∧ AllBare s'.gens) s₁ := by
  have rv := vals_ints hi
  have lenV := hi.length
  -- from an abstract heap in which nothing but the script may be tracked
  have core : ∀ H : Hp, Only H → SqL K H a (ns.map V.int) → HOk P w H s₁.heap → (∀ b, H b ≠ none → b = a) → (H a ≠ none → K.lookup a = none) →
      codeAny (model P w) callerA (.call (.ref fa) ⟨[.ref a], []⟩) (fun r s' => r = .ok (.ret (.bool true)) ∧ OldK s₁.heap s'.heap ∧ s'.os = s₁.os ∧ AllBare s'.gens) s₁ := by
    intro H hO hS hok hA hK
    have base_of : ∀ {b : Addr} {o : Obj}, s₁.heap.get? b = some o → H b = none → (hidT s₁.heap H).get? b = some o := fun e n => hidT_get e n
    have noA : ∀ {b : Addr} {o : Obj} {es : Array DictEntry} {ep : Nat}, s₁.heap.get? b = some o → o.data = .dict es ep → H b = none := fun {b o es ep} e d => by
      cases q : H b with
      | none => rfl
      | some u =>
        have e' : b = a := hA b (by rw [q]; simp)
        subst e'
        rw [ha] at e; cases e
        have d' : Data.seq vs.toArray _ = Data.dict es ep := d
        cases d'
    have nsK : ∀ {b : Addr} {m : Str → Option Value}, s₁.heap.Ns b m → (hidT s₁.heap H).Ns b m := fun {b m} ⟨o, es, ep, e, d, r⟩ => ⟨o, es, ep, base_of e (noA e d), d, r⟩
    have hKb : K.In (hidT s₁.heap H) := fun b o e => base_of (KX b o e) (by
      cases q : H b with
      | none => rfl
      | some u =>
        have e' : b = a := hA b (by rw [q]; simp)
        subst e'
        rw [hK (by rw [q]; simp)] at e; cases e)
    have hM : Mod K mg (hidT s₁.heap H) := ⟨hKb, nsK hns, ⟨mb, nsK hb, hbb⟩, let ⟨mc, h1, h2⟩ := hlim; ⟨mc, nsK h1, h2⟩⟩
    have e0 : Env0 P w K mg (hidT s₁.heap H) callerA [] s₁ H := ⟨rfl, hM, fun b o e => of_hidT e, Nat.le_of_eq (hidT_size _ _), trivial, fun b hb => absurd (show b ∈ ([] : List Addr) from hb) (by simp), hok, .of_eq hg⟩
    refine codeAny_mono ((F _ hKb (nsK hns)).run callerA [] s₁ H ⟨[.ref a], []⟩ [.ref a] [.ref a] _ _ hr e0 (hbind s₁ (.ref a)) (.cons rfl .nil) (hsp H hO hS)) fun r s' h => ?_
    cases r with
    | error e => exact (hCX H e s' h).elim
    | ok fl =>
      cases fl with
      | next => exact False.elim h
      | brk => exact False.elim h
      | cont => exact False.elim h
      | ret u =>
        obtain ⟨v, H', os, bare, un, hok', r', q⟩ := h
        have q' : v = .bl true := q
        subst q'
        obtain rfl : u = Value.bool true := r'
        refine ⟨rfl, OldK.of_keep fun b o e => ?_, os, bare⟩
        cases q : H b with
        | none => exact un.keep b o e q (by intro z; exact absurd (show b ∈ ([] : List Addr) from z) (by simp)) (by simp)
        | some u =>
          rcases hO b with z | ⟨ob, xs, z⟩
          · rw [q] at z; cases z
          · have z2 := un.frzs b ob _ z
            obtain ⟨e1, _⟩ := hok b _ z
            obtain ⟨e2, _⟩ := hok' b _ z2
            rw [e] at e1; cases e1
            exact e2
  cases hk : K.lookup a with
  | some o =>
    -- the script is one of the module's own objects
    have e := KX a o hk
    rw [ha] at e
    cases e
    refine core (fun _ => none) (fun _ => .inl rfl) (.inr ⟨_, vs.toArray, _, hk, rfl, rfl, rfl, by rw [List.size_toArray, lenV]; exact hl, by simpa using rv⟩) (fun b u z => by have z' : (none : Option HO) = some u := z; cases z') (fun b z => absurd rfl z) fun z => absurd rfl z
  | none =>
    refine core (fun b => if b = a then some (.frz { cls := .type "list", data := .seq vs.toArray } (.lst (ns.map V.int))) else none) (fun b => ?_) (.inl (.inr ⟨{ cls := .type "list", data := .seq vs.toArray }, if_pos rfl⟩)) (fun b u z => ?_) (fun b z => ?_) fun _ => hk
    · by_cases hb : b = a
      · exact .inr ⟨_, _, if_pos hb⟩
      · exact .inl (if_neg hb)
    · by_cases hb : b = a
      · have z' := (if_pos hb).symm.trans z
        cases z'
        subst hb
        exact ⟨ha, by rw [List.length_map]; exact hl, vs, _, rv, ha⟩
      · have z' := (if_neg hb).symm.trans z
        cases z'
    · by_cases hb : b = a
      · exact hb
      · exact absurd (if_neg hb) z
end L2

namespace L2
open PySem PySem.Spec PyProof.Rows

abbrev KOf {K : PySem.W.Frag} {h : Heap} (_ : K.In h) : PySem.W.Frag := K

/-- the goal that k_head leaves (case hc), from the law's promise. F gives the function object fd (K's own) once, then the promise over every base -/
theorem walk_of {l : PySem.W.OpenLaw} {n k : Nat} {q : Program} {loose : List Str} {XP : (Str → Option Value) → Heap → Prop} {YP : World → Heap → Prop} {d : DefRec} {K : Params → PySem.W.Frag} {CX : World → CXT} {sp : World → Sp} {x : Str}
    (hn : l.most = some n) (hn2 : n ≤ sizeLine) (hdf : d.params.defaults = []) (hr : Room k callerA)
    (hY : ∀ (w : World) (h : Heap), YP w h → (K w.params).In h)
    (F : ∀ (w : World) (mg : Str → Option Value) (fa : Addr) (h : Heap), (K w.params).In h → h.Ns mainGlobals mg → mg d.name = some (.ref fa) →
      ∃ fd : FuncData, (∀ (s : Shared) (u : Value), BindsTo s fd ⟨[u], []⟩ [(x, u)]) ∧
        ∀ base : Heap, (K w.params).In base → base.Ns mainGlobals mg → FnOk l.prog w (K w.params) mg base (CX w) k fa fd [x] (sp w))
    (hsp : ∀ (w : World) (H : Hp) (a : Addr) (ns : List Int), ns.length ≤ n → Only H → SqL (K w.params) H a (ns.map V.int) → sp w [.ref a] H (fun v _ => v = .bl true) fun _ _ _ => False)
    (hCX : ∀ (w : World) (H : Hp) (s : Shared) (e : Value) (s' : Shared), CX w [] H s (fun _ _ _ => False) e s' → False) :
    PySem.W.WalkO q loose XP YP l.row.toRowW d [] (fun f vs => PySem.call f vs) := by
  refine Att.attach_call hn hdf fun w s₀ s₁ mg mb fa o pm cd doc a vs ns G Y ho hd hcd hmg hobj hints hlen hg => ?_
  have KX := hY w _ Y
  obtain ⟨fd, hb, hF⟩ := F w mg fa _ KX G.T.g hmg
  exact law_call KX G.T.g G.T.b G.T.builtins G.T.nolimit hg hobj hints (Nat.le_trans hlen hn2) hr hF hb (fun H hO hS => hsp w H a ns hlen hO hS) fun H e s' => hCX w H s₁ e s'
/-- the same where the promise hangs on the written part alone: (sp := My.sp_law), no hole under a binder -/
theorem walk_ofK {l : PySem.W.OpenLaw} {n k : Nat} {q : Program} {loose : List Str} {XP : (Str → Option Value) → Heap → Prop} {YP : World → Heap → Prop} {d : DefRec} {K : Params → PySem.W.Frag} {CX : CXT} {sp : PySem.W.Frag → Sp} {x : Str}
    (hn : l.most = some n) (hn2 : n ≤ sizeLine) (hdf : d.params.defaults = []) (hr : Room k callerA)
    (hY : ∀ (w : World) (h : Heap), YP w h → (K w.params).In h)
    (F : ∀ (w : World) (mg : Str → Option Value) (fa : Addr) (h : Heap), (K w.params).In h → h.Ns mainGlobals mg → mg d.name = some (.ref fa) →
      ∃ fd : FuncData, (∀ (s : Shared) (u : Value), BindsTo s fd ⟨[u], []⟩ [(x, u)]) ∧
        ∀ base : Heap, (K w.params).In base → base.Ns mainGlobals mg → FnOk l.prog w (K w.params) mg base CX k fa fd [x] (sp (K w.params)))
    (hsp : ∀ (K : PySem.W.Frag) (H : Hp) (a : Addr) (ns : List Int), ns.length ≤ n → Only H → SqL K H a (ns.map V.int) → sp K [.ref a] H (fun v _ => v = .bl true) fun _ _ _ => False)
    (hCX : ∀ (H : Hp) (s : Shared) (e : Value) (s' : Shared), CX [] H s (fun _ _ _ => False) e s' → False) :
    PySem.W.WalkO q loose XP YP l.row.toRowW d [] (fun f vs => PySem.call f vs) :=
  walk_of (K := K) (CX := fun _ => CX) (sp := fun w => sp (K w.params)) hn hn2 hdf hr hY F (fun w H a ns h1 h2 h3 => hsp (K w.params) H a ns h1 h2 h3) fun _ H s e s' => hCX H s e s'
end L2

/- THE LAST THEOREM (shape; LID, My.* are yours):
   My.Adr: a structure of the addresses that your layer names (classes, functions); My.Txt K t: a structure (Prop) of the equations over K;
   My.txt_mk : {K} {implicit addresses ..} (e1 : nsIn K mainGlobals "law" = some (some (.ref f))) (e2 : K.lookup f = some ⟨oc, od, .func (fnOf "law" "law" params body scope dV kV doc pm an cdv ct), sl⟩) (e3 : codeIn K cdv "law" = true) .. : ∃ t, My.Txt K t

set_option maxRecDepth 100000 in
set_option maxHeartbeats 0 in
theorem PySem.Challenge.cw_LID_holds : PySem.Challenge.rw_LID.Holds := by
  w_on; o_law; k_head; (case hw => w_witness2)
  k_fill
  refine L2.walk_of (l := PySem.Challenge.rw_LID) (n := 63) (k := 40) (x := "script") (CX := fun w => ..) (sp := fun _ => My.sp_law) rfl (by decide) rfl ⟨rfl, by decide, by decide⟩ (fun w h Y => PySem.W.kIn_of Y) ?F ?S ?C
  case F =>
    intro w mg fa h KX G hmg
    have T : ∃ t, My.Txt (L2.KOf KX) t := by
      dsimp only [L2.KOf]                          -- K must stand as «<heap const> w.params» for k_is
      refine' My.txt_mk ?e1 ?e2 ?e3 ..
      (case e1 => PySem.W.k_is)                    -- in the order: a name -> its address -> its object -> its parts
      (case e2 => PySem.W.k_is)
      ..
    obtain ⟨t, T⟩ := T
    have e0 := hmg.symm.trans (PySem.W.mg_of KX G T.law)
    cases e0                                       -- fa is the law's own address
    exact ⟨_, fun s u => .of_eq rfl, fun base kb nb => My.law_fn T kb nb⟩     -- if «.of_eq rfl» comes too early: refine' ⟨_, ?b, fun base kb nb => My.law_fn T kb nb⟩; exact fun s u => .of_eq rfl
  case S => exact fun w H a ns hl hO hS => ..
  case C => exact ..
(the tactic k_is has no namespace: write k_is) -/

/-! SHORT WORDS over the layer: a def of the text, its body, what a loop and a test want. -/
namespace L2
open PySem PySem.Spec PyProof.Rows

/-! ### the text by places -/
/-- the j-th statement of a class's body -/
def inClass (s : Stmt) (j : Nat) : Stmt := match s with
  | .ClassDef _ _ _ body _ _ _ _ _ _ _ => body.getD j (.Pass ⟨0, 0, 0, 0⟩)
  | _ => .Pass ⟨0, 0, 0, 0⟩
def defArgs (s : Stmt) : Arguments := match s with
  | .FunctionDef _ a _ _ _ _ _ _ _ _ => a
  | _ => { posonlyargs := [], args := [], vararg := none, kwonlyargs := [], kw_defaults := [], kwarg := none, defaults := [] }
def defBody (s : Stmt) : List Stmt := match s with
  | .FunctionDef _ _ b _ _ _ _ _ _ _ => b
  | _ => []
def defScope (s : Stmt) : Scope := match s with
  | .FunctionDef _ _ _ _ _ _ sc _ _ _ => sc
  | _ => { kind := .function, names := [], isGenerator := false, isCoroutine := false }

/-! ### no exception leaves a def -/
abbrev CX0 : CXT := fun _ _ _ _ _ _ => False
abbrev E0 : XK := fun _ _ _ => False
theorem pass0 {X : Cx} : Passes CX0 X E0 := fun _ _ _ _ _ _ _ h => h.elim

/-! ### a def (or method) of the text as it stands behind the top -/
structure Fun (K : PySem.W.Frag) (x qual : Str) (st : Stmt) (f : Addr) (fd : FuncData) : Prop where
  ex : ∃ (oc : Value) (od : Option Addr) (kV doc pm : Value) (an : Option Addr) (cdv ct : Value) (osl : Array (Option Value)),
    fd = PySem.W.fnOf x qual (defArgs st) (defBody st) (defScope st) .none kV doc pm an cdv ct ∧ K.lookup f = some ⟨oc, od, .func fd, osl⟩ ∧ PySem.W.codeIn K cdv qual = true
  kp : PySem.W.keepIn K (.ref f) = true
section
variable {P : Program} {w : World} {K : PySem.W.Frag} {mg : Str → Option Value} {base : Heap}
/-- THE RULE for a def: its body as a term of rules, and the reading of that term -/
theorem Fun.ok {x qual : Str} {st : Stmt} {f : Addr} {fd : FuncData} {N ps : List Str} {k : Nat} {sp : Sp} (hk : 50 ≤ k + 1) (F : Fun K x qual st f fd) (S : FnScope N ps (defScope st)) (len : ∀ vs H Q E, sp vs H Q E → vs.length = ps.length)
    (hbody : ∀ (cdv : Value) (A : Around) (outer : List Env) (s : Shared) (H : Hp) (vs : List V) (Q : VK) (E : XK), Room k (A.deeper (envOfC qual (defScope st) s.heap.objs.size f cdv)) → sp vs H Q E →
      ∃ t, PSs (cxOf true CX0 P w K mg base N qual (defScope st) f cdv A outer s H E).nox (defBody st) t ∧ t { nx := fun _ H' => Q .non H', rt := Q } (start N vs) H) : FnOk P w K mg base CX0 (k + 1) f fd ps sp := by
  obtain ⟨oc, od, kV, doc, pm, an, cdv, ct, osl, rfl, lk, hcd⟩ := F.ex
  refine fn_of (cm := true) lk hcd S len (fun _ => hk) fun A outer s H vs Q E hr hsp => ?_
  obtain ⟨t, h, q⟩ := hbody cdv A outer s H vs Q E hr hsp
  exact ⟨t, h.nox, q⟩
/-- how its arguments bind (no defaults): h is «fun _ _ _ _ _ _ us hl => match us, hl with | [_, _], _ => rfl», one _ a parameter -/
theorem Fun.binds {x qual : Str} {st : Stmt} {f : Addr} {fd : FuncData} {ps : List Str} (F : Fun K x qual st f fd)
    (h : ∀ (kV doc pm : Value) (an : Option Addr) (cdv ct : Value) (us : List Value), us.length = ps.length → bindArgs (PySem.W.fnOf x qual (defArgs st) (defBody st) (defScope st) .none kV doc pm an cdv ct) ⟨us, []⟩ = pure (ps.zip us)) : Binds K fd ps [] := by
  obtain ⟨oc, od, kV, doc, pm, an, cdv, ct, osl, rfl, lk, hcd⟩ := F.ex
  exact .all (h kV doc pm an cdv ct)
theorem fun_mk {x qual : Str} {st : Stmt} {f : Addr} {oc : Value} {od an : Option Addr} {osl : Array (Option Value)} {kV doc pm cdv ct : Value} (l : K.lookup f = some ⟨oc, od, .func (PySem.W.fnOf x qual (defArgs st) (defBody st) (defScope st) .none kV doc pm an cdv ct), osl⟩)
    (c : PySem.W.codeIn K cdv qual = true) (k : PySem.W.keepIn K (.ref f) = true) : Fun K x qual st f (PySem.W.fnOf x qual (defArgs st) (defBody st) (defScope st) .none kV doc pm an cdv ct) := ⟨⟨oc, od, kV, doc, pm, an, cdv, ct, osl, rfl, l, c⟩, k⟩
end
theorem hu_of {A : Around} {k : Nat} (hr : Room k A) : A.units + 1 < cLine := Nat.lt_of_le_of_lt (Nat.add_le_add_left (by decide : 1 ≤ 64) _) hr.units
theorem small1000 {n : Nat} (h : n ≤ 1000) : n < sizeLine := Nat.lt_of_le_of_lt h (by decide)

/-! ### expressions in short: the name that stands in the i-th slot -/
section
variable {X : Cx}
theorem pv (i : Nat) {x : Str} {pos : Pos} (hN : X.N[i]? = some x := by rfl) (hv : Vis X.env.scope x := by first | exact Or.inl rfl | exact Or.inr (Or.inl rfl) | exact Or.inr (Or.inr rfl)) (hd : (x == ("__debug__" : Str)) = false := by decide)
    (hcd : (x == ("__classdict__" : Str)) = false := by decide) : PE X (.Name x pos) (tVar i) := pe_var hN hv hd hcd
/-- len of a dict -/
theorem call_lenD : CallR X (.builtin "len") (fun xs H Q => ∃ a kvs, xs = [V.ref a] ∧ H a = some (.dK kvs) ∧ Q (.int kvs.length) H) := by
  intro pins s σ H xs us Q I r h
  obtain ⟨a, kvs, rfl, ha, q⟩ := h
  obtain ⟨u, rfl, ru⟩ := vals1 r
  cases ru
  exact d_len I (.inl ha) fun t s' I' => ⟨.int kvs.length, H, I', ⟨t, rfl⟩, q⟩
end

/-! ### tests -/
theorem iteF {A B : Prop} (h : B) : if false = true then A else B := by
  rw [if_neg Bool.false_ne_true]
  exact h
theorem iteT {A B : Prop} (h : A) : if true = true then A else B := by
  rw [if_pos rfl]
  exact h
theorem ite2 {c A B : Prop} [Decidable c] (h1 : c → A) (h2 : ¬ c → B) : if c then A else B := by
  by_cases h : c
  · rw [if_pos h]
    exact h1 h
  · rw [if_neg h]
    exact h2 h
theorem iteNS {c A B : Prop} [Decidable c] (hc : c) (h : B) : if (!decide c) = true then A else B := by
  rw [decide_eq_true hc]
  exact iteF h

/-! ### heaps -/
/-- all that was tracked is as it was -/
def Same (H H' : Hp) : Prop := ∀ b o, H b = some o → H' b = some o
theorem Same.refl (H : Hp) : Same H H := fun _ _ h => h
theorem Same.trans {H H1 H2 : Hp} (a : Same H H1) (b : Same H1 H2) : Same H H2 := fun c o h => b c o (a c o h)
theorem Same.free {H H' : Hp} (e : Same H H') {l : Addr} (h : H' l = Option.none) : H l = Option.none := by
  cases q : H l with
  | none => rfl
  | some o =>
    rw [e l o q] at h
    cases h
theorem Same.seq {K : PySem.W.Frag} {H H' : Hp} {a : Addr} {xs : List V} (e : Same H H') (h : SqL K H a xs) : SqL K H' a xs := by
  rcases h with (h | ⟨o, h⟩) | h
  · exact .inl (.inl (e _ _ h))
  · exact .inl (.inr ⟨o, e _ _ h⟩)
  · exact .inr h

/-! ### a dict's pairs: keys that differ -/
section
variable {κ : Type} [DecidableEq κ]
theorem valV_not {kvs : List (κ × V)} {k : κ} (h : valV kvs k = none) : ¬ k ∈ kvs.map (·.1) := by
  intro m
  obtain ⟨p, hp, e⟩ := List.mem_map.mp m
  have q : (kvs.any fun kv => decide (kv.1 = k)) = true := List.any_eq_true.mpr ⟨p, hp, decide_eq_true e⟩
  rw [valV_any, h] at q
  exact absurd q (by simp)
theorem valV_in {kvs : List (κ × V)} {k : κ} {v : V} (h : valV kvs k = some v) : k ∈ kvs.map (·.1) := by
  have q : (kvs.any fun kv => decide (kv.1 = k)) = true := by
    rw [valV_any, h]
    all_goals rfl
  obtain ⟨p, hp, e⟩ := List.any_eq_true.mp q
  exact List.mem_map.mpr ⟨p, hp, of_decide_eq_true e⟩
theorem nd_snoc : ∀ {l : List κ} {k : κ}, l.Nodup → ¬ k ∈ l → (l ++ [k]).Nodup
  | [], k, _, _ => by simp
  | a :: r, k, h, hk => by
    obtain ⟨h1, h2⟩ := List.nodup_cons.mp h
    show (a :: (r ++ [k])).Nodup
    refine List.nodup_cons.mpr ⟨fun m => ?_, nd_snoc h2 fun m => hk (List.mem_cons.mpr (Or.inr m))⟩
    rcases List.mem_append.mp m with q | q
    · exact h1 q
    · exact hk (List.mem_cons.mpr (Or.inl (List.mem_singleton.mp q).symm))
theorem nd_putK {kvs : List (κ × V)} {k : κ} (v : V) (hn : (kvs.map (·.1)).Nodup) (h : valV kvs k = none) : ((putK kvs k v).map (·.1)).Nodup := by
  rw [putK_new v h, List.map_append]
  exact nd_snoc hn (valV_not h)
theorem dropK_pos {p : κ × V} {r : List (κ × V)} {k : κ} (e : p.1 = k) : dropK (p :: r) k = dropK r k := by
  unfold dropK
  rw [List.filter_cons, if_neg (by simp [e])]
theorem dropK_neg {p : κ × V} {r : List (κ × V)} {k : κ} (e : ¬ p.1 = k) : dropK (p :: r) k = p :: dropK r k := by
  unfold dropK
  rw [List.filter_cons, if_pos (by simp [e])]
theorem dropK_no : ∀ {kvs : List (κ × V)} {k : κ}, ¬ k ∈ kvs.map (·.1) → dropK kvs k = kvs
  | [], _, _ => rfl
  | p :: r, k, h => by
    have h' : ¬ k ∈ r.map (·.1) := fun m => by
      obtain ⟨q, hq, e⟩ := List.mem_map.mp m
      exact h (List.mem_map.mpr ⟨q, List.mem_cons.mpr (Or.inr hq), e⟩)
    rw [dropK_neg fun e => h (List.mem_map.mpr ⟨p, List.mem_cons.mpr (Or.inl rfl), e⟩), dropK_no h']
theorem dropK_mem {kvs : List (κ × V)} {k : κ} {p : κ × V} (h : p ∈ dropK kvs k) : p ∈ kvs := (List.mem_filter.mp h).1
theorem nd_dropK : ∀ {kvs : List (κ × V)} {k : κ}, (kvs.map (·.1)).Nodup → ((dropK kvs k).map (·.1)).Nodup
  | [], _, _ => List.nodup_nil
  | p :: r, k, h => by
    have h : (p.1 :: r.map (·.1)).Nodup := h
    obtain ⟨h1, h2⟩ := List.nodup_cons.mp h
    by_cases e : p.1 = k
    · rw [dropK_pos e]
      exact nd_dropK h2
    · rw [dropK_neg e]
      show (p.1 :: (dropK r k).map (·.1)).Nodup
      refine List.nodup_cons.mpr ⟨fun m => h1 ?_, nd_dropK h2⟩
      obtain ⟨q, hq, eq⟩ := List.mem_map.mp m
      exact List.mem_map.mpr ⟨q, dropK_mem hq, eq⟩
theorem dropK_len : ∀ {kvs : List (κ × V)} {k : κ}, (kvs.map (·.1)).Nodup → k ∈ kvs.map (·.1) → (dropK kvs k).length + 1 = kvs.length
  | [], _, _, m => by simp at m
  | p :: r, k, h, m => by
    have h : (p.1 :: r.map (·.1)).Nodup := h
    have m : k = p.1 ∨ k ∈ r.map (·.1) := List.mem_cons.mp m
    obtain ⟨h1, h2⟩ := List.nodup_cons.mp h
    by_cases e : p.1 = k
    · subst e
      rw [dropK_pos rfl, dropK_no h1]
      all_goals rfl
    · have m' : k ∈ r.map (·.1) := m.resolve_left fun z => e z.symm
      have q := dropK_len h2 m'
      rw [dropK_neg e, List.length_cons, List.length_cons]
      omega
end
end L2

set_option Elab.async false
set_option linter.all false
set_option maxRecDepth 100000
namespace L2
open PySem PySem.Spec PyProof.Rows

/-! ### an exception's object, and what its way through frames turns -/
/-- an exception of the class cls, raised while nothing was handled -/
def Exc (h : Heap) (x : Addr) (cls : Value) : Prop := ∃ oe vs, h.get? x = some oe ∧ (oe.cls = cls ∧ oe.dict = none) ∧ oe.data = .fields vs ∧ vs[2]? = some .none
theorem dict_mapFields (o : Obj) (f : Array Value → Array Value) : (o.mapFields f).dict = o.dict := by
  obtain ⟨c, d, dt, sl⟩ := o
  cases dt <;> rfl
/-- .. with its newest record at T, in flight fl -/
structure ExT (h : Heap) (x : Addr) (cls : Value) (T : Addr) (fl : Value) : Prop where
  ex : ∃ oe vs, h.get? x = some oe ∧ (oe.cls = cls ∧ oe.dict = none) ∧ oe.data = .fields vs ∧ vs[1]? = some (.ref T) ∧ vs[2]? = some .none
  ne : T ≠ x
  tb : ∃ oT ts, h.get? T = some oT ∧ oT.data = .fields ts ∧ ts[3]? = some fl
theorem ExT.exc {h : Heap} {x : Addr} {cls : Value} {T : Addr} {fl : Value} (X : ExT h x cls T fl) : Exc h x cls := by
  obtain ⟨oe, vs, a, b, c, _, d⟩ := X.ex
  exact ⟨oe, vs, a, b, c, d⟩
/-- all but the records at r stays; the frames at fs up to their slots -/
structure Stays (fs r : List Addr) (h h' : Heap) : Prop where
  keep : ∀ b o, h.get? b = some o → b ∉ r → b ∉ fs → h'.get? b = some o
  slot : ∀ b o, h.get? b = some o → b ∉ r → ∃ sl, h'.get? b = some { o with slots := sl }
theorem Stays.trans {fs r r' : List Addr} {h h1 h2 : Heap} (a : Stays fs r h h1) (b : Stays fs r' h1 h2) (hr : ∀ q ∈ r', q ∈ r ∨ h.get? q = none) : Stays fs r h h2 where
  keep := fun c o e n f => b.keep c o (a.keep c o e n f) (fun m => (hr c m).elim n fun z => by rw [z] at e; cases e) f
  slot := fun c o e n => by
    obtain ⟨sl, e1⟩ := a.slot c o e n
    obtain ⟨sl', e2⟩ := b.slot c _ e1 fun m => (hr c m).elim n fun z => by rw [z] at e; cases e
    exact ⟨sl', e2⟩
theorem Stays.mono {fs r r' : List Addr} {h h1 : Heap} (a : Stays fs r h h1) (hr : ∀ q ∈ r, q ∈ r') : Stays fs r' h h1 :=
  ⟨fun c o e n f => a.keep c o e (fun m => n (hr c m)) f, fun c o e n => a.slot c o e fun m => n (hr c m)⟩
theorem Stays.more {fs fs' r : List Addr} {h h1 : Heap} (a : Stays fs r h h1) (hr : ∀ q ∈ fs, q ∈ fs') : Stays fs' r h h1 :=
  ⟨fun c o e n f => a.keep c o e n (fun m => f (hr c m)), fun c o e n => a.slot c o e n⟩

section
variable {M : Model} {A : Around} {E : Value → Shared → Prop} {s : Shared} {base : Heap} {env : Env} {outer : List Env} {L x T : Addr} {oe : Obj} {vs : Array Value} {cls : Value} {Q : Unit → Shared → Prop}

theorem Stays.frames {r : List Addr} {l : List Env} {fs : List Addr} {h h' : Heap} (S : Stays fs r h h') (hl : h.FunFrames base l) (hr : ∀ q ∈ r, ∀ o, h.get? q = some o → ∃ ws, o.data = .fields ws) : h'.FunFrames base l :=
  hl.of_keeps fun b o e nf => by
    obtain ⟨sl, e'⟩ := S.slot b o e fun m => by
      obtain ⟨ws, z⟩ := hr b m o e
      exact nf ws z
    exact ⟨_, e', rfl⟩

/-- a new record for the frame at L -/
theorem entry_st {head : Value} {hn : Bool} (hfr : A.frames = some (env :: outer)) (hl : s.heap.FunFrames base (env :: outer)) (hf : env.frame = some L)
    (he : s.heap.get? x = some oe) (hdn : oe.dict = none) (hd : oe.data = .fields vs) (h1 : 1 < vs.size) (h2 : vs[2]? = some .none)
    (k : ∀ h' T', s.heap.get? T' = none → ExT h' x oe.cls T' (rawInt L) → Stays (frs (env :: outer)) [x] s.heap h' → Q () { s with heap := h' }) :
    wpAny M A (do let a ← frameOf env; let pl ← entryPlaceOf L hn; let b ← EntryCells.newEntry head a .none (rawInt L) .none pl; setField (.ref x) 1 b) Q E s := by
  have xf : x ∉ frs (env :: outer) := fun m => by
    obtain ⟨_, o, ho, nf⟩ := hl.mem m
    rw [he] at ho
    cases ho
    exact nf vs hd
  refine wpAny_bind (wpAny_frameOf_fun hfr hl hf fun g sg => ?_)
  refine wpAny_bind (wpAny_entryPlaceOf fun pl hp => ?_)
  unfold EntryCells.newEntry newFields
  refine wpAny_bind (wpAny_newObj_type ?_ (hp.sizeOk5 _ _ _ _ _))
  have e1 : g.get? x = some oe := (sg.2.1 x xf).trans he
  have tx : g.objs.size ≠ x := Nat.ne_of_gt (Heap.lt_size e1)
  refine wpAny_setField (Heap.get?_push_of_some (h := g) _ e1) hd h1 (k _ g.objs.size ?_ ⟨?_, tx, ?_⟩ ⟨fun b o e n f => ?_, fun b o e n => ?_⟩)
  · rw [sg.1]
    exact Heap.get?_none_of_le (Nat.le_refl _)
  · refine ⟨_, _, Heap.get?_update_self _ (Heap.get?_push_of_some (h := g) _ e1) (Obj.isFreed_of_fields (Obj.data_mapFields hd _)), ⟨Obj.cls_mapFields _ _, (dict_mapFields _ _).trans hdn⟩, Obj.data_mapFields hd _, ?_, ?_⟩
    · simp [h1]
    · rw [Array.getElem?_setIfInBounds_ne (by decide)]
      exact h2
  · refine ⟨_, _, (Heap.get?_update_other _ _ (Ne.symm tx)).trans (Heap.get?_push_size g rfl), rfl, ?_⟩
    rcases hp with rfl | ⟨_, _, _, _, _, _, _, rfl⟩ <;> simp
  · have nx : x ≠ b := fun z => n (by simp [z])
    rw [Heap.get?_update_other _ _ nx]
    exact Heap.get?_push_of_some _ ((sg.2.1 b f).trans e)
  · have nx : x ≠ b := fun z => n (by simp [z])
    obtain ⟨sl, e'⟩ := sg.2.2 b o e
    refine ⟨sl, ?_⟩
    rw [Heap.get?_update_other _ _ nx]
    exact Heap.get?_push_of_some _ e'

/-- no record is in flight any more -/
theorem flight_st {fl : Value} (X : ExT s.heap x cls T fl) (k : ∀ h', ExT h' x cls T .none → Stays [] [T] s.heap h' → Q () { s with heap := h' }) : wpAny M A (setFlight (.ref x) none) Q E s := by
  obtain ⟨⟨oe, vs, he, hc, hd, h1, h2⟩, ne, oT, ts, hT, hdT, h3⟩ := X
  unfold setFlight
  refine wpAny_bind (wpAny_field he hd h1 ?_)
  rw [if_pos (show (Value.ref T != Value.none) = true from by simp)]
  have i3 : 3 < ts.size := (Array.getElem?_eq_some_iff.mp h3).1
  refine wpAny_setField hT hdT i3 (k _ ⟨⟨oe, vs, (Heap.get?_update_other _ _ ne).trans he, hc, hd, h1, h2⟩, ne, _, _, Heap.get?_update_self _ hT (Obj.isFreed_of_fields (Obj.data_mapFields hdT _)), Obj.data_mapFields hdT _, by simp [i3]⟩ ⟨fun b o e n _ => ?_, fun b o e n => ⟨o.slots, ?_⟩⟩)
  · rw [Heap.get?_update_other _ _ fun z => n (by simp [z])]
    exact e
  · rw [Heap.get?_update_other _ _ fun z => n (by simp [z])]
    exact e

/-- the first frame that it meets -/
theorem note_first (hfr : A.frames = some (env :: outer)) (hl : s.heap.FunFrames base (env :: outer)) (hf : env.frame = some L)
    (he : s.heap.get? x = some oe) (hdn : oe.dict = none) (hd : oe.data = .fields vs) (h1 : vs[1]? = some .none) (h2 : vs[2]? = some .none)
    (k : ∀ h' T', s.heap.get? T' = none → ExT h' x oe.cls T' (rawInt L) → Stays (frs (env :: outer)) [x] s.heap h' → Q () { s with heap := h' }) : wpAny M A (noteFrame (.ref x) env) Q E s := by
  unfold noteFrame
  simp only [hf]
  refine wpAny_bind (wpAny_field he hd h1 ?_)
  rw [if_neg (by decide)]
  exact entry_st hfr hl hf he hdn hd (Array.getElem?_eq_some_iff.mp h1).1 h2 k
/-- a further one -/
theorem note_next (hfr : A.frames = some (env :: outer)) (hl : s.heap.FunFrames base (env :: outer)) (hf : env.frame = some L) (X : ExT s.heap x cls T .none)
    (k : ∀ h' T', s.heap.get? T' = none → ExT h' x cls T' (rawInt L) → Stays (frs (env :: outer)) [x, T] s.heap h' → Q () { s with heap := h' }) : wpAny M A (noteFrame (.ref x) env) Q E s := by
  obtain ⟨⟨oe, vs, he, ⟨hc, hdn⟩, hd, h1, h2⟩, ne, oT, ts, hT, hdT, h3⟩ := X
  subst hc
  have i3 : 3 < ts.size := (Array.getElem?_eq_some_iff.mp h3).1
  unfold noteFrame
  simp only [hf]
  refine wpAny_bind (wpAny_field he hd h1 ?_)
  rw [if_pos (show (Value.ref T != Value.none) = true from by simp)]
  refine wpAny_bind (wpAny_field hT hdT h3 ?_)
  rw [if_neg (show ¬ ((Value.none == rawInt L) = true) from by simp [rawInt])]
  refine wpAny_bind (wpAny_setField hT hdT i3 ?_)
  have S0 : Stays (frs (env :: outer)) [x, T] s.heap (s.heap.update T (Obj.mapFields (·.setIfInBounds 3 Value.none))) := by
    refine ⟨fun b o e n _ => ?_, fun b o e n => ⟨o.slots, ?_⟩⟩
    · rw [Heap.get?_update_other _ _ fun z => n (by simp [z])]
      exact e
    · rw [Heap.get?_update_other _ _ fun z => n (by simp [z])]
      exact e
  have hl' : (s.heap.update T (Obj.mapFields (·.setIfInBounds 3 Value.none))).FunFrames base (env :: outer) := S0.frames hl fun q m o e => by
    rcases List.mem_cons.mp m with z | m
    · subst z
      rw [he] at e
      cases e
      exact ⟨vs, hd⟩
    · obtain rfl : q = T := by simpa using m
      rw [hT] at e
      cases e
      exact ⟨ts, hdT⟩
  refine entry_st (s := { s with heap := s.heap.update T (Obj.mapFields (·.setIfInBounds 3 Value.none)) }) hfr hl' hf ((Heap.get?_update_other _ _ ne).trans he) hdn hd (Array.getElem?_eq_some_iff.mp h1).1 h2 fun h' T' n X' S' => k h' T' ?_ X' (S0.trans S' fun q m => .inl (by simp at m; simp [m]))
  have n' : (s.heap.update T (Obj.mapFields (·.setIfInBounds 3 Value.none))).get? T' = none := n
  cases e : s.heap.get? T' with
  | none => rfl
  | some o =>
    by_cases z : T = T'
    · subst z
      rw [Heap.get?_update_self _ hT (Obj.isFreed_of_fields (Obj.data_mapFields hdT _))] at n'
      cases n'
    · rw [Heap.get?_update_other _ _ z, e] at n'
      cases n'
/-- it leaves the frame -/
theorem leave_first (hfr : A.frames = some (env :: outer)) (hl : s.heap.FunFrames base (env :: outer)) (hf : env.frame = some L)
    (he : s.heap.get? x = some oe) (hdn : oe.dict = none) (hd : oe.data = .fields vs) (h1 : vs[1]? = some .none) (h2 : vs[2]? = some .none)
    (k : ∀ h' T', s.heap.get? T' = none → ExT h' x oe.cls T' .none → Stays (frs (env :: outer)) [x] s.heap h' → Q () { s with heap := h' }) : wpAny M A (leaving env (.ref x)) Q E s := by
  unfold leaving
  refine wpAny_bind (note_first hfr hl hf he hdn hd h1 h2 fun h' T' n X S => ?_)
  exact flight_st (s := { s with heap := h' }) X fun h'' X' S' => k h'' T' n X' (S.trans (S'.more (by simp)) fun q m => .inr (by simp at m; rw [m]; exact n))
theorem leave_next (hfr : A.frames = some (env :: outer)) (hl : s.heap.FunFrames base (env :: outer)) (hf : env.frame = some L) (X : ExT s.heap x cls T .none)
    (k : ∀ h' T', s.heap.get? T' = none → ExT h' x cls T' .none → Stays (frs (env :: outer)) [x, T] s.heap h' → Q () { s with heap := h' }) : wpAny M A (leaving env (.ref x)) Q E s := by
  unfold leaving
  refine wpAny_bind (note_next hfr hl hf X fun h' T' n X S => ?_)
  exact flight_st (s := { s with heap := h' }) X fun h'' X' S' => k h'' T' n X' (S.trans (S'.more (by simp)) fun q m => .inr (by simp at m; rw [m]; exact n))
end

/-! ### how an exception lies behind a call -/
def CXw (P : Program) (w : World) : CXT := fun outer H s E e s' => ∃ (x T : Addr) (cls : Value) (H' : Hp), e = .ref x ∧ s'.os = s.os ∧ AllBare s'.gens ∧ Un (frs outer) [] H H' s.heap s'.heap ∧ HOk P w H' s'.heap ∧
  s.heap.get? x = none ∧ s.heap.get? T = none ∧ H' x = none ∧ H' T = none ∧ ExT s'.heap x cls T .none ∧ E cls (some x) H'

theorem un_stays {fs r : List Addr} {H H' : Hp} {h h1 h2 : Heap} (u : Un fs [] H H' h h1) (S : Stays fs r h1 h2) (hr : ∀ b ∈ r, h.get? b = none) : Un fs [] H H' h h2 := by
  have nr : ∀ {b o}, h.get? b = some o → b ∉ r := fun {b o} e m => by
    rw [hr b m] at e
    cases e
  refine ⟨fun b o e n f z => S.keep b o (u.keep b o e n f z) (nr e) f, fun b o e n f z => ?_, u.free, fun b o e z => ?_, u.tups, u.frzs, u.tbls⟩
  · obtain ⟨sl, e1⟩ := u.slot b o e n f z
    obtain ⟨sl', e2⟩ := S.slot b _ e1 (nr e)
    exact ⟨sl', e2⟩
  · obtain ⟨o1, e1⟩ := u.there b o e z
    obtain ⟨sl', e2⟩ := S.slot b _ e1 (nr e)
    exact ⟨_, e2⟩
theorem hok_stays {P : Program} {w : World} {fs r : List Addr} {H : Hp} {h h' : Heap} (k : HOk P w H h) (S : Stays fs r h h') (hr : ∀ b ∈ r, H b = none) (hf : ∀ b ∈ fs, H b = none) : HOk P w H h' := fun a o e => by
  have tr : ∀ {b u}, H b = some u → b ∉ r ∧ b ∉ fs := fun {b u} q => ⟨fun m => (by rw [hr b m] at q; cases q), fun m => (by rw [hf b m] at q; cases q)⟩
  refine (k a o e).stay (fun b u hb q => ?_) (fun _ q => q) fun _ _ q => q
  rcases hb with z | z
  · subst z
    exact S.keep b u q (tr e).1 (tr e).2
  · exact S.keep b u q (tr z).1 (tr z).2
theorem none_of_hok {P : Program} {w : World} {H : Hp} {h : Heap} (k : HOk P w H h) {b : Addr} (e : h.get? b = none) : H b = none := by
  cases q : H b with
  | none => rfl
  | some u =>
    obtain ⟨o, ho⟩ : ∃ o, h.get? b = some o := by
      have z := k b u q
      cases u with
      | lst xs => obtain ⟨_, _, _, _, e⟩ := z; exact ⟨_, e⟩
      | tup xs => obtain ⟨_, _, _, o, e, _⟩ := z; exact ⟨_, e⟩
      | dK kvs => obtain ⟨_, _, _, _, o, _, _, e, _⟩ := z; exact ⟨_, e⟩
      | dT kvs => obtain ⟨_, _, _, _, o, _, _, e, _⟩ := z; exact ⟨_, e⟩
      | set S n => obtain ⟨o, _, _, _, e, _⟩ := z; exact ⟨_, e⟩
      | ins C dx fs => obtain ⟨_, _, _, e, _⟩ := z; exact ⟨_, e⟩
      | own y => obtain ⟨_, e⟩ := z; exact ⟨_, e⟩
      | xd fs => obtain ⟨_, ⟨_, _, _, e, _⟩, _⟩ := z; exact ⟨_, e⟩
      | rng lo hi => obtain ⟨_, _, _, e⟩ := z; exact ⟨_, e⟩
      | frz ob u => obtain ⟨e, _⟩ := z; exact ⟨_, e⟩
      | tbl ps => exact ⟨_, (show h.get? b = some _ from z)⟩
      | met f y => exact ⟨_, (show h.get? b = some _ from z)⟩
      | ext φ => obtain ⟨_, ⟨_, e⟩, _⟩ := z; exact ⟨_, e⟩
    rw [e] at ho
    cases ho

section
variable {X : Cx} {pins : List (Addr × Obj)} {σ : St} {H H' : Hp} {s s1 s2 : Shared}
/-- behind a way through the frames that run -/
theorem Inv.flown {r : List Addr} (I : Inv X pins σ H s) (u : Un (frs X.stack) [] H H' s.heap s1.heap) (k : HOk X.prog X.w H' s1.heap) (S : Stays (frs X.stack) r s1.heap s2.heap) (hr : ∀ b ∈ r, s.heap.get? b = none ∧ H' b = none)
    (ho : s2.os = s.os) (hg : AllBare s2.gens) : Inv X pins σ H' s2 := by
  have hf : ∀ b ∈ frs X.stack, H' b = none := fun b m => by
    obtain ⟨_, o, e, _⟩ := I.stack.mem m
    exact u.free b o e (I.stkFree b m) (by simp)
  exact I.call' ho (un_stays u S fun b m => (hr b m).1) (hok_stays k S (fun b m => (hr b m).2) hf) hg fun b z => absurd z (by simp)
end

/-- what the raise statement needs of a context -/
def RaisesTo (X : Cx) (E : XK) : Prop := ∀ (pins : List (Addr × Obj)) (σ : St) (H : Hp) (s : Shared) (h' : Heap) (x : Addr) (cls : Value) (vs : List Value), Inv X pins σ H s → Heap.MadeExcOf s.heap h' x cls vs → E cls (some x) H → X.xe (.ref x) { s with heap := h' }

section
variable {cm : Bool} {P : Program} {w : World} {K : PySem.W.Frag} {mg : Str → Option Value} {base : Heap} {N : List Str} {qual : Str} {scope : Scope} {f : Addr} {cd : Value} {A : Around} {outer : List Env} {s0 : Shared} {H0 : Hp} {E : XK}
theorem cx_new {X : Cx} {pins : List (Addr × Obj)} {σ : St} {H : Hp} {s : Shared} (I : Inv X pins σ H s) (hx : X.ex = []) {b : Addr} (e : s.heap.get? b = none) : X.s₀.heap.get? b = none := by
  cases q : X.s₀.heap.get? b with
  | none => rfl
  | some o =>
    obtain ⟨o', e'⟩ := I.base.there b o q (by rw [hx]; simp)
    rw [e] at e'
    cases e'
theorem raises_w : RaisesTo (cxOf cm (CXw P w) P w K mg base N qual scope f cd A outer s0 H0 E) E := by
  intro pins σ H s h' x cls vs I m q
  obtain ⟨t, hx, _, _⟩ := m.there
  have I1 := I.kept (h' := h') (t' := s.toks) m.keeps
  have hfr : (A.deeper (envOfC qual scope s0.heap.objs.size f cd)).frames = some (envOfC qual scope s0.heap.objs.size f cd :: outer) := I.ok.frames
  refine leave_first (s := { s with heap := h' }) (base := base) hfr I1.stack rfl hx rfl rfl rfl rfl fun h2 T' nT X2 S2 => ?_
  have nx : s.heap.get? x = none := m.new
  have nT' : s.heap.get? T' = none := by
    cases z : s.heap.get? T' with
    | none => rfl
    | some o =>
      have := m.keeps _ _ z
      rw [show h'.get? T' = none from nT] at this
      cases this
  have J : Inv (cxOf cm (CXw P w) P w K mg base N qual scope f cd A outer s0 H0 E) pins σ H { s with heap := h2 } :=
    I.flown (s1 := { s with heap := h' }) (Un.kept m.keeps) (I.hok.kept m.keeps) S2 (fun b mb => by
      obtain rfl : b = x := by simpa using mb
      exact ⟨nx, none_of_hok I.hok nx⟩) rfl I.bare
  refine ⟨x, T', cls, H, rfl, J.os, J.bare, J.base, J.hok, cx_new I rfl nx, cx_new I rfl nT', none_of_hok I.hok nx, none_of_hok I.hok nT', X2, q⟩
theorem passes_w : Passes (CXw P w) (cxOf cm (CXw P w) P w K mg base N qual scope f cd A outer s0 H0 E) E := by
  rintro pins σ H s e s' I ⟨x, T, cls, H', rfl, ho, hg, u, hok, nx, nT, hx, hT, X, q⟩
  have hfr : (A.deeper (envOfC qual scope s0.heap.objs.size f cd)).frames = some (envOfC qual scope s0.heap.objs.size f cd :: outer) := I.ok.frames
  have I1 : Inv (cxOf cm (CXw P w) P w K mg base N qual scope f cd A outer s0 H0 E) pins σ H' s' := I.call' ho u hok hg fun b z => absurd z (by simp)
  refine leave_next (base := base) hfr I1.stack rfl X fun h2 T' nT' X2 S2 => ?_
  have J : Inv (cxOf cm (CXw P w) P w K mg base N qual scope f cd A outer s0 H0 E) pins σ H' { s' with heap := h2 } :=
    I.flown (s1 := s') u hok S2 (fun b mb => by
      rcases List.mem_cons.mp mb with z | mb
      · subst z
        exact ⟨nx, hx⟩
      · obtain rfl : b = T := by simpa using mb
        exact ⟨nT, hT⟩) ho hg
  exact ⟨x, T', cls, H', rfl, J.os, J.bare, J.base, J.hok, cx_new I rfl nx, cx_new I1 rfl nT', hx, none_of_hok hok nT', X2, q⟩
end
end L2

set_option Elab.async false
set_option linter.all false
set_option maxRecDepth 100000
namespace L2
open PySem PySem.Spec PyProof.Rows

/-! ### raise -/
/-- an exception class of the text -/
structure XCls (K : PySem.W.Frag) (C : Addr) : Prop where
  ex : ∃ (B newId initId : String) (bmB : List Value), ExcBaseFacts B newId initId bmB ∧ PySem.W.excIn K C bmB newId = true
theorem XCls.obj {K : PySem.W.Frag} {C : Addr} {h : Heap} (c : XCls K C) (X : K.In h) : ∃ (B newId initId : String) (bmB : List Value), ExcBaseFacts B newId initId bmB ∧
    ∃ bm N nm q bs hdct sn sub ab col dd k0 k1 k2 k3 k5 mN, h.get? C = some (excClassObj nm q C N bs bm hdct sn sub ab col dd k0 k1 k2 k3 k5 newId) ∧ h.Ns N mN ∧ mN "__init__" = none ∧ OwnTail h bmB bm := by
  obtain ⟨B, newId, initId, bmB, F, q⟩ := c.ex
  refine ⟨B, newId, initId, bmB, F, ?_⟩
  unfold PySem.W.excIn at q
  split at q
  · rename_i dd cdt sl look
    split at q
    · rename_i C' bm s0 s1 s2 s3 n s5 em es
      simp only [Bool.and_eq_true, beq_iff_eq, Bool.not_eq_true'] at q
      obtain ⟨⟨⟨⟨⟨c1, c2⟩, c3⟩, c4⟩, c5⟩, c6⟩ := q
      obtain ⟨nm, bs, mro, ns, qn, hd, sn, sub, ab, col, del⟩ := cdt
      dsimp only at em c3 c5 c6
      subst c1 c2 em c3
      obtain ⟨sll⟩ := sl
      dsimp only at es
      subst es
      exact ⟨bm, ns, nm, qn, bs, hd, sn, sub, ab, col, dd, s0, s1, s2, s3, s5, _, X _ _ look, .of_isNs (PySem.W.isNs_of_in X c5), PySem.W.nsMap_none_of_in X c5 c6, PySem.W.tail_of_in X c4⟩
    · cases q
  · cases q

section
variable {X : Cx}
def tRaise (C : Addr) (E : XK) (t : TA) : TS := fun _ σ H => t σ H fun vs H1 => vs.length ≤ sizeLine ∧ ∀ x, E (.ref C) (some x) H1
theorem ps_raise {x : Str} {C : Addr} {e : Expr} {es : List Expr} {np cpos pos : Pos} {E : XK} {t : TA} (hr : RaisesTo X E) (c : XCls X.K C) (hc : X.calm = true) (hg : Gl X x) (hm : X.mg x = some (.ref C)) (ha : PA X (e :: es) t)
    (hdb : (x == ("__debug__" : Str)) = false := by decide) (he : starEach (e :: es) X.env = (false, eval e X.env) :: starEach es X.env := by exact star_plain rfl) (hpl : (backTo cpos (starEach es X.env)).any (·.1) = false := by exact any_plain rfl) :
    PS X (.Raise (some (.Call (.Name x np) (e :: es) [] cpos)) none pos) (tRaise C E t) := by
  intro pins s σ H D I h
  obtain ⟨B, newId, initId, bmB, F, bm, N, nm, q, bs, hdct, sn, sub, ab, col, dd, k0, k1, k2, k3, k5, mN, hC, hN, hni, T⟩ := c.obj I.mod.kin
  have hp2 : (backTo cpos (starEach (e :: es) X.env)).any (·.1) = false := by
    rw [he]
    show (false || (backTo cpos (starEach es X.env)).any (·.1)) = false
    rw [hpl]
    rfl
  refine wpAny_Raise_call_subT (C := C) (nm := nm) (q := q) (N := N) (bs := bs) (bm := bm) (hdct := hdct) (sn := sn) (sub := sub) (ab := ab) (col := col) (dd := dd) (k0 := k0) (k1 := k1) (k2 := k2) (k3 := k3) (k5 := k5)
    F (mN := mN) (T.hasType F.hasBase) (I.ok.hd hc) hp2 hni (ld_glob I hg hm ⟨rfl, ?_⟩ hdb)
  have ha' := ha cpos pins s σ H _ I h
  rw [he] at ha' ⊢
  refine Calls.evalArgs_plain (wpAny_mono ha' (fun vs s₂ h₂ => ?_) fun _ _ y => y)
  obtain ⟨xs, H1, J, r, hl, q⟩ := h₂
  exact ⟨rfl, by rw [← r.length]; exact hl, J.bk _ _ hC, hN.keeps J.bk, T.keeps J.bk, fun h' e m => hr pins σ H1 s₂ h' e _ vs J m (q e)⟩
end

/-! ### try -/
/-- the same code, other pins, another wish -/
abbrev Cx.tr (X : Cx) (pn : List (Addr × Obj)) (xe : Value → Shared → Prop) : Cx := { X with pn := pn, xe := xe }
/-- .. within the suite of an except clause that has caught x: nothing leaves -/
abbrev Cx.hand (X : Cx) (x : Addr) (pn : List (Addr × Obj)) : Cx := { X with A := X.A.mark (some (.ref x)), calm := false, pn := pn, xe := fun _ _ => False }
section
variable {X : Cx} {pins pins' : List (Addr × Obj)} {σ : St} {H : Hp} {s : Shared} {xe : Value → Shared → Prop} {x : Addr}
theorem Cx.Ok.tr {pn : List (Addr × Obj)} (ok : X.Ok) : (X.tr pn xe).Ok :=
  ⟨ok.mod, ok.kind, ok.glob, ok.blt, ok.above, ok.inj, ok.has, ok.cab, ok.hd, ok.frames, ok.stk, ok.exf, ok.bs, ok.bsz, ok.noex, ok.exfs, ok.funs, ok.frf⟩
theorem Cx.Ok.untr {pn : List (Addr × Obj)} (ok : (X.tr pn xe).Ok) : X.Ok :=
  ⟨ok.mod, ok.kind, ok.glob, ok.blt, ok.above, ok.inj, ok.has, ok.cab, ok.hd, ok.frames, ok.stk, ok.exf, ok.bs, ok.bsz, ok.noex, ok.exfs, ok.funs, ok.frf⟩
theorem Cx.Ok.hand {pn : List (Addr × Obj)} (ok : X.Ok) : (X.hand x pn).Ok :=
  ⟨ok.mod, ok.kind, ok.glob, ok.blt, ok.above, ok.inj, ok.has, ok.cab, (fun z => nomatch z), ok.frames, ok.stk, ok.exf, ok.bs, ok.bsz, ok.noex, ok.exfs, ok.funs, ok.frf⟩
theorem Inv.toTr (I : Inv X pins σ H s) : Inv (X.tr (X.pn ++ pins) xe) [] σ H s :=
  ⟨I.ok.tr, I.os, I.bare, I.base, I.loc, I.cell, I.free, I.freeC, fun p hp => I.pin p ((List.mem_append.mp hp).elim (fun z => z) fun z => nomatch z), I.hok, I.len⟩
theorem Inv.ofTr (I : Inv (X.tr (X.pn ++ pins) xe) pins' σ H s) : Inv X pins σ H s :=
  ⟨I.ok.untr, I.os, I.bare, I.base, I.loc, I.cell, I.free, I.freeC, fun p hp => I.pin p (List.mem_append_left _ hp), I.hok, I.len⟩
theorem Inv.toHand (I : Inv X pins σ H s) : Inv (X.hand x (X.pn ++ pins)) [] σ H s :=
  ⟨I.ok.hand, I.os, I.bare, I.base, I.loc, I.cell, I.free, I.freeC, fun p hp => I.pin p ((List.mem_append.mp hp).elim (fun z => z) fun z => nomatch z), I.hok, I.len⟩
theorem Inv.ofHand (ok : X.Ok) (I : Inv (X.hand x (X.pn ++ pins)) pins' σ H s) : Inv X pins σ H s :=
  ⟨ok, I.os, I.bare, I.base, I.loc, I.cell, I.free, I.freeC, fun p hp => I.pin p (List.mem_append_left _ hp), I.hok, I.len⟩
theorem SP.ofTr {D : Ends} {f : Flow} {s' : Shared} (h : SP (X.tr (X.pn ++ pins) xe) [] D f s') : SP X pins D f s' := by
  cases f with
  | next => obtain ⟨σ', H', I, q⟩ := h; exact ⟨σ', H', I.ofTr, q⟩
  | brk => obtain ⟨σ', H', I, q⟩ := h; exact ⟨σ', H', I.ofTr, q⟩
  | cont => obtain ⟨σ', H', I, q⟩ := h; exact ⟨σ', H', I.ofTr, q⟩
  | ret u => obtain ⟨v, σ', H', I, r, q⟩ := h; exact ⟨v, σ', H', I.ofTr, r, q⟩
/-- the frame's own names are forgotten -/
theorem Inv.names_gone {h' : Heap} {m : Str → Option Value} {tk : Nat} (I : Inv X pins σ H s) (hn : h'.Ns X.env.locals m) (sb : Heap.SameBut X.env.locals s.heap h') :
    Inv X pins (List.replicate X.N.length none) H { s with heap := h', toks := tk } := by
  have old : ∀ b o, X.s₀.heap.get? b = some o → b ≠ X.env.locals := fun b o e => Nat.ne_of_lt (Nat.lt_of_lt_of_le (Heap.lt_size e) I.ok.above)
  have trk : ∀ b u, H b = some u → b ≠ X.env.locals := fun b u e z => by rw [z, I.free] at e; cases e
  refine ⟨I.ok, I.os, I.bare, ⟨fun b o e n hb hx => (sb.2 b (old b o e)).trans (I.base.keep b o e n hb hx), fun b o e n hb hx => ?_, I.base.free, fun b o e hx => ?_, I.base.tups, I.base.frzs, I.base.tbls⟩, ⟨m, hn, fun i y v _ e2 _ => ?_⟩, fun y c e => ?_, I.free, I.freeC, fun p hp => ?_, fun b u e => ?_, by simp⟩
  · obtain ⟨sl, q⟩ := I.base.slot b o e n hb hx
    exact ⟨sl, (sb.2 b (old b o e)).trans q⟩
  · obtain ⟨o', q⟩ := I.base.there b o e hx
    exact ⟨o', (sb.2 b (old b o e)).trans q⟩
  · rw [List.getElem?_replicate] at e2
    split at e2 <;> cases e2
  · obtain ⟨v, z⟩ := I.cell y c e
    exact ⟨v, z.sameBut sb (I.cne y c e)⟩
  · obtain ⟨e, n, ne, nf, d⟩ := I.pin p hp
    exact ⟨(sb.2 p.1 ne).trans e, n, ne, nf, d⟩
  · refine (I.hok b u e).stay (fun c v hc q => (sb.2 c ?_).trans q) (fun _ q => q) fun _ _ q => q
    rcases hc with z | z
    · subst z
      exact trk c u e
    · exact trk c _ z
end

/-- a caught exception as a thing of the heap -/
def excO (x : Addr) (cls : Value) : HO := .ext fun h => Exc h x cls
theorem excO_ok {P : Program} {w : World} {H : Hp} {h : Heap} {x : Addr} {cls : Value} (e : Exc h x cls) : ObjOk P w H h x (excO x cls) := by
  refine ⟨e, ?_, fun h1 h2 ⟨oe, vs, a, b, c, d⟩ k => ⟨oe, vs, k _ a, b, c, d⟩⟩
  obtain ⟨oe, _, a, _⟩ := e
  exact ⟨oe, a⟩
theorem Exc.ty {M : Model} {h : Heap} {x : Addr} {cls : Value} (e : Exc h x cls) : PySem.W.Looks M h (typeOf (.ref x)) cls := by
  obtain ⟨oe, vs, a, ⟨b, _⟩, _⟩ := e
  subst b
  exact (PySem.W.Looks.ld a).andThen .now

/-- an exception has come to its try; the state from there on, the exception tracked -/
theorem Inv.catch {X : Cx} {pins : List (Addr × Obj)} {σ : St} {H H' : Hp} {s s1 s2 : Shared} {x T T' : Addr} {cls : Value} (I : Inv X pins σ H s) (u : Un (frs X.stack) [] H H' s.heap s1.heap) (k : HOk X.prog X.w H' s1.heap)
    (S : Stays (frs X.stack) [x, T] s1.heap s2.heap) (nx : s.heap.get? x = none) (nT : s.heap.get? T = none) (hx : H' x = none) (hT : H' T = none) (ex : Exc s2.heap x cls) (ho : s2.os = s.os) (hg : AllBare s2.gens) :
    Inv X pins σ (upd H' x (excO x cls)) s2 := by
  have hr : ∀ b ∈ [x, T], s.heap.get? b = none ∧ H' b = none := fun b mb => by
    rcases List.mem_cons.mp mb with z | mb
    · subst z
      exact ⟨nx, hx⟩
    · obtain rfl : b = T := by simpa using mb
      exact ⟨nT, hT⟩
  have J := I.flown u k S hr ho hg
  have nb : ∀ {b o}, s.heap.get? b = some o → b ≠ x := fun {b o} e z => by
    rw [z, nx] at e
    cases e
  have tr : ∀ {b v}, H' b = some v → b ≠ x := fun {b v} e z => by
    rw [z, hx] at e
    cases e
  have U := un_stays u S fun b m => (hr b m).1
  refine I.call' ho ⟨U.keep, U.slot, fun b o e n z => ?_, U.there, fun b xs e => ?_, fun b o v e => ?_, fun b ps e => ?_⟩ (fun b v e => ?_) hg fun b z => absurd z (by simp)
  · rw [upd_ne (nb e)]
    exact U.free b o e n z
  · rw [upd_ne (tr (U.tups b xs e))]
    exact U.tups b xs e
  · rw [upd_ne (tr (U.frzs b o v e))]
    exact U.frzs b o v e
  · obtain ⟨more, q⟩ := U.tbls b ps e
    exact ⟨more, by rw [upd_ne (tr q)]; exact q⟩
  · by_cases z : b = x
    · subst z
      rw [upd_same] at e
      cases e
      exact excO_ok ex
    · rw [upd_ne z] at e
      exact (J.hok b v e).stay (fun c w' _ q => q) (fun c q => by rw [upd_ne (tr q)]; exact q) fun c xs q => by rw [upd_ne (tr q)]; exact q

/-- try: .. except C as n: a suite that returns -/
def tTryAs (K : PySem.W.Frag) (c : Value) (ie : Nat) (E : XK) (tb : TS) (ts : Addr → TS) : TS := fun D σ H => tb D σ H ∧ ∀ cls x H', E cls (some x) H' → PySem.W.exmOne K cls c = some true ∧ (H' x = none → ∀ σ', σ'.length = σ.length → σ'[ie]? = some (some (.ref x)) →
  ts x { nx := fun _ _ => False, rt := D.rt } σ' (upd H' x (excO x cls)))
/-- .. without a name -/
def tTry (K : PySem.W.Frag) (c : Value) (E : XK) (tb : TS) (ts : Addr → TS) : TS := fun D σ H => tb D σ H ∧ ∀ cls x H', E cls (some x) H' → PySem.W.exmOne K cls c = some true ∧ (H' x = none → ∀ σ', σ'.length = σ.length →
  ts x { nx := fun _ _ => False, rt := D.rt } σ' (upd H' x (excO x cls)))
section
variable {X : Cx} {body suite : List Stmt} {b₀ : Stmt} {cn n : Str} {np pos tpos : Pos} {c : Value} {E : XK} {tb : TS} {ts : Addr → TS} {ie : Nat}
theorem ps_tryAs (hst : X.stack = X.env :: X.outer ∧ X.env.frame = some X.env.locals) (hN : X.N.Nodup) (hi : X.N[ie]? = some n) (hl : X.env.scope.names.lookup n = some .local) (hg : Gl X cn) (hm : X.mg cn = some c)
    (hb : ∀ pn xe, Passes (CXw X.prog X.w) (X.tr pn xe) E → PSs (X.tr pn xe) body tb) (hs : ∀ x pn, PSs (X.hand x pn) (b₀ :: suite) (ts x))
    (hdb : (cn == ("__debug__" : Str)) = false := by decide) : PS X (.Try body [.ExceptHandler (some (.Name cn np)) (some n) (b₀ :: suite) pos] [] [] tpos) (tTryAs X.K c ie E tb ts) := by
  intro pins s σ H D I h
  obtain ⟨h1, h2⟩ := h
  refine wpAny_Try_except ?_
  refine thn (hb (X.pn ++ pins) _ ?_ [] s σ H D I.toTr h1) fun f s1 q => ?_
  · rintro pins' σ1 H1 s1 e s' J ⟨x, T, cls, H', rfl, ho, hg', u, hok, nx, nT, hx, hT, XT, q⟩
    have J : Inv X pins σ1 H1 s1 := J.ofTr
    have J1 : Inv X pins σ1 H' s' := J.call' ho u hok hg' fun b z => absurd z (by simp)
    have hfr : X.A.frames = some (X.env :: X.outer) := by rw [J.ok.frames, hst.1]
    have hfun : s'.heap.FunFrames X.base (X.env :: X.outer) := by
      have z := J1.stack
      rw [hst.1] at z
      exact z
    refine note_next hfr hfun hst.2 XT fun g1 T1 n1 X1 S1 => ?_
    refine flight_st (s := { s' with heap := g1 }) X1 fun g2 X2 S2 => ?_
    have S12 : Stays (frs X.stack) [x, T] s'.heap g2 := by
      rw [hst.1]
      exact S1.trans (S2.more (by simp)) fun b m => .inr (by simp at m; rw [m]; exact n1)
    obtain ⟨hm1, hrest⟩ := h2 cls x H' q
    have J2 : Inv X pins σ1 (upd H' x (excO x cls)) { s' with heap := g2 } := J.catch (T' := T1) u hok S12 nx nT hx hT X2.exc ho hg'
    have Y2 : Inv (X.hand x (X.pn ++ pins)) [] σ1 (upd H' x (excO x cls)) { s' with heap := g2 } := J2.toHand
    refine wpAny_handleBy_cons (codeAny_handlers_test (ld_glob Y2 hg hm ((PySem.W.exm_one Y2.kIn X2.exc.ty hm1).here ?_) hdb)) (by intro z; cases z)
    refine codeAny_handlers_suite_as (flight_st (s := { s' with heap := g2 }) X2 fun g3 X3 S3 => ?_)
    have S13 : Stays (frs X.stack) [x, T] s'.heap g3 := S12.trans (S3.more (by simp)) fun b m => .inr (by simp at m; rw [m]; exact n1)
    have J3 : Inv X pins σ1 (upd H' x (excO x cls)) { s' with heap := g3 } := J.catch (T' := T1) u hok S13 nx nT hx hT X3.exc ho hg'
    have Y3 : Inv (X.hand x (X.pn ++ pins)) [] σ1 (upd H' x (excO x cls)) { s' with heap := g3 } := J3.toHand
    refine store_ok (X := X.hand x (X.pn ++ pins)) (i := ie) (v := .ref x) Y3 hN hi (.inl hl) rfl (fun s4 Y4 => ?_) (.inr hl)
    have len4 : (σ1.set ie (some (V.ref x))).length = σ.length := by rw [List.length_set, J.len, I.len]
    have at4 : (σ1.set ie (some (V.ref x)))[ie]? = some (some (.ref x)) := List.getElem?_set_self (by rw [J.len]; exact (List.getElem?_eq_some_iff.mp hi).1)
    refine wpAny_mono (hs x (X.pn ++ pins) [] s4 _ _ _ Y4 (hrest hx _ len4 at4)) (fun f s5 q5 => ?_) fun _ _ z => False.elim z
    have J5 : ∀ {σ5 H5}, Inv (X.hand x (X.pn ++ pins)) [] σ5 H5 s5 → Inv X pins σ5 H5 s5 := fun {σ5 H5} y => y.ofHand I.ok
    have hcls : (X.env.scope.kind == .class || (X.env.scope.kind == .module && X.env.locals != X.env.globals)) = false := by rw [I.ok.kind]; rfl
    cases f with
    | next => obtain ⟨_, _, _, z⟩ := q5; exact False.elim z
    | brk => obtain ⟨_, _, _, z⟩ := q5; exact False.elim z
    | cont => obtain ⟨_, _, _, z⟩ := q5; exact False.elim z
    | ret v =>
      obtain ⟨v', σ5, H5, y5, rv, z⟩ := q5
      have j5 := J5 y5
      obtain ⟨m5, ns5, _⟩ := id j5.loc
      exact wpAny_nameGoes hl ns5 hcls fun h6 m6 ns6 sb6 => ⟨v', _, H5, j5.names_gone ns6 sb6, rv, z⟩
  · cases f with
    | next =>
      obtain ⟨σ', H', J, q⟩ := q
      exact pss_nil pins s1 σ' H' D J.ofTr q
    | brk => exact SP.ofTr q
    | cont => exact SP.ofTr q
    | ret u => exact SP.ofTr q
theorem ps_try (hst : X.stack = X.env :: X.outer ∧ X.env.frame = some X.env.locals) (hg : Gl X cn) (hm : X.mg cn = some c)
    (hb : ∀ pn xe, Passes (CXw X.prog X.w) (X.tr pn xe) E → PSs (X.tr pn xe) body tb) (hs : ∀ x pn, PSs (X.hand x pn) (b₀ :: suite) (ts x))
    (hdb : (cn == ("__debug__" : Str)) = false := by decide) : PS X (.Try body [.ExceptHandler (some (.Name cn np)) none (b₀ :: suite) pos] [] [] tpos) (tTry X.K c E tb ts) := by
  intro pins s σ H D I h
  obtain ⟨h1, h2⟩ := h
  refine wpAny_Try_except ?_
  refine thn (hb (X.pn ++ pins) _ ?_ [] s σ H D I.toTr h1) fun f s1 q => ?_
  · rintro pins' σ1 H1 s1 e s' J ⟨x, T, cls, H', rfl, ho, hg', u, hok, nx, nT, hx, hT, XT, q⟩
    have J : Inv X pins σ1 H1 s1 := J.ofTr
    have J1 : Inv X pins σ1 H' s' := J.call' ho u hok hg' fun b z => absurd z (by simp)
    have hfr : X.A.frames = some (X.env :: X.outer) := by rw [J.ok.frames, hst.1]
    have hfun : s'.heap.FunFrames X.base (X.env :: X.outer) := by
      have z := J1.stack
      rw [hst.1] at z
      exact z
    refine note_next hfr hfun hst.2 XT fun g1 T1 n1 X1 S1 => ?_
    refine flight_st (s := { s' with heap := g1 }) X1 fun g2 X2 S2 => ?_
    have S12 : Stays (frs X.stack) [x, T] s'.heap g2 := by
      rw [hst.1]
      exact S1.trans (S2.more (by simp)) fun b m => .inr (by simp at m; rw [m]; exact n1)
    obtain ⟨hm1, hrest⟩ := h2 cls x H' q
    have J2 : Inv X pins σ1 (upd H' x (excO x cls)) { s' with heap := g2 } := J.catch (T' := T1) u hok S12 nx nT hx hT X2.exc ho hg'
    have Y2 : Inv (X.hand x (X.pn ++ pins)) [] σ1 (upd H' x (excO x cls)) { s' with heap := g2 } := J2.toHand
    refine wpAny_handleBy_cons (codeAny_handlers_test (ld_glob Y2 hg hm ((PySem.W.exm_one Y2.kIn X2.exc.ty hm1).here ?_) hdb)) (by intro z; cases z)
    refine codeAny_handlers_suite (flight_st (s := { s' with heap := g2 }) X2 fun g3 X3 S3 => ?_)
    have S13 : Stays (frs X.stack) [x, T] s'.heap g3 := S12.trans (S3.more (by simp)) fun b m => .inr (by simp at m; rw [m]; exact n1)
    have J3 : Inv X pins σ1 (upd H' x (excO x cls)) { s' with heap := g3 } := J.catch (T' := T1) u hok S13 nx nT hx hT X3.exc ho hg'
    have Y3 : Inv (X.hand x (X.pn ++ pins)) [] σ1 (upd H' x (excO x cls)) { s' with heap := g3 } := J3.toHand
    refine wpAny_mono (hs x (X.pn ++ pins) [] _ _ _ _ Y3 (hrest hx _ (by rw [J.len, I.len]))) (fun f s5 q5 => ?_) fun _ _ z => False.elim z
    cases f with
    | next => obtain ⟨_, _, _, z⟩ := q5; exact False.elim z
    | brk => obtain ⟨_, _, _, z⟩ := q5; exact False.elim z
    | cont => obtain ⟨_, _, _, z⟩ := q5; exact False.elim z
    | ret v =>
      obtain ⟨v', σ5, H5, y5, rv, z⟩ := q5
      exact ⟨v', σ5, H5, y5.ofHand I.ok, rv, z⟩
  · cases f with
    | next =>
      obtain ⟨σ', H', J, q⟩ := q
      exact pss_nil pins s1 σ' H' D J.ofTr q
    | brk => exact SP.ofTr q
    | cont => exact SP.ofTr q
    | ret u => exact SP.ofTr q
end

/-! ### a def that may raise -/
section
variable {P : Program} {w : World} {K : PySem.W.Frag} {mg : Str → Option Value} {base : Heap}
theorem Fun.okX {x qual : Str} {st : Stmt} {f : Addr} {fd : FuncData} {N ps : List Str} {k : Nat} {sp : Sp} (hk : 50 ≤ k + 1) (F : Fun K x qual st f fd) (S : FnScope N ps (defScope st)) (len : ∀ vs H Q E, sp vs H Q E → vs.length = ps.length)
    (hbody : ∀ (cdv : Value) (A : Around) (outer : List Env) (s : Shared) (H : Hp) (vs : List V) (Q : VK) (E : XK), Room k (A.deeper (envOfC qual (defScope st) s.heap.objs.size f cdv)) → sp vs H Q E →
      ∃ t, PSs (cxOf true (CXw P w) P w K mg base N qual (defScope st) f cdv A outer s H E) (defBody st) t ∧ t { nx := fun _ H' => Q .non H', rt := Q } (start N vs) H) : FnOk P w K mg base (CXw P w) (k + 1) f fd ps sp := by
  obtain ⟨oc, od, kV, doc, pm, an, cdv, ct, osl, rfl, lk, hcd⟩ := F.ex
  exact fn_of (cm := true) lk hcd S len (fun _ => hk) fun A outer s H vs Q E hr hsp => hbody cdv A outer s H vs Q E hr hsp
/-- .. whatever is being handled around it -/
theorem Fun.okQ {x qual : Str} {st : Stmt} {f : Addr} {fd : FuncData} {N ps : List Str} {k : Nat} {sp : Sp} (F : Fun K x qual st f fd) (S : FnScope N ps (defScope st)) (len : ∀ vs H Q E, sp vs H Q E → vs.length = ps.length)
    (hbody : ∀ (cdv : Value) (A : Around) (outer : List Env) (s : Shared) (H : Hp) (vs : List V) (Q : VK) (E : XK), Room k (A.deeper (envOfC qual (defScope st) s.heap.objs.size f cdv)) → sp vs H Q E →
      ∃ t, PSs (cxOf false (CXw P w) P w K mg base N qual (defScope st) f cdv A outer s H E) (defBody st) t ∧ t { nx := fun _ H' => Q .non H', rt := Q } (start N vs) H) : FnOk P w K mg base (CXw P w) (k + 1) f fd ps sp := by
  obtain ⟨oc, od, kV, doc, pm, an, cdv, ct, osl, rfl, lk, hcd⟩ := F.ex
  exact fn_of (cm := false) lk hcd S len (fun z => nomatch z) fun A outer s H vs Q E hr hsp => hbody cdv A outer s H vs Q E hr hsp
end
/-- a callee that raises nothing -/
theorem passE {P : Program} {w : World} {X : Cx} : Passes (CXw P w) X E0 := by
  rintro pins σ H s e s' I ⟨x, T, cls, H', _, _, _, _, _, _, _, _, _, _, z⟩
  exact z.elim
end L2

set_option Elab.async false
set_option linter.all false
set_option maxRecDepth 100000
namespace L2
open PySem PySem.Spec PyProof.Rows

/-! ### a comprehension's block -/
/-- the cells that a block takes with it -/
def clAcc (env : Env) : List (Str × NameKind) → List (Str × Addr) → List (Str × Addr)
  | [], cs => cs
  | (n, k) :: r, cs => clAcc env r (if k == .free then (n, (env.cells.lookup n).getD 0) :: cs else cs)
theorem clAcc_mem {env : Env} : ∀ {names : List (Str × NameKind)} {cs : List (Str × Addr)} {n : Str} {c : Addr}, (n, c) ∈ clAcc env names cs → (n, c) ∈ cs ∨ ((n, NameKind.free) ∈ names ∧ c = (env.cells.lookup n).getD 0)
  | [], _, _, _, h => .inl h
  | (m, k) :: r, cs, n, c, h => by
    unfold clAcc at h
    rcases clAcc_mem h with q | ⟨q, e⟩
    · by_cases hk : (k == NameKind.free) = true
      · rw [if_pos hk] at q
        rcases List.mem_cons.mp q with z | z
        · obtain ⟨z1, z2⟩ := Prod.mk.inj z
          subst z1 z2
          exact .inr ⟨by rw [beq_iff_eq.mp hk]; exact List.mem_cons_self, rfl⟩
        · exact .inl z
      · rw [if_neg hk] at q
        exact .inl q
    · exact .inr ⟨List.mem_cons_of_mem _ q, e⟩
theorem clAcc_sub {env : Env} : ∀ {names : List (Str × NameKind)} {cs : List (Str × Addr)} {p : Str × Addr}, p ∈ cs → p ∈ clAcc env names cs
  | [], _, _, h => h
  | (m, k) :: r, cs, p, h => by
    unfold clAcc
    refine clAcc_sub ?_
    split
    · exact List.mem_cons_of_mem _ h
    · exact h
theorem clAcc_has {env : Env} : ∀ {names : List (Str × NameKind)} {cs : List (Str × Addr)} {n : Str}, (n, NameKind.free) ∈ names → ∃ c, (n, c) ∈ clAcc env names cs
  | (m, k) :: r, cs, n, h => by
    unfold clAcc
    rcases List.mem_cons.mp h with z | z
    · obtain ⟨z1, z2⟩ := Prod.mk.inj z
      subst z1
      refine ⟨_, clAcc_sub (p := (n, (env.cells.lookup n).getD 0)) ?_⟩
      rw [if_pos (by rw [← z2]; rfl)]
      exact List.mem_cons_self
    · exact clAcc_has z
theorem lookup_mem {α : Type} : ∀ {l : List (Str × α)} {n : Str} {c : α}, (n, c) ∈ l → ∃ d, l.lookup n = some d
  | (m, d) :: r, n, c, h => by
    rw [List.lookup_cons]
    cases e : n == m with
    | true => exact ⟨d, rfl⟩
    | false =>
      rcases List.mem_cons.mp h with z | z
      · obtain ⟨z1, _⟩ := Prod.mk.inj z
        subst z1
        rw [beq_self_eq_true] at e
        cases e
      · exact lookup_mem z
theorem closure_of {env : Env} {f : Str × NameKind → List (Str × Addr) → Sem (ForInStep (List (Str × Addr)))} (hf : ∀ n r, f (n, .free) r = (do let c ← cellOf env n; pure (ForInStep.yield ((n, c) :: r)))) (hg : ∀ n k r, k ≠ .free → f (n, k) r = pure (ForInStep.yield r)) :
    ∀ (names : List (Str × NameKind)) (cs : List (Str × Addr)), (∀ n, (n, NameKind.free) ∈ names → ∃ c, env.cells.lookup n = some c) → forIn names cs f = pure (clAcc env names cs)
  | [], cs, _ => rfl
  | (n, k) :: r, cs, h => by
    rw [List.forIn_cons]
    show _ = pure (clAcc env r (if (k == NameKind.free) = true then (n, (env.cells.lookup n).getD 0) :: cs else cs))
    by_cases hk : k = .free
    · subst hk
      obtain ⟨c, hc⟩ := h n List.mem_cons_self
      have e : cellOf env n = pure c := by unfold cellOf; rw [hc]
      rw [hf, e, pure_bind, pure_bind, if_pos (show (NameKind.free == NameKind.free) = true from rfl), hc]
      exact closure_of hf hg r _ fun m z => h m (List.mem_cons_of_mem _ z)
    · rw [hg n k cs hk, pure_bind, if_neg (by simpa using hk)]
      exact closure_of hf hg r _ fun m z => h m (List.mem_cons_of_mem _ z)
theorem closureFor_of {scope : Scope} {env : Env} (h : ∀ n, (n, NameKind.free) ∈ scope.names → ∃ c, env.cells.lookup n = some c) : closureFor scope env = pure (clAcc env scope.names []) := by
  simp only [closureFor]
  rw [closure_of (env := env) (fun n r => rfl) (fun n k r hk => by cases k <;> first | rfl | exact absurd rfl hk) scope.names [] h]
  rfl
theorem lookup_relabel {env : Env} {n : Str} : ∀ (names : List (Str × NameKind)),
    (names.map fun (x : Str × NameKind) => if (x.2 == NameKind.free && env.scope.kind == .function && env.kindOf x.1 == some .cell) then (x.1, NameKind.cell) else (x.1, x.2)).lookup n =
      (names.lookup n).map fun k => if (k == NameKind.free && env.scope.kind == .function && env.kindOf n == some .cell) then NameKind.cell else k
  | [] => rfl
  | (m, k) :: r => by
    rw [List.map_cons]
    have ih := lookup_relabel (env := env) (n := n) r
    cases e : n == m with
    | true =>
      have z : n = m := eq_of_beq e
      subst z
      split
      · rename_i hc
        rw [List.lookup_cons, List.lookup_cons, beq_self_eq_true, Option.map_some, if_pos hc]
      · rename_i hc
        rw [List.lookup_cons, List.lookup_cons, beq_self_eq_true, Option.map_some, if_neg hc]
    | false =>
      split <;> simp only [List.lookup_cons, e, ih]

/-- the context of a comprehension's block: x its own name, then the names that it takes along -/
abbrev Cx.blk (X : Cx) (scope : Scope) (N : List Str) (C : Addr) (s₀ : Shared) (H₀ : Hp) (ex : List Addr) (pn : List (Addr × Obj)) : Cx :=
  { X with env := compEnvC scope (clAcc X.env scope.names []) C X.env, N := N, s₀ := s₀, H₀ := H₀, outer := X.stack, ex := ex, fn := fun _ => false, pn := pn, xe := fun _ _ => False }
/-- the values that it takes along -/
def capt (ci : List Nat) (σ : St) : St := ci.map fun i => (σ[i]?).join
/-- its tests -/
def PTs (X : Cx) (ifs : List Expr) (t : TT) : Prop :=
  ∀ (pins : List (Addr × Obj)) (s : Shared) (σ : St) (H : Hp) (Q : Bool → Hp → Prop), Inv X pins σ H s → t σ H Q →
    wpAny (model X.prog X.w) X.A (forIn ifs true fun c r => if r = true then do let ok ← isTrue c X.env (eval c X.env); pure (ForInStep.yield ok) else pure (ForInStep.yield r)) (TP X pins σ Q) X.xe s
def tYes : TT := fun _ H Q => Q true H
theorem pts_nil {X : Cx} : PTs X [] tYes := fun pins s σ H Q I h => wpAny_tests_nil ⟨H, I, h⟩
theorem pts_one {X : Cx} {c : Expr} {t : TT} (h : PT X c t) : PTs X [c] t := fun pins s σ H Q I hq => wpAny_tests_one (h pins s σ H Q I hq)

@[irreducible] def tComp (wi : TI) (ci : List Nat) (tt : TT) (te : TE) : TE := fun σ H Q => wi σ H fun J H1 => ∀ acc, H1 acc = none → ∃ W : Nat → Nat → List V → Hp → Prop, (∃ m, W 0 m [] (upd H1 acc (.lst []))) ∧
  ∀ i m ys H2, W i m ys H2 → (J.stop i H2 ∧ Q (.ref acc) H2) ∨ (J.go i H2 ∧ ∀ x H3, J.yld i H2 x H3 → tt (some x :: capt ci σ) H3 fun b H4 =>
    if b = true then te (some x :: capt ci σ) H4 fun y H5 => H5 acc = some (.lst ys) ∧ ys.length < sizeLine ∧ ∃ m', m' < m ∧ W (i + 1) m' (ys ++ [y]) (upd H5 acc (.lst (ys ++ [y])))
    else ∃ m', m' < m ∧ W (i + 1) m' ys H4)

section
variable {X : Cx} {elt iter : Expr} {x : Str} {px pos : Pos} {ifs : List Expr} {scope : Scope} {ci : List Nat} {caps : List Str} {wi : TI} {tt : TT} {te : TE}
theorem comp_core (hc : X.calm = true) (hi : PI X (.Name x px) iter wi) (hkind : scope.kind = .function) (hcell : ∀ y ∈ scope.names, y.2 ≠ .cell) (hnames : ∀ y ∈ scope.names, y.2 = .local → scope.names.lookup y.1 = some .local)
    (hx : scope.names.lookup x = some .local) (hfree : ∀ y ∈ scope.names, y.2 = .free → X.env.kindOf y.1 = some .cell)
    (hcap : ∀ p ∈ caps.zip ci, scope.names.lookup p.1 = some .free ∧ X.N[p.2]? = some p.1) (hlen : caps.length = ci.length) (hnd : (x :: caps).Nodup)
    (ht : ∀ C s₀ H₀ ex pn, PTs (X.blk scope (x :: caps) C s₀ H₀ ex pn) ifs tt) (he : ∀ C s₀ H₀ ex pn, PE (X.blk scope (x :: caps) C s₀ H₀ ex pn) elt te)
    (hs : ∀ v, foldedSetIterable iter X.env v = pure v) {use : Option (Value → Sem Unit)} {Qv : Value → Shared → Prop} {ppos : Pos}
    {pins : List (Addr × Obj)} {s : Shared} {σ : St} {H : Hp} {Q : VK} (I : Inv X pins σ H s) (h : tComp wi ci tt te σ H Q)
    (fin : ∀ acc C H5 s6 m6, Inv X pins σ H5 s6 → Q (.ref acc) H5 → s6.heap.Ns C m6 → FpOk X pins H5 C → compPost (model X.prog X.w) X.A X.xe use Qv (.ref acc) C (.ok .next) s6) :
    wpAny (model X.prog X.w) X.A (comprehension (.ListComp elt [⟨.Name x px, iter, ifs, 0⟩] scope pos) scope X.env ppos (newList []) false (eval iter X.env) use) Qv X.xe s := by
  unfold tComp at h
  have hfree' : ∀ n, (n, NameKind.free) ∈ scope.names → X.env.kindOf n = some .cell := fun n m => hfree (n, .free) m rfl
  have hclos : closureFor scope X.env = pure (clAcc X.env scope.names []) := closureFor_of fun n m => I.ok.has n (.inl (hfree' n m))
  -- what the block's cells are
  have c1 : ∀ n c, (clAcc X.env scope.names []).lookup n = some c → (n, NameKind.free) ∈ scope.names ∧ X.env.cells.lookup n = some c := fun n c e => by
    rcases clAcc_mem (PySem.mem_of_lookup e) with z | ⟨z, e'⟩
    · exact absurd z (by simp)
    · obtain ⟨d, hd⟩ := I.ok.has n (.inl (hfree' n z))
      rw [hd] at e'
      exact ⟨z, by rw [hd, e']; rfl⟩
  have c2 : ∀ n, (n, NameKind.free) ∈ scope.names → ∃ c, (clAcc X.env scope.names []).lookup n = some c := fun n m => by
    obtain ⟨c, hc⟩ := clAcc_has (env := X.env) (cs := []) m
    exact lookup_mem hc
  refine wpAny_comprehension_free (use := use) rfl hs hclos hkind hnames (thn (hi pins s σ H _ I h) fun v s1 h1 => thn h1 fun itv s2 h2 => ?_)
  obtain ⟨it, fp, tn, J, H2, e, I2, T, st2, f2, rd⟩ := h2
  subst e
  have fz : H2 s2.heap.objs.size = none := I2.fresh
  obtain ⟨W, ⟨m0, w0⟩, turn⟩ := rd s2.heap.objs.size fz
  refine wpAny_newObj_type (wpAny_newFunctionEnv hcell (by intro y hy; simp at hy) (fun h₁ hns₁ hsb₁ => ?_) hkind)
  dsimp only at hns₁ hsb₁ ⊢
  have I3 : Inv X pins σ (upd H2 s2.heap.objs.size (.lst [])) { s2 with heap := s2.heap.push { cls := .type "list", dict := none, data := .seq ([] : List Value).toArray } } := I2.lnew (ys := []) (its := []) (t' := s2.toks) .nil (Nat.zero_le _)
  generalize hg3 : s2.heap.push { cls := .type "list", dict := none, data := .seq ([] : List Value).toArray } = g3 at hns₁ hsb₁ I3 ⊢
  generalize hacc : s2.heap.objs.size = acc at *
  have hC : g3.objs.size = acc + 1 := by rw [← hg3, Heap.size_push, hacc]
  generalize hH3 : upd H2 acc (HO.lst []) = H3 at *
  generalize hs3 : ({ s2 with heap := g3 } : Shared) = s3 at *
  have h3 : s3.heap = g3 := by rw [← hs3]
  have o3 : s3.os = s2.os := by rw [← hs3]
  have b3 : s3.gens = s2.gens := by rw [← hs3]
  have up : ∀ b o, g3.get? b = some o → h₁.get? b = some o := fun b o e => hsb₁.extBut b o (Nat.ne_of_lt (Heap.lt_size e)) (Heap.get?_push_of_some _ e)
  have fpo : ∀ b ∈ fp, ∃ o, s2.heap.get? b = some o := fun b hb => by
    obtain ⟨o, e, _⟩ := T.obj _ _ st2 b hb
    exact ⟨o, e⟩
  have fplt : ∀ b ∈ fp, b < acc := fun b hb => by
    obtain ⟨o, e⟩ := fpo b hb
    rw [← hacc]
    exact Heap.lt_size e
  have g3of : ∀ b o, s2.heap.get? b = some o → g3.get? b = some o := fun b o e => by
    rw [← hg3]
    exact Heap.get?_push_of_some _ e
  let Y : Cx := X.blk scope (x :: caps) g3.objs.size s3 H3 fp (X.pn ++ pins)
  have okY : Y.Ok := by
    refine ⟨I.ok.mod, hkind, I.ok.glob, I.ok.blt, by show s3.heap.objs.size ≤ g3.objs.size; rw [h3]; exact Nat.le_refl _, fun y z c e1 e2 => I.ok.inj y z c (c1 y c e1).2 (c1 z c e2).2, fun y hy => ?_, fun y c z => (nomatch z), I.ok.hd, I.ok.frames, .inl rfl, fun b hb => ⟨?_, fun y c e z => ?_⟩, I3.bs, Nat.le_trans I.ok.bsz I3.sz, fun b o e hb => ?_, fun b hb z => ?_, I3.stack, I3.stkFree⟩
    · have hy' : (relabel scope X.env).names.lookup y = some .cell ∨ (relabel scope X.env).names.lookup y = some .free := hy
      have e := lookup_relabel (env := X.env) (n := y) scope.names
      have e' : (relabel scope X.env).names.lookup y = (scope.names.lookup y).map fun k => if (k == NameKind.free && X.env.scope.kind == .function && X.env.kindOf y == some .cell) then NameKind.cell else k := e
      cases q : scope.names.lookup y with
      | none =>
        rw [q] at e'
        rw [e'] at hy'
        rcases hy' with z | z <;> cases z
      | some k =>
        have mk := PySem.mem_of_lookup q
        by_cases hk : k = .free
        · subst hk
          exact c2 y mk
        · rw [q] at e'
          have nk : (k == NameKind.free) = false := beq_eq_false_iff_ne.mpr hk
          simp only [Option.map_some, nk, Bool.false_and, Bool.false_eq_true, if_false] at e'
          rw [e'] at hy'
          rcases hy' with z | z
          · exact absurd (Option.some.inj z) (hcell _ mk)
          · exact absurd (Option.some.inj z) hk
    · show b ≠ g3.objs.size
      rw [hC]
      exact Nat.ne_of_lt (Nat.lt_succ_of_lt (fplt b hb))
    · exact (f2 b hb).2.2.2.2.1 y c (c1 y c e).2 z
    · rcases (f2 b hb).2.2.2.1 with z | z
      · exact I.ok.noex b o e z
      · exact absurd (Nat.lt_of_lt_of_le (Heap.lt_size e) (Nat.le_trans I.ok.bsz z)) (Nat.lt_irrefl _)
    · rcases List.mem_cons.mp (I.stkSub b z) with q | q
      · exact (f2 b hb).2.1 q
      · exact (f2 b hb).2.2.1 q
  have capL : (capt ci σ).length = caps.length := by unfold capt; rw [List.length_map, hlen]
  have hf3 : ∀ b ∈ fp, H3 b = none := fun b hb => by
    rw [← hH3, upd_ne (Nat.ne_of_lt (fplt b hb))]
    exact (f2 b hb).1
  have IY : Inv Y [] (none :: capt ci σ) H3 { s2 with heap := h₁, toks := s2.toks + ([] : List (Str × Value)).length } := by
    refine ⟨okY, o3.symm, by have := I3.bare; rw [b3] at this; exact this, Un.kept (fun b u e => up b u (by rw [← h3]; exact e)), ⟨_, hns₁, fun i y v e1 e2 e3 => ?_⟩, fun y c e => ?_, I3.hok.fresh (by rw [h3]; exact Nat.le_refl _), fun y c e => I3.freeC y c (c1 y c e).2, fun p hp => ?_, fun b u e => ((I3.hok b u e).stay (fun c v _ q => up c v (by rw [← h3]; exact q)) (fun _ q => q) fun _ _ q => q), by show (capt ci σ).length + 1 = caps.length + 1; rw [capL]⟩
    · cases i with
      | zero => simp at e2
      | succ j =>
        have e1' : caps[j]? = some y := e1
        have e2' : (capt ci σ)[j]? = some (some v) := e2
        unfold capt at e2'
        rw [List.getElem?_map] at e2'
        cases q : ci[j]? with
        | none => rw [q] at e2'; cases e2'
        | some i =>
          rw [q] at e2'
          have ev : σ[i]? = some (some v) := by
            have z : (σ[i]?).join = some v := Option.some.inj e2'
            cases w : σ[i]? with
            | none => rw [w] at z; cases z
            | some o => rw [w] at z; exact congrArg some z
          have hz : (y, i) ∈ caps.zip ci := by
            refine List.mem_iff_getElem?.mpr ⟨j, ?_⟩
            rw [List.getElem?_zip_eq_some]
            exact ⟨e1', q⟩
          obtain ⟨k1, k2⟩ := hcap _ hz
          have kX := hfree' y (PySem.mem_of_lookup k1)
          obtain ⟨mX, _, hl⟩ := I3.loc
          obtain ⟨u, ru, lk⟩ := hl i y v k2 ev (.inr (.inl kX))
          refine ⟨u, ru, .inr ⟨.inl ?_, ?_⟩⟩
          · have e := lookup_relabel (env := X.env) (n := y) scope.names
            show (relabel scope X.env).names.lookup y = some .cell
            refine Eq.trans e ?_
            rw [k1, Option.map_some, kX, I.ok.kind]
            rfl
          · rcases lk with ⟨a, _⟩ | ⟨_, c, ec, z⟩
            · rw [kX] at a; cases a
            · obtain ⟨d, hd⟩ := c2 y (PySem.mem_of_lookup k1)
              have := (c1 y d hd).2
              rw [ec] at this
              cases this
              obtain ⟨oc, hoc, hdc⟩ := z
              exact ⟨c, hd, oc, up _ _ (by rw [← h3]; exact hoc), hdc⟩
    · obtain ⟨v, oc, hoc, hdc⟩ := I3.cell y c (c1 y c e).2
      exact ⟨v, oc, up _ _ (by rw [← h3]; exact hoc), hdc⟩
    · have hp' : p ∈ X.pn ++ pins := (List.mem_append.mp hp).elim (fun z => z) fun z => nomatch z
      obtain ⟨a, b, c, d, e⟩ := I3.pin p hp'
      refine ⟨up _ _ (by rw [← h3]; exact a), b, ?_, fun z => ?_, e⟩
      · show p.1 ≠ g3.objs.size
        have := Heap.lt_size a
        rw [h3] at this
        exact Nat.ne_of_lt this
      · rcases List.mem_cons.mp (I3.stkSub _ z) with q | q
        · exact c q
        · exact d q
  have stat : ∀ {H' : Hp}, (∀ b ∈ fp, H' b = none) → ∀ b ∈ fp, FpOk Y [] H' b := fun {H'} hn b hb => by
    refine ⟨hn b hb, ?_, fun z => ?_, .inl hb, fun y c e z => (f2 b hb).2.2.2.2.1 y c (c1 y c e).2 z, fun p hp z => ?_⟩
    · show b ≠ g3.objs.size
      rw [hC]
      exact Nat.ne_of_lt (Nat.lt_succ_of_lt (fplt b hb))
    · rcases List.mem_cons.mp (I.stkSub b z) with q | q
      · exact (f2 b hb).2.1 q
      · exact (f2 b hb).2.2.1 q
    · have hp' : p ∈ X.pn ++ pins := (List.mem_append.mp hp).elim (fun z => z) fun z => nomatch z
      exact (f2 b hb).2.2.2.2.2 p hp' z
  have loop : ∀ s4 : Shared, s4 = { s2 with heap := h₁, toks := s2.toks + ([] : List (Str × Value)).length } →
      codeAny (model X.prog X.w) X.A (.compLoop (.ListComp elt [⟨.Name x px, iter, ifs, 0⟩] scope pos) 0 (.ref it) (.ref acc) (compEnvC scope (clAcc X.env scope.names []) g3.objs.size X.env))
        (compPost (model X.prog X.w) X.A X.xe use Qv (.ref acc) g3.objs.size) s4 := by
    rintro s4 rfl
    refine codeAny_loop rfl (fun n s' => ∃ i ys v0 H', Inv Y [] (v0 :: capt ci σ) H' s' ∧ tn i s'.heap ∧ (∀ b ∈ fp, H' b = none) ∧ W i n ys H') (fun n s5 hI => ?_) m0 ⟨0, [], none, H3, IY, T.keep _ _ _ st2 fun b hb o e => up b o (g3of b o e), hf3, w0⟩
    obtain ⟨i, ys, v0, H5, I5, st5, fr5, w5⟩ := hI
    refine wpAny_noted ?_
    rw [compTurn_list]
    refine wpAny_bind (wpAny_standAt (wpAny_bind ?_))
    rcases turn i n ys H5 w5 with ⟨stop, qn⟩ | ⟨go, step⟩
    · refine thn (T.done Y rfl rfl rfl hc i [] s5 _ H5 _ I5 (stat fr5) st5 stop) fun r s6 ⟨hr, I6⟩ => ?_
      subst hr
      refine wpAny_pure ?_
      obtain ⟨m6, ns6, _⟩ := id I6.loc
      have J6 : Inv X pins σ H5 s6 := I3.call' (ch := fp) (I6.os.trans (by rfl)) I6.base I6.hok I6.bare fun b hb => by
        obtain ⟨_, a1, _, a3, a4, a5⟩ := f2 b hb
        exact ⟨a3, a1, a4, a5⟩
      refine fin acc g3.objs.size H5 s6 m6 J6 qn ns6 ⟨I6.free, ?_, fun z => ?_, .inr ?_, fun y c e z => ?_, fun p hp z => ?_⟩
      · intro z
        have := I3.lt
        rw [h3, ← z] at this
        exact absurd this (Nat.lt_irrefl _)
      · have := I3.nofs (a := g3.objs.size) (by rw [h3]; exact Nat.le_refl _)
        exact this z
      · have := I3.sz
        rw [h3] at this
        exact this
      · obtain ⟨v, q⟩ := I3.cell y c e
        have := q.lt
        rw [h3, z] at this
        exact absurd this (Nat.lt_irrefl _)
      · have := Heap.lt_size (I3.pin p hp).1
        rw [h3, z] at this
        exact absurd this (Nat.lt_irrefl _)
    · refine thn (T.item Y rfl rfl rfl hc i [] s5 _ H5 _ I5 (stat fr5) st5 go) fun r s6 ⟨u, hr, h6⟩ => ?_
      subst hr
      refine wpAny_bind (thn h6 fun _ s7 ⟨y, H7, I7, r7, y7, st7, fr7⟩ => ?_)
      have I7' := I7.pinned (stat fr7) (T.obj _ _ st7)
      refine wpAny_bind (wpAny_assign_Name (store_ok (i := 0) I7' hnd rfl (.inl (lookup_relabel_local hx)) r7 (fun s8 I8 => ?_) (.inr (lookup_relabel_local hx))))
      have back : ∀ {σ9 : St} {H9 : Hp} {s9 : Shared}, Inv Y ([] ++ pinsAt fp s7.heap) σ9 H9 s9 → Inv Y [] σ9 H9 s9 ∧ tn (i + 1) s9.heap ∧ ∀ b ∈ fp, H9 b = none := fun {σ9 H9 s9} I9 => by
        refine ⟨I9.unpinned, T.keep _ _ _ st7 fun b hb o e => (I9.pin (b, o) (List.mem_append_right _ (List.mem_append_right _ (mem_pinsAt hb e)))).1, fun b hb => ?_⟩
        obtain ⟨o, e, d⟩ := T.obj _ _ st7 b hb
        exact (I9.pin (b, o) (List.mem_append_right _ (List.mem_append_right _ (mem_pinsAt hb e)))).2.1
      refine wpAny_bind (wpAny_mono (ht _ _ _ _ _ _ s8 _ H7 _ I8 (step y H7 y7)) (fun ok s9 q9 => ?_) fun _ _ z => False.elim z)
      obtain ⟨H9, I9, q9⟩ := q9
      cases ok with
      | false =>
        obtain ⟨m', hm, w9⟩ := q9
        obtain ⟨a1, a2, a3⟩ := back I9
        exact wpAny_pure ⟨rfl, m', hm, i + 1, ys, some y, H9, a1, a2, a3, w9⟩
      | true =>
        refine wpAny_bind (wpAny_bind (wpAny_mono (he _ _ _ _ _ _ s9 _ H9 _ I9 q9) (fun v s10 q10 => ?_) fun _ _ z => False.elim z))
        obtain ⟨z, H10, I10, rz, hl, hsz, m', hm, w10⟩ := q10
        refine wpAny_bind (wpAny_mono (mt_append (X := Y) _ s10 _ H10 (.ref acc) [z] (.ref acc) [v] (fun _ H' => H' = upd H10 acc (.lst (ys ++ [z]))) I10 rfl (.cons rz .nil) ⟨acc, ys, z, rfl, rfl, hl, hsz, rfl⟩) (fun _ s11 q11 => ?_) fun _ _ z => False.elim z)
        obtain ⟨_, H11, I11, _, rfl⟩ := q11
        obtain ⟨a1, a2, a3⟩ := back I11
        exact wpAny_pure (wpAny_pure ⟨rfl, m', hm, i + 1, ys ++ [z], some y, _, a1, a2, a3, w10⟩)
  have st4 : tn 0 h₁ := T.keep _ _ _ st2 fun b hb o e => up b o (g3of b o e)
  exact codeAny_compStart_list (loop _ rfl) (T.self _ 0 _ _ _ st4 (loop _ rfl))
theorem pe_comp (hc : X.calm = true) (hi : PI X (.Name x px) iter wi) (hkind : scope.kind = .function) (hcell : ∀ y ∈ scope.names, y.2 ≠ .cell) (hnames : ∀ y ∈ scope.names, y.2 = .local → scope.names.lookup y.1 = some .local)
    (hx : scope.names.lookup x = some .local) (hfree : ∀ y ∈ scope.names, y.2 = .free → X.env.kindOf y.1 = some .cell)
    (hcap : ∀ p ∈ caps.zip ci, scope.names.lookup p.1 = some .free ∧ X.N[p.2]? = some p.1) (hlen : caps.length = ci.length) (hnd : (x :: caps).Nodup)
    (ht : ∀ C s₀ H₀ ex pn, PTs (X.blk scope (x :: caps) C s₀ H₀ ex pn) ifs tt) (he : ∀ C s₀ H₀ ex pn, PE (X.blk scope (x :: caps) C s₀ H₀ ex pn) elt te)
    (hs : ∀ v, foldedSetIterable iter X.env v = pure v := by intro _; rfl) : PE X (.ListComp elt [⟨.Name x px, iter, ifs, 0⟩] scope pos) (tComp wi ci tt te) := by
  intro pins s σ H Q I h
  rw [eval_ListComp]
  refine comp_core hc hi hkind hcell hnames hx hfree hcap hlen hnd ht he hs (use := none) I h fun acc C H5 s6 m6 J q ns f => ⟨m6, ns, fun h' sb => ?_⟩
  obtain ⟨f0, f1, _, f3, f4, f5⟩ := f
  exact ⟨.ref acc, H5, J.turned (t' := s6.toks) (fun b o hb e => (sb.2 b hb).trans e) f0 f1 f3 f4 f5, rfl, q⟩
/-- y = [..], y a name of the def's own -/
theorem ps_comp {y : Str} {iy : Nat} {py spos : Pos} (hc : X.calm = true) (hN : X.N.Nodup) (hiy : X.N[iy]? = some y) (hly : X.env.scope.names.lookup y = some .local) (hsw : swapsWith (.ListComp elt [⟨.Name x px, iter, ifs, 0⟩] scope pos) (some (.Name y py)) spos.line X.env = pure true)
    (hi : PI X (.Name x px) iter wi) (hkind : scope.kind = .function) (hcell : ∀ y ∈ scope.names, y.2 ≠ .cell) (hnames : ∀ y ∈ scope.names, y.2 = .local → scope.names.lookup y.1 = some .local)
    (hx : scope.names.lookup x = some .local) (hfree : ∀ y ∈ scope.names, y.2 = .free → X.env.kindOf y.1 = some .cell)
    (hcap : ∀ p ∈ caps.zip ci, scope.names.lookup p.1 = some .free ∧ X.N[p.2]? = some p.1) (hlen : caps.length = ci.length) (hnd : (x :: caps).Nodup)
    (ht : ∀ C s₀ H₀ ex pn, PTs (X.blk scope (x :: caps) C s₀ H₀ ex pn) ifs tt) (he : ∀ C s₀ H₀ ex pn, PE (X.blk scope (x :: caps) C s₀ H₀ ex pn) elt te)
    (hs : ∀ v, foldedSetIterable iter X.env v = pure v := by intro _; rfl) : PS X (.Assign [.Name y py] (.ListComp elt [⟨.Name x px, iter, ifs, 0⟩] scope pos) spos) (tAsg (tComp wi ci tt te) (gName iy)) := by
  intro pins s σ H D I h
  have h : tComp wi ci tt te σ H (fun v H1 => D.nx (σ.set iy (some v)) H1) := h
  rw [exec_Assign_Name_used _ _ _ _ hsw]
  refine wpAny_bind (wpAny_standAt (wpAny_bind ?_))
  refine wpAny_bind (wpAny_mono (comp_core hc hi hkind hcell hnames hx hfree hcap hlen hnd ht he hs (use := some (assign (.Name y py) X.env)) (Qv := fun _ s' => SP X pins D .next s') I h fun acc C H5 s6 m6 J q ns f => ?_) (fun _ s' hq => wpAny_pure (wpAny_pure hq)) fun _ _ e => e)
  refine wpAny_assign_Name (store_ok2 (i := iy) (v := .ref acc) J hN hiy (.inl hly) rfl (fun s7 I7 hsb => ?_) (.inr hly))
  obtain ⟨f0, f1, f2, f3, f4, f5⟩ := f
  obtain ⟨a, sb, ha⟩ := hsb
  have aC : C ≠ a := by
    rcases ha with z | z
    · rw [z]
      exact f1
    · exact fun w => f4 y a z w.symm
  exact ⟨m6, ns.sameBut sb aC, fun h' sb' => ⟨_, H5, I7.turned (t' := s7.toks) (fun b o hb e => (sb'.2 b hb).trans e) f0 f1 f3 f4 f5, q⟩⟩
end
end L2

set_option Elab.async false
set_option linter.all false
set_option maxRecDepth 100000
namespace L2
open PySem PySem.Spec PyProof.Rows

/-! ### == and != of lists and tuples: of the same items, or of other lengths -/
def plainV : V → Bool
  | .non => true
  | .bl _ => true
  | .int _ => true
  | .str _ => true
  | .ref _ => true
  | _ => false
theorem eqAt_self {A : Around} {s : Shared} {v : V} {u u' : Value} (r : RelV v u) (r' : RelV v u') (h : plainV v = true) : SeqAt.EqAt A s u u' true := by
  cases v with
  | non => exact eqAt_V (y := .non) (x := .non) r r' rfl rfl
  | bl b => have := eqAt_V (A := A) (s := s) (y := .bl b) (x := .bl b) r r' rfl rfl; simpa [eqV] using this
  | int b => have := eqAt_V (A := A) (s := s) (y := .int b) (x := .int b) r r' rfl rfl; simpa [eqV] using this
  | str b => have := eqAt_V (A := A) (s := s) (y := .str b) (x := .str b) r r' rfl rfl; simpa [eqV] using this
  | ref a =>
    cases (show u = Value.ref a from r)
    cases (show u' = Value.ref a from r')
    exact SeqAt.EqAt.same _
  | byt b => cases h
  | flt b => cases h
  | ty b => cases h
theorem eqAt_all {A : Around} {s : Shared} {xs : List V} {us us' : List Value} (r : Vals xs us) (r' : Vals xs us') (h : xs.all plainV = true) :
    ∀ j (h1 : j < us.toArray.size) (h2 : j < us'.toArray.size), SeqAt.EqAt A s us.toArray[j] us'.toArray[j] ((fun _ => true) j) := fun j h1 h2 => by
  have hj : j < xs.length := by
    have := r.length
    rw [List.size_toArray] at h1
    omega
  obtain ⟨u, e1, q1⟩ := r.get (i := j) (x := xs[j]) (by simp [hj])
  obtain ⟨u', e2, q2⟩ := r'.get (i := j) (x := xs[j]) (by simp [hj])
  have z1 : us.toArray[j] = u := by
    have := (List.getElem?_eq_some_iff.mp e1).2
    simpa using this
  have z2 : us'.toArray[j] = u' := by
    have := (List.getElem?_eq_some_iff.mp e2).2
    simpa using this
  rw [z1, z2]
  exact eqAt_self q1 q2 (List.all_eq_true.mp h _ (List.getElem_mem hj))
section
variable {X : Cx}
def rEqL (K : PySem.W.Frag) : R2 := fun x y H Q => ∃ a b xs ys, x = .ref a ∧ y = .ref b ∧ SqL K H a xs ∧ SqL K H b ys ∧ ((xs = ys ∧ xs.all plainV = true ∧ Q (.bl true) H) ∨ (xs.length ≠ ys.length ∧ Q (.bl false) H))
def rNeL (K : PySem.W.Frag) : R2 := fun x y H Q => ∃ a b xs ys, x = .ref a ∧ y = .ref b ∧ SqL K H a xs ∧ SqL K H b ys ∧ ((xs = ys ∧ xs.all plainV = true ∧ Q (.bl false) H) ∨ (xs.length ≠ ys.length ∧ Q (.bl true) H))
def rNeT (K : PySem.W.Frag) : R2 := fun x y H Q => ∃ a b xs ys, x = .ref a ∧ y = .ref b ∧ SqT K H a xs ∧ SqT K H b ys ∧ xs = ys ∧ xs.all plainV = true ∧ Q (.bl false) H
theorem all_true (n : Nat) : ((List.range n).all fun _ => true) = true := by simp
theorem op_eqL (hu : X.A.units < cLine) : OpR X (compareOp .Eq) (rEqL X.K) := by
  intro pins s σ H x y v u Q I rx ry h
  obtain ⟨a, b, xs, ys, rfl, rfl, ha, hb, h⟩ := h
  cases (show v = Value.ref a from rx)
  cases (show u = Value.ref b from ry)
  obtain ⟨its, r1, p1, _⟩ := I.list ha
  obtain ⟨its', r2, p2, _⟩ := I.list hb
  rcases h with ⟨rfl, hp, q⟩ | ⟨hn, q⟩
  · refine SeqAt.eq_listAt p1.isList p2.isList (by rw [List.size_toArray, List.size_toArray, ← r1.length, ← r2.length]) hu (eqAt_all r1 r2 hp) ?_
    rw [all_true]
    exact ⟨.bl true, H, I, rfl, q⟩
  · refine SeqAt.eq_list_lengthsAt p1.isList p2.isList ?_ hu ⟨.bl false, H, I, rfl, q⟩
    rw [List.size_toArray, List.size_toArray, ← r1.length, ← r2.length]
    exact bne_iff_ne.mpr hn
theorem op_neL (hu : X.A.units < cLine) : OpR X (compareOp .NotEq) (rNeL X.K) := by
  intro pins s σ H x y v u Q I rx ry h
  obtain ⟨a, b, xs, ys, rfl, rfl, ha, hb, h⟩ := h
  cases (show v = Value.ref a from rx)
  cases (show u = Value.ref b from ry)
  obtain ⟨its, r1, p1, _⟩ := I.list ha
  obtain ⟨its', r2, p2, _⟩ := I.list hb
  rcases h with ⟨rfl, hp, q⟩ | ⟨hn, q⟩
  · refine SeqAt.RcNeAt.lists p1.isList p2.isList (by rw [List.size_toArray, List.size_toArray, ← r1.length, ← r2.length]) hu (eqAt_all r1 r2 hp) _ _ _ _ ?_
    rw [all_true]
    exact ⟨.bl false, H, I, rfl, q⟩
  · refine SeqAt.RcNeAt.lists_lengths p1.isList p2.isList ?_ hu _ _ _ _ ⟨.bl true, H, I, rfl, q⟩
    rw [List.size_toArray, List.size_toArray, ← r1.length, ← r2.length]
    exact bne_iff_ne.mpr hn
theorem op_neT (hu : X.A.units < cLine) : OpR X (compareOp .NotEq) (rNeT X.K) := by
  intro pins s σ H x y v u Q I rx ry h
  obtain ⟨a, b, xs, ys, rfl, rfl, ha, hb, rfl, hp, q⟩ := h
  cases (show v = Value.ref a from rx)
  cases (show u = Value.ref b from ry)
  obtain ⟨its, r1, p1, _⟩ := I.tuple ha
  obtain ⟨its', r2, p2, _⟩ := I.tuple hb
  refine SeqAt.RcNeAt.tuples p1 p2 hu (eqAt_all r1 r2 hp) _ _ _ _ ?_
  have e : its.toArray.size = its'.toArray.size := by rw [List.size_toArray, List.size_toArray, ← r1.length, ← r2.length]
  rw [all_true, e]
  exact ⟨.bl false, H, I, by simp; rfl, q⟩
end
end L2

set_option Elab.async false
set_option linter.all false
set_option maxRecDepth 100000
namespace L2
open PySem PySem.Spec PyProof.Rows

/-! ### while an exception is handled: a list's end -/
theorem entry_unchain : entryFor table "proto.unchain" = some Builtin.«proto.unchain» := entryFor_of_fast (by kernel_rfl)
section
variable {prog : Program} {w : World} {A : Around} {E : Value → Shared → Prop} {s : Shared}
theorem raiseNew_h {α : Type} {n e : Addr} {on oe : Obj} {ws vs : Array Value} {Q : α → Shared → Prop} (hh : A.handled = some (.ref e)) (ne : e ≠ n) (hn : s.heap.get? n = some on) (hdn : on.data = .fields ws) (hz : 2 < ws.size)
    (he : s.heap.get? e = some oe) (hde : oe.data = .fields vs) (h2 : vs[2]? = some .none) (h : E (.ref n) { s with heap := s.heap.update n (Obj.mapFields (·.setIfInBounds 2 (.ref e))) }) : wpAny (model prog w) A (raiseNew (.ref n) : Sem α) Q E s := by
  simp only [raiseNew]
  refine wpAny_bind (wpAny_handled ?_)
  rw [hh]
  show wpAny _ _ (if (Value.ref e != Value.ref n) = true then (holding [Value.ref n] (runValue (.builtin "proto.unchain" ⟨[.ref n, .ref e, .ref e, .bool false], []⟩)) >>= fun _ => updateField n 2 (.ref e) >>= fun _ => throw (Value.ref n)) else throw (Value.ref n)) _ _ _
  rw [if_pos (by simpa using ne)]
  refine wpAny_bind (wpAny_holding (wpAny_runValue (codeAny_builtin entry_unchain ?_)))
  unfold Builtin.«proto.unchain»
  refine wpAny_bind (wpAny_field he hde h2 ?_)
  rw [if_pos (show (Value.none == Value.none) = true from rfl)]
  refine wpAny_pure ?_
  refine wpAny_bind ?_
  exact wpAny_setField hn hdn hz (wpAny_throw h)
theorem next_end_h {it l e : Addr} {i : Nat} {items : Array Value} {oe : Obj} {vs : Array Value} {Q : Option Value → Shared → Prop} (hh : A.handled = some (.ref e)) (he : s.heap.get? e = some oe) (hde : oe.data = .fields vs) (h2 : vs[2]? = some .none) (nit : e ≠ it)
    (hit : s.heap.IsListIter it l i) (hl : s.heap.IsList l items) (hx : items[i]? = none) (hQ : ∀ h', Heap.ExtBut it s.heap h' → Q none { s with heap := h' }) : wpAny (model prog w) A (pyNext (.ref it)) Q E s := by
  obtain ⟨o, ho, hc, hd⟩ := id hit
  obtain ⟨ol, hol, _, nl, hdl⟩ := hl
  unfold pyNext
  refine wpAny_bind (wpAny_attempt (wpAny_callSpecial?_slot (name := Str.ofString "__next__") hit.typeIs slot_listiter_next
    (wpAny_call_entry slot_listiter_next hit.typeIs entry_listiter_next ?_ (args_listiter_next _))))
  show wpAny _ _ (field (.ref it) 0 >>= _) _ _ s
  refine wpAny_bind (wpAny_field ho hd (x := .ref l) rfl ?_)
  show wpAny _ _ (if (Value.ref l == Value.none) = true then _ else _) _ _ s
  rw [if_neg (show ¬ ((Value.ref l == Value.none) = true) from Bool.false_ne_true)]
  show wpAny _ _ (field (.ref it) 1 >>= _) _ _ s
  refine wpAny_bind (wpAny_field ho hd (x := .int i 0) rfl ?_)
  show wpAny _ _ (seqItems? (.ref l) >>= _) _ _ s
  refine wpAny_bind (wpAny_seqItems hol hdl ?_)
  simp only [Int.toNat_natCast, hx]
  refine wpAny_bind (wpAny_rule (wpAny_bind (wpAny_setField ho hd (by simp) ?_)))
  show wpAny _ _ (newExc (.type "StopIteration") [] >>= _) _ _ _
  refine wpAny_bind ?_
  simp only [newExc, newTuple]
  refine wpAny_bind (wpAny_newObj_type ?_ (by size_fits))
  refine wpAny_bind (m := firstArgMember _ _) (wpAny_of_eq (a := Value.none) (by first | rfl | (simp only [firstArgMember]; rfl)) ?_)
  refine wpAny_newObj_type ?_ (by size_fits)
  dsimp only
  generalize hg1 : s.heap.update it _ = g1
  generalize hg2 : g1.push _ = g2
  have up2 : ∀ b u, b ≠ it → s.heap.get? b = some u → g2.get? b = some u := fun b u nb q => by
    rw [← hg2]
    refine Heap.get?_push_of_some _ ?_
    rw [← hg1, Heap.get?_update_other _ _ (Ne.symm nb)]
    exact q
  have ne : e ≠ g2.objs.size := Nat.ne_of_lt (Heap.lt_size (up2 e oe nit he))
  refine raiseNew_h (A := A.in1) hh ne (Heap.get?_push_size g2 rfl) rfl (by simp; omega) (Heap.get?_push_of_some _ (up2 e oe nit he)) hde h2 ?_
  refine wpAny_bind (wpAny_isInstance (T := "StopIteration") (b := true) ⟨_, Heap.get?_update_self _ (Heap.get?_push_size g2 rfl) rfl, rfl⟩ isSubtype_stop ?_)
  refine wpAny_pure (hQ _ fun b u nb q => ?_)
  have nb2 : g2.objs.size ≠ b := Nat.ne_of_gt (Heap.lt_size (up2 b u nb q))
  rw [Heap.get?_update_other _ _ nb2]
  exact Heap.get?_push_of_some _ (up2 b u nb q)
/-- a list that is walked while e is handled -/
theorem walks_h {e : Addr} {cls : Value} (hh : A.handled = some (.ref e)) (I ax : Addr) (hne : ax ≠ I) (nI : e ≠ I) (items : Array Value) :
    Walks prog w A I [I, ax, e] [I] items.size (fun i v => items[i]? = some v) (fun i h => h.IsListIter I ax i ∧ h.IsList ax items ∧ Exc h e cls) where
  sub := fun b hb => by simp at hb; simp [hb]
  frame := fun _ h h' st hk => ⟨st.1.at fun o e => hk I (by simp) o e, st.2.1.at fun o e => hk ax (by simp) o e, by
    obtain ⟨oe, vs, a, r⟩ := st.2.2
    exact ⟨oe, vs, hk e (by simp) _ a, r⟩⟩
  item := fun i s Q E hi st hQ => by
    refine wpAny_pyNext_list_item st.1 st.2.1 (x := items[i]) (by simp [hi]) fun h' hit' hs' => ?_
    refine hQ _ h' s.toks (by simp [hi]) ⟨hit', st.2.1.extBut hs'.extBut hne, ?_⟩ fun b o hb e => hs'.extBut b o (fun h => hb (by simp [h])) e
    obtain ⟨oe, vs, a, r⟩ := st.2.2
    exact ⟨oe, vs, hs'.extBut e _ nI a, r⟩
  done := fun s Q E st hQ => by
    obtain ⟨oe, vs, a, _, b, c⟩ := st.2.2
    exact next_end_h hh a b c nI st.1 st.2.1 (by simp) fun h' he' => hQ h' s.toks fun b o hb e => he' b o (fun h => hb (by simp [h])) e
  self := fun _ _ _ _ st hQ => wpAny_pyIter_listiter st.1 hQ
end
end L2

set_option Elab.async false
set_option linter.all false
set_option maxRecDepth 100000
namespace L2
open PySem PySem.Spec PyProof.Rows

/-! ### isinstance of a caught exception -/
/-- what the text's class at D must have so that its exceptions can be asked for their class -/
structure XAsk (K : PySem.W.Frag) (D : Addr) : Prop where
  ga : PySem.W.findIn K (.ref D) "__getattribute__" = some (some (.builtin "BaseException.__getattribute__"))
  gt : PySem.W.findIn K (.ref D) "__getattr__" = some none
  cl : PySem.W.hasDictIn K D = true
  at_ : PySem.W.findIn K (.ref D) "__class__" = some (some (.builtin "object.__class__"))
  get : PySem.W.specialIn K (.builtin "object.__class__") "__get__" = some (some (.builtin "getset_descriptor.__get__"))
  tk : PySem.W.takesIn K (.builtin "object.__class__") = some true
  ob : PySem.W.mroIn K D (.type "object") = some true
  be : PySem.W.mroIn K D (.type "BaseException") = some true

section
variable {prog : Program} {w : World} {K : PySem.W.Frag} {A : Around} {E : Value → Shared → Prop} {s : Shared} {x D : Addr} {ox : Obj}
open PySem.W
theorem find_none {a g : Value} {name : Str} (hc : (clsIn K D).isSome = true) (ha : findIn K (.ref D) name = some (some a)) (hg : specialIn K a "__get__" = some (some g)) (ht : takesIn K a = some true) : findObj K D none name = some (.bind g a) := by
  obtain ⟨cd, hc⟩ := Option.isSome_iff_exists.mp hc
  unfold findObj
  rw [hc, Option.bind_some, ha, Option.bind_some]
  simp [hg, ht]
theorem exc_ga_entry {tk : Tok} {Q : Fin → Shared → Prop} (c : XAsk K D) (X : K.In s.heap) (I : PySem.W.InstAt s.heap x ox D none) (h : Q (.done (.ret (.ref D))) s) :
    wpAny (model prog w) A (Builtin.«object.__getattribute__» ⟨[.ref x, .str "__class__" tk], []⟩) Q E s := by
  have hf : findObj K D none "__class__" = some (.bind (.builtin "getset_descriptor.__get__") (.builtin "object.__class__")) := find_none (by obtain ⟨cd, hc, _⟩ := any_some c.cl; rw [hc]; rfl) c.at_ c.get c.tk
  obtain ⟨hh, g, d, t, os⟩ := s
  have L0 := I.type (M := model prog w)
  have L1 := looks_find (M := model prog w) X I hf
  unfold Builtin.«object.__getattribute__»
  refine wpAny_bind (wpAny_pure (wpAny_bind (wpAny_pure (wpAny_bind (L0.at (wpAny_bind (L1.at ?_)))))))
  show wpAny _ _ (holding [Value.builtin "object.__class__"] (call (.builtin "getset_descriptor.__get__") [.builtin "object.__class__", .ref x, .ref D]) >>= ret) _ _ _
  exact wpAny_bind (wpAny_holding (wpAny_call (class_get (s := ⟨hh, g, d, t, os⟩) X I c.ob (wpAny_pure h))))
theorem exc_check {M : Model} {nameV : Value} {Q : Unit → Shared → Prop} (c : XAsk K D) (X : K.In s.heap) (I : PySem.W.InstAt s.heap x ox D none) (h : Q () s) : wpAny M A (checkBuiltinCall "BaseException.__getattribute__" ⟨[.ref x, nameV], []⟩) Q E s := by
  have hk : builtinKind "BaseException.__getattribute__" = some .slot := by decide +kernel
  have hs : splitId "BaseException.__getattribute__" = some ("BaseException", "__getattribute__") := by decide +kernel
  obtain ⟨hh, g, d, t, os⟩ := s
  have L0 := I.type (M := M)
  have L1 := looks_mroIn (M := M) X c.be
  have ha := F.args_bexc_ga (.ref x) nameV
  simp only [checkBuiltinCall, hk, hs]
  refine wpAny_bind ?_
  unfold isInstance
  refine wpAny_bind (L0.at (L1.at ?_))
  repeat (first | exact h | wp_step)
theorem exc_class {Q : Option Value → Shared → Prop} (c : XAsk K D) (X : K.In s.heap) (I : PySem.W.InstAt s.heap x ox D none) (h : Q (some (.ref D)) { s with toks := s.toks + 1 }) : wpAny (model prog w) A (getAttr? (.ref x) "__class__") Q E s := by
  obtain ⟨hh, g, d, t, os⟩ := s
  have L0 := I.type (M := model prog w)
  have L1 := looks_findIn (M := model prog w) X c.ga
  have L2 := looks_findIn (M := model prog w) X c.gt
  have hx2 : (Value.builtin "BaseException.__getattribute__" == Value.builtin "object.__getattribute__") = false := by decide +kernel
  unfold getAttr? getAttrBy? getAttrBy
  refine wpAny_bind (wpAny_mkText (wpAny_bind (wpAny_attempt (wpAny_holding (wpAny_bind (L0.at (wpAny_bind (L1.at ?_))))))))
  show wpAny _ _ (if (onTheHeap (Value.ref D) && Value.builtin "BaseException.__getattribute__" == Value.builtin "object.__getattribute__") = true then _ else _) _ _ _
  rw [if_neg (by rw [hx2]; simp)]
  unfold getAttrByItsOwn hookBefore
  rw [if_pos (show onTheHeap (Value.ref D) = true from rfl)]
  refine wpAny_bind (L2.at (wpAny_bind (wpAny_attempt (wpAny_holding ?_))))
  show wpAny _ _ (boundAndCalled _ _ _) _ _ _
  unfold boundAndCalled
  rw [F.excAttr_ValueError.ga.bind (.ref x)]
  refine wpAny_bind (wpAny_pure (wpAny_call (codeAny_call_builtin F.excAttr_ValueError.ga.plain F.entry_bexc_ga (exc_check (s := ⟨hh, g, d, t + 1, os⟩) c X I (exc_ga_entry (s := ⟨hh, g, d, t + 1, os⟩) c X I ?_)))))
  exact handed_on rfl (wpAny_pure h)
theorem kitx_exc (c : XAsk K D) : KitX K (.ref x) (.ref D) (fun h => Exc h x (.ref D)) := by
  have inst : ∀ {h : Heap}, Exc h x (.ref D) → ∃ ox, PySem.W.InstAt h x ox D none := fun {h} e => by
    obtain ⟨⟨cl, dc, dt, sl⟩, vs, a, ⟨b, b'⟩, d, _⟩ := e
    dsimp only at b b' d
    subst b b' d
    exact ⟨_, a, rfl, rfl, True.intro⟩
  refine ⟨fun M h _ e => e.ty, fun M h X _ => ?_, fun h tp dd its n sl X htp => ?_, fun X e k => ?_⟩
  · obtain ⟨cdD, hcD, _⟩ := any_some c.cl
    unfold clsIn at hcD
    split at hcD
    · rename_i c' d' cd' sl' ho
      intro A' Q' E' s' k q
      unfold isType loadHead
      exact wpAny_bind (wpAny_loadPart (k _ _ (X _ _ ho)) (wpAny_pure q))
    · cases hcD
  · obtain ⟨cdD, hcD, _⟩ := any_some c.cl
    refine Bool.eq_false_iff.mpr fun q => ?_
    have e : D = tp := Value.ref.inj (beq_iff_eq.mp q)
    subst e
    unfold clsIn at hcD
    split at hcD
    · rename_i c' d' cd' sl' ho
      have z := (X _ _ ho).symm.trans htp
      cases z
    · cases hcD
  · obtain ⟨ox, I⟩ := inst e
    exact exc_class c X I k
end
/-- isinstance(e, C), e a caught exception of the class at D -/
theorem call_isexc {X : Cx} : CallR X (.builtin "isinstance") (fun xs H Q => ∃ x D u c b, xs = [V.ref x, c] ∧ RelV c u ∧ (∀ u', RelV c u' → u' = u) ∧ H x = some (excO x (.ref D)) ∧ XAsk X.K D ∧ PySem.W.kitOne X.K (.ref D) u = some b ∧ Q (.bl b) H) := by
  intro pins s σ H xs us Q I r h
  obtain ⟨x, D, u, c, b, rfl, rc, uq, hx, ask, e, q⟩ := h
  obtain ⟨u1, u2, rfl, r1, r2⟩ := vals2 r
  cases (show u1 = Value.ref x from r1)
  cases uq u2 r2
  have z : ObjOk X.prog X.w H s.heap x (excO x (.ref D)) := I.hok x _ hx
  exact PySem.W.kia_one (kitx_exc ask) I.kIn z.1 e (fun z => nomatch z) fun tk => ⟨.bl b, H, I.tok _, rfl, q⟩
end L2

set_option Elab.async false
set_option linter.all false
set_option maxRecDepth 100000
namespace L2
open PySem PySem.Spec PyProof.Rows

/-! ### a list that is walked while an exception is handled -/
structure TurnH (P : Program) (w : World) (K : PySem.W.Frag) (tg : Expr) (J : It) (fp : List Addr) (it : Addr) (tn : Nat → Heap → Prop) : Prop where
  mem : it ∈ fp
  obj : ∀ i h, tn i h → ∀ b ∈ fp, ∃ o, h.get? b = some o ∧ ∀ v, o.data ≠ .cell v
  keep : ∀ i h h', tn i h → (∀ b ∈ fp, ∀ o, h.get? b = some o → h'.get? b = some o) → tn i h'
  item : ∀ (X : Cx), X.prog = P → X.w = w → X.K = K → ∀ (i : Nat) (pins : List (Addr × Obj)) (s : Shared) (σ : St) (H : Hp) (E : Value → Shared → Prop), Inv X pins σ H s → (∀ b ∈ fp, FpOk X pins H b) → tn i s.heap → J.go i H →
    wpAny (model P w) X.A (pyNext (.ref it)) (fun r s1 => ∃ u, r = some u ∧
      wpAny (model P w) X.A (letOwnedTupleGo tg (.ref it) u) (fun _ s2 => ∃ x H', Inv X pins σ H' s2 ∧ RelV x u ∧ J.yld i H x H' ∧ tn (i + 1) s2.heap ∧ ∀ b ∈ fp, H' b = none) E s1) E s
  done : ∀ (X : Cx), X.prog = P → X.w = w → X.K = K → ∀ (i : Nat) (pins : List (Addr × Obj)) (s : Shared) (σ : St) (H : Hp) (E : Value → Shared → Prop) (eh : Addr) (cls : Value), X.A.handled = some (.ref eh) → H eh = some (excO eh cls) →
    Inv X pins σ H s → (∀ b ∈ fp, FpOk X pins H b) → tn i s.heap → J.stop i H → wpAny (model P w) X.A (pyNext (.ref it)) (fun r s1 => r = none ∧ Inv X pins σ H s1) E s
  self : ∀ (A : Around) (i : Nat) (s : Shared) (Q : Value → Shared → Prop) (E : Value → Shared → Prop), tn i s.heap → Q (.ref it) s → wpAny (model P w) A (pyIter (.ref it)) Q E s
def PIEH (X : Cx) (pins : List (Addr × Obj)) (σ : St) (tg : Expr) (R : It → Hp → Prop) (itv : Value) (s2 : Shared) : Prop :=
  ∃ (it : Addr) (fp : List Addr) (tn : Nat → Heap → Prop) (J : It) (H' : Hp), itv = .ref it ∧ Inv X pins σ H' s2 ∧ TurnH X.prog X.w X.K tg J fp it tn ∧ tn 0 s2.heap ∧ (∀ b ∈ fp, FpOk X pins H' b) ∧ R J H'
def PIH (X : Cx) (tg iter : Expr) (wi : TI) : Prop :=
  ∀ (pins : List (Addr × Obj)) (s : Shared) (σ : St) (H : Hp) (R : It → Hp → Prop), Inv X pins σ H s → wi σ H R →
    wpAny (model X.prog X.w) X.A (eval iter X.env) (fun v s1 => wpAny (model X.prog X.w) X.A (pyIter v) (PIEH X pins σ tg R) X.xe s1) X.xe s
theorem turn_listH {P : Program} {w : World} {K : PySem.W.Frag} {tg : Expr} (a it : Addr) : TurnH P w K tg (Itl K a) [it] it (fun i h => h.IsListIter it a i) where
  mem := by simp
  obj := (turn_list (P := P) (w := w) (K := K) (tg := tg) a it).obj
  keep := (turn_list (P := P) (w := w) (K := K) (tg := tg) a it).keep
  item := by
    intro X hP hw hK i pins s σ H E I hf st hg
    subst hP hw hK
    obtain ⟨xs, x, hq, hx⟩ := hg
    obtain ⟨its, rv, p, hz⟩ := I.list hq
    obtain ⟨u, hu, ru⟩ := rv.get hx
    obtain ⟨f0, f1, f2, f3, f4, f5⟩ := hf it (by simp)
    refine wpAny_pyNext_list_item st p.isList (x := u) (by simpa using hu) fun h' st' sb => ?_
    have I1 : Inv X pins σ H { s with heap := h' } := I.turned (t' := s.toks) (fun b o hb e => (sb.2 b hb).trans e) f0 f1 f3 f4 f5
    obtain ⟨o, e, c, d⟩ := id st'
    exact ⟨u, rfl, go_of (s := { s with heap := h' }) e c d (by decide) ⟨x, H, I1, ru, ⟨rfl, fun ys hy => by rw [I.list_inj hy hq]; exact hx⟩, st', fun b hb => (hf b hb).1⟩⟩
  done := by
    intro X hP hw hK i pins s σ H E eh cls hh he I hf st hg
    subst hP hw hK
    obtain ⟨xs, hq, hx⟩ := hg
    obtain ⟨its, rv, p, hz⟩ := I.list hq
    obtain ⟨f0, f1, f2, f3, f4, f5⟩ := hf it (by simp)
    have hl := rv.length
    have z : ObjOk X.prog X.w H s.heap eh (excO eh cls) := I.hok eh _ he
    obtain ⟨oe, vs, e1, _, e3, e4⟩ := z.1
    have ne : eh ≠ it := fun q => by rw [q, f0] at he; cases he
    exact next_end_h hh e1 e3 e4 ne st p.isList (by simp; omega) fun h' eb => ⟨rfl, I.turned (t' := s.toks) (fun b o hb e => eb b o hb e) f0 f1 f3 f4 f5⟩
  self := (turn_list (P := P) (w := w) (K := K) (tg := tg) a it).self
theorem pi_listH {X : Cx} {tg e : Expr} {te : TE} (he : PE X e te) : PIH X tg e (iList X.K te) := by
  intro pins s σ H R I h
  refine thn (he pins s σ H _ I h) fun v s1 ⟨x, H1, I1, r1, a, hx, ⟨xs, hq⟩, q⟩ => ?_
  subst hx
  cases (show v = Value.ref a from r1)
  obtain ⟨its, rv, p, hz⟩ := I1.list hq
  refine wpAny_pyIter_list p.isList ?_
  have fr : H1 s1.heap.objs.size = none := I1.fresh
  refine ⟨_, [s1.heap.objs.size], _, Itl X.K a, H1, rfl, I1.kept (t' := s1.toks) (fun b u e => Heap.get?_push_of_some _ e), turn_listH a _, ⟨_, Heap.get?_push_size _ rfl, rfl, rfl⟩, fun b hb => ?_, q⟩
  have e : b = s1.heap.objs.size := by simpa using hb
  subst e
  exact I1.fpOk (Nat.le_refl _) fr
@[irreducible] def tCompH (eh : Addr) (cls : Value) (wi : TI) (ci : List Nat) (tt : TT) (te : TE) : TE := fun σ H Q => wi σ H fun J H1 => ∀ acc, H1 acc = none → ∃ W : Nat → Nat → List V → Hp → Prop, (∃ m, W 0 m [] (upd H1 acc (.lst []))) ∧
  ∀ i m ys H2, W i m ys H2 → (J.stop i H2 ∧ H2 eh = some (excO eh cls) ∧ Q (.ref acc) H2) ∨ (J.go i H2 ∧ ∀ x H3, J.yld i H2 x H3 → tt (some x :: capt ci σ) H3 fun b H4 =>
    if b = true then te (some x :: capt ci σ) H4 fun y H5 => H5 acc = some (.lst ys) ∧ ys.length < sizeLine ∧ ∃ m', m' < m ∧ W (i + 1) m' (ys ++ [y]) (upd H5 acc (.lst (ys ++ [y])))
    else ∃ m', m' < m ∧ W (i + 1) m' ys H4)

section
variable {X : Cx} {elt iter : Expr} {x : Str} {px pos : Pos} {ifs : List Expr} {scope : Scope} {ci : List Nat} {caps : List Str} {wi : TI} {tt : TT} {te : TE}
theorem comp_coreH {eh : Addr} {cls : Value} (hh : X.A.handled = some (.ref eh)) (hi : PIH X (.Name x px) iter wi) (hkind : scope.kind = .function) (hcell : ∀ y ∈ scope.names, y.2 ≠ .cell) (hnames : ∀ y ∈ scope.names, y.2 = .local → scope.names.lookup y.1 = some .local)
    (hx : scope.names.lookup x = some .local) (hfree : ∀ y ∈ scope.names, y.2 = .free → X.env.kindOf y.1 = some .cell)
    (hcap : ∀ p ∈ caps.zip ci, scope.names.lookup p.1 = some .free ∧ X.N[p.2]? = some p.1) (hlen : caps.length = ci.length) (hnd : (x :: caps).Nodup)
    (ht : ∀ C s₀ H₀ ex pn, PTs (X.blk scope (x :: caps) C s₀ H₀ ex pn) ifs tt) (he : ∀ C s₀ H₀ ex pn, PE (X.blk scope (x :: caps) C s₀ H₀ ex pn) elt te)
    (hs : ∀ v, foldedSetIterable iter X.env v = pure v) {use : Option (Value → Sem Unit)} {Qv : Value → Shared → Prop} {ppos : Pos}
    {pins : List (Addr × Obj)} {s : Shared} {σ : St} {H : Hp} {Q : VK} (I : Inv X pins σ H s) (h : tCompH eh cls wi ci tt te σ H Q)
    (fin : ∀ acc C H5 s6 m6, Inv X pins σ H5 s6 → Q (.ref acc) H5 → s6.heap.Ns C m6 → FpOk X pins H5 C → compPost (model X.prog X.w) X.A X.xe use Qv (.ref acc) C (.ok .next) s6) :
    wpAny (model X.prog X.w) X.A (comprehension (.ListComp elt [⟨.Name x px, iter, ifs, 0⟩] scope pos) scope X.env ppos (newList []) false (eval iter X.env) use) Qv X.xe s := by
  unfold tCompH at h
  have hfree' : ∀ n, (n, NameKind.free) ∈ scope.names → X.env.kindOf n = some .cell := fun n m => hfree (n, .free) m rfl
  have hclos : closureFor scope X.env = pure (clAcc X.env scope.names []) := closureFor_of fun n m => I.ok.has n (.inl (hfree' n m))
  -- what the block's cells are
  have c1 : ∀ n c, (clAcc X.env scope.names []).lookup n = some c → (n, NameKind.free) ∈ scope.names ∧ X.env.cells.lookup n = some c := fun n c e => by
    rcases clAcc_mem (PySem.mem_of_lookup e) with z | ⟨z, e'⟩
    · exact absurd z (by simp)
    · obtain ⟨d, hd⟩ := I.ok.has n (.inl (hfree' n z))
      rw [hd] at e'
      exact ⟨z, by rw [hd, e']; rfl⟩
  have c2 : ∀ n, (n, NameKind.free) ∈ scope.names → ∃ c, (clAcc X.env scope.names []).lookup n = some c := fun n m => by
    obtain ⟨c, hc⟩ := clAcc_has (env := X.env) (cs := []) m
    exact lookup_mem hc
  refine wpAny_comprehension_free (use := use) rfl hs hclos hkind hnames (thn (hi pins s σ H _ I h) fun v s1 h1 => thn h1 fun itv s2 h2 => ?_)
  obtain ⟨it, fp, tn, J, H2, e, I2, T, st2, f2, rd⟩ := h2
  subst e
  have fz : H2 s2.heap.objs.size = none := I2.fresh
  obtain ⟨W, ⟨m0, w0⟩, turn⟩ := rd s2.heap.objs.size fz
  refine wpAny_newObj_type (wpAny_newFunctionEnv hcell (by intro y hy; simp at hy) (fun h₁ hns₁ hsb₁ => ?_) hkind)
  dsimp only at hns₁ hsb₁ ⊢
  have I3 : Inv X pins σ (upd H2 s2.heap.objs.size (.lst [])) { s2 with heap := s2.heap.push { cls := .type "list", dict := none, data := .seq ([] : List Value).toArray } } := I2.lnew (ys := []) (its := []) (t' := s2.toks) .nil (Nat.zero_le _)
  generalize hg3 : s2.heap.push { cls := .type "list", dict := none, data := .seq ([] : List Value).toArray } = g3 at hns₁ hsb₁ I3 ⊢
  generalize hacc : s2.heap.objs.size = acc at *
  have hC : g3.objs.size = acc + 1 := by rw [← hg3, Heap.size_push, hacc]
  generalize hH3 : upd H2 acc (HO.lst []) = H3 at *
  generalize hs3 : ({ s2 with heap := g3 } : Shared) = s3 at *
  have h3 : s3.heap = g3 := by rw [← hs3]
  have o3 : s3.os = s2.os := by rw [← hs3]
  have b3 : s3.gens = s2.gens := by rw [← hs3]
  have up : ∀ b o, g3.get? b = some o → h₁.get? b = some o := fun b o e => hsb₁.extBut b o (Nat.ne_of_lt (Heap.lt_size e)) (Heap.get?_push_of_some _ e)
  have fpo : ∀ b ∈ fp, ∃ o, s2.heap.get? b = some o := fun b hb => by
    obtain ⟨o, e, _⟩ := T.obj _ _ st2 b hb
    exact ⟨o, e⟩
  have fplt : ∀ b ∈ fp, b < acc := fun b hb => by
    obtain ⟨o, e⟩ := fpo b hb
    rw [← hacc]
    exact Heap.lt_size e
  have g3of : ∀ b o, s2.heap.get? b = some o → g3.get? b = some o := fun b o e => by
    rw [← hg3]
    exact Heap.get?_push_of_some _ e
  let Y : Cx := X.blk scope (x :: caps) g3.objs.size s3 H3 fp (X.pn ++ pins)
  have okY : Y.Ok := by
    refine ⟨I.ok.mod, hkind, I.ok.glob, I.ok.blt, by show s3.heap.objs.size ≤ g3.objs.size; rw [h3]; exact Nat.le_refl _, fun y z c e1 e2 => I.ok.inj y z c (c1 y c e1).2 (c1 z c e2).2, fun y hy => ?_, fun y c z => (nomatch z), I.ok.hd, I.ok.frames, .inl rfl, fun b hb => ⟨?_, fun y c e z => ?_⟩, I3.bs, Nat.le_trans I.ok.bsz I3.sz, fun b o e hb => ?_, fun b hb z => ?_, I3.stack, I3.stkFree⟩
    · have hy' : (relabel scope X.env).names.lookup y = some .cell ∨ (relabel scope X.env).names.lookup y = some .free := hy
      have e := lookup_relabel (env := X.env) (n := y) scope.names
      have e' : (relabel scope X.env).names.lookup y = (scope.names.lookup y).map fun k => if (k == NameKind.free && X.env.scope.kind == .function && X.env.kindOf y == some .cell) then NameKind.cell else k := e
      cases q : scope.names.lookup y with
      | none =>
        rw [q] at e'
        rw [e'] at hy'
        rcases hy' with z | z <;> cases z
      | some k =>
        have mk := PySem.mem_of_lookup q
        by_cases hk : k = .free
        · subst hk
          exact c2 y mk
        · rw [q] at e'
          have nk : (k == NameKind.free) = false := beq_eq_false_iff_ne.mpr hk
          simp only [Option.map_some, nk, Bool.false_and, Bool.false_eq_true, if_false] at e'
          rw [e'] at hy'
          rcases hy' with z | z
          · exact absurd (Option.some.inj z) (hcell _ mk)
          · exact absurd (Option.some.inj z) hk
    · show b ≠ g3.objs.size
      rw [hC]
      exact Nat.ne_of_lt (Nat.lt_succ_of_lt (fplt b hb))
    · exact (f2 b hb).2.2.2.2.1 y c (c1 y c e).2 z
    · rcases (f2 b hb).2.2.2.1 with z | z
      · exact I.ok.noex b o e z
      · exact absurd (Nat.lt_of_lt_of_le (Heap.lt_size e) (Nat.le_trans I.ok.bsz z)) (Nat.lt_irrefl _)
    · rcases List.mem_cons.mp (I.stkSub b z) with q | q
      · exact (f2 b hb).2.1 q
      · exact (f2 b hb).2.2.1 q
  have capL : (capt ci σ).length = caps.length := by unfold capt; rw [List.length_map, hlen]
  have hf3 : ∀ b ∈ fp, H3 b = none := fun b hb => by
    rw [← hH3, upd_ne (Nat.ne_of_lt (fplt b hb))]
    exact (f2 b hb).1
  have IY : Inv Y [] (none :: capt ci σ) H3 { s2 with heap := h₁, toks := s2.toks + ([] : List (Str × Value)).length } := by
    refine ⟨okY, o3.symm, by have := I3.bare; rw [b3] at this; exact this, Un.kept (fun b u e => up b u (by rw [← h3]; exact e)), ⟨_, hns₁, fun i y v e1 e2 e3 => ?_⟩, fun y c e => ?_, I3.hok.fresh (by rw [h3]; exact Nat.le_refl _), fun y c e => I3.freeC y c (c1 y c e).2, fun p hp => ?_, fun b u e => ((I3.hok b u e).stay (fun c v _ q => up c v (by rw [← h3]; exact q)) (fun _ q => q) fun _ _ q => q), by show (capt ci σ).length + 1 = caps.length + 1; rw [capL]⟩
    · cases i with
      | zero => simp at e2
      | succ j =>
        have e1' : caps[j]? = some y := e1
        have e2' : (capt ci σ)[j]? = some (some v) := e2
        unfold capt at e2'
        rw [List.getElem?_map] at e2'
        cases q : ci[j]? with
        | none => rw [q] at e2'; cases e2'
        | some i =>
          rw [q] at e2'
          have ev : σ[i]? = some (some v) := by
            have z : (σ[i]?).join = some v := Option.some.inj e2'
            cases w : σ[i]? with
            | none => rw [w] at z; cases z
            | some o => rw [w] at z; exact congrArg some z
          have hz : (y, i) ∈ caps.zip ci := by
            refine List.mem_iff_getElem?.mpr ⟨j, ?_⟩
            rw [List.getElem?_zip_eq_some]
            exact ⟨e1', q⟩
          obtain ⟨k1, k2⟩ := hcap _ hz
          have kX := hfree' y (PySem.mem_of_lookup k1)
          obtain ⟨mX, _, hl⟩ := I3.loc
          obtain ⟨u, ru, lk⟩ := hl i y v k2 ev (.inr (.inl kX))
          refine ⟨u, ru, .inr ⟨.inl ?_, ?_⟩⟩
          · have e := lookup_relabel (env := X.env) (n := y) scope.names
            show (relabel scope X.env).names.lookup y = some .cell
            refine Eq.trans e ?_
            rw [k1, Option.map_some, kX, I.ok.kind]
            rfl
          · rcases lk with ⟨a, _⟩ | ⟨_, c, ec, z⟩
            · rw [kX] at a; cases a
            · obtain ⟨d, hd⟩ := c2 y (PySem.mem_of_lookup k1)
              have := (c1 y d hd).2
              rw [ec] at this
              cases this
              obtain ⟨oc, hoc, hdc⟩ := z
              exact ⟨c, hd, oc, up _ _ (by rw [← h3]; exact hoc), hdc⟩
    · obtain ⟨v, oc, hoc, hdc⟩ := I3.cell y c (c1 y c e).2
      exact ⟨v, oc, up _ _ (by rw [← h3]; exact hoc), hdc⟩
    · have hp' : p ∈ X.pn ++ pins := (List.mem_append.mp hp).elim (fun z => z) fun z => nomatch z
      obtain ⟨a, b, c, d, e⟩ := I3.pin p hp'
      refine ⟨up _ _ (by rw [← h3]; exact a), b, ?_, fun z => ?_, e⟩
      · show p.1 ≠ g3.objs.size
        have := Heap.lt_size a
        rw [h3] at this
        exact Nat.ne_of_lt this
      · rcases List.mem_cons.mp (I3.stkSub _ z) with q | q
        · exact c q
        · exact d q
  have stat : ∀ {H' : Hp}, (∀ b ∈ fp, H' b = none) → ∀ b ∈ fp, FpOk Y [] H' b := fun {H'} hn b hb => by
    refine ⟨hn b hb, ?_, fun z => ?_, .inl hb, fun y c e z => (f2 b hb).2.2.2.2.1 y c (c1 y c e).2 z, fun p hp z => ?_⟩
    · show b ≠ g3.objs.size
      rw [hC]
      exact Nat.ne_of_lt (Nat.lt_succ_of_lt (fplt b hb))
    · rcases List.mem_cons.mp (I.stkSub b z) with q | q
      · exact (f2 b hb).2.1 q
      · exact (f2 b hb).2.2.1 q
    · have hp' : p ∈ X.pn ++ pins := (List.mem_append.mp hp).elim (fun z => z) fun z => nomatch z
      exact (f2 b hb).2.2.2.2.2 p hp' z
  have loop : ∀ s4 : Shared, s4 = { s2 with heap := h₁, toks := s2.toks + ([] : List (Str × Value)).length } →
      codeAny (model X.prog X.w) X.A (.compLoop (.ListComp elt [⟨.Name x px, iter, ifs, 0⟩] scope pos) 0 (.ref it) (.ref acc) (compEnvC scope (clAcc X.env scope.names []) g3.objs.size X.env))
        (compPost (model X.prog X.w) X.A X.xe use Qv (.ref acc) g3.objs.size) s4 := by
    rintro s4 rfl
    refine codeAny_loop rfl (fun n s' => ∃ i ys v0 H', Inv Y [] (v0 :: capt ci σ) H' s' ∧ tn i s'.heap ∧ (∀ b ∈ fp, H' b = none) ∧ W i n ys H') (fun n s5 hI => ?_) m0 ⟨0, [], none, H3, IY, T.keep _ _ _ st2 fun b hb o e => up b o (g3of b o e), hf3, w0⟩
    obtain ⟨i, ys, v0, H5, I5, st5, fr5, w5⟩ := hI
    refine wpAny_noted ?_
    rw [compTurn_list]
    refine wpAny_bind (wpAny_standAt (wpAny_bind ?_))
    rcases turn i n ys H5 w5 with ⟨stop, hq, qn⟩ | ⟨go, step⟩
    · refine thn (T.done Y rfl rfl rfl i [] s5 _ H5 _ eh cls hh hq I5 (stat fr5) st5 stop) fun r s6 ⟨hr, I6⟩ => ?_
      subst hr
      refine wpAny_pure ?_
      obtain ⟨m6, ns6, _⟩ := id I6.loc
      have J6 : Inv X pins σ H5 s6 := I3.call' (ch := fp) (I6.os.trans (by rfl)) I6.base I6.hok I6.bare fun b hb => by
        obtain ⟨_, a1, _, a3, a4, a5⟩ := f2 b hb
        exact ⟨a3, a1, a4, a5⟩
      refine fin acc g3.objs.size H5 s6 m6 J6 qn ns6 ⟨I6.free, ?_, fun z => ?_, .inr ?_, fun y c e z => ?_, fun p hp z => ?_⟩
      · intro z
        have := I3.lt
        rw [h3, ← z] at this
        exact absurd this (Nat.lt_irrefl _)
      · have := I3.nofs (a := g3.objs.size) (by rw [h3]; exact Nat.le_refl _)
        exact this z
      · have := I3.sz
        rw [h3] at this
        exact this
      · obtain ⟨v, q⟩ := I3.cell y c e
        have := q.lt
        rw [h3, z] at this
        exact absurd this (Nat.lt_irrefl _)
      · have := Heap.lt_size (I3.pin p hp).1
        rw [h3, z] at this
        exact absurd this (Nat.lt_irrefl _)
    · refine thn (T.item Y rfl rfl rfl i [] s5 _ H5 _ I5 (stat fr5) st5 go) fun r s6 ⟨u, hr, h6⟩ => ?_
      subst hr
      refine wpAny_bind (thn h6 fun _ s7 ⟨y, H7, I7, r7, y7, st7, fr7⟩ => ?_)
      have I7' := I7.pinned (stat fr7) (T.obj _ _ st7)
      refine wpAny_bind (wpAny_assign_Name (store_ok (i := 0) I7' hnd rfl (.inl (lookup_relabel_local hx)) r7 (fun s8 I8 => ?_) (.inr (lookup_relabel_local hx))))
      have back : ∀ {σ9 : St} {H9 : Hp} {s9 : Shared}, Inv Y ([] ++ pinsAt fp s7.heap) σ9 H9 s9 → Inv Y [] σ9 H9 s9 ∧ tn (i + 1) s9.heap ∧ ∀ b ∈ fp, H9 b = none := fun {σ9 H9 s9} I9 => by
        refine ⟨I9.unpinned, T.keep _ _ _ st7 fun b hb o e => (I9.pin (b, o) (List.mem_append_right _ (List.mem_append_right _ (mem_pinsAt hb e)))).1, fun b hb => ?_⟩
        obtain ⟨o, e, d⟩ := T.obj _ _ st7 b hb
        exact (I9.pin (b, o) (List.mem_append_right _ (List.mem_append_right _ (mem_pinsAt hb e)))).2.1
      refine wpAny_bind (wpAny_mono (ht _ _ _ _ _ _ s8 _ H7 _ I8 (step y H7 y7)) (fun ok s9 q9 => ?_) fun _ _ z => False.elim z)
      obtain ⟨H9, I9, q9⟩ := q9
      cases ok with
      | false =>
        obtain ⟨m', hm, w9⟩ := q9
        obtain ⟨a1, a2, a3⟩ := back I9
        exact wpAny_pure ⟨rfl, m', hm, i + 1, ys, some y, H9, a1, a2, a3, w9⟩
      | true =>
        refine wpAny_bind (wpAny_bind (wpAny_mono (he _ _ _ _ _ _ s9 _ H9 _ I9 q9) (fun v s10 q10 => ?_) fun _ _ z => False.elim z))
        obtain ⟨z, H10, I10, rz, hl, hsz, m', hm, w10⟩ := q10
        refine wpAny_bind (wpAny_mono (mt_append (X := Y) _ s10 _ H10 (.ref acc) [z] (.ref acc) [v] (fun _ H' => H' = upd H10 acc (.lst (ys ++ [z]))) I10 rfl (.cons rz .nil) ⟨acc, ys, z, rfl, rfl, hl, hsz, rfl⟩) (fun _ s11 q11 => ?_) fun _ _ z => False.elim z)
        obtain ⟨_, H11, I11, _, rfl⟩ := q11
        obtain ⟨a1, a2, a3⟩ := back I11
        exact wpAny_pure (wpAny_pure ⟨rfl, m', hm, i + 1, ys ++ [z], some y, _, a1, a2, a3, w10⟩)
  have st4 : tn 0 h₁ := T.keep _ _ _ st2 fun b hb o e => up b o (g3of b o e)
  exact codeAny_compStart_list (loop _ rfl) (T.self _ 0 _ _ _ st4 (loop _ rfl))
theorem pe_compH {eh : Addr} {cls : Value} (hh : X.A.handled = some (.ref eh)) (hi : PIH X (.Name x px) iter wi) (hkind : scope.kind = .function) (hcell : ∀ y ∈ scope.names, y.2 ≠ .cell) (hnames : ∀ y ∈ scope.names, y.2 = .local → scope.names.lookup y.1 = some .local)
    (hx : scope.names.lookup x = some .local) (hfree : ∀ y ∈ scope.names, y.2 = .free → X.env.kindOf y.1 = some .cell)
    (hcap : ∀ p ∈ caps.zip ci, scope.names.lookup p.1 = some .free ∧ X.N[p.2]? = some p.1) (hlen : caps.length = ci.length) (hnd : (x :: caps).Nodup)
    (ht : ∀ C s₀ H₀ ex pn, PTs (X.blk scope (x :: caps) C s₀ H₀ ex pn) ifs tt) (he : ∀ C s₀ H₀ ex pn, PE (X.blk scope (x :: caps) C s₀ H₀ ex pn) elt te)
    (hs : ∀ v, foldedSetIterable iter X.env v = pure v := by intro _; rfl) : PE X (.ListComp elt [⟨.Name x px, iter, ifs, 0⟩] scope pos) (tCompH eh cls wi ci tt te) := by
  intro pins s σ H Q I h
  rw [eval_ListComp]
  refine comp_coreH hh hi hkind hcell hnames hx hfree hcap hlen hnd ht he hs (use := none) I h fun acc C H5 s6 m6 J q ns f => ⟨m6, ns, fun h' sb => ?_⟩
  obtain ⟨f0, f1, _, f3, f4, f5⟩ := f
  exact ⟨.ref acc, H5, J.turned (t' := s6.toks) (fun b o hb e => (sb.2 b hb).trans e) f0 f1 f3 f4 f5, rfl, q⟩

/-- sum of a list of noughts and ones while an exception is handled -/
theorem preSum_ones {ns : List Int} (h : ∀ n ∈ ns, n = 0 ∨ n = 1) : ∀ j, j ≤ ns.length → 0 ≤ preSum (fun i => ns.getD i 0) j ∧ preSum (fun i => ns.getD i 0) j ≤ j
  | 0, _ => by simp [preSum]
  | j + 1, hj => by
    obtain ⟨a, b⟩ := preSum_ones h j (by omega)
    have z : ns.getD j 0 = 0 ∨ ns.getD j 0 = 1 := by
      have : j < ns.length := by omega
      rw [List.getD_eq_getElem?_getD, List.getElem?_eq_getElem this]
      exact h _ (List.getElem_mem this)
    simp only [preSum]
    rcases z with z | z <;> rw [z] <;> omega
theorem preSum_sum {ns : List Int} : ∀ j, j ≤ ns.length → preSum (fun i => ns.getD i 0) j = (ns.take j).sum
  | 0, _ => by simp [preSum]
  | j + 1, hj => by
    have : j < ns.length := by omega
    simp only [preSum]
    rw [preSum_sum j (by omega), List.take_add_one, List.sum_append, List.getElem?_eq_getElem this, List.getD_eq_getElem?_getD, List.getElem?_eq_getElem this]
    simp
theorem call_sumH : CallR X (.builtin "sum") (fun xs H Q => ∃ (a : Addr) (ns : List Int) (eh : Addr) (cls : Value), xs = [V.ref a] ∧ H a = some (.lst (ns.map V.int)) ∧ (∀ n ∈ ns, n = 0 ∨ n = 1) ∧ ns.length ≤ 1000 ∧ X.A.handled = some (.ref eh) ∧ H eh = some (excO eh cls) ∧ Q (.int ns.sum) H) := by
  intro pins s σ H xs us Q I r h
  obtain ⟨a, ns, eh, cls, rfl, ha, h01, hlen, hh, he, q⟩ := h
  obtain ⟨u, rfl, ru⟩ := vals1 r
  cases (show u = Value.ref a from ru)
  obtain ⟨z, its, n, rv, hl, e⟩ := I.lstM ha
  have ze : ObjOk X.prog X.w H s.heap eh (excO eh cls) := I.hok eh _ he
  have ne : eh ≠ s.heap.objs.size := Nat.ne_of_lt ze.lt
  have na : a ≠ s.heap.objs.size := Nat.ne_of_lt (Heap.lt_size e)
  have isl : s.heap.IsList a its.toArray := ⟨_, e, rfl, n, rfl⟩
  have hli : its.length = ns.length := by rw [← hl, List.length_map]
  refine call_sum_walk (wpAny_pyIter_list isl ?_)
  refine ⟨s.heap.objs.size, _, _, _, _, _, fun i => ns.getD i 0, rfl, walks_h (A := X.A.in1) (cls := cls) hh s.heap.objs.size a na ne its.toArray, ⟨⟨_, Heap.get?_push_size _ rfl, rfl, rfl⟩, ⟨_, Heap.get?_push_of_some _ e, rfl, n, rfl⟩, ?_⟩, fun b hb => ?_, fun i v hv => ?_, fun j hj => ?_, fun h' tk t' k => ?_⟩
  · obtain ⟨oe, vs, e1, r1⟩ := ze.1
    exact ⟨oe, vs, Heap.get?_push_of_some _ e1, r1⟩
  · rw [Heap.size_push]
    rcases List.mem_cons.mp hb with z | hb
    · subst z
      exact Nat.lt_succ_self _
    · rcases List.mem_cons.mp hb with z | hb
      · subst z
        exact Nat.lt_succ_of_lt (Heap.lt_size e)
      · obtain rfl : b = eh := by simpa using hb
        exact Nat.lt_succ_of_lt ze.lt
  · have hv' : its[i]? = some v := by simpa using hv
    have hi : i < ns.length := by
      have := (List.getElem?_eq_some_iff.mp hv').1
      omega
    obtain ⟨u, e1, q1⟩ := rv.get (i := i) (x := V.int ns[i]) (by simp [hi])
    rw [hv'] at e1
    cases e1
    obtain ⟨t, rfl⟩ := q1
    exact ⟨t, by dsimp only; rw [List.getD_eq_getElem?_getD, List.getElem?_eq_getElem hi]; rfl⟩
  · have hj' : j < ns.length := by simpa [hli] using hj
    have z1 : ns.getD j 0 = 0 ∨ ns.getD j 0 = 1 := by
      rw [List.getD_eq_getElem?_getD, List.getElem?_eq_getElem hj']
      exact h01 _ (List.getElem_mem hj')
    obtain ⟨p1, p2⟩ := preSum_ones h01 (j + 1) (by omega)
    have big : (1001 : Int) < 2 ^ 63 := by decide
    refine ⟨⟨?_, ?_⟩, ?_, ?_⟩
    · show -(2 ^ 63) ≤ ns.getD j 0
      rcases z1 with z1 | z1 <;> rw [z1] <;> decide
    · show ns.getD j 0 < 2 ^ 63
      rcases z1 with z1 | z1 <;> rw [z1] <;> decide
    · exact Int.le_trans (by decide) p1
    · exact Int.lt_of_le_of_lt p2 (Int.lt_of_le_of_lt (by omega) big)
  · refine ⟨.int ns.sum, H, I.kept (t' := tk) (fun b o e => k b o (fun m => ?_) (Heap.get?_push_of_some _ e)), ?_, q⟩
    · obtain rfl : b = s.heap.objs.size := by simpa using m
      exact absurd (Heap.lt_size e) (Nat.lt_irrefl _)
    · refine ⟨t', ?_⟩
      rw [List.size_toArray, hli, preSum_sum _ (Nat.le_refl _), List.take_length]
/-- xs.index(True) of a list of bools -/
theorem mt_index : MtR X "list.index" (fun x xs H Q => ∃ (a : Addr) (bs : List Bool) (j : Nat), x = .ref a ∧ xs = [V.bl true] ∧ H a = some (.lst (bs.map V.bl)) ∧ bs[j]? = some true ∧ (∀ m, m < j → bs[m]? = some false) ∧ j ≤ 1000 ∧ Q (.int (j : Int)) H) := by
  intro pins s σ H x xs v us Q I rx rv h
  obtain ⟨a, bs, j, rfl, rfl, ha, hj, hn, hs, q⟩ := h
  cases (show v = Value.ref a from rx)
  obtain ⟨u, rfl, ru⟩ := vals1 rv
  cases (show u = Value.bool true from ru)
  obtain ⟨z, its, n, r, hl, e⟩ := I.lstM ha
  have hli : its.length = bs.length := by rw [← hl, List.length_map]
  have val : ∀ (m : Nat) (b : Bool), bs[m]? = some b → its[m]? = some (Value.bool b) := fun m b e1 => by
    obtain ⟨u, e2, q2⟩ := r.get (i := m) (x := V.bl b) (by rw [List.getElem?_map, e1]; rfl)
    cases (show u = Value.bool b from q2)
    exact e2
  have hjl : j < its.length := by
    have := (List.getElem?_eq_some_iff.mp hj).1
    omega
  refine call_meets F.slot_list_index ⟨_, e, rfl⟩ F.entry_list_index (F.args_list_index_2 _ _) (SeqAt.list_indexAt a its.toArray n none #[] (.bool true) (fun y => y == .bool true) j (by simpa using hjl) (by omega) ?_ ?_) ⟨e, fun y hy => ?_, ?_⟩
  · have := (List.getElem?_eq_some_iff.mp (val j true hj)).2
    simp [this]
  · intro m hm hmj
    have := (List.getElem?_eq_some_iff.mp (val m false (hn m hmj))).2
    simp [this]
  · have hy' : y ∈ its := by simpa using hy
    obtain ⟨m, hm, rfl⟩ := List.mem_iff_getElem.mp hy'
    have hb : m < bs.length := by omega
    have e1 := (List.getElem?_eq_some_iff.mp (val m bs[m] (by simp [hb]))).2
    rw [e1]
    have := SeqAt.EqAt.bool_bool (A := X.A.in1) (s := s) bs[m] true
    cases hbm : bs[m] <;> rw [hbm] at this <;> exact this
  · exact ⟨.int (j : Int), H, I.tok _, ⟨_, rfl⟩, q⟩
end

/-! ### a def whose promise asks what is handled around it -/
abbrev SpA := Around → Sp
structure FnOkA (P : Program) (w : World) (K : PySem.W.Frag) (mg : Str → Option Value) (base : Heap) (CX : CXT) (k : Nat) (f : Addr) (fd : FuncData) (ps : List Str) (sp : SpA) : Prop where
  len : ∀ A vs H Q E, sp A vs H Q E → vs.length = ps.length
  run : ∀ (A : Around) (outer : List Env) (s : Shared) (H : Hp) (args : Args) (us : List Value) (vs : List V) (Q : VK) (E : XK), Room k A → Env0 P w K mg base A outer s H → BindsTo s fd args (ps.zip us) → Vals vs us → sp A vs H Q E →
    codeAny (model P w) A (.call (.ref f) args) (CR CX outer P w H s Q E) s
section
variable {P : Program} {w : World} {K : PySem.W.Frag} {mg : Str → Option Value} {base : Heap}
theorem Fun.okA {x qual : Str} {st : Stmt} {f : Addr} {fd : FuncData} {N ps : List Str} {k : Nat} {sp : SpA} (F : Fun K x qual st f fd) (S : FnScope N ps (defScope st)) (len : ∀ A vs H Q E, sp A vs H Q E → vs.length = ps.length)
    (hbody : ∀ (cdv : Value) (A : Around) (outer : List Env) (s : Shared) (H : Hp) (vs : List V) (Q : VK) (E : XK), Room k (A.deeper (envOfC qual (defScope st) s.heap.objs.size f cdv)) → sp A vs H Q E →
      ∃ t, PSs (cxOf false (CXw P w) P w K mg base N qual (defScope st) f cdv A outer s H E) (defBody st) t ∧ t { nx := fun _ H' => Q .non H', rt := Q } (start N vs) H) : FnOkA P w K mg base (CXw P w) (k + 1) f fd ps sp := by
  refine ⟨len, fun A outer s H args us vs Q E hr e0 hb rv h => ?_⟩
  obtain ⟨oc, od, kV, doc, pm, an, cdv, ct, osl, rfl, lk, hcd⟩ := F.ex
  have hl := len A _ _ _ _ h
  have KX : K.In s.heap := e0.mod.kin.keeps fun b o e => (e0.bs b o e).1
  have lim : s.heap.NoLimit := e0.mod.nolimit.keeps fun b o e => (e0.bs b o e).1
  have hkind : ∀ y ∈ ps.zip us, (defScope st).names.lookup y.1 = some .local ∨ ((defScope st).names.lookup y.1 = some .cell ∧ ((cellsFrom (s.heap.objs.size + 1) (defScope st).names []).lookup y.1).isSome = true) := fun ⟨n, v⟩ hy => by
    rcases S.par n (List.of_mem_zip hy).1 with q | q
    · exact .inl q
    · exact .inr ⟨q, PySem.W.cellsFrom_some _ _ _ (.inl q)⟩
  refine codeAny_call_function hr.depth (KX _ _ lk) rfl S.co S.gen rfl (PySem.W.codeRec_of KX hcd) (hb _ _ _ _ ?_)
  refine wpAny_newFunctionEnv_cells S.kind hkind fun env he s1 x => ?_
  subst he
  refine ⟨lim.keeps x.toInCall.keep, codeAny_func ?_⟩
  obtain ⟨t, ht, hq⟩ := hbody cdv A outer s H vs Q E (hr.deeper _) h
  have I : Inv (cxOf false (CXw P w) P w K mg base N qual (defScope st) f cdv A outer s H E) [] (start N vs) H s1 := inv_start S (fun z => nomatch z) e0 hl rv x
  refine wpAny_mono (ht [] s1 (start N vs) H _ I hq) (fun fl s' hs => ?_) fun e s' hs => hs
  have fin : ∀ {σ' : St} {H' : Hp} {v : V} {u : Value}, Inv (cxOf false (CXw P w) P w K mg base N qual (defScope st) f cdv A outer s H E) [] σ' H' s' → RelV v u → Q v H' → CE outer P w H s Q u s' :=
    fun {σ' H' v u} J rv q => ⟨v, H', J.os, J.bare, J.base, J.hok, rv, q⟩
  cases fl with
  | ret u =>
    obtain ⟨v, σ', H', J, rv, q⟩ := hs
    exact fin J rv q
  | next =>
    obtain ⟨σ', H', J, q⟩ := hs
    exact fin (v := V.non) (u := Value.none) J rfl q
  | brk =>
    obtain ⟨_, _, _, q⟩ := hs
    exact False.elim q
  | cont =>
    obtain ⟨_, _, _, q⟩ := hs
    exact False.elim q
end
section
variable {X : Cx} {k : Nat} {f : Addr} {fd : FuncData} {ps : List Str} {sp : SpA} {x : Str} {p pos : Pos} {e : Expr} {es : List Expr} {t : TA}
/-- f(..), f one that raises nothing -/
theorem pe_callA (F : FnOkA X.prog X.w X.K X.mg X.base (CXw X.prog X.w) k f fd ps sp) (hr : Room k X.A) (hg : Gl X x) (hm : X.mg x = some (.ref f)) (hk : PySem.W.keepIn X.K (.ref f) = true) (hb : Binds X.K fd ps [])
    (ha : PA X (e :: es) t) (hdb : (x == ("__debug__" : Str)) = false := by decide) (he : starEach (e :: es) X.env = (false, eval e X.env) :: starEach es X.env := by exact star_plain rfl) (hpl : (backTo pos (starEach es X.env)).any (·.1) = false := by exact any_plain rfl) :
    PE X (.Call (.Name x p) (e :: es) [] pos) (tCall (sp X.A) [] E0 t) := by
  intro pins s σ H Q I h
  refine wpAny_Call_Name_kw (ld_glob I hg hm ?_ hdb)
  refine PySem.W.callWith_K (h₀ := X.base) I.ok.mod.kin hk (thn (ha pos pins s σ H _ I h) fun us s1 ⟨vs, H1, I1, r, q⟩ => ⟨I1.kIn, ?_⟩) he hpl
  have q : sp X.A vs H1 Q E0 := by
    have z : sp X.A (vs ++ []) H1 Q E0 := q
    rw [List.append_nil] at z
    exact z
  have hl : (us ++ []).length = ps.length := by rw [List.append_nil, ← r.length]; exact F.len _ _ _ _ _ q
  have bb := hb s1 us I1.kIn hl
  rw [List.append_nil] at bb
  refine wpAny_call (codeAny_mono (F.run X.A X.stack s1 H1 ⟨us, []⟩ us vs Q E0 hr I1.env0 bb r q) fun r s' hq => ?_)
  cases r with
  | error e => exact passE (X := X) pins σ H1 s1 e s' I1 hq
  | ok fl =>
    cases fl with
    | ret u => exact I1.after hq
    | next => exact False.elim hq
    | brk => exact False.elim hq
    | cont => exact False.elim hq
end
theorem Room.mark {j k : Nat} {A : Around} (r : Room j A) (h : k ≤ j) (hk : k < 50) (v : Option Value) : Room k (A.mark v) :=
  ⟨fun z => absurd z (Nat.not_le.mpr hk), by have := r.dp; show A.depth + 3 * k + 5 < _; omega, by have := r.un; show A.units + 16 * k + 200 < _; omega⟩
end L2

set_option Elab.async false
set_option linter.all false
set_option maxRecDepth 100000
namespace L2
open PySem PySem.Spec PyProof.Rows

/-! ### defs in bundles -/
structure FnB (P : Program) (w : World) (K : PySem.W.Frag) (mg : Str → Option Value) (base : Heap) (k : Nat) (x : Str) (ps : List Str) (sp : Sp) : Prop where
  ex : ∃ (f : Addr) (fd : FuncData), FnOk P w K mg base (CXw P w) k f fd ps sp ∧ Binds K fd ps [] ∧ mg x = some (.ref f) ∧ PySem.W.keepIn K (.ref f) = true
structure FnBA (P : Program) (w : World) (K : PySem.W.Frag) (mg : Str → Option Value) (base : Heap) (k : Nat) (x : Str) (ps : List Str) (sp : SpA) : Prop where
  ex : ∃ (f : Addr) (fd : FuncData), FnOkA P w K mg base (CXw P w) k f fd ps sp ∧ Binds K fd ps [] ∧ mg x = some (.ref f) ∧ PySem.W.keepIn K (.ref f) = true
structure MtB (P : Program) (w : World) (K : PySem.W.Frag) (mg : Str → Option Value) (base : Heap) (C : Addr) (k : Nat) (m : Str) (ps : List Str) (sp : Sp) : Prop where
  ex : ∃ (f : Addr) (fd : FuncData), FnOk P w K mg base (CXw P w) k f fd ps sp ∧ Binds K fd ps [] ∧ Meth K C m f
structure MkB (P : Program) (w : World) (K : PySem.W.Frag) (mg : Str → Option Value) (base : Heap) (C : Addr) (k : Nat) (x : Str) (ps : List Str) (sp : Sp) : Prop where
  ex : ∃ (f : Addr) (fd : FuncData), FnOk P w K mg base (CXw P w) k f fd ps sp ∧ Binds K fd ps [] ∧ Mk K C f ∧ mg x = some (.ref C)
section
variable {X : Cx} {k : Nat} {C : Addr} {ps : List Str} {sp : Sp} {spA : SpA} {E : XK} {x m : Str} {p pos apos : Pos} {e o : Expr} {es : List Expr} {ta : TE} {t : TA}
theorem pe_callF (B : FnB X.prog X.w X.K X.mg X.base k x ps sp) (hr : Room k X.A) (hg : Gl X x) (hx : Passes (CXw X.prog X.w) X E) (ha : PA X (e :: es) t)
    (hdb : (x == ("__debug__" : Str)) = false := by decide) (he : starEach (e :: es) X.env = (false, eval e X.env) :: starEach es X.env := by exact star_plain rfl) (hpl : (backTo pos (starEach es X.env)).any (·.1) = false := by exact any_plain rfl) :
    PE X (.Call (.Name x p) (e :: es) [] pos) (tCall sp [] E t) := by
  obtain ⟨f, fd, F, b, hm, hk⟩ := B.ex
  exact pe_call F hr hg hm hk b .nil hx ha hdb he hpl
theorem pe_callW (B : FnBA X.prog X.w X.K X.mg X.base k x ps spA) (hr : Room k X.A) (hg : Gl X x) (ha : PA X (e :: es) t)
    (hdb : (x == ("__debug__" : Str)) = false := by decide) (he : starEach (e :: es) X.env = (false, eval e X.env) :: starEach es X.env := by exact star_plain rfl) (hpl : (backTo pos (starEach es X.env)).any (·.1) = false := by exact any_plain rfl) :
    PE X (.Call (.Name x p) (e :: es) [] pos) (tCall (spA X.A) [] E0 t) := by
  obtain ⟨f, fd, F, b, hm, hk⟩ := B.ex
  exact pe_callA F hr hg hm hk b ha hdb he hpl
theorem pe_makeF (B : MkB X.prog X.w X.K X.mg X.base C k x ps sp) (hr : Room (k + 1) X.A) (hg : Gl X x) (hx : Passes (CXw X.prog X.w) X E) (ha : PA X (e :: es) t)
    (hdb : (x == ("__debug__" : Str)) = false := by decide) (he : starEach (e :: es) X.env = (false, eval e X.env) :: starEach es X.env := by exact star_plain rfl) (hpl : (backTo pos (starEach es X.env)).any (·.1) = false := by exact any_plain rfl) :
    PE X (.Call (.Name x p) (e :: es) [] pos) (tMake C sp [] E t) := by
  obtain ⟨f, fd, F, b, M, hm⟩ := B.ex
  exact pe_make M F hr hg hm b .nil hx ha hdb he hpl
theorem pe_methF {pl : Sem Bool} (c : Cls X.K C) (B : MtB X.prog X.w X.K X.mg X.base C k m ps sp) (hr : Room k X.A) (hx : Passes (CXw X.prog X.w) X E) (ho : PE X o ta) (ha : PA X (e :: es) t)
    (hst : starEach (e :: es) X.env = (false, eval e X.env) :: starEach es X.env := by exact star_plain rfl) (hpl : (backTo pos (starEach es X.env)).any (·.1) = false := by exact any_plain rfl)
    (ht : eval (.Call (.Attribute o m apos) (e :: es) [] pos) X.env = (do
      let ov ← eval o X.env
      standAt apos.atName
      let (f, first) ← holding [ov] (getMethod ov m pl)
      callWith pos f first (backTo pos (starEach (e :: es) X.env)) (backToKw pos (keywordEach [] X.env))) := by rfl) :
    PE X (.Call (.Attribute o m apos) (e :: es) [] pos) (tMeth C m sp [] E ta t) := by
  obtain ⟨f, fd, F, b, hm⟩ := B.ex
  exact pe_meth (pl := pl) ho c hm F hr b .nil hx ha hst hpl ht
theorem pe_methF0 {pl : Sem Bool} (c : Cls X.K C) (B : MtB X.prog X.w X.K X.mg X.base C k m ps sp) (hr : Room k X.A) (hx : Passes (CXw X.prog X.w) X E) (ho : PE X o ta)
    (ht : eval (.Call (.Attribute o m apos) [] [] pos) X.env = (do
      let ov ← eval o X.env
      standAt apos.atName
      let (f, first) ← holding [ov] (getMethod ov m pl)
      callWith pos f first (backTo pos (starEach [] X.env)) (backToKw pos (keywordEach [] X.env))) := by rfl) :
    PE X (.Call (.Attribute o m apos) [] [] pos) (tMeth C m sp [] E ta tNil) := by
  obtain ⟨f, fd, F, b, hm⟩ := B.ex
  exact pe_meth0 (pl := pl) ho c hm F hr b .nil hx ht
end
theorem call_list_ofK {X : Cx} {K : PySem.W.Frag} (h : X.K = K) : CallR X (.type "list") (fun xs H Q => ∃ p ys, xs = [.ref p] ∧ (SqL K H p ys ∨ SqT K H p ys) ∧ ∀ l, H l = none → Q (.ref l) (upd H l (.lst ys))) := by
  subst h
  exact call_list_of
theorem ix_tupK {X : Cx} {K : PySem.W.Frag} (h : X.K = K) : IxR X (rIxT K) := by
  subst h
  exact ix_tup
theorem ix_listK {X : Cx} {K : PySem.W.Frag} (h : X.K = K) : IxR X (rIxL K) := by
  subst h
  exact ix_list
theorem pe_fldK {X : Cx} {K : PySem.W.Frag} {e : Expr} {ta : TE} {f : Str} {pos : Pos} (h : X.K = K) (he : PE X e ta) (hb : attributeBase e f X.env (eval e X.env) = eval e X.env) : PE X (.Attribute e f pos) (tFld K ta f) := by
  subst h
  exact pe_fld he hb
theorem call_len_seqK {X : Cx} {K : PySem.W.Frag} (h : X.K = K) : CallR X (.builtin "len") (fun xs H Q => ∃ p ys, xs = [.ref p] ∧ (SqL K H p ys ∨ SqT K H p ys) ∧ Q (.int ys.length) H) := by
  subst h
  exact call_len_seq
/-! ### products of great ints -/
theorem op_mulB {X : Cx} : OpR X (binaryOp .Mult) (rI (fun i j => i.natAbs < 2 ^ 200 ∧ j.natAbs < 2 ^ 200) fun i j => .int (i * j)) := opI fun _ _ _ _ _ _ _ hc q => mul_int q (IntMulOk.of_bits (Nat.le_trans (intBits_le hc.1) (by decide)) (Nat.le_trans (intBits_le hc.2) (by decide)))
/-! ### heaps: all but some stays -/
/-- what stood stays, but for the addresses at fp -/
def SameBut (fp : List Addr) (H H' : Hp) : Prop := ∀ b o, H b = some o → b ∉ fp → H' b = some o
theorem SameBut.refl (fp : List Addr) (H : Hp) : SameBut fp H H := fun _ _ h _ => h
theorem SameBut.trans {fp : List Addr} {H H1 H2 : Hp} (a : SameBut fp H H1) (b : SameBut fp H1 H2) : SameBut fp H H2 := fun c o h n => b c o (a c o h n) n
theorem SameBut.of {fp : List Addr} {H H' : Hp} (a : Same H H') : SameBut fp H H' := fun c o h _ => a c o h
theorem same_new {H : Hp} {a : Addr} {o : HO} (h : H a = none) : Same H (upd H a o) := fun b u e => by rw [upd_ne (ne_of_none e h)]; exact e
theorem but_put {H : Hp} {a : Addr} {o : HO} {fp : List Addr} (h : a ∈ fp) : SameBut fp H (upd H a o) := fun b u e n => by rw [upd_ne fun z => n (by rw [z]; exact h)]; exact e
end L2

set_option Elab.async false
set_option linter.all false
set_option maxRecDepth 100000
namespace Ev
open PySem L2
/-! ### the text by places -/
def top (i : Nat) : Stmt := PySem.Challenge.pw_evenwear_k10_chip.main.body.getD i (.Pass ⟨0, 0, 0, 0⟩)
abbrev sInit : Stmt := inClass (top 14) 0
abbrev sSize : Stmt := inClass (top 14) 1
abbrev sPage : Stmt := inClass (top 14) 2
abbrev sWorn : Stmt := inClass (top 14) 3
abbrev sWritten : Stmt := inClass (top 14) 4
abbrev sPower : Stmt := inClass (top 14) 5
abbrev sWrite : Stmt := inClass (top 14) 6
abbrev sErase : Stmt := inClass (top 14) 7
abbrev sCB : Stmt := inClass (top 14) 8
abbrev sCP : Stmt := inClass (top 14) 9
abbrev sCE : Stmt := inClass (top 14) 10
abbrev sDraw : Stmt := inClass (top 14) 11
abbrev sCopied : Stmt := top 15
/-! ### a chip's state as plain data -/
structure CS where
  nb : Nat
  np : Nat
  rows : List (List V)
  worn : List Int
  many : Int
  left : Option Int
  dark : Bool
def leftV : Option Int → V
  | none => .non
  | some k => .int k
def torn : V := .str "torn"
def chipF (S : CS) (hl el : Addr) : List (Str × V) := [("blocks", .int S.nb), ("pages", .int S.np), ("held", .ref hl), ("erasures", .ref el), ("writes", .int S.many), ("left", leftV S.left), ("dark", .bl S.dark)]
structure Wf (S : CS) : Prop where
  b1 : 4 ≤ S.nb
  b2 : S.nb ≤ 32
  p1 : 2 ≤ S.np
  p2 : S.np ≤ 16
  rl : S.rows.length = S.nb
  rp : ∀ r ∈ S.rows, r.length = S.np ∧ r.all plainV = true
  wl : S.worn.length = S.nb
  lf : ∀ k, S.left = some k → 0 ≤ k
/-- lists of pages at the addresses rl -/
structure RowsAt (H : Hp) (rl : List Addr) (rows : List (List V)) : Prop where
  ln : rl.length = rows.length
  at_ : ∀ (i : Nat) (a : Addr), rl[i]? = some a → ∃ r, rows[i]? = some r ∧ H a = some (.lst r)
theorem RowsAt.row {H : Hp} {rl : List Addr} {rows : List (List V)} (R : RowsAt H rl rows) {i : Nat} {r : List V} (e : rows[i]? = some r) : ∃ a, rl[i]? = some a ∧ H a = some (.lst r) := by
  have hi : i < rl.length := by rw [R.ln]; exact (List.getElem?_eq_some_iff.mp e).1
  obtain ⟨r', e', h⟩ := R.at_ i rl[i] (by simp [hi])
  rw [e] at e'
  cases e'
  exact ⟨rl[i], by simp [hi], h⟩
theorem RowsAt.keep {H H' : Hp} {rl : List Addr} {rows : List (List V)} (R : RowsAt H rl rows) (k : ∀ b ∈ rl, ∀ o, H b = some o → H' b = some o) : RowsAt H' rl rows :=
  ⟨R.ln, fun i a e => let ⟨r, e', h⟩ := R.at_ i a e; ⟨r, e', k a (List.mem_of_getElem? e) _ h⟩⟩
/-- one row is turned in its place -/
theorem RowsAt.put {H : Hp} {rl : List Addr} {rows : List (List V)} (R : RowsAt H rl rows) (nd : rl.Nodup) {i : Nat} {a : Addr} (e : rl[i]? = some a) (r : List V) : RowsAt (upd H a (.lst r)) rl (rows.set i r) := by
  refine ⟨by rw [List.length_set]; exact R.ln, fun j b ej => ?_⟩
  have hi : i < rows.length := by rw [← R.ln]; exact (List.getElem?_eq_some_iff.mp e).1
  by_cases z : j = i
  · subst z
    rw [e] at ej
    cases ej
    exact ⟨r, List.getElem?_set_self hi, upd_same⟩
  · have nb : b ≠ a := fun q => z (nodup_at nd ej (q ▸ e))
    obtain ⟨r', e', h⟩ := R.at_ j b ej
    exact ⟨r', by rw [List.getElem?_set_ne (Ne.symm z)]; exact e', by rw [upd_ne nb]; exact h⟩
where
  nodup_at {l : List Addr} (hn : l.Nodup) {i j : Nat} {x : Addr} (a : l[i]? = some x) (b : l[j]? = some x) : i = j := by
    obtain ⟨h1, e1⟩ := List.getElem?_eq_some_iff.mp a
    obtain ⟨h2, e2⟩ := List.getElem?_eq_some_iff.mp b
    exact (List.getElem_inj hn).mp (e1.trans e2.symm)
/-- one row is another list -/
theorem RowsAt.swap {H : Hp} {rl : List Addr} {rows : List (List V)} (R : RowsAt H rl rows) {i : Nat} (hi : i < rl.length) {a : Addr} {r : List V} (h : H a = some (.lst r)) : RowsAt H (rl.set i a) (rows.set i r) := by
  refine ⟨by rw [List.length_set, List.length_set]; exact R.ln, fun j b ej => ?_⟩
  by_cases z : j = i
  · subst z
    rw [List.getElem?_set_self hi] at ej
    cases ej
    exact ⟨r, List.getElem?_set_self (by rw [← R.ln]; exact hi), h⟩
  · rw [List.getElem?_set_ne (Ne.symm z)] at ej
    obtain ⟨r', e', h'⟩ := R.at_ j b ej
    exact ⟨r', by rw [List.getElem?_set_ne (Ne.symm z)]; exact e', h'⟩
structure ChipAt (C : Addr) (H : Hp) (p : Addr) (S : CS) (hl el : Addr) (rl : List Addr) : Prop where
  ob : ∃ dx, H p = some (.ins C dx (chipF S hl el))
  hd : H hl = some (.lst (rl.map V.ref))
  er : H el = some (.lst (S.worn.map V.int))
  rw : RowsAt H rl S.rows
  nd : (hl :: el :: rl).Nodup
  wf : Wf S
abbrev fpC (p hl el : Addr) (rl : List Addr) : List Addr := p :: hl :: el :: rl
theorem ChipAt.keep {C : Addr} {H H' : Hp} {p : Addr} {S : CS} {hl el : Addr} {rl : List Addr} (A : ChipAt C H p S hl el rl) (k : ∀ b ∈ fpC p hl el rl, ∀ o, H b = some o → H' b = some o) : ChipAt C H' p S hl el rl := by
  obtain ⟨dx, e⟩ := A.ob
  exact ⟨⟨dx, k p (by simp) _ e⟩, k hl (by simp) _ A.hd, k el (by simp) _ A.er, A.rw.keep fun b m => k b (by simp [m]), A.nd, A.wf⟩
theorem ChipAt.same {C : Addr} {H H' : Hp} {p : Addr} {S : CS} {hl el : Addr} {rl : List Addr} (A : ChipAt C H p S hl el rl) (k : Same H H') : ChipAt C H' p S hl el rl := A.keep fun b _ o e => k b o e
section
variable {C : Addr} {H : Hp} {p : Addr} {S : CS} {hl el : Addr} {rl : List Addr} (A : ChipAt C H p S hl el rl)
include A
theorem ChipAt.tr {b : Addr} (m : b ∈ fpC p hl el rl) : ∃ o, H b = some o := by
  rcases List.mem_cons.mp m with z | m
  · subst z; obtain ⟨dx, e⟩ := A.ob; exact ⟨_, e⟩
  rcases List.mem_cons.mp m with z | m
  · subst z; exact ⟨_, A.hd⟩
  rcases List.mem_cons.mp m with z | m
  · subst z; exact ⟨_, A.er⟩
  obtain ⟨i, hi, e⟩ := List.mem_iff_getElem.mp m
  obtain ⟨r, _, h⟩ := A.rw.at_ i b (by rw [← e]; simp [hi])
  exact ⟨_, h⟩
theorem ChipAt.np_ {b : Addr} (m : b ∈ hl :: el :: rl) : b ≠ p := by
  obtain ⟨dx, e⟩ := A.ob
  rcases List.mem_cons.mp m with z | m
  · subst z; exact ne_of A.hd e (by intro z; cases z)
  rcases List.mem_cons.mp m with z | m
  · subst z; exact ne_of A.er e (by intro z; cases z)
  obtain ⟨i, hi, e'⟩ := List.mem_iff_getElem.mp m
  obtain ⟨r, _, h⟩ := A.rw.at_ i b (by rw [← e']; simp [hi])
  exact ne_of h e (by intro z; cases z)
end
/-- what an operation on a chip may do: what stood elsewhere stays; what it has now it had, or is new -/
structure Did (H H' : Hp) (fp fp' : List Addr) : Prop where
  keep : SameBut fp H H'
  new : ∀ b ∈ fp', b ∈ fp ∨ H b = none
theorem Did.refl {H : Hp} {fp : List Addr} : Did H H fp fp := ⟨SameBut.refl _ _, fun _ m => .inl m⟩
theorem Did.same {H H' : Hp} {fp : List Addr} (h : Same H H') : Did H H' fp fp := ⟨SameBut.of h, fun _ m => .inl m⟩
/-! ### what a deed does to the data -/
inductive Ref where
  | bs | np | ne | cut
  deriving DecidableEq
def CS.okB (S : CS) (b : Int) : Prop := 0 ≤ b ∧ b < S.nb
def CS.okP (S : CS) (b g : Int) : Prop := S.okB b ∧ 0 ≤ g ∧ g < S.np
instance (S : CS) (b : Int) : Decidable (S.okB b) := by unfold CS.okB; infer_instance
instance (S : CS) (b g : Int) : Decidable (S.okP b g) := by unfold CS.okP; infer_instance
def CS.row (S : CS) (b : Int) : List V := S.rows.getD b.toNat []
/-- the power that one more takes: nothing if there is none at all; else whether it lasts, and the state -/
def CS.draw (S : CS) : Option (Bool × CS) :=
  if S.dark then none
  else match S.left with
    | none => some (true, S)
    | some k => if k ≤ 0 then some (false, { S with dark := true }) else some (true, { S with left := some (k - 1) })
def CS.clear (S : CS) (b g : Int) : Bool := ((S.row b).drop g.toNat).all fun v => decide (v = .non)
def CS.write (S : CS) (b g : Int) (t : V) : Option Ref × CS :=
  if ¬ S.okP b g then (some .np, S)
  else if S.clear b g = false then (some .ne, S)
  else match S.draw with
    | none => (some .cut, S)
    | some (l, S1) => (if l then none else some .cut, { S1 with many := S1.many + 1, rows := S1.rows.set b.toNat ((S1.row b).set g.toNat (if l then t else torn)) })
def CS.erase (S : CS) (b : Int) : Option Ref × CS :=
  if ¬ S.okB b then (some .np, S)
  else match S.draw with
    | none => (some .cut, S)
    | some (l, S1) => (if l then none else some .cut, { S1 with worn := S1.worn.set b.toNat (S1.worn.getD b.toNat 0 + 1), rows := S1.rows.set b.toNat (List.replicate S1.np (if l then V.non else torn)) })
/-! ### what the text's top has made -/
structure Txt (K : PySem.W.Frag) (mg : Str → Option Value) (C cBS cNP cNE cNS cBC cCu cWE : Addr) : Prop where
  cl : Cls K C
  aB : NoAttr K C "blocks"
  aP : NoAttr K C "pages"
  aH : NoAttr K C "held"
  aE : NoAttr K C "erasures"
  aW : NoAttr K C "writes"
  aL : NoAttr K C "left"
  aD : NoAttr K C "dark"
  g_Chip : mg "Chip" = some (.ref C)
  g_BadSize : mg "BadSize" = some (.ref cBS)
  g_NoPage : mg "NoPage" = some (.ref cNP)
  g_NotErased : mg "NotErased" = some (.ref cNE)
  g_NoSector : mg "NoSector" = some (.ref cNS)
  g_BadContent : mg "BadContent" = some (.ref cBC)
  g_Cut : mg "Cut" = some (.ref cCu)
  g_WearError : mg "WearError" = some (.ref cWE)
  x_BadSize : XCls K cBS
  x_NoPage : XCls K cNP
  x_NotErased : XCls K cNE
  x_Cut : XCls K cCu
  g_LB : ∃ u, mg "LEAST_BLOCKS" = some u ∧ RelV (.int 4) u
  g_MB : ∃ u, mg "MOST_BLOCKS" = some u ∧ RelV (.int 32) u
  g_LP : ∃ u, mg "LEAST_PAGES" = some u ∧ RelV (.int 2) u
  g_MP : ∃ u, mg "MOST_PAGES" = some u ∧ RelV (.int 16) u
  g_TO : ∃ u, mg "TORN" = some u ∧ RelV (.str "torn") u
  n_len : mg "len" = none
  n_range : mg "range" = none
  n_int : mg "int" = none
  n_list : mg "list" = none
  n_sum : mg "sum" = none
  n_max : mg "max" = none
  n_min : mg "min" = none
  n_isinstance : mg "isinstance" = none
  n_ValueError : mg "ValueError" = none
/-- a constant of the module -/
theorem pe_gl {X : Cx} {x : Str} {v : V} {pos : Pos} (hg : Gl X x) (h : ∃ u, X.mg x = some u ∧ RelV v u) (hd : (x == ("__debug__" : Str)) = false := by decide) : PE X (.Name x pos) (tC v) := by
  obtain ⟨u, a, b⟩ := h
  exact pe_glob hg a b hd
section
variable {P : Program} {w : World} {K : PySem.W.Frag} {mg : Str → Option Value} {base : Heap} {C cBS cNP cNE cNS cBC cCu cWE : Addr}
def spCB (C cNP : Addr) : Sp := fun vs H Q E => ∃ (p : Addr) (b : Int) (S : CS) (hl el : Addr) (rl : List Addr), vs = [.ref p, .int b] ∧ ChipAt C H p S hl el rl ∧ if S.okB b then Q .non H else ∀ x, E (.ref cNP) (some x) H
theorem scCB : FnScope ["self", "block"] ["self", "block"] (defScope sCB) := ⟨rfl, rfl, rfl, by decide +kernel, rfl, by decide +kernel, by decide +kernel⟩
theorem ok_check_block {f : Addr} {fd : FuncData} (F : Fun K "check_block" "Chip.check_block" sCB f fd) (T : Txt K mg C cBS cNP cNE cNS cBC cCu cWE) : FnOk P w K mg base (CXw P w) 51 f fd ["self", "block"] (spCB C cNP) := by
  refine F.okX (by decide) scCB (fun vs H Q E h => ?_) (fun cdv A outer s H vs Q E hr h => ?_)
  · obtain ⟨p, b, S, hl, el, rl, rfl, _⟩ := h
    rfl
  · obtain ⟨p, b, S, hl, el, rl, rfl, A1, h⟩ := h
    obtain ⟨dx, h1⟩ := A1.ob
    refine ⟨_, (@pss_one _ _ _ (@ps_if _ _ _ _ _ _ _ _ (@pt_not _ _ _ _ (@pt_chain _ _ _ _ _ _ _ _ _ _ _ _ (@op_le _) (@op_lt _) (@pe_int _ _ _ _) (@pv _ 1 _ _ (by rfl) (by first | exact Or.inl rfl | exact Or.inr (Or.inl rfl) | exact Or.inr (Or.inr rfl)) (by decide) (by decide)) (@pe_fld _ _ _ _ _ (@pv _ 0 _ _ (by rfl) (by first | exact Or.inl rfl | exact Or.inr (Or.inl rfl) | exact Or.inr (Or.inr rfl)) (by decide) (by decide)) rfl) (by with_unfolding_all rfl))) (@pss_one _ _ _ (@ps_raise _ _ _ _ _ _ _ _ _ _ raises_w T.x_NoPage rfl rfl T.g_NoPage (@pa_cons _ _ _ _ _ (@pe_str _ _ _ _) (@pa_nil _) (by exact star_plain rfl)) (by decide) (by exact star_plain rfl) (by exact any_plain rfl))) (@pss_nil _))), ?_⟩
    refine ⟨_, rfl, _, _, rfl, rfl, _, rfl, ite2 (fun h0 => ?_) fun h0 => ?_⟩
    · refine ⟨_, rfl, p, C, dx, _, _, rfl, h1, T.cl, T.aB, rfl, _, _, rfl, rfl, _, rfl, ?_⟩
      have h0' : 0 ≤ b := by simpa using h0
      by_cases hb : b < S.nb
      · rw [decide_eq_true hb]
        rw [if_pos ⟨h0', hb⟩] at h
        exact iteF h
      · rw [decide_eq_false hb]
        rw [if_neg fun z => hb z.2] at h
        exact iteT ⟨by decide, h⟩
    · have h0' : ¬ 0 ≤ b := by simpa using h0
      rw [if_neg fun z => h0' z.1] at h
      exact ⟨_, rfl, iteT ⟨by decide, h⟩⟩
end
end Ev

set_option Elab.async false
set_option linter.all false
set_option maxRecDepth 100000
namespace Ev
open PySem L2
theorem ChipAt.put {C : Addr} {H : Hp} {p dx : Addr} {S S' : CS} {hl el : Addr} {rl : List Addr} (A : ChipAt C H p S hl el rl) (hr : S'.rows = S.rows) (hw : S'.worn = S.worn) (wf : Wf S') : ChipAt C (upd H p (.ins C dx (chipF S' hl el))) p S' hl el rl := by
  have ne : ∀ b ∈ hl :: el :: rl, ∀ o, H b = some o → upd H p (.ins C dx (chipF S' hl el)) b = some o := fun b m o e => by rw [upd_ne (A.np_ m)]; exact e
  refine ⟨⟨dx, upd_same⟩, ne _ (by simp) _ A.hd, ?_, ?_, A.nd, wf⟩
  · rw [hw]
    exact ne _ (by simp) _ A.er
  · rw [hr]
    exact A.rw.keep fun b m => ne b (by simp [m])
theorem atI_of {α : Type} {xs : List α} {i : Int} {v : α} (h0 : 0 ≤ i) (h : xs[i.toNat]? = some v) : atI xs i = some v := by
  obtain ⟨n, rfl⟩ := Int.eq_ofNat_of_zero_le h0
  exact atI_nat h
theorem ixN_of {n : Nat} {i : Int} (h0 : 0 ≤ i) (h : i < n) : ixN n i = some i.toNat := by
  unfold ixN
  rw [if_pos h0, if_pos h]
theorem Wf.row {S : CS} (W : Wf S) {b : Int} (h : S.okB b) : S.rows[b.toNat]? = some (S.row b) ∧ (S.row b).length = S.np ∧ (S.row b).all plainV = true := by
  have hb : b.toNat < S.rows.length := by
    rw [W.rl]
    have := h.1
    have := h.2
    omega
  have e : S.rows[b.toNat]? = some (S.row b) := by
    unfold CS.row
    rw [List.getD_eq_getElem?_getD, List.getElem?_eq_getElem hb]
    rfl
  exact ⟨e, W.rp _ (List.mem_of_getElem? e)⟩
section
variable {P : Program} {w : World} {K : PySem.W.Frag} {mg : Str → Option Value} {base : Heap} {C cBS cNP cNE cNS cBC cCu cWE : Addr}
def spCP (C cNP : Addr) : Sp := fun vs H Q E => ∃ (p : Addr) (b g : Int) (S : CS) (hl el : Addr) (rl : List Addr), vs = [.ref p, .int b, .int g] ∧ ChipAt C H p S hl el rl ∧ if S.okP b g then Q .non H else ∀ x, E (.ref cNP) (some x) H
theorem scCP : FnScope ["self", "block", "page"] ["self", "block", "page"] (defScope sCP) := ⟨rfl, rfl, rfl, by decide +kernel, rfl, by decide +kernel, by decide +kernel⟩
theorem ok_check_page {f : Addr} {fd : FuncData} (F : Fun K "check_page" "Chip.check_page" sCP f fd) (T : Txt K mg C cBS cNP cNE cNS cBC cCu cWE)
    (M_check_block : MtB P w K mg base C 51 "check_block" ["self", "block"] (spCB C cNP)) : FnOk P w K mg base (CXw P w) 52 f fd ["self", "block", "page"] (spCP C cNP) := by
  refine F.okX (by decide) scCP (fun vs H Q E h => ?_) (fun cdv A outer s H vs Q E hr h => ?_)
  · obtain ⟨p, b, g, S, hl, el, rl, rfl, _⟩ := h
    rfl
  · obtain ⟨p, b, g, S, hl, el, rl, rfl, A1, h⟩ := h
    obtain ⟨dx, h1⟩ := A1.ob
    refine ⟨_, (@pss_cons _ _ _ _ _ (@ps_expr _ _ _ _ (@pe_methF _ _ _ _ _ _ _ _ _ _ _ _ _ _ _ T.cl M_check_block (hr.mono (by decide)) passes_w (@pv _ 0 _ _ (by rfl) (by first | exact Or.inl rfl | exact Or.inr (Or.inl rfl) | exact Or.inr (Or.inr rfl)) (by decide) (by decide)) (@pa_cons _ _ _ _ _ (@pv _ 1 _ _ (by rfl) (by first | exact Or.inl rfl | exact Or.inr (Or.inl rfl) | exact Or.inr (Or.inr rfl)) (by decide) (by decide)) (@pa_nil _) (by exact star_plain rfl)) (by exact star_plain rfl) (by exact any_plain rfl) (by rfl)) (by rfl)) (@pss_one _ _ _ (@ps_if _ _ _ _ _ _ _ _ (@pt_not _ _ _ _ (@pt_chain _ _ _ _ _ _ _ _ _ _ _ _ (@op_le _) (@op_lt _) (@pe_int _ _ _ _) (@pv _ 2 _ _ (by rfl) (by first | exact Or.inl rfl | exact Or.inr (Or.inl rfl) | exact Or.inr (Or.inr rfl)) (by decide) (by decide)) (@pe_fld _ _ _ _ _ (@pv _ 0 _ _ (by rfl) (by first | exact Or.inl rfl | exact Or.inr (Or.inl rfl) | exact Or.inr (Or.inr rfl)) (by decide) (by decide)) rfl) (by with_unfolding_all rfl))) (@pss_one _ _ _ (@ps_raise _ _ _ _ _ _ _ _ _ _ raises_w T.x_NoPage rfl rfl T.g_NoPage (@pa_cons _ _ _ _ _ (@pe_str _ _ _ _) (@pa_nil _) (by exact star_plain rfl)) (by decide) (by exact star_plain rfl) (by exact any_plain rfl))) (@pss_nil _)))), ?_⟩
    refine ⟨_, rfl, p, dx, _, rfl, h1, rfl, _, rfl, p, b, S, hl, el, rl, rfl, A1, ?_⟩
    by_cases hb : S.okB b
    · rw [if_pos hb]
      refine ⟨_, rfl, _, _, rfl, rfl, _, rfl, ite2 (fun h0 => ?_) fun h0 => ?_⟩
      · refine ⟨_, rfl, p, C, dx, _, _, rfl, h1, T.cl, T.aP, rfl, _, _, rfl, rfl, _, rfl, ?_⟩
        have h0' : 0 ≤ g := by simpa using h0
        by_cases hg : g < S.np
        · rw [decide_eq_true hg]
          rw [if_pos ⟨hb, h0', hg⟩] at h
          exact iteF h
        · rw [decide_eq_false hg]
          rw [if_neg fun z => hg z.2.2] at h
          exact iteT ⟨by decide, h⟩
      · have h0' : ¬ 0 ≤ g := by simpa using h0
        rw [if_neg fun z => h0' z.2.1] at h
        exact ⟨_, rfl, iteT ⟨by decide, h⟩⟩
    · rw [if_neg hb]
      rw [if_neg fun z => hb z.1] at h
      exact h
/-- size: a new pair -/
def spSize (C : Addr) : Sp := fun vs H Q _ => ∃ (p : Addr) (S : CS) (hl el : Addr) (rl : List Addr), vs = [.ref p] ∧ ChipAt C H p S hl el rl ∧ ∀ t, H t = none → Q (.ref t) (upd H t (.tup [.int S.nb, .int S.np]))
theorem scSz : FnScope ["self"] ["self"] (defScope sSize) := ⟨rfl, rfl, rfl, by decide +kernel, rfl, by decide +kernel, by decide +kernel⟩
theorem ok_size {f : Addr} {fd : FuncData} (F : Fun K "size" "Chip.size" sSize f fd) (T : Txt K mg C cBS cNP cNE cNS cBC cCu cWE) : FnOk P w K mg base (CXw P w) 51 f fd ["self"] (spSize C) := by
  refine F.okX (by decide) scSz (fun vs H Q E h => ?_) (fun cdv A outer s H vs Q E hr h => ?_)
  · obtain ⟨p, S, hl, el, rl, rfl, _⟩ := h
    rfl
  · obtain ⟨p, S, hl, el, rl, rfl, A1, h⟩ := h
    obtain ⟨dx, h1⟩ := A1.ob
    refine ⟨_, (@pss_one _ _ _ (@ps_ret _ _ _ _ (@pe_tup _ _ _ _ _ (@pa_cons _ _ _ _ _ (@pe_fld _ _ _ _ _ (@pv _ 0 _ _ (by rfl) (by first | exact Or.inl rfl | exact Or.inr (Or.inl rfl) | exact Or.inr (Or.inr rfl)) (by decide) (by decide)) rfl) (@pa_cons _ _ _ _ _ (@pe_fld _ _ _ _ _ (@pv _ 0 _ _ (by rfl) (by first | exact Or.inl rfl | exact Or.inr (Or.inl rfl) | exact Or.inr (Or.inr rfl)) (by decide) (by decide)) rfl) (@pa_nil _) (by exact star_plain rfl)) (by exact star_plain rfl))))), ?_⟩
    exact ⟨_, rfl, p, C, dx, _, _, rfl, h1, T.cl, T.aB, rfl, _, rfl, p, C, dx, _, _, rfl, h1, T.cl, T.aP, rfl, by show 2 ≤ sizeLine; decide, fun t ht => h t ht⟩
def spWritten (C : Addr) : Sp := fun vs H Q _ => ∃ (p : Addr) (S : CS) (hl el : Addr) (rl : List Addr), vs = [.ref p] ∧ ChipAt C H p S hl el rl ∧ Q (.int S.many) H
theorem scWn : FnScope ["self"] ["self"] (defScope sWritten) := ⟨rfl, rfl, rfl, by decide +kernel, rfl, by decide +kernel, by decide +kernel⟩
theorem ok_written {f : Addr} {fd : FuncData} (F : Fun K "written" "Chip.written" sWritten f fd) (T : Txt K mg C cBS cNP cNE cNS cBC cCu cWE) : FnOk P w K mg base (CXw P w) 51 f fd ["self"] (spWritten C) := by
  refine F.okX (by decide) scWn (fun vs H Q E h => ?_) (fun cdv A outer s H vs Q E hr h => ?_)
  · obtain ⟨p, S, hl, el, rl, rfl, _⟩ := h
    rfl
  · obtain ⟨p, S, hl, el, rl, rfl, A1, h⟩ := h
    obtain ⟨dx, h1⟩ := A1.ob
    exact ⟨_, (@pss_one _ _ _ (@ps_ret _ _ _ _ (@pe_fld _ _ _ _ _ (@pv _ 0 _ _ (by rfl) (by first | exact Or.inl rfl | exact Or.inr (Or.inl rfl) | exact Or.inr (Or.inr rfl)) (by decide) (by decide)) rfl))), _, rfl, p, C, dx, _, _, rfl, h1, T.cl, T.aW, rfl, h⟩
def spPage (C cNP : Addr) : Sp := fun vs H Q E => ∃ (p : Addr) (b g : Int) (S : CS) (hl el : Addr) (rl : List Addr), vs = [.ref p, .int b, .int g] ∧ ChipAt C H p S hl el rl ∧ if S.okP b g then Q ((S.row b).getD g.toNat .non) H else ∀ x, E (.ref cNP) (some x) H
theorem scPg : FnScope ["self", "block", "page"] ["self", "block", "page"] (defScope sPage) := ⟨rfl, rfl, rfl, by decide +kernel, rfl, by decide +kernel, by decide +kernel⟩
theorem ok_page {f : Addr} {fd : FuncData} (F : Fun K "page" "Chip.page" sPage f fd) (T : Txt K mg C cBS cNP cNE cNS cBC cCu cWE)
    (M_check_page : MtB P w K mg base C 52 "check_page" ["self", "block", "page"] (spCP C cNP)) : FnOk P w K mg base (CXw P w) 53 f fd ["self", "block", "page"] (spPage C cNP) := by
  refine F.okX (by decide) scPg (fun vs H Q E h => ?_) (fun cdv A outer s H vs Q E hr h => ?_)
  · obtain ⟨p, b, g, S, hl, el, rl, rfl, _⟩ := h
    rfl
  · obtain ⟨p, b, g, S, hl, el, rl, rfl, A1, h⟩ := h
    obtain ⟨dx, h1⟩ := A1.ob
    refine ⟨_, (@pss_cons _ _ _ _ _ (@ps_expr _ _ _ _ (@pe_methF _ _ _ _ _ _ _ _ _ _ _ _ _ _ _ T.cl M_check_page (hr.mono (by decide)) passes_w (@pv _ 0 _ _ (by rfl) (by first | exact Or.inl rfl | exact Or.inr (Or.inl rfl) | exact Or.inr (Or.inr rfl)) (by decide) (by decide)) (@pa_cons _ _ _ _ _ (@pv _ 1 _ _ (by rfl) (by first | exact Or.inl rfl | exact Or.inr (Or.inl rfl) | exact Or.inr (Or.inr rfl)) (by decide) (by decide)) (@pa_cons _ _ _ _ _ (@pv _ 2 _ _ (by rfl) (by first | exact Or.inl rfl | exact Or.inr (Or.inl rfl) | exact Or.inr (Or.inr rfl)) (by decide) (by decide)) (@pa_nil _) (by exact star_plain rfl)) (by exact star_plain rfl)) (by exact star_plain rfl) (by exact any_plain rfl) (by rfl)) (by rfl)) (@pss_one _ _ _ (@ps_ret _ _ _ _ (@pe_ix _ _ _ _ _ _ _ (@ix_list _) (@pe_ix _ _ _ _ _ _ _ (@ix_list _) (@pe_fld _ _ _ _ _ (@pv _ 0 _ _ (by rfl) (by first | exact Or.inl rfl | exact Or.inr (Or.inl rfl) | exact Or.inr (Or.inr rfl)) (by decide) (by decide)) rfl) (@pv _ 1 _ _ (by rfl) (by first | exact Or.inl rfl | exact Or.inr (Or.inl rfl) | exact Or.inr (Or.inr rfl)) (by decide) (by decide)) (fun _ _ => rfl)) (@pv _ 2 _ _ (by rfl) (by first | exact Or.inl rfl | exact Or.inr (Or.inl rfl) | exact Or.inr (Or.inr rfl)) (by decide) (by decide)) (fun _ _ => rfl))))), ?_⟩
    refine ⟨_, rfl, p, dx, _, rfl, h1, rfl, _, rfl, _, rfl, p, b, g, S, hl, el, rl, rfl, A1, ?_⟩
    by_cases hb : S.okP b g
    · rw [if_pos hb]
      rw [if_pos hb] at h
      obtain ⟨r1, r2, _⟩ := A1.wf.row hb.1
      obtain ⟨a, ea, ha⟩ := A1.rw.row r1
      have eg : (S.row b)[g.toNat]? = some ((S.row b).getD g.toNat .non) := by
        have : g.toNat < (S.row b).length := by
          rw [r2]
          have := hb.2.1
          have := hb.2.2
          omega
        rw [List.getD_eq_getElem?_getD, List.getElem?_eq_getElem this]
        rfl
      exact ⟨_, rfl, p, C, dx, _, _, rfl, h1, T.cl, T.aH, rfl, _, rfl, hl, _, b, _, rfl, rfl, SqL.of A1.hd, atI_of hb.1.1 (by rw [List.getElem?_map, ea]; rfl), _, rfl, a, _, g, _, rfl, rfl, SqL.of ha, atI_of hb.2.1 eg, h⟩
    · rw [if_neg hb]
      rw [if_neg hb] at h
      exact h
def spWorn (C cNP : Addr) : Sp := fun vs H Q E => ∃ (p : Addr) (b : Int) (S : CS) (hl el : Addr) (rl : List Addr), vs = [.ref p, .int b] ∧ ChipAt C H p S hl el rl ∧ if S.okB b then Q (.int (S.worn.getD b.toNat 0)) H else ∀ x, E (.ref cNP) (some x) H
theorem scWo : FnScope ["self", "block"] ["self", "block"] (defScope sWorn) := ⟨rfl, rfl, rfl, by decide +kernel, rfl, by decide +kernel, by decide +kernel⟩
theorem Wf.worn_at {S : CS} (W : Wf S) {b : Int} (h : S.okB b) : S.worn[b.toNat]? = some (S.worn.getD b.toNat 0) := by
  have hb : b.toNat < S.worn.length := by
    rw [W.wl]
    have := h.1
    have := h.2
    omega
  rw [List.getD_eq_getElem?_getD, List.getElem?_eq_getElem hb]
  rfl
theorem ok_worn {f : Addr} {fd : FuncData} (F : Fun K "worn" "Chip.worn" sWorn f fd) (T : Txt K mg C cBS cNP cNE cNS cBC cCu cWE)
    (M_check_block : MtB P w K mg base C 51 "check_block" ["self", "block"] (spCB C cNP)) : FnOk P w K mg base (CXw P w) 52 f fd ["self", "block"] (spWorn C cNP) := by
  refine F.okX (by decide) scWo (fun vs H Q E h => ?_) (fun cdv A outer s H vs Q E hr h => ?_)
  · obtain ⟨p, b, S, hl, el, rl, rfl, _⟩ := h
    rfl
  · obtain ⟨p, b, S, hl, el, rl, rfl, A1, h⟩ := h
    obtain ⟨dx, h1⟩ := A1.ob
    refine ⟨_, (@pss_cons _ _ _ _ _ (@ps_expr _ _ _ _ (@pe_methF _ _ _ _ _ _ _ _ _ _ _ _ _ _ _ T.cl M_check_block (hr.mono (by decide)) passes_w (@pv _ 0 _ _ (by rfl) (by first | exact Or.inl rfl | exact Or.inr (Or.inl rfl) | exact Or.inr (Or.inr rfl)) (by decide) (by decide)) (@pa_cons _ _ _ _ _ (@pv _ 1 _ _ (by rfl) (by first | exact Or.inl rfl | exact Or.inr (Or.inl rfl) | exact Or.inr (Or.inr rfl)) (by decide) (by decide)) (@pa_nil _) (by exact star_plain rfl)) (by exact star_plain rfl) (by exact any_plain rfl) (by rfl)) (by rfl)) (@pss_one _ _ _ (@ps_ret _ _ _ _ (@pe_ix _ _ _ _ _ _ _ (@ix_list _) (@pe_fld _ _ _ _ _ (@pv _ 0 _ _ (by rfl) (by first | exact Or.inl rfl | exact Or.inr (Or.inl rfl) | exact Or.inr (Or.inr rfl)) (by decide) (by decide)) rfl) (@pv _ 1 _ _ (by rfl) (by first | exact Or.inl rfl | exact Or.inr (Or.inl rfl) | exact Or.inr (Or.inr rfl)) (by decide) (by decide)) (fun _ _ => rfl))))), ?_⟩
    refine ⟨_, rfl, p, dx, _, rfl, h1, rfl, _, rfl, p, b, S, hl, el, rl, rfl, A1, ?_⟩
    by_cases hb : S.okB b
    · rw [if_pos hb]
      rw [if_pos hb] at h
      exact ⟨_, rfl, p, C, dx, _, _, rfl, h1, T.cl, T.aE, rfl, _, rfl, el, _, b, _, rfl, rfl, SqL.of A1.er, atI_of hb.1 (by rw [List.getElem?_map, A1.wf.worn_at hb]; rfl), h⟩
    · rw [if_neg hb]
      rw [if_neg hb] at h
      exact h
/-- power is told -/
def CS.powered (S : CS) (l : Option Int) : CS := { S with left := l, dark := false }
theorem Wf.powered {S : CS} (W : Wf S) {l : Option Int} (h : ∀ k, l = some k → 0 ≤ k) : Wf (S.powered l) := ⟨W.b1, W.b2, W.p1, W.p2, W.rl, W.rp, W.wl, h⟩
def spPower (C : Addr) : Sp := fun vs H Q _ => ∃ (p : Addr) (l : Option Int) (S : CS) (hl el : Addr) (rl : List Addr), vs = [.ref p, leftV l] ∧ (∀ k, l = some k → 0 ≤ k) ∧ ChipAt C H p S hl el rl ∧
  ∀ H', ChipAt C H' p (S.powered l) hl el rl → SameBut [p] H H' → Q .non H'
theorem scPw : FnScope ["self", "many"] ["self", "many"] (defScope sPower) := ⟨rfl, rfl, rfl, by decide +kernel, rfl, by decide +kernel, by decide +kernel⟩
theorem ok_power {f : Addr} {fd : FuncData} (F : Fun K "power" "Chip.power" sPower f fd) (T : Txt K mg C cBS cNP cNE cNS cBC cCu cWE) : FnOk P w K mg base (CXw P w) 51 f fd ["self", "many"] (spPower C) := by
  refine F.okX (by decide) scPw (fun vs H Q E h => ?_) (fun cdv A outer s H vs Q E hr h => ?_)
  · obtain ⟨p, l, S, hl, el, rl, rfl, _⟩ := h
    rfl
  · obtain ⟨p, l, S, hl, el, rl, rfl, hk, A1, h⟩ := h
    obtain ⟨dx, h1⟩ := A1.ob
    refine ⟨_, (@pss_cons _ _ _ _ _ (@ps_fld _ _ _ _ _ _ _ _ (@pv _ 0 _ _ (by rfl) (by first | exact Or.inl rfl | exact Or.inr (Or.inl rfl) | exact Or.inr (Or.inr rfl)) (by decide) (by decide)) (@pv _ 1 _ _ (by rfl) (by first | exact Or.inl rfl | exact Or.inr (Or.inl rfl) | exact Or.inr (Or.inr rfl)) (by decide) (by decide)) rfl) (@pss_one _ _ _ (@ps_fld _ _ _ _ _ _ _ _ (@pv _ 0 _ _ (by rfl) (by first | exact Or.inl rfl | exact Or.inr (Or.inl rfl) | exact Or.inr (Or.inr rfl)) (by decide) (by decide)) (@pe_bl _ _ _ _) rfl))), ?_⟩
    refine ⟨_, rfl, _, rfl, p, C, dx, _, rfl, h1, T.cl, T.aL, by show 7 < 1000; decide, _, rfl, p, C, dx, _, rfl, upd_same, T.cl, T.aD, by show 7 < 1000; decide, ?_⟩
    rw [upd_upd]
    exact h _ (A1.put (S' := S.powered l) rfl rfl (A1.wf.powered hk)) (but_put (by simp))
def spDraw (C cCu : Addr) : Sp := fun vs H Q E => ∃ (p : Addr) (S : CS) (hl el : Addr) (rl : List Addr), vs = [.ref p] ∧ ChipAt C H p S hl el rl ∧ match S.draw with
  | none => ∀ x, E (.ref cCu) (some x) H
  | some (l, S1) => ∀ H', ChipAt C H' p S1 hl el rl → SameBut [p] H H' → Q (.bl l) H'
theorem scDr : FnScope ["self"] ["self"] (defScope sDraw) := ⟨rfl, rfl, rfl, by decide +kernel, rfl, by decide +kernel, by decide +kernel⟩
theorem ok_draw {f : Addr} {fd : FuncData} (F : Fun K "draw_power" "Chip.draw_power" sDraw f fd) (T : Txt K mg C cBS cNP cNE cNS cBC cCu cWE) : FnOk P w K mg base (CXw P w) 51 f fd ["self"] (spDraw C cCu) := by
  refine F.okX (by decide) scDr (fun vs H Q E h => ?_) (fun cdv A outer s H vs Q E hr h => ?_)
  · obtain ⟨p, S, hl, el, rl, rfl, _⟩ := h
    rfl
  · obtain ⟨p, S, hl, el, rl, rfl, A1, h⟩ := h
    obtain ⟨dx, h1⟩ := A1.ob
    have W := A1.wf
    refine ⟨_, (@pss_cons _ _ _ _ _ (@ps_if _ _ _ _ _ _ _ _ (@pt_val _ _ _ (@pe_fld _ _ _ _ _ (@pv _ 0 _ _ (by rfl) (by first | exact Or.inl rfl | exact Or.inr (Or.inl rfl) | exact Or.inr (Or.inr rfl)) (by decide) (by decide)) rfl) (by intro _; rfl)) (@pss_one _ _ _ (@ps_raise _ _ _ _ _ _ _ _ _ _ raises_w T.x_Cut rfl rfl T.g_Cut (@pa_cons _ _ _ _ _ (@pe_str _ _ _ _) (@pa_nil _) (by exact star_plain rfl)) (by decide) (by exact star_plain rfl) (by exact any_plain rfl))) (@pss_nil _)) (@pss_cons _ _ _ _ _ (@ps_if _ _ _ _ _ _ _ _ (@pt_cmp _ _ _ _ _ _ (@pc_isN _ _ _ _ _ (@pe_fld _ _ _ _ _ (@pv _ 0 _ _ (by rfl) (by first | exact Or.inl rfl | exact Or.inr (Or.inl rfl) | exact Or.inr (Or.inr rfl)) (by decide) (by decide)) rfl)) (by first | exact nobehind _ (by decide) (by decide) | rfl)) (@pss_one _ _ _ (@ps_ret _ _ _ _ (@pe_bl _ _ _ _))) (@pss_nil _)) (@pss_cons _ _ _ _ _ (@ps_if _ _ _ _ _ _ _ _ (@pt_cmpR _ _ _ _ _ _ _ _ (@op_le _) (@pe_fld _ _ _ _ _ (@pv _ 0 _ _ (by rfl) (by first | exact Or.inl rfl | exact Or.inr (Or.inl rfl) | exact Or.inr (Or.inr rfl)) (by decide) (by decide)) rfl) (@pe_int _ _ _ _) (@nomark _ _ (by decide) (by decide))) (@pss_cons _ _ _ _ _ (@ps_fld _ _ _ _ _ _ _ _ (@pv _ 0 _ _ (by rfl) (by first | exact Or.inl rfl | exact Or.inr (Or.inl rfl) | exact Or.inr (Or.inr rfl)) (by decide) (by decide)) (@pe_bl _ _ _ _) rfl) (@pss_one _ _ _ (@ps_ret _ _ _ _ (@pe_bl _ _ _ _)))) (@pss_nil _)) (@pss_cons _ _ _ _ _ (@ps_fld _ _ _ _ _ _ _ _ (@pv _ 0 _ _ (by rfl) (by first | exact Or.inl rfl | exact Or.inr (Or.inl rfl) | exact Or.inr (Or.inr rfl)) (by decide) (by decide)) (@pe_op _ _ _ _ _ _ _ _ (@op_sub _) (@pe_fld _ _ _ _ _ (@pv _ 0 _ _ (by rfl) (by first | exact Or.inl rfl | exact Or.inr (Or.inl rfl) | exact Or.inr (Or.inr rfl)) (by decide) (by decide)) rfl) (@pe_int _ _ _ _)) rfl) (@pss_one _ _ _ (@ps_ret _ _ _ _ (@pe_bl _ _ _ _))))))), ?_⟩
    obtain ⟨nb, np, rows, worn, many, left, dark⟩ := S
    refine ⟨_, rfl, p, C, dx, _, _, rfl, h1, T.cl, T.aD, rfl, _, rfl, ?_⟩
    unfold CS.draw at h
    cases dark with
    | true => exact iteT ⟨by decide, h⟩
    | false =>
      rw [if_neg Bool.false_ne_true] at h
      refine iteF ⟨_, rfl, p, C, dx, _, _, rfl, h1, T.cl, T.aL, rfl, _, rfl, ?_⟩
      cases left with
      | none => exact iteT (h H A1 (SameBut.refl _ _))
      | some k =>
        refine iteF ⟨_, rfl, p, C, dx, _, _, rfl, h1, T.cl, T.aL, rfl, k, 0, rfl, rfl, _, rfl, ?_⟩
        by_cases h0 : k ≤ 0
        · rw [decide_eq_true h0]
          simp only [h0, if_true] at h
          refine iteT ⟨_, rfl, p, C, dx, _, rfl, h1, T.cl, T.aD, by show 7 < 1000; decide, ?_⟩
          exact h _ (A1.put (S' := ⟨nb, np, rows, worn, many, some k, true⟩) rfl rfl ⟨W.b1, W.b2, W.p1, W.p2, W.rl, W.rp, W.wl, W.lf⟩) (but_put (by simp))
        · rw [decide_eq_false h0]
          simp only [h0, if_false] at h
          refine iteF ⟨_, rfl, p, C, dx, _, _, rfl, h1, T.cl, T.aL, rfl, k, 1, rfl, rfl, _, rfl, p, C, dx, _, rfl, h1, T.cl, T.aL, by show 7 < 1000; decide, ?_⟩
          exact h _ (A1.put (S' := ⟨nb, np, rows, worn, many, some (k - 1), false⟩) rfl rfl ⟨W.b1, W.b2, W.p1, W.p2, W.rl, W.rp, W.wl, fun j e => by cases e; omega⟩) (but_put (by simp))
end
end Ev

set_option Elab.async false
set_option linter.all false
set_option maxRecDepth 100000
namespace Ev
open PySem L2
theorem cut_from (xs : List V) {g : Int} (h : 0 ≤ g) : cutV xs (some g) none = xs.drop g.toNat := by
  obtain ⟨n, rfl⟩ := Int.eq_ofNat_of_zero_le h
  unfold cutV
  rw [HT.sIx_none, HT.sIx_nat, Int.toNat_natCast]
  by_cases hn : n ≤ xs.length
  · rw [Nat.min_eq_left hn]
    exact List.take_of_length_le (by rw [List.length_drop]; exact Nat.le_refl _)
  · have hn' : xs.length ≤ n := by omega
    rw [Nat.min_eq_right hn', List.drop_of_length_le (Nat.le_refl _), List.drop_of_length_le hn']
    simp
section
variable {P : Program} {w : World} {K : PySem.W.Frag} {mg : Str → Option Value} {base : Heap} {C cBS cNP cNE cNS cBC cCu cWE : Addr}
def spCE (C cNE : Addr) : Sp := fun vs H Q E => ∃ (p : Addr) (b g : Int) (S : CS) (hl el : Addr) (rl : List Addr), vs = [.ref p, .int b, .int g] ∧ ChipAt C H p S hl el rl ∧ S.okP b g ∧
  ∀ H', Same H H' → if S.clear b g = true then Q .non H' else ∀ x, E (.ref cNE) (some x) H'
theorem scCE : FnScope ["self", "block", "page", "thing"] ["self", "block", "page"] (defScope sCE) := ⟨rfl, rfl, rfl, by decide +kernel, rfl, by decide +kernel, by decide +kernel⟩
theorem ok_check_erased {f : Addr} {fd : FuncData} (F : Fun K "check_erased_from" "Chip.check_erased_from" sCE f fd) (T : Txt K mg C cBS cNP cNE cNS cBC cCu cWE) : FnOk P w K mg base (CXw P w) 51 f fd ["self", "block", "page"] (spCE C cNE) := by
  refine F.okX (by decide) scCE (fun vs H Q E h => ?_) (fun cdv A outer s H vs Q E hr h => ?_)
  · obtain ⟨p, b, g, S, hl, el, rl, rfl, _⟩ := h
    rfl
  · obtain ⟨p, b, g, S, hl, el, rl, rfl, A1, hb, h⟩ := h
    obtain ⟨dx, h1⟩ := A1.ob
    obtain ⟨r1, r2, _⟩ := A1.wf.row hb.1
    obtain ⟨a, ea, ha⟩ := A1.rw.row r1
    refine ⟨_, (@pss_one _ _ _ (@ps_for _ _ _ _ _ _ _ _ PassesOwn.leaving rfl (@pi_list _ _ _ _ (@pe_slice _ _ _ _ _ _ _ _ _ _ (@sl_list _) (@pe_ix _ _ _ _ _ _ _ (@ix_list _) (@pe_fld _ _ _ _ _ (@pv _ 0 _ _ (by rfl) (by first | exact Or.inl rfl | exact Or.inr (Or.inl rfl) | exact Or.inr (Or.inr rfl)) (by decide) (by decide)) rfl) (@pv _ 1 _ _ (by rfl) (by first | exact Or.inl rfl | exact Or.inr (Or.inl rfl) | exact Or.inr (Or.inr rfl)) (by decide) (by decide)) (fun _ _ => rfl)) (@po_some _ _ _ (@pv _ 2 _ _ (by rfl) (by first | exact Or.inl rfl | exact Or.inr (Or.inl rfl) | exact Or.inr (Or.inr rfl)) (by decide) (by decide))) (@po_none _))) (@pg_name _ _ (3) _ scCE.nd rfl (Or.inl rfl) (by first | exact .inl rfl | exact .inr rfl | assumption)) (@pss_one _ _ _ (@ps_if _ _ _ _ _ _ _ _ (@pt_cmp _ _ _ _ _ _ (@pc_notN _ _ _ _ _ (@pv _ 3 _ _ (by rfl) (by first | exact Or.inl rfl | exact Or.inr (Or.inl rfl) | exact Or.inr (Or.inr rfl)) (by decide) (by decide))) (by first | exact nobehind _ (by decide) (by decide) | rfl)) (@pss_one _ _ _ (@ps_raise _ _ _ _ _ _ _ _ _ _ raises_w T.x_NotErased rfl rfl T.g_NotErased (@pa_cons _ _ _ _ _ (@pe_str _ _ _ _) (@pa_nil _) (by exact star_plain rfl)) (by decide) (by exact star_plain rfl) (by exact any_plain rfl))) (@pss_nil _))) (by intro _; rfl))), ?_⟩
    refine ⟨_, rfl, p, C, dx, _, _, rfl, h1, T.cl, T.aH, rfl, _, rfl, hl, _, b, _, rfl, rfl, SqL.of A1.hd, atI_of hb.1.1 (by rw [List.getElem?_map, ea]; rfl), _, rfl, g, rfl, a, _, rfl, SqL.of ha, fun l nl => ?_⟩
    rw [cut_from _ hb.2.1]
    have s1 : Same H (upd H l (.lst ((S.row b).drop g.toNat))) := same_new nl
    have hh := h _ s1
    refine ⟨l, rfl, ⟨_, SqL.of upd_same⟩, for_list (K := K) (a := l) (xs := (S.row b).drop g.toNat) (fun i σ H2 => H2 = upd H l (.lst ((S.row b).drop g.toNat)) ∧ (∃ v, σ = [some (.ref p), some (.int b), some (.int g), v]) ∧ ∀ j v, j < i → ((S.row b).drop g.toNat)[j]? = some v → v = .non)
      ⟨rfl, ⟨none, rfl⟩, fun j _ z => absurd z (Nat.not_lt_zero _)⟩ (fun i σ H2 _ ⟨e, _⟩ => by rw [e]; exact SqL.of upd_same) ?_ ?_⟩
    · rintro i x σ H2 hi ⟨rfl, ⟨v, rfl⟩, hall⟩
      refine ⟨_, rfl, _, rfl, ?_⟩
      by_cases hx : x = .non
      · rw [decide_eq_true hx]
        refine iteF ⟨rfl, ⟨_, rfl⟩, fun j v hj ev => ?_⟩
        rcases Nat.lt_succ_iff_lt_or_eq.mp hj with z | z
        · exact hall j v z ev
        · rw [z, hi] at ev
          cases ev
          exact hx
      · rw [decide_eq_false hx]
        have nc : S.clear b g = false := by
          unfold CS.clear
          refine Bool.eq_false_iff.mpr fun z => ?_
          have := List.all_eq_true.mp z x (List.mem_of_getElem? hi)
          exact hx (of_decide_eq_true this)
        rw [if_neg (by rw [nc]; exact Bool.false_ne_true)] at hh
        exact iteT ⟨by decide, hh⟩
    · rintro σ H2 ⟨rfl, _, hall⟩
      have yc : S.clear b g = true := by
        unfold CS.clear
        refine List.all_eq_true.mpr fun v hv => ?_
        obtain ⟨j, hj, e⟩ := List.mem_iff_getElem.mp hv
        exact decide_eq_true (hall j v hj (by rw [← e]; simp [hj]))
      rw [if_pos yc] at hh
      exact hh
end
end Ev

set_option Elab.async false
set_option linter.all false
set_option maxRecDepth 100000
namespace Ev
open PySem L2
/-- a comprehension each of whose turns lays a list: turn i one that holds f i -/
def CompW (H1 : Hp) (acc : Addr) (n : Nat) (f : Nat → List V) (i m : Nat) (ys : List V) (H2 : Hp) : Prop := m = n - i ∧ i ≤ n ∧ ∃ rl : List Addr, ys = rl.map V.ref ∧ rl.length = i ∧ rl.Nodup ∧ acc ∉ rl ∧ (∀ j a, rl[j]? = some a → H2 a = some (.lst (f j)) ∧ H1 a = none) ∧ H2 acc = some (.lst ys) ∧ Same H1 H2
theorem comp_lists {J : It} {H1 : Hp} {acc : Addr} {tt : TT} {te : TE} {Q : VK} {σc : St} (n : Nat) (hn : n < 1000) (f : Nat → List V) (nacc : H1 acc = none)
    (stop : ∀ H2, Same H1 H2 → J.stop n H2) (go : ∀ i H2, i < n → Same H1 H2 → J.go i H2)
    (elt : ∀ i x H2 H3 (R : V → Hp → Prop), i < n → Same H1 H2 → J.yld i H2 x H3 → (∀ p H5, H2 p = none → H5 p = some (.lst (f i)) → Same H2 H5 → R (.ref p) H5) → tt (some x :: σc) H3 fun b H4 =>
      if b = true then te (some x :: σc) H4 R else False)
    (mono : ∀ σ H (R R' : Bool → Hp → Prop), (∀ b H', R b H' → R' b H') → tt σ H R → tt σ H R')
    (fin : ∀ (rl : List Addr) (H2 : Hp), rl.length = n → rl.Nodup → acc ∉ rl → (∀ i a, rl[i]? = some a → H2 a = some (.lst (f i)) ∧ H1 a = none) → H2 acc = some (.lst (rl.map V.ref)) → Same H1 H2 → Q (.ref acc) H2) :
    ∃ W : Nat → Nat → List V → Hp → Prop, (∃ m, W 0 m [] (upd H1 acc (.lst []))) ∧
      ∀ i m ys H2, W i m ys H2 → (J.stop i H2 ∧ Q (.ref acc) H2) ∨ (J.go i H2 ∧ ∀ x H3, J.yld i H2 x H3 → tt (some x :: σc) H3 fun b H4 =>
        if b = true then te (some x :: σc) H4 fun y H5 => H5 acc = some (.lst ys) ∧ ys.length < sizeLine ∧ ∃ m', m' < m ∧ W (i + 1) m' (ys ++ [y]) (upd H5 acc (.lst (ys ++ [y])))
        else ∃ m', m' < m ∧ W (i + 1) m' ys H4) := by
  refine ⟨CompW H1 acc n f,
    ⟨n, by simp, Nat.zero_le _, [], rfl, rfl, List.nodup_nil, by simp, fun j a e => by simp at e, upd_same, same_new nacc⟩, ?_⟩
  rintro i m ys H2 ⟨rfl, hi, rl, rfl, hl, nd, na, hat, hacc, s2⟩
  by_cases hlt : i < n
  · refine .inr ⟨go i H2 hlt s2, fun x H3 y => mono _ _ _ _ (fun b H4 q => ?_) (elt i x H2 H3 (fun y H5 => H5 acc = some (.lst (rl.map V.ref)) ∧ (rl.map V.ref).length < sizeLine ∧ ∃ m', m' < n - i ∧ CompW H1 acc n f (i + 1) m' (rl.map V.ref ++ [y]) (upd H5 acc (.lst (rl.map V.ref ++ [y])))) hlt s2 y fun p H5 np hp s5 => ?_)⟩
    · by_cases hb : b = true
      · rw [if_pos hb] at q ⊢
        exact q
      · rw [if_neg hb] at q
        exact q.elim
    · have pa : p ≠ acc := (ne_of_none hacc np).symm
      have prl : p ∉ rl := fun m => by
        obtain ⟨j, hj, e⟩ := List.mem_iff_getElem.mp m
        have := (hat j p (by rw [← e]; simp [hj])).1
        rw [np] at this
        cases this
      refine ⟨s5 _ _ hacc, by rw [List.length_map, hl]; exact small1000 (by omega), n - (i + 1), by omega, rfl, hlt, rl ++ [p], by rw [List.map_append]; rfl, by rw [List.length_append, hl]; rfl, ?_, ?_, ?_, upd_same, fun b o e => ?_⟩
      · refine List.nodup_append.mpr ⟨nd, by simp, fun a ha b hb => ?_⟩
        obtain rfl : b = p := by simpa using hb
        exact fun z => prl (z ▸ ha)
      · intro m
        rcases List.mem_append.mp m with z | z
        · exact na z
        · exact pa (by simpa using z : acc = p).symm
      · intro j a e
        have aacc : a ≠ acc := by
          intro z
          have m := List.mem_of_getElem? e
          rcases List.mem_append.mp m with q | q
          · exact na (z ▸ q)
          · exact pa (by rw [← z]; exact (by simpa using q : a = p).symm)
        rw [upd_ne aacc]
        by_cases hj : j < rl.length
        · rw [List.getElem?_append_left hj] at e
          obtain ⟨q1, q2⟩ := hat j a e
          exact ⟨s5 _ _ q1, q2⟩
        · have ej : j = rl.length := by
            have := (List.getElem?_eq_some_iff.mp e).1
            rw [List.length_append] at this
            simp at this
            omega
          rw [ej, List.getElem?_append_right (Nat.le_refl _)] at e
          simp at e
          subst e
          rw [ej, hl]
          exact ⟨hp, s2.free np⟩
      · have ba : b ≠ acc := ne_of_none e nacc
        rw [upd_ne ba]
        exact s5 _ _ (s2 _ _ e)
  · have e : i = n := by omega
    subst e
    exact .inl ⟨stop H2 s2, fin rl H2 hl nd na hat hacc s2⟩
theorem comp_lists_range {ta : TA} {ci : List Nat} {tt : TT} {te : TE} {σ : St} {H : Hp} {Q : VK} (j : Int) (h1 : 0 ≤ j) (h2 : j < 1000) (hta : ∀ R : List V → Hp → Prop, R [.int j] H → ta σ H R) (f : Nat → List V)
    (mono : ∀ σ H (R R' : Bool → Hp → Prop), (∀ b H', R b H' → R' b H') → tt σ H R → tt σ H R')
    (elt : ∀ (i : Nat) H2 (R : V → Hp → Prop), (i : Int) < j → Same H H2 → (∀ p H5, H2 p = none → H5 p = some (.lst (f i)) → Same H2 H5 → R (.ref p) H5) → tt (some (.int (0 + (i : Int))) :: capt ci σ) H2 fun b H4 =>
      if b = true then te (some (.int (0 + (i : Int))) :: capt ci σ) H4 R else False)
    (fin : ∀ (acc : Addr) (rl : List Addr) (H2 : Hp), H acc = none → (rl.length : Int) = j → rl.Nodup → acc ∉ rl → (∀ i a, rl[i]? = some a → H2 a = some (.lst (f i)) ∧ H a = none) → H2 acc = some (.lst (rl.map V.ref)) → Same H H2 → Q (.ref acc) H2) :
    tComp (iRng1 ta) ci tt te σ H Q := by
  unfold tComp
  refine hta _ ⟨j, rfl, by omega, by omega, fun acc nacc => ?_⟩
  refine comp_lists (Q := Q) (J := Itr 0 j.toNat) (σc := capt ci σ) j.toNat (by omega) f nacc (fun _ _ => Nat.le_refl _) (fun _ _ h _ => h) (fun i x H2 H3 R hi s2 y k => ?_) mono fun rl H2 a b c d e g => fin acc rl H2 nacc (by omega) b c d e g
  obtain ⟨rfl, rfl⟩ := y
  exact elt i _ R (by omega) s2 k
theorem comp_lists_list {K : PySem.W.Frag} {tl : TE} {ci : List Nat} {tt : TT} {te : TE} {σ : St} {H : Hp} {Q : VK} (a : Addr) (xs : List V) (hn : xs.length < 1000) (hs : SqL K H a xs) (htl : ∀ R : V → Hp → Prop, R (.ref a) H → tl σ H R) (f : Nat → List V)
    (mono : ∀ σ H (R R' : Bool → Hp → Prop), (∀ b H', R b H' → R' b H') → tt σ H R → tt σ H R')
    (elt : ∀ (i : Nat) x H2 (R : V → Hp → Prop), xs[i]? = some x → Same H H2 → (∀ p H5, H2 p = none → H5 p = some (.lst (f i)) → Same H2 H5 → R (.ref p) H5) → tt (some x :: capt ci σ) H2 fun b H4 =>
      if b = true then te (some x :: capt ci σ) H4 R else False)
    (fin : ∀ (acc : Addr) (rl : List Addr) (H2 : Hp), H acc = none → rl.length = xs.length → rl.Nodup → acc ∉ rl → (∀ i a, rl[i]? = some a → H2 a = some (.lst (f i)) ∧ H a = none) → H2 acc = some (.lst (rl.map V.ref)) → Same H H2 → Q (.ref acc) H2) :
    tComp (iList K tl) ci tt te σ H Q := by
  unfold tComp
  refine htl _ ⟨a, rfl, ⟨_, hs⟩, fun acc nacc => ?_⟩
  refine comp_lists (Q := Q) (J := Itl K a) (σc := capt ci σ) xs.length hn f nacc (fun _ s => ⟨xs, s.seq hs, Nat.le_refl _⟩) (fun i _ h s => ⟨xs, xs[i], s.seq hs, by simp [h]⟩) (fun i x H2 H3 R hi s2 y k => ?_) mono fun rl H2 a b c d e g => fin acc rl H2 nacc a b c d e g
  obtain ⟨e, y⟩ := y
  subst e
  exact elt i x _ R (y xs (s2.seq hs)) s2 k
theorem tyes {σ : St} {H : Hp} {A : Hp → Prop} (h : A H) : tYes σ H (fun b H4 => if b = true then A H4 else False) := iteT (B := False) h
theorem yes_mono : ∀ σ H (R R' : Bool → Hp → Prop), (∀ b H', R b H' → R' b H') → tYes σ H R → tYes σ H R' := fun _ H _ _ k h => k true H h
theorem rep_one (k : Nat) (v : V) : (List.replicate k [v]).flatten = List.replicate k v := by
  induction k with
  | zero => rfl
  | succ k ih => rw [List.replicate_succ, List.flatten_cons, ih, List.replicate_succ]; rfl
def fresh (nb np : Nat) : CS := ⟨nb, np, List.replicate nb (List.replicate np .non), List.replicate nb 0, 0, none, false⟩
theorem rep_get {α : Type} {n i : Nat} {v : α} (h : i < n) : (List.replicate n v)[i]? = some v := by rw [List.getElem?_replicate, if_pos h]
theorem wf_fresh {nb np : Nat} (b1 : 4 ≤ nb) (b2 : nb ≤ 32) (p1 : 2 ≤ np) (p2 : np ≤ 16) : Wf (fresh nb np) :=
  ⟨b1, b2, p1, p2, List.length_replicate, fun r m => by
    obtain rfl := (List.mem_replicate.mp m).2
    exact ⟨List.length_replicate, List.all_eq_true.mpr fun v hv => by rw [(List.mem_replicate.mp hv).2]; rfl⟩, List.length_replicate, fun k e => by cases e⟩
section
variable {P : Program} {w : World} {K : PySem.W.Frag} {mg : Str → Option Value} {base : Heap} {C cBS cNP cNE cNS cBC cCu cWE : Addr}
def spInit (C cBS : Addr) : Sp := fun vs H Q E => ∃ (p dx : Addr) (b g : Int), vs = [.ref p, .int b, .int g] ∧ H p = some (.ins C dx []) ∧
  if 4 ≤ b ∧ b ≤ 32 ∧ 2 ≤ g ∧ g ≤ 16 then ∀ H' hl el rl, ChipAt C H' p (fresh b.toNat g.toNat) hl el rl → Did H H' [p] (fpC p hl el rl) → Q .non H' else ∀ x, E (.ref cBS) (some x) H
theorem scIn : FnScope ["self", "blocks", "pages"] ["self", "blocks", "pages"] (defScope sInit) := ⟨rfl, rfl, rfl, by decide +kernel, rfl, by decide +kernel, by decide +kernel⟩
theorem ok_init {f : Addr} {fd : FuncData} (F : Fun K "__init__" "Chip.__init__" sInit f fd) (T : Txt K mg C cBS cNP cNE cNS cBC cCu cWE) : FnOk P w K mg base (CXw P w) 51 f fd ["self", "blocks", "pages"] (spInit C cBS) := by
  refine F.okX (by decide) scIn (fun vs H Q E h => ?_) (fun cdv A outer s H vs Q E hr h => ?_)
  · obtain ⟨p, dx, b, g, rfl, _⟩ := h
    rfl
  · obtain ⟨p, dx, b, g, rfl, h1, h⟩ := h
    refine ⟨_, (@pss_cons _ _ _ _ _ (@ps_if _ _ _ _ _ _ _ _ (@pt_not _ _ _ _ (@pt_chain _ _ _ _ _ _ _ _ _ _ _ _ (@op_le _) (@op_le _) (@pe_gl _ _ _ _ rfl T.g_LB (by decide)) (@pv _ 1 _ _ (by rfl) (by first | exact Or.inl rfl | exact Or.inr (Or.inl rfl) | exact Or.inr (Or.inr rfl)) (by decide) (by decide)) (@pe_gl _ _ _ _ rfl T.g_MB (by decide)) (by with_unfolding_all rfl))) (@pss_one _ _ _ (@ps_raise _ _ _ _ _ _ _ _ _ _ raises_w T.x_BadSize rfl rfl T.g_BadSize (@pa_cons _ _ _ _ _ (@pe_str _ _ _ _) (@pa_nil _) (by exact star_plain rfl)) (by decide) (by exact star_plain rfl) (by exact any_plain rfl))) (@pss_nil _)) (@pss_cons _ _ _ _ _ (@ps_if _ _ _ _ _ _ _ _ (@pt_not _ _ _ _ (@pt_chain _ _ _ _ _ _ _ _ _ _ _ _ (@op_le _) (@op_le _) (@pe_gl _ _ _ _ rfl T.g_LP (by decide)) (@pv _ 2 _ _ (by rfl) (by first | exact Or.inl rfl | exact Or.inr (Or.inl rfl) | exact Or.inr (Or.inr rfl)) (by decide) (by decide)) (@pe_gl _ _ _ _ rfl T.g_MP (by decide)) (by with_unfolding_all rfl))) (@pss_one _ _ _ (@ps_raise _ _ _ _ _ _ _ _ _ _ raises_w T.x_BadSize rfl rfl T.g_BadSize (@pa_cons _ _ _ _ _ (@pe_str _ _ _ _) (@pa_nil _) (by exact star_plain rfl)) (by decide) (by exact star_plain rfl) (by exact any_plain rfl))) (@pss_nil _)) (@pss_cons _ _ _ _ _ (@ps_fld _ _ _ _ _ _ _ _ (@pv _ 0 _ _ (by rfl) (by first | exact Or.inl rfl | exact Or.inr (Or.inl rfl) | exact Or.inr (Or.inr rfl)) (by decide) (by decide)) (@pv _ 1 _ _ (by rfl) (by first | exact Or.inl rfl | exact Or.inr (Or.inl rfl) | exact Or.inr (Or.inr rfl)) (by decide) (by decide)) rfl) (@pss_cons _ _ _ _ _ (@ps_fld _ _ _ _ _ _ _ _ (@pv _ 0 _ _ (by rfl) (by first | exact Or.inl rfl | exact Or.inr (Or.inl rfl) | exact Or.inr (Or.inr rfl)) (by decide) (by decide)) (@pv _ 2 _ _ (by rfl) (by first | exact Or.inl rfl | exact Or.inr (Or.inl rfl) | exact Or.inr (Or.inr rfl)) (by decide) (by decide)) rfl) (@pss_cons _ _ _ _ _ (@ps_fld _ _ _ _ _ _ _ _ (@pv _ 0 _ _ (by rfl) (by first | exact Or.inl rfl | exact Or.inr (Or.inl rfl) | exact Or.inr (Or.inr rfl)) (by decide) (by decide)) (@pe_comp _ _ _ _ _ _ _ _ ([2]) (["pages"]) _ _ _ rfl (@pi_range1 _ _ _ _ _ _ rfl T.n_range (@pa_cons _ _ _ _ _ (@pv _ 1 _ _ (by rfl) (by first | exact Or.inl rfl | exact Or.inr (Or.inl rfl) | exact Or.inr (Or.inr rfl)) (by decide) (by decide)) (@pa_nil _) (by exact star_plain rfl)) (by exact star_plain rfl)) rfl (by decide +kernel) (by decide +kernel) (by decide +kernel) (by show ∀ y : Str × NameKind, y ∈ _ → y.2 = NameKind.free → List.lookup y.1 (defScope sInit).names = some NameKind.cell; decide +kernel) (by show ∀ p : Str × Nat, p ∈ _ → List.lookup p.1 _ = some NameKind.free ∧ (["self", "blocks", "pages"] : List Str)[p.2]? = some p.1; decide +kernel) rfl (by decide +kernel) (fun _ _ _ _ _ => (@pts_nil _)) (fun _ _ _ _ _ => (@pe_op _ _ _ _ _ _ _ _ (@op_rep _) (@pe_lst _ _ _ _ (@pa_cons _ _ _ _ _ (@pe_non _ _ _) (@pa_nil _) (by exact star_plain rfl))) (@pv _ 1 _ _ (by rfl) (by first | exact Or.inl rfl | exact Or.inr (Or.inl rfl) | exact Or.inr (Or.inr rfl)) (by decide) (by decide)))) (by intro _; rfl)) rfl) (@pss_cons _ _ _ _ _ (@ps_fld _ _ _ _ _ _ _ _ (@pv _ 0 _ _ (by rfl) (by first | exact Or.inl rfl | exact Or.inr (Or.inl rfl) | exact Or.inr (Or.inr rfl)) (by decide) (by decide)) (@pe_op _ _ _ _ _ _ _ _ (@op_rep _) (@pe_lst _ _ _ _ (@pa_cons _ _ _ _ _ (@pe_int _ _ _ _) (@pa_nil _) (by exact star_plain rfl))) (@pv _ 1 _ _ (by rfl) (by first | exact Or.inl rfl | exact Or.inr (Or.inl rfl) | exact Or.inr (Or.inr rfl)) (by decide) (by decide))) rfl) (@pss_cons _ _ _ _ _ (@ps_fld _ _ _ _ _ _ _ _ (@pv _ 0 _ _ (by rfl) (by first | exact Or.inl rfl | exact Or.inr (Or.inl rfl) | exact Or.inr (Or.inr rfl)) (by decide) (by decide)) (@pe_int _ _ _ _) rfl) (@pss_cons _ _ _ _ _ (@ps_fld _ _ _ _ _ _ _ _ (@pv _ 0 _ _ (by rfl) (by first | exact Or.inl rfl | exact Or.inr (Or.inl rfl) | exact Or.inr (Or.inr rfl)) (by decide) (by decide)) (@pe_non _ _ _) rfl) (@pss_one _ _ _ (@ps_fld _ _ _ _ _ _ _ _ (@pv _ 0 _ _ (by rfl) (by first | exact Or.inl rfl | exact Or.inr (Or.inl rfl) | exact Or.inr (Or.inr rfl)) (by decide) (by decide)) (@pe_bl _ _ _ _) rfl)))))))))), ?_⟩
    -- the blocks
    refine ⟨_, rfl, _, _, rfl, rfl, _, rfl, ite2 (fun h0 => ?_) fun h0 => ?_⟩
    rotate_left
    · rw [if_neg fun z => h0 (decide_eq_true z.1)] at h
      exact ⟨_, rfl, iteT ⟨by decide, h⟩⟩
    refine ⟨_, _, rfl, rfl, _, rfl, ?_⟩
    have b1 : 4 ≤ b := of_decide_eq_true h0
    by_cases b2 : b ≤ 32
    rotate_left
    · rw [decide_eq_false b2]
      rw [if_neg fun z => b2 z.2.1] at h
      exact iteT ⟨by decide, h⟩
    rw [decide_eq_true b2]
    refine iteF ?_
    -- the pages
    refine ⟨_, rfl, _, _, rfl, rfl, _, rfl, ite2 (fun h0 => ?_) fun h0 => ?_⟩
    rotate_left
    · rw [if_neg fun z => h0 (decide_eq_true z.2.2.1)] at h
      exact ⟨_, rfl, iteT ⟨by decide, h⟩⟩
    refine ⟨_, _, rfl, rfl, _, rfl, ?_⟩
    have p1 : 2 ≤ g := of_decide_eq_true h0
    by_cases p2 : g ≤ 16
    rotate_left
    · rw [decide_eq_false p2]
      rw [if_neg fun z => p2 z.2.2.2] at h
      exact iteT ⟨by decide, h⟩
    rw [decide_eq_true p2]
    refine iteF ?_
    rw [if_pos ⟨b1, b2, p1, p2⟩] at h
    obtain ⟨bn, rfl⟩ := Int.eq_ofNat_of_zero_le (show 0 ≤ b by omega)
    obtain ⟨gn, rfl⟩ := Int.eq_ofNat_of_zero_le (show 0 ≤ g by omega)
    rw [Int.toNat_natCast, Int.toNat_natCast] at h
    -- blocks, pages
    refine ⟨_, rfl, _, rfl, p, C, dx, _, rfl, h1, T.cl, T.aB, by show 0 < 1000; decide, _, rfl, _, rfl, p, C, dx, _, rfl, upd_same, T.cl, T.aP, by show 1 < 1000; decide, ?_⟩
    rw [upd_upd]
    generalize hH1 : upd H p _ = H1
    have e1 : H1 p = some (.ins C dx [("blocks", .int bn), ("pages", .int gn)]) := by rw [← hH1]; exact upd_same
    have s1 : SameBut [p] H H1 := by rw [← hH1]; exact but_put (by simp)
    have f1 : ∀ a, H1 a = none → H a = none := fun a e => by
      rw [← hH1] at e
      by_cases z : a = p
      · rw [z, upd_same] at e; cases e
      · rw [upd_ne z] at e; exact e
    -- held
    refine comp_lists_range (bn : Int) (by omega) (by omega) (fun R h => ⟨_, rfl, h⟩) (fun _ => List.replicate gn V.non) yes_mono (fun i H2 R hi s2 k => ?_) fun acc rl H2 nacc hl2 nd2 na2 hat2 hacc2 s2 => ?_
    · refine tyes ⟨by show 1 ≤ sizeLine; decide, fun l nl => ⟨_, rfl, l, (gn : Int), [.non], rfl, rfl, upd_same, by omega, by omega, ?_, fun q nq => ?_⟩⟩
      · show 1 * gn ≤ sizeLine
        exact Nat.le_of_lt (small1000 (by omega))
      · rw [rep_one]
        exact k q _ ((same_new nl).free nq) upd_same ((same_new nl).trans (same_new nq))
    -- the others
    have e2 := s2 _ _ e1
    have pacc : p ≠ acc := ne_of_none e1 nacc
    refine ⟨_, rfl, p, C, dx, _, rfl, e2, T.cl, T.aH, by show 2 < 1000; decide, ?_⟩
    refine ⟨by show 1 ≤ sizeLine; decide, fun l nl => ⟨_, rfl, l, (bn : Int), [.int 0], rfl, rfl, upd_same, by omega, by omega, ?_, fun el nel => ?_⟩⟩
    · show 1 * bn ≤ sizeLine
      exact Nat.le_of_lt (small1000 (by omega))
    rw [rep_one]
    have npl : p ≠ l := fun z => by
      rw [← z, upd_same] at nl
      cases nl
    have npe : p ≠ el := fun z => by
      rw [← z, upd_ne npl, upd_same] at nel
      cases nel
    have pH2 : upd (upd (upd H2 p (HO.ins C dx (putF "held" (V.ref acc) [("blocks", V.int bn), ("pages", V.int gn)]))) l (.lst [.int 0])) el (.lst (List.replicate bn (.int 0))) p = some (.ins C dx [("blocks", V.int bn), ("pages", V.int gn), ("held", V.ref acc)]) := by
      rw [upd_ne npe, upd_ne npl, upd_same]
      rfl
    refine ⟨_, rfl, p, C, dx, _, rfl, pH2, T.cl, T.aE, by show 3 < 1000; decide, _, rfl, p, C, dx, _, rfl, upd_same, T.cl, T.aW, by show 4 < 1000; decide, _, rfl, p, C, dx, _, rfl, upd_same, T.cl, T.aL, by show 5 < 1000; decide, _, rfl, p, C, dx, _, rfl, upd_same, T.cl, T.aD, by show 6 < 1000; decide, ?_⟩
    rw [upd_upd, upd_upd, upd_upd]
    -- the state behind
    have tr2 : ∀ a o, H2 a = some o → a ≠ p → (upd (upd (upd H2 p (HO.ins C dx (putF "held" (V.ref acc) [("blocks", V.int bn), ("pages", V.int gn)]))) l (.lst [.int 0])) el (.lst (List.replicate bn (.int 0)))) a = some o := fun a o e na => by
      have al : a ≠ l := fun z => by
        rw [z] at na e
        rw [upd_ne na, e] at nl
        cases nl
      have ae : a ≠ el := fun z => by
        rw [z] at na e al
        rw [upd_ne al, upd_ne na, e] at nel
        cases nel
      rw [upd_ne ae, upd_ne al, upd_ne na]
      exact e
    have elacc : el ≠ acc := fun z => by
      rw [z, upd_ne (fun q => by rw [← q, upd_ne (Ne.symm pacc), hacc2] at nl; cases nl), upd_ne (Ne.symm pacc), hacc2] at nel
      cases nel
    have elrl : el ∉ rl := fun m => by
      obtain ⟨j, hj, e⟩ := List.mem_iff_getElem.mp m
      have q := (hat2 j el (by rw [← e]; simp [hj])).1
      have nq : el ≠ p := Ne.symm npe
      have ql : el ≠ l := fun z => by
        rw [← z, upd_ne nq, q] at nl
        cases nl
      rw [upd_ne ql, upd_ne nq, q] at nel
      cases nel
    have nprl : ∀ a ∈ rl, a ≠ p := fun a m z => by
      obtain ⟨j, hj, e⟩ := List.mem_iff_getElem.mp m
      have q := (hat2 j a (by rw [← e]; simp [hj])).2
      rw [z, e1] at q
      cases q
    have H2n : ∀ a, H2 a = none → H1 a = none := fun a e => s2.free e
    refine h _ acc el rl ⟨⟨dx, upd_same⟩, ?_, ?_, ⟨?_, fun i a e => ?_⟩, ?_, wf_fresh (by omega) (by omega) (by omega) (by omega)⟩ ⟨fun a o e na => ?_, fun a m => ?_⟩
    · rw [upd_ne (Ne.symm pacc)]
      exact tr2 _ _ hacc2 (Ne.symm pacc)
    · rw [upd_ne (Ne.symm npe), upd_same]
      show _ = some (HO.lst ((List.replicate bn 0).map V.int))
      rw [List.map_replicate]
      rfl
    · show rl.length = (List.replicate bn _).length
      rw [List.length_replicate]
      exact Int.ofNat.inj hl2
    · have hi : i < bn := by rw [← Int.ofNat.inj hl2]; exact (List.getElem?_eq_some_iff.mp e).1
      refine ⟨_, rep_get hi, ?_⟩
      rw [upd_ne (nprl a (List.mem_of_getElem? e))]
      exact tr2 _ _ (hat2 i a e).1 (nprl a (List.mem_of_getElem? e))
    · refine List.nodup_cons.mpr ⟨fun m => ?_, List.nodup_cons.mpr ⟨elrl, nd2⟩⟩
      rcases List.mem_cons.mp m with z | z
      · exact elacc z.symm
      · exact na2 z
    · have nap : a ≠ p := by simpa using na
      rw [upd_ne nap]
      exact tr2 _ _ (s2 _ _ (s1 a o e (by simpa using na))) nap
    · rcases List.mem_cons.mp m with z | m
      · exact .inl (by simp [z])
      rcases List.mem_cons.mp m with z | m
      · exact .inr (by rw [z]; exact f1 _ nacc)
      rcases List.mem_cons.mp m with z | m
      · refine .inr (by
          rw [z]
          refine f1 _ (H2n _ ?_)
          have nq : el ≠ p := Ne.symm npe
          by_cases ql : el = l
          · rw [ql, upd_ne (fun q => npl q.symm)] at *
            exact nl
          · rw [upd_ne ql, upd_ne nq] at nel
            exact nel)
      · obtain ⟨j, hj, e⟩ := List.mem_iff_getElem.mp m
        exact .inr (f1 _ (hat2 j a (by rw [← e]; simp [hj])).2)
end
end Ev

set_option Elab.async false
set_option linter.all false
set_option maxRecDepth 100000
namespace Ev
open PySem L2
def clsOf (cBS cNP cNE cCu : Addr) : Ref → Addr
  | .bs => cBS
  | .np => cNP
  | .ne => cNE
  | .cut => cCu
theorem draw_eq {S S1 : CS} {l : Bool} (h : S.draw = some (l, S1)) : S1.nb = S.nb ∧ S1.np = S.np ∧ S1.rows = S.rows ∧ S1.worn = S.worn ∧ S1.many = S.many := by
  unfold CS.draw at h
  split at h
  · cases h
  · split at h
    · cases h; exact ⟨rfl, rfl, rfl, rfl, rfl⟩
    · split at h
      · cases h; exact ⟨rfl, rfl, rfl, rfl, rfl⟩
      · cases h; exact ⟨rfl, rfl, rfl, rfl, rfl⟩
theorem Wf.setRow {S : CS} (W : Wf S) {i : Nat} {r : List V} (h1 : r.length = S.np) (h2 : r.all plainV = true) : Wf { S with rows := S.rows.set i r } :=
  ⟨W.b1, W.b2, W.p1, W.p2, by rw [List.length_set]; exact W.rl, fun q m => by
    rcases List.mem_or_eq_of_mem_set m with z | z
    · exact W.rp q z
    · rw [z]; exact ⟨h1, h2⟩, W.wl, W.lf⟩
theorem ChipAt.putRow {C : Addr} {H : Hp} {p : Addr} {S : CS} {hl el : Addr} {rl : List Addr} (A : ChipAt C H p S hl el rl) {i : Nat} {a : Addr} (e : rl[i]? = some a) {r : List V} (h1 : r.length = S.np) (h2 : r.all plainV = true) :
    ChipAt C (upd H a (.lst r)) p { S with rows := S.rows.set i r } hl el rl := by
  obtain ⟨dx, h⟩ := A.ob
  have nd := A.nd
  obtain ⟨n1, n2⟩ := List.nodup_cons.mp nd
  obtain ⟨n3, n4⟩ := List.nodup_cons.mp n2
  have m := List.mem_of_getElem? e
  have pa : p ≠ a := (A.np_ (by simp [m])).symm
  have ha : hl ≠ a := fun z => n1 (by rw [z]; simp [m])
  have ea : el ≠ a := fun z => n3 (by rw [z]; exact m)
  exact ⟨⟨dx, by rw [upd_ne pa]; exact h⟩, by rw [upd_ne ha]; exact A.hd, by rw [upd_ne ea]; exact A.er, A.rw.put n4 e r, nd, A.wf.setRow h1 h2⟩
theorem all_set {l : List V} {i : Nat} {v : V} (h : l.all plainV = true) (hv : plainV v = true) : (l.set i v).all plainV = true :=
  List.all_eq_true.mpr fun x m => by
    rcases List.mem_or_eq_of_mem_set m with z | z
    · exact List.all_eq_true.mp h x z
    · rw [z]; exact hv
section
variable {P : Program} {w : World} {K : PySem.W.Frag} {mg : Str → Option Value} {base : Heap} {C cBS cNP cNE cNS cBC cCu cWE : Addr}
/-- how an operation on a chip ends -/
def EndsAs (cl : Ref → Addr) (Q : VK) (E : XK) (H' : Hp) : Option Ref → Prop
  | none => Q .non H'
  | some k => ∀ x, E (.ref (cl k)) (some x) H'
def spWrite (C : Addr) (cl : Ref → Addr) : Sp := fun vs H Q E => ∃ (p : Addr) (b g : Int) (t : V) (S : CS) (hl el : Addr) (rl : List Addr), vs = [.ref p, .int b, .int g, t] ∧ plainV t = true ∧ ChipAt C H p S hl el rl ∧
  ∀ H', ChipAt C H' p (S.write b g t).2 hl el rl → SameBut (fpC p hl el rl) H H' → EndsAs cl Q E H' (S.write b g t).1
theorem scWr : FnScope ["self", "block", "page", "thing", "lasts"] ["self", "block", "page", "thing"] (defScope sWrite) := ⟨rfl, rfl, rfl, by decide +kernel, rfl, by decide +kernel, by decide +kernel⟩
theorem ok_write {f : Addr} {fd : FuncData} (F : Fun K "write" "Chip.write" sWrite f fd) (T : Txt K mg C cBS cNP cNE cNS cBC cCu cWE)
    (M_check_page : MtB P w K mg base C 52 "check_page" ["self", "block", "page"] (spCP C cNP)) (M_check_erased_from : MtB P w K mg base C 51 "check_erased_from" ["self", "block", "page"] (spCE C cNE)) (M_draw_power : MtB P w K mg base C 51 "draw_power" ["self"] (spDraw C cCu)) :
    FnOk P w K mg base (CXw P w) 53 f fd ["self", "block", "page", "thing"] (spWrite C (clsOf cBS cNP cNE cCu)) := by
  refine F.okX (by decide) scWr (fun vs H Q E h => ?_) (fun cdv A outer s H vs Q E hr h => ?_)
  · obtain ⟨p, b, g, t, S, hl, el, rl, rfl, _⟩ := h
    rfl
  · obtain ⟨p, b, g, t, S, hl, el, rl, rfl, ht, A1, h⟩ := h
    obtain ⟨dx, h1⟩ := A1.ob
    refine ⟨_, (@pss_cons _ _ _ _ _ (@ps_expr _ _ _ _ (@pe_methF _ _ _ _ _ _ _ _ _ _ _ _ _ _ _ T.cl M_check_page (hr.mono (by decide)) passes_w (@pv _ 0 _ _ (by rfl) (by first | exact Or.inl rfl | exact Or.inr (Or.inl rfl) | exact Or.inr (Or.inr rfl)) (by decide) (by decide)) (@pa_cons _ _ _ _ _ (@pv _ 1 _ _ (by rfl) (by first | exact Or.inl rfl | exact Or.inr (Or.inl rfl) | exact Or.inr (Or.inr rfl)) (by decide) (by decide)) (@pa_cons _ _ _ _ _ (@pv _ 2 _ _ (by rfl) (by first | exact Or.inl rfl | exact Or.inr (Or.inl rfl) | exact Or.inr (Or.inr rfl)) (by decide) (by decide)) (@pa_nil _) (by exact star_plain rfl)) (by exact star_plain rfl)) (by exact star_plain rfl) (by exact any_plain rfl) (by rfl)) (by rfl)) (@pss_cons _ _ _ _ _ (@ps_expr _ _ _ _ (@pe_methF _ _ _ _ _ _ _ _ _ _ _ _ _ _ _ T.cl M_check_erased_from (hr.mono (by decide)) passes_w (@pv _ 0 _ _ (by rfl) (by first | exact Or.inl rfl | exact Or.inr (Or.inl rfl) | exact Or.inr (Or.inr rfl)) (by decide) (by decide)) (@pa_cons _ _ _ _ _ (@pv _ 1 _ _ (by rfl) (by first | exact Or.inl rfl | exact Or.inr (Or.inl rfl) | exact Or.inr (Or.inr rfl)) (by decide) (by decide)) (@pa_cons _ _ _ _ _ (@pv _ 2 _ _ (by rfl) (by first | exact Or.inl rfl | exact Or.inr (Or.inl rfl) | exact Or.inr (Or.inr rfl)) (by decide) (by decide)) (@pa_nil _) (by exact star_plain rfl)) (by exact star_plain rfl)) (by exact star_plain rfl) (by exact any_plain rfl) (by rfl)) (by rfl)) (@pss_cons _ _ _ _ _ (@ps_set _ _ (4) _ _ _ _ scWr.nd rfl (Or.inl rfl) (@pe_methF0 _ _ _ _ _ _ _ _ _ _ _ _ T.cl M_draw_power (hr.mono (by decide)) passes_w (@pv _ 0 _ _ (by rfl) (by first | exact Or.inl rfl | exact Or.inr (Or.inl rfl) | exact Or.inr (Or.inr rfl)) (by decide) (by decide)) (by rfl)) (by rfl) (by first | exact .inl rfl | exact .inr rfl | assumption)) (@pss_cons _ _ _ _ _ (@ps_fld _ _ _ _ _ _ _ _ (@pv _ 0 _ _ (by rfl) (by first | exact Or.inl rfl | exact Or.inr (Or.inl rfl) | exact Or.inr (Or.inr rfl)) (by decide) (by decide)) (@pe_op _ _ _ _ _ _ _ _ (@op_add _) (@pe_fld _ _ _ _ _ (@pv _ 0 _ _ (by rfl) (by first | exact Or.inl rfl | exact Or.inr (Or.inl rfl) | exact Or.inr (Or.inr rfl)) (by decide) (by decide)) rfl) (@pe_int _ _ _ _)) rfl) (@pss_cons _ _ _ _ _ (@ps_asg _ _ _ _ _ _ (@pe_ifExp _ _ _ _ _ _ _ _ (@pt_val _ _ _ (@pv _ 4 _ _ (by rfl) (by first | exact Or.inl rfl | exact Or.inr (Or.inl rfl) | exact Or.inr (Or.inr rfl)) (by decide) (by decide)) (by intro _; rfl)) (@pv _ 3 _ _ (by rfl) (by first | exact Or.inl rfl | exact Or.inr (Or.inl rfl) | exact Or.inr (Or.inr rfl)) (by decide) (by decide)) (@pe_gl _ _ _ _ rfl T.g_TO (by decide))) (@pg_sub _ _ _ _ _ _ _ (@pe_ix _ _ _ _ _ _ _ (@ix_list _) (@pe_fld _ _ _ _ _ (@pv _ 0 _ _ (by rfl) (by first | exact Or.inl rfl | exact Or.inr (Or.inl rfl) | exact Or.inr (Or.inr rfl)) (by decide) (by decide)) rfl) (@pv _ 1 _ _ (by rfl) (by first | exact Or.inl rfl | exact Or.inr (Or.inl rfl) | exact Or.inr (Or.inr rfl)) (by decide) (by decide)) (fun _ _ => rfl)) (@pv _ 2 _ _ (by rfl) (by first | exact Or.inl rfl | exact Or.inr (Or.inl rfl) | exact Or.inr (Or.inr rfl)) (by decide) (by decide)) (@set_list _) (by intro _; rfl)) (by rfl) (by rfl) (by rfl)) (@pss_one _ _ _ (@ps_if _ _ _ _ _ _ _ _ (@pt_not _ _ _ _ (@pt_val _ _ _ (@pv _ 4 _ _ (by rfl) (by first | exact Or.inl rfl | exact Or.inr (Or.inl rfl) | exact Or.inr (Or.inr rfl)) (by decide) (by decide)) (by intro _; rfl))) (@pss_one _ _ _ (@ps_raise _ _ _ _ _ _ _ _ _ _ raises_w T.x_Cut rfl rfl T.g_Cut (@pa_cons _ _ _ _ _ (@pe_str _ _ _ _) (@pa_nil _) (by exact star_plain rfl)) (by decide) (by exact star_plain rfl) (by exact any_plain rfl))) (@pss_nil _)))))))), ?_⟩
    refine ⟨_, rfl, p, dx, _, rfl, h1, rfl, _, rfl, _, rfl, p, b, g, S, hl, el, rl, rfl, A1, ?_⟩
    by_cases hb : S.okP b g
    rotate_left
    · rw [if_neg hb]
      have e : S.write b g t = (some .np, S) := by unfold CS.write; rw [if_pos hb]
      rw [e] at h
      exact h H A1 (SameBut.refl _ _)
    rw [if_pos hb]
    refine ⟨_, rfl, p, dx, _, rfl, h1, rfl, _, rfl, _, rfl, p, b, g, S, hl, el, rl, rfl, A1, hb, fun H1 s1 => ?_⟩
    have A2 := A1.same s1
    obtain ⟨dx2, h2⟩ := A2.ob
    by_cases hc : S.clear b g = true
    rotate_left
    · rw [if_neg hc]
      have e : S.write b g t = (some .ne, S) := by unfold CS.write; rw [if_neg (fun z => z hb), if_pos (by simpa using hc)]
      rw [e] at h
      exact h H1 A2 (SameBut.of s1)
    rw [if_pos hc]
    refine ⟨_, rfl, p, dx2, _, rfl, h2, rfl, p, S, hl, el, rl, rfl, A2, ?_⟩
    cases hd : S.draw with
    | none =>
      have e : S.write b g t = (some .cut, S) := by unfold CS.write; rw [if_neg (fun z => z hb), if_neg (by rw [hc]; decide), hd]
      rw [e] at h
      exact h H1 A2 (SameBut.of s1)
    | some q =>
      obtain ⟨l, S1⟩ := q
      obtain ⟨d1, d2, d3, d4, d5⟩ := draw_eq hd
      intro H2 A3 s2
      have e : S.write b g t = (if l then none else some .cut, { S1 with many := S1.many + 1, rows := S1.rows.set b.toNat ((S1.row b).set g.toNat (if l then t else torn)) }) := by
        unfold CS.write; rw [if_neg (fun z => z hb), if_neg (by rw [hc]; decide), hd]
      rw [e] at h
      obtain ⟨dx3, h3⟩ := A3.ob
      have W := A3.wf
      -- self.writes = self.writes + 1
      refine ⟨_, rfl, p, C, dx3, _, _, rfl, h3, T.cl, T.aW, rfl, _, _, rfl, rfl, _, rfl, p, C, dx3, _, rfl, h3, T.cl, T.aW, by show 7 < 1000; decide, ?_⟩
      have A4 : ChipAt C (upd H2 p (.ins C dx3 (chipF { S1 with many := S1.many + 1 } hl el))) p { S1 with many := S1.many + 1 } hl el rl := A3.put rfl rfl ⟨W.b1, W.b2, W.p1, W.p2, W.rl, W.rp, W.wl, W.lf⟩
      have hb1 : S1.okB b := ⟨hb.1.1, by rw [d1]; exact hb.1.2⟩
      obtain ⟨r1, r2, r3⟩ := W.row hb1
      obtain ⟨a, ea, ha⟩ := A4.rw.row (i := b.toNat) (r := S1.row b) r1
      have hg : g < (S1.row b).length := by rw [r2, d2]; exact hb.2.2
      -- self.held[block][page] = thing if lasts else TORN
      refine ⟨_, rfl, _, rfl, ?_⟩
      have store : ∀ v : V, plainV v = true → v = (if l then t else torn) → gSub (tOp (rIxL K) (tFld K (tVar 0) "held") (tVar 1)) (tVar 2) rSetL v [some (.ref p), some (.int b), some (.int g), some t, some (.bl l)] (upd H2 p (.ins C dx3 (chipF { S1 with many := S1.many + 1 } hl el)))
          (fun σ H3 => ∃ y, σ[4]? = some (some y) ∧ ∃ c, y = .bl c ∧ if (!c) = true then (1 : Nat) ≤ sizeLine ∧ (∀ x, E (.ref cCu) (some x) H3) else Q .non H3) := by
        intro v hv ev
        refine ⟨_, rfl, p, C, dx3, _, _, rfl, upd_same, T.cl, T.aH, rfl, _, rfl, hl, _, b, _, rfl, rfl, SqL.of A4.hd, atI_of hb.1.1 (by rw [List.getElem?_map, ea]; rfl), _, rfl, a, _, g, _, rfl, rfl, ha, ixN_of hb.2.1 hg, _, rfl, _, rfl, ?_⟩
        have A5 := A4.putRow ea (r := (S1.row b).set g.toNat v) (by rw [List.length_set]; exact r2) (all_set r3 hv)
        rw [← ev] at h
        have q := h _ A5 (fun c o z n => by
          have nc : c ≠ a := fun y => n (by rw [y]; simp [List.mem_of_getElem? ea])
          have np : c ≠ p := fun y => n (by rw [y]; simp)
          rw [upd_ne nc, upd_ne np]
          exact s2 c o (s1 c o z) (by simpa using np))
        cases l with
        | true => exact iteF q
        | false => exact iteT ⟨by decide, q⟩
      cases l with
      | true => exact iteT ⟨_, rfl, store t ht rfl⟩
      | false => exact iteF (store torn rfl rfl)
end
end Ev

set_option Elab.async false
set_option linter.all false
set_option maxRecDepth 100000
namespace Ev
open PySem L2
theorem nodup_set {l : List Addr} (nd : l.Nodup) {q : Addr} (nq : q ∉ l) (i : Nat) : (l.set i q).Nodup := by
  induction l generalizing i with
  | nil => exact List.nodup_nil
  | cons a r ih =>
    obtain ⟨n1, n2⟩ := List.nodup_cons.mp nd
    cases i with
    | zero => exact List.nodup_cons.mpr ⟨fun m => nq (List.mem_cons_of_mem _ m), n2⟩
    | succ i =>
      refine List.nodup_cons.mpr ⟨fun m => ?_, ih n2 (fun m => nq (List.mem_cons_of_mem _ m)) i⟩
      rcases List.mem_or_eq_of_mem_set m with z | z
      · exact n1 z
      · exact nq (by rw [← z]; exact List.mem_cons_self)
section
variable {P : Program} {w : World} {K : PySem.W.Frag} {mg : Str → Option Value} {base : Heap} {C cBS cNP cNE cNS cBC cCu cWE : Addr}
def spErase (C : Addr) (cl : Ref → Addr) : Sp := fun vs H Q E => ∃ (p : Addr) (b : Int) (S : CS) (hl el : Addr) (rl : List Addr), vs = [.ref p, .int b] ∧ ChipAt C H p S hl el rl ∧
  ∀ H' rl', ChipAt C H' p (S.erase b).2 hl el rl' → Did H H' (fpC p hl el rl) (fpC p hl el rl') → EndsAs cl Q E H' (S.erase b).1
theorem scEr : FnScope ["self", "block", "lasts"] ["self", "block"] (defScope sErase) := ⟨rfl, rfl, rfl, by decide +kernel, rfl, by decide +kernel, by decide +kernel⟩
/-- what erase leaves -/
theorem erased_at {H H1 H2 : Hp} {p dx hl el l1 q : Addr} {rl : List Addr} {S S1 : CS} {b : Int} {v : V} (A3 : ChipAt C H2 p S1 hl el rl) (hv : plainV v = true) (hb : S1.okB b) (s1 : SameBut (fpC p hl el rl) H H2)
    (nl : upd H2 el (.lst ((S1.worn.map V.int).set b.toNat (.int (S1.worn.getD b.toNat 0 + 1)))) l1 = none)
    (nq : upd (upd H2 el (.lst ((S1.worn.map V.int).set b.toNat (.int (S1.worn.getD b.toNat 0 + 1))))) l1 (.lst [v]) q = none) (H5 : Hp)
    (e5 : H5 = upd (upd (upd (upd H2 el (.lst ((S1.worn.map V.int).set b.toNat (.int (S1.worn.getD b.toNat 0 + 1))))) l1 (.lst [v])) q (.lst (List.replicate S1.np v))) hl (.lst ((rl.map V.ref).set b.toNat (.ref q)))) :
    ChipAt C H5 p { S1 with worn := S1.worn.set b.toNat (S1.worn.getD b.toNat 0 + 1), rows := S1.rows.set b.toNat (List.replicate S1.np v) } hl el (rl.set b.toNat q) ∧ Did H H5 (fpC p hl el rl) (fpC p hl el (rl.set b.toNat q)) := by
  have W := A3.wf
  have tr : ∀ a o, H2 a = some o → a ≠ l1 ∧ a ≠ q := fun a o e => by
    have h1 : a ≠ l1 := fun z => by
      rw [← z] at nl
      by_cases y : a = el
      · rw [y, upd_same] at nl; cases nl
      · rw [upd_ne y, e] at nl; cases nl
    refine ⟨h1, fun z => ?_⟩
    rw [← z, upd_ne h1] at nq
    by_cases y : a = el
    · rw [y, upd_same] at nq; cases nq
    · rw [upd_ne y, e] at nq; cases nq
  obtain ⟨dx, h3⟩ := A3.ob
  obtain ⟨n1, n2⟩ := List.nodup_cons.mp A3.nd
  obtain ⟨n3, n4⟩ := List.nodup_cons.mp n2
  have hle : hl ≠ el := fun z => n1 (by rw [z]; simp)
  have keep : ∀ a o, H2 a = some o → a ≠ el → a ≠ hl → H5 a = some o := fun a o e y1 y2 => by
    obtain ⟨z1, z2⟩ := tr a o e
    rw [e5, upd_ne y2, upd_ne z2, upd_ne z1, upd_ne y1]
    exact e
  have nh : p ≠ hl := (A3.np_ (by simp)).symm
  have ne : p ≠ el := (A3.np_ (by simp)).symm
  have qhl : q ≠ hl := fun z => (tr _ _ A3.hd).2 z.symm
  have qel : q ≠ el := fun z => (tr _ _ A3.er).2 z.symm
  have qrl : q ∉ rl := fun m => by
    obtain ⟨o, e⟩ := A3.tr (b := q) (by simp [m])
    exact (tr _ _ e).2 rfl
  have bl : b.toNat < rl.length := by
    rw [A3.rw.ln, W.rl]
    have := hb.1
    have := hb.2
    omega
  have q5 : H5 q = some (.lst (List.replicate S1.np v)) := by rw [e5, upd_ne qhl, upd_same]
  have rk : RowsAt H5 rl S1.rows := A3.rw.keep fun a m o e => keep a o e (fun z => n3 (by rw [← z]; exact m)) (fun z => n1 (by rw [← z]; simp [m]))
  refine ⟨⟨⟨dx, keep _ _ h3 ne nh⟩, ?_, ?_, rk.swap bl q5, ?_, ?_⟩, fun a o e n => ?_, fun a m => ?_⟩
  · rw [e5, upd_same, List.map_set]
  · have z := tr _ _ A3.er
    rw [e5, upd_ne (Ne.symm hle), upd_ne z.2, upd_ne z.1, upd_same, List.map_set]
  · refine List.nodup_cons.mpr ⟨fun m => ?_, List.nodup_cons.mpr ⟨fun m => ?_, nodup_set n4 qrl _⟩⟩
    · rcases List.mem_cons.mp m with z | m
      · exact hle z
      · rcases List.mem_or_eq_of_mem_set m with z | z
        · exact n1 (by simp [z])
        · exact qhl z.symm
    · rcases List.mem_or_eq_of_mem_set m with z | z
      · exact n3 z
      · exact qel z.symm
  · have w1 := W.setRow (i := b.toNat) (r := List.replicate S1.np v) List.length_replicate (List.all_eq_true.mpr fun x m => by rw [(List.mem_replicate.mp m).2]; exact hv)
    exact ⟨w1.b1, w1.b2, w1.p1, w1.p2, w1.rl, w1.rp, by rw [List.length_set]; exact w1.wl, w1.lf⟩
  · have n' : ∀ c, a = c → c ∈ fpC p hl el rl → False := fun c z m => n (by rw [z]; exact m)
    exact keep a o (s1 a o e n) (fun z => n' el z (by simp)) (fun z => n' hl z (by simp))
  · rcases List.mem_cons.mp m with z | m
    · exact .inl (by simp [z])
    rcases List.mem_cons.mp m with z | m
    · exact .inl (by simp [z])
    rcases List.mem_cons.mp m with z | m
    · exact .inl (by simp [z])
    rcases List.mem_or_eq_of_mem_set m with z | z
    · exact .inl (by simp [z])
    · by_cases y : a ∈ fpC p hl el rl
      · exact .inl y
      · refine .inr ?_
        cases e : H a with
        | none => rfl
        | some o =>
          have := (tr a o (s1 a o e y)).2
          exact absurd z this
theorem ok_erase {f : Addr} {fd : FuncData} (F : Fun K "erase" "Chip.erase" sErase f fd) (T : Txt K mg C cBS cNP cNE cNS cBC cCu cWE)
    (M_check_block : MtB P w K mg base C 51 "check_block" ["self", "block"] (spCB C cNP)) (M_draw_power : MtB P w K mg base C 51 "draw_power" ["self"] (spDraw C cCu)) :
    FnOk P w K mg base (CXw P w) 52 f fd ["self", "block"] (spErase C (clsOf cBS cNP cNE cCu)) := by
  refine F.okX (by decide) scEr (fun vs H Q E h => ?_) (fun cdv A outer s H vs Q E hr h => ?_)
  · obtain ⟨p, b, S, hl, el, rl, rfl, _⟩ := h
    rfl
  · obtain ⟨p, b, S, hl, el, rl, rfl, A1, h⟩ := h
    obtain ⟨dx, h1⟩ := A1.ob
    refine ⟨_, (@pss_cons _ _ _ _ _ (@ps_expr _ _ _ _ (@pe_methF _ _ _ _ _ _ _ _ _ _ _ _ _ _ _ T.cl M_check_block (hr.mono (by decide)) passes_w (@pv _ 0 _ _ (by rfl) (by first | exact Or.inl rfl | exact Or.inr (Or.inl rfl) | exact Or.inr (Or.inr rfl)) (by decide) (by decide)) (@pa_cons _ _ _ _ _ (@pv _ 1 _ _ (by rfl) (by first | exact Or.inl rfl | exact Or.inr (Or.inl rfl) | exact Or.inr (Or.inr rfl)) (by decide) (by decide)) (@pa_nil _) (by exact star_plain rfl)) (by exact star_plain rfl) (by exact any_plain rfl) (by rfl)) (by rfl)) (@pss_cons _ _ _ _ _ (@ps_set _ _ (2) _ _ _ _ scEr.nd rfl (Or.inl rfl) (@pe_methF0 _ _ _ _ _ _ _ _ _ _ _ _ T.cl M_draw_power (hr.mono (by decide)) passes_w (@pv _ 0 _ _ (by rfl) (by first | exact Or.inl rfl | exact Or.inr (Or.inl rfl) | exact Or.inr (Or.inr rfl)) (by decide) (by decide)) (by rfl)) (by rfl) (by first | exact .inl rfl | exact .inr rfl | assumption)) (@pss_cons _ _ _ _ _ (@ps_asg _ _ _ _ _ _ (@pe_op _ _ _ _ _ _ _ _ (@op_add _) (@pe_ix _ _ _ _ _ _ _ (@ix_list _) (@pe_fld _ _ _ _ _ (@pv _ 0 _ _ (by rfl) (by first | exact Or.inl rfl | exact Or.inr (Or.inl rfl) | exact Or.inr (Or.inr rfl)) (by decide) (by decide)) rfl) (@pv _ 1 _ _ (by rfl) (by first | exact Or.inl rfl | exact Or.inr (Or.inl rfl) | exact Or.inr (Or.inr rfl)) (by decide) (by decide)) (fun _ _ => rfl)) (@pe_int _ _ _ _)) (@pg_sub _ _ _ _ _ _ _ (@pe_fld _ _ _ _ _ (@pv _ 0 _ _ (by rfl) (by first | exact Or.inl rfl | exact Or.inr (Or.inl rfl) | exact Or.inr (Or.inr rfl)) (by decide) (by decide)) rfl) (@pv _ 1 _ _ (by rfl) (by first | exact Or.inl rfl | exact Or.inr (Or.inl rfl) | exact Or.inr (Or.inr rfl)) (by decide) (by decide)) (@set_list _) (by intro _; rfl)) (by rfl) (by rfl) (by rfl)) (@pss_cons _ _ _ _ _ (@ps_asg _ _ _ _ _ _ (@pe_op _ _ _ _ _ _ _ _ (@op_rep _) (@pe_lst _ _ _ _ (@pa_cons _ _ _ _ _ (@pe_ifExp _ _ _ _ _ _ _ _ (@pt_val _ _ _ (@pv _ 2 _ _ (by rfl) (by first | exact Or.inl rfl | exact Or.inr (Or.inl rfl) | exact Or.inr (Or.inr rfl)) (by decide) (by decide)) (by intro _; rfl)) (@pe_non _ _ _) (@pe_gl _ _ _ _ rfl T.g_TO (by decide))) (@pa_nil _) (by exact star_plain rfl))) (@pe_fld _ _ _ _ _ (@pv _ 0 _ _ (by rfl) (by first | exact Or.inl rfl | exact Or.inr (Or.inl rfl) | exact Or.inr (Or.inr rfl)) (by decide) (by decide)) rfl)) (@pg_sub _ _ _ _ _ _ _ (@pe_fld _ _ _ _ _ (@pv _ 0 _ _ (by rfl) (by first | exact Or.inl rfl | exact Or.inr (Or.inl rfl) | exact Or.inr (Or.inr rfl)) (by decide) (by decide)) rfl) (@pv _ 1 _ _ (by rfl) (by first | exact Or.inl rfl | exact Or.inr (Or.inl rfl) | exact Or.inr (Or.inr rfl)) (by decide) (by decide)) (@set_list _) (by intro _; rfl)) (by rfl) (by rfl) (by rfl)) (@pss_one _ _ _ (@ps_if _ _ _ _ _ _ _ _ (@pt_not _ _ _ _ (@pt_val _ _ _ (@pv _ 2 _ _ (by rfl) (by first | exact Or.inl rfl | exact Or.inr (Or.inl rfl) | exact Or.inr (Or.inr rfl)) (by decide) (by decide)) (by intro _; rfl))) (@pss_one _ _ _ (@ps_raise _ _ _ _ _ _ _ _ _ _ raises_w T.x_Cut rfl rfl T.g_Cut (@pa_cons _ _ _ _ _ (@pe_str _ _ _ _) (@pa_nil _) (by exact star_plain rfl)) (by decide) (by exact star_plain rfl) (by exact any_plain rfl))) (@pss_nil _))))))), ?_⟩
    refine ⟨_, rfl, p, dx, _, rfl, h1, rfl, _, rfl, p, b, S, hl, el, rl, rfl, A1, ?_⟩
    by_cases hb : S.okB b
    rotate_left
    · rw [if_neg hb]
      have e : S.erase b = (some .np, S) := by unfold CS.erase; rw [if_pos hb]
      rw [e] at h
      exact h H rl A1 Did.refl
    rw [if_pos hb]
    refine ⟨_, rfl, p, dx, _, rfl, h1, rfl, p, S, hl, el, rl, rfl, A1, ?_⟩
    cases hd : S.draw with
    | none =>
      have e : S.erase b = (some .cut, S) := by unfold CS.erase; rw [if_neg (fun z => z hb), hd]
      rw [e] at h
      exact h H rl A1 Did.refl
    | some q =>
      obtain ⟨l, S1⟩ := q
      obtain ⟨d1, d2, d3, d4, d5⟩ := draw_eq hd
      intro H2 A3 s2
      have e : S.erase b = (if l then none else some .cut, { S1 with worn := S1.worn.set b.toNat (S1.worn.getD b.toNat 0 + 1), rows := S1.rows.set b.toNat (List.replicate S1.np (if l then V.non else torn)) }) := by
        unfold CS.erase; rw [if_neg (fun z => z hb), hd]
      rw [e] at h
      obtain ⟨dx3, h3⟩ := A3.ob
      have W := A3.wf
      have hb1 : S1.okB b := ⟨hb.1, by rw [d1]; exact hb.2⟩
      have wl : b < (S1.worn.map V.int).length := by rw [List.length_map, W.wl]; exact hb1.2
      have rll : b < (rl.map V.ref).length := by rw [List.length_map, A3.rw.ln, W.rl]; exact hb1.2
      -- self.erasures[block] = self.erasures[block] + 1
      refine ⟨_, rfl, p, C, dx3, _, _, rfl, h3, T.cl, T.aE, rfl, _, rfl, el, _, b, _, rfl, rfl, SqL.of A3.er, atI_of hb.1 (by rw [List.getElem?_map, W.worn_at hb1]; rfl), _, _, rfl, rfl, _, rfl, p, C, dx3, _, _, rfl, h3, T.cl, T.aE, rfl, _, rfl, el, _, b, _, rfl, rfl, A3.er, ixN_of hb.1 wl, ?_⟩
      have pel : p ≠ el := (A3.np_ (by simp)).symm
      have phl : p ≠ hl := (A3.np_ (by simp)).symm
      have hle : hl ≠ el := fun z => (List.nodup_cons.mp A3.nd).1 (by rw [z]; simp)
      refine ⟨_, rfl, _, rfl, ?_⟩
      have two : ∀ v : V, v = (if l then V.non else torn) → (1 : Nat) ≤ sizeLine ∧ ∀ l1, upd H2 el (.lst ((S1.worn.map V.int).set b.toNat (.int (S1.worn.getD b.toNat 0 + 1)))) l1 = none →
          tFld K (tVar 0) "pages" [some (.ref p), some (.int b), some (.bl l)] (upd (upd H2 el (.lst ((S1.worn.map V.int).set b.toNat (.int (S1.worn.getD b.toNat 0 + 1))))) l1 (.lst [v])) fun y H4 => rRep (.ref l1) y H4 fun z H6 =>
            gSub (tFld K (tVar 0) "held") (tVar 1) rSetL z [some (.ref p), some (.int b), some (.bl l)] H6 (fun σ H3 => ∃ y, σ[2]? = some (some y) ∧ ∃ c, y = .bl c ∧ if (!c) = true then (1 : Nat) ≤ sizeLine ∧ (∀ x, E (.ref cCu) (some x) H3) else Q .non H3) := by
        intro v ev
        refine ⟨by decide, fun l1 nl => ?_⟩
        have pl : p ≠ l1 := fun z => by
          rw [← z, upd_ne pel, h3] at nl
          cases nl
        refine ⟨_, rfl, p, C, dx3, _, _, rfl, by rw [upd_ne pl, upd_ne pel]; exact h3, T.cl, T.aP, rfl, l1, (S1.np : Int), [v], rfl, rfl, upd_same, by omega, by have := W.p2; omega, ?_, fun q nq => ?_⟩
        · show 1 * (S1.np : Int).toNat ≤ sizeLine
          have := W.p2
          exact Nat.le_of_lt (small1000 (by omega))
        rw [rep_one, Int.toNat_natCast]
        have pq : p ≠ q := fun z => by
          rw [← z, upd_ne pl, upd_ne pel, h3] at nq
          cases nq
        have hll : hl ≠ l1 := fun z => by
          rw [← z, upd_ne hle, A3.hd] at nl
          cases nl
        have hlq : hl ≠ q := fun z => by
          rw [← z, upd_ne hll, upd_ne hle, A3.hd] at nq
          cases nq
        refine ⟨_, rfl, p, C, dx3, _, _, rfl, by rw [upd_ne pq, upd_ne pl, upd_ne pel]; exact h3, T.cl, T.aH, rfl, _, rfl, hl, _, b, _, rfl, rfl, by rw [upd_ne hlq, upd_ne hll, upd_ne hle]; exact A3.hd, ixN_of hb.1 rll, _, rfl, _, rfl, ?_⟩
        have pv : plainV v = true := by rw [ev]; cases l <;> rfl
        obtain ⟨A5, D5⟩ := erased_at (S := S) (H1 := H) (dx := dx3) A3 pv hb1 (fun c o z n => s2 c o z (by intro m; exact n (by simp at m; simp [m]))) nl nq _ rfl
        rw [← ev] at h
        have q := h _ _ A5 D5
        cases l with
        | true => exact iteF q
        | false => exact iteT ⟨by decide, q⟩
      cases l with
      | true => exact iteT (two _ rfl)
      | false => exact iteF (two _ rfl)
end
end Ev

set_option Elab.async false
set_option linter.all false
set_option maxRecDepth 100000
namespace Ev
open PySem L2
section
variable {P : Program} {w : World} {K : PySem.W.Frag} {mg : Str → Option Value} {base : Heap} {C cBS cNP cNE cNS cBC cCu cWE : Addr}
def spCopied (C : Addr) : Sp := fun vs H Q _ => ∃ (p : Addr) (S : CS) (hl el : Addr) (rl : List Addr), vs = [.ref p] ∧ ChipAt C H p S hl el rl ∧
  ∀ H' q hl' el' rl', ChipAt C H' q (S.powered none) hl' el' rl' → Same H H' → (∀ b ∈ fpC q hl' el' rl', H b = none) → Q (.ref q) H'
theorem scCo : FnScope ["chip", "twin"] ["chip"] (defScope sCopied) := ⟨rfl, rfl, rfl, by decide +kernel, rfl, by decide +kernel, by decide +kernel⟩
theorem ok_copied {f : Addr} {fd : FuncData} (F : Fun K "copied" "copied" sCopied f fd) (T : Txt K mg C cBS cNP cNE cNS cBC cCu cWE)
    (B_Chip : MkB P w K mg base C 51 "Chip" ["self", "blocks", "pages"] (spInit C cBS)) : FnOk P w K mg base (CXw P w) 53 f fd ["chip"] (spCopied C) := by
  refine F.okX (by decide) scCo (fun vs H Q E h => ?_) (fun cdv A outer s H vs Q E hr h => ?_)
  · obtain ⟨p, S, hl, el, rl, rfl, _⟩ := h
    rfl
  · obtain ⟨p, S, hl, el, rl, rfl, A1, h⟩ := h
    obtain ⟨dx, h1⟩ := A1.ob
    have W := A1.wf
    refine ⟨_, (@pss_cons _ _ _ _ _ (@ps_set _ _ (1) _ _ _ _ scCo.nd rfl (Or.inl rfl) (@pe_makeF _ _ _ _ _ _ _ _ _ _ _ _ B_Chip (hr.mono (by decide)) rfl passes_w (@pa_cons _ _ _ _ _ (@pe_fld _ _ _ _ _ (@pv _ 0 _ _ (by rfl) (by first | exact Or.inl rfl | exact Or.inr (Or.inl rfl) | exact Or.inr (Or.inr rfl)) (by decide) (by decide)) rfl) (@pa_cons _ _ _ _ _ (@pe_fld _ _ _ _ _ (@pv _ 0 _ _ (by rfl) (by first | exact Or.inl rfl | exact Or.inr (Or.inl rfl) | exact Or.inr (Or.inr rfl)) (by decide) (by decide)) rfl) (@pa_nil _) (by exact star_plain rfl)) (by exact star_plain rfl)) (by decide) (by exact star_plain rfl) (by exact any_plain rfl)) (by rfl) (by first | exact .inl rfl | exact .inr rfl | assumption)) (@pss_cons _ _ _ _ _ (@ps_fld _ _ _ _ _ _ _ _ (@pv _ 1 _ _ (by rfl) (by first | exact Or.inl rfl | exact Or.inr (Or.inl rfl) | exact Or.inr (Or.inr rfl)) (by decide) (by decide)) (@pe_comp _ _ _ _ _ _ _ _ ([]) ([]) _ _ _ rfl (@pi_list _ _ _ _ (@pe_fld _ _ _ _ _ (@pv _ 0 _ _ (by rfl) (by first | exact Or.inl rfl | exact Or.inr (Or.inl rfl) | exact Or.inr (Or.inr rfl)) (by decide) (by decide)) rfl)) rfl (by decide +kernel) (by decide +kernel) (by decide +kernel) (by show ∀ y : Str × NameKind, y ∈ _ → y.2 = NameKind.free → List.lookup y.1 (defScope sCopied).names = some NameKind.cell; decide +kernel) (by show ∀ p : Str × Nat, p ∈ _ → List.lookup p.1 _ = some NameKind.free ∧ (["chip", "twin"] : List Str)[p.2]? = some p.1; decide +kernel) rfl (by decide +kernel) (fun _ _ _ _ _ => (@pts_nil _)) (fun _ _ _ _ _ => (@pe_callTy _ _ _ _ _ _ _ _ _ (@call_list_ofK _ (K) rfl) rfl T.n_list PyProof.Rows.Boot.«list» (@pa_cons _ _ _ _ _ (@pv _ 0 _ _ (by rfl) (by first | exact Or.inl rfl | exact Or.inr (Or.inl rfl) | exact Or.inr (Or.inr rfl)) (by decide) (by decide)) (@pa_nil _) (by exact star_plain rfl)) (by decide) (by decide) (by exact star_plain rfl) (by exact any_plain rfl))) (by intro _; rfl)) rfl) (@pss_cons _ _ _ _ _ (@ps_fld _ _ _ _ _ _ _ _ (@pv _ 1 _ _ (by rfl) (by first | exact Or.inl rfl | exact Or.inr (Or.inl rfl) | exact Or.inr (Or.inr rfl)) (by decide) (by decide)) (@pe_callTy _ _ _ _ _ _ _ _ _ (@call_list_ofK _ (K) rfl) rfl T.n_list PyProof.Rows.Boot.«list» (@pa_cons _ _ _ _ _ (@pe_fld _ _ _ _ _ (@pv _ 0 _ _ (by rfl) (by first | exact Or.inl rfl | exact Or.inr (Or.inl rfl) | exact Or.inr (Or.inr rfl)) (by decide) (by decide)) rfl) (@pa_nil _) (by exact star_plain rfl)) (by decide) (by decide) (by exact star_plain rfl) (by exact any_plain rfl)) rfl) (@pss_cons _ _ _ _ _ (@ps_fld _ _ _ _ _ _ _ _ (@pv _ 1 _ _ (by rfl) (by first | exact Or.inl rfl | exact Or.inr (Or.inl rfl) | exact Or.inr (Or.inr rfl)) (by decide) (by decide)) (@pe_fld _ _ _ _ _ (@pv _ 0 _ _ (by rfl) (by first | exact Or.inl rfl | exact Or.inr (Or.inl rfl) | exact Or.inr (Or.inr rfl)) (by decide) (by decide)) rfl) rfl) (@pss_one _ _ _ (@ps_ret _ _ _ _ (@pv _ 1 _ _ (by rfl) (by first | exact Or.inl rfl | exact Or.inr (Or.inl rfl) | exact Or.inr (Or.inr rfl)) (by decide) (by decide)))))))), ?_⟩
    refine ⟨_, rfl, p, C, dx, _, _, rfl, h1, T.cl, T.aB, rfl, _, rfl, p, C, dx, _, _, rfl, h1, T.cl, T.aP, rfl, fun x d nx nd nex => ⟨x, d, _, _, rfl, upd_same, ?_⟩⟩
    have b1 := W.b1
    have b2 := W.b2
    have p1 := W.p1
    have p2 := W.p2
    rw [if_pos ⟨by omega, by omega, by omega, by omega⟩]
    intro H1 hl1 el1 rl1 A2 D1
    refine ⟨rfl, ?_⟩
    have s1 : Same H H1 := fun b o e => D1.keep b o (by rw [upd_ne (ne_of_none e nx), upd_ne (ne_of_none e nd)]; exact e) (by
      have := ne_of_none e nx
      simpa using this)
    have A1' := A1.same s1
    obtain ⟨dx1, h1'⟩ := A1'.ob
    obtain ⟨dx2, h2⟩ := A2.ob
    have px : p ≠ x := ne_of_none h1 nx
    -- twin.held = [list(row) for row in chip.held]
    refine comp_lists_list hl (rl.map V.ref) (by rw [List.length_map, A1.rw.ln, W.rl]; omega) (SqL.of A1'.hd) (fun R h => ⟨_, rfl, p, C, dx1, _, _, rfl, h1', T.cl, T.aH, rfl, h⟩) (fun i => S.rows.getD i []) yes_mono (fun i y H2 R hi s2 k => ?_) fun acc rl2 H2 nacc hl2 nd2 na2 hat2 hacc2 s2 => ?_
    · rw [List.getElem?_map] at hi
      cases ei : rl[i]? with
      | none => rw [ei] at hi; cases hi
      | some a =>
        rw [ei] at hi
        cases hi
        obtain ⟨r, er, ha⟩ := A1'.rw.at_ i a ei
        have eg : S.rows.getD i [] = r := by rw [List.getD_eq_getElem?_getD, er]; rfl
        exact tyes ⟨_, rfl, a, r, rfl, .inl (SqL.of (s2 _ _ ha)), fun l nl => k l _ nl (by rw [eg]; exact upd_same) (same_new nl)⟩
    have x2 := s2 _ _ h2
    have xacc : x ≠ acc := ne_of_none h2 nacc
    refine ⟨_, rfl, x, C, dx2, _, rfl, x2, T.cl, T.aH, by show 7 < 1000; decide, ?_⟩
    -- twin.erasures = list(chip.erasures)
    have e2 := s2 _ _ (s1 _ _ A1.er)
    have p2' := s2 _ _ h1'
    have elx : el ≠ x := (ne_of_none A1.er nx)
    refine ⟨_, rfl, p, C, dx1, _, _, rfl, by rw [upd_ne px]; exact p2', T.cl, T.aE, rfl, el, _, rfl, .inl (SqL.of (by rw [upd_ne elx]; exact e2)), fun el2 nel => ?_⟩
    have xel : x ≠ el2 := fun z => by
      rw [← z, upd_same] at nel
      cases nel
    refine ⟨_, rfl, x, C, dx2, _, rfl, by rw [upd_ne xel, upd_same], T.cl, T.aE, by show 7 < 1000; decide, ?_⟩
    -- twin.writes = chip.writes
    have pel : p ≠ el2 := fun z => by
      rw [← z, upd_ne px, p2'] at nel
      cases nel
    refine ⟨_, rfl, p, C, dx1, _, _, rfl, by rw [upd_ne px, upd_ne pel, upd_ne px]; exact p2', T.cl, T.aW, rfl, _, rfl, x, C, dx2, _, rfl, upd_same, T.cl, T.aW, by show 7 < 1000; decide, _, rfl, ?_⟩
    rw [upd_upd]
    have tr : ∀ a o, H2 a = some o → a ≠ x → a ≠ el2 ∧ (upd (upd (upd H2 x (HO.ins C dx2 (putF "held" (V.ref acc) (chipF (fresh S.nb S.np) hl1 el1)))) el2 (HO.lst (S.worn.map V.int))) x (HO.ins C dx2 (chipF (S.powered none) acc el2))) a = some o := fun a o e na => by
      have ae : a ≠ el2 := fun z => by
        rw [← z, upd_ne na, e] at nel
        cases nel
      exact ⟨ae, by rw [upd_ne na, upd_ne ae, upd_ne na]; exact e⟩
    have free1 : ∀ a, H1 a = none → H a = none := fun a e => s1.free e
    have n2 : ∀ a, H2 a = none → H1 a = none := fun a e => s2.free e
    have xrl : ∀ a ∈ rl2, a ≠ x := fun a m z => by
      obtain ⟨j, hj, e⟩ := List.mem_iff_getElem.mp m
      have q := (hat2 j a (by rw [← e]; simp [hj])).2
      rw [z, h2] at q
      cases q
    have eln : H2 el2 = none := by
      rw [upd_ne (Ne.symm xel)] at nel
      exact nel
    refine h _ x acc el2 rl2 ⟨⟨dx2, upd_same⟩, ?_, ?_, ⟨?_, fun i a e => ?_⟩, ?_, W.powered (fun k z => by cases z)⟩ (fun b o e => ?_) (fun b m => ?_)
    · exact (tr _ _ hacc2 (Ne.symm xacc)).2
    · rw [upd_ne (Ne.symm xel), upd_same]
      rfl
    · rw [hl2, List.length_map]
      exact A1.rw.ln
    · have hi : i < S.rows.length := by
        have := (List.getElem?_eq_some_iff.mp e).1
        rw [hl2, List.length_map, A1.rw.ln] at this
        exact this
      refine ⟨S.rows.getD i [], ?_, (tr _ _ (hat2 i a e).1 (xrl a (List.mem_of_getElem? e))).2⟩
      show S.rows[i]? = _
      rw [List.getD_eq_getElem?_getD, List.getElem?_eq_getElem hi]
      rfl
    · refine List.nodup_cons.mpr ⟨fun m => ?_, List.nodup_cons.mpr ⟨fun m => ?_, nd2⟩⟩
      · rcases List.mem_cons.mp m with z | z
        · rw [z, eln] at hacc2
          cases hacc2
        · exact na2 z
      · obtain ⟨j, hj, e⟩ := List.mem_iff_getElem.mp m
        have q := (hat2 j el2 (by rw [← e]; simp [hj])).1
        rw [eln] at q
        cases q
    · exact (tr _ _ (s2 _ _ (s1 _ _ e)) (ne_of_none e nx)).2
    · rcases List.mem_cons.mp m with z | m
      · rw [z]; exact nx
      rcases List.mem_cons.mp m with z | m
      · rw [z]; exact free1 _ nacc
      rcases List.mem_cons.mp m with z | m
      · rw [z]; exact free1 _ (n2 _ eln)
      · obtain ⟨j, hj, e⟩ := List.mem_iff_getElem.mp m
        exact free1 _ (hat2 j b (by rw [← e]; simp [hj])).2
end
end Ev

set_option Elab.async false
set_option linter.all false
set_option maxRecDepth 100000
namespace Ev
open PySem L2
abbrev sCell : Stmt := top 17
abbrev sDrawn : Stmt := top 18
abbrev sWord : Stmt := top 19
abbrev sMade : Stmt := top 20
abbrev sOwn : Stmt := top 21
abbrev sDone : Stmt := top 22
abbrev sBeside : Stmt := top 23
abbrev sRight : Stmt := top 24
abbrev sDeed : Stmt := top 25
abbrev sLaw : Stmt := top 26
section
variable {P : Program} {w : World} {K : PySem.W.Frag} {mg : Str → Option Value} {base : Heap} {C cBS cNP cNE cNS cBC cCu cWE : Addr}
/-- a cell: some int -/
def spCell (K : PySem.W.Frag) : Sp := fun vs H Q _ => ∃ (a : Addr) (ns : List Int) (k : Int), vs = [.ref a, .int k] ∧ SqL K H a (ns.map V.int) ∧ ns.length ≤ 63 ∧ 0 ≤ k ∧ k ≤ 1000 ∧ ∀ H' z, Same H H' → Q (.int z) H'
theorem scCell : FnScope ["_law_script", "_law_k"] ["_law_script", "_law_k"] (defScope sCell) := ⟨rfl, rfl, rfl, by decide +kernel, rfl, by decide +kernel, by decide +kernel⟩
theorem ok_cell {f : Addr} {fd : FuncData} (F : Fun K "_law_cell" "_law_cell" sCell f fd) (T : Txt K mg C cBS cNP cNE cNS cBC cCu cWE) : FnOk P w K mg base (CXw P w) 51 f fd ["_law_script", "_law_k"] (spCell K) := by
  refine F.okX (by decide) scCell (fun vs H Q E h => ?_) (fun cdv A outer s H vs Q E hr h => ?_)
  · obtain ⟨a, ns, k, rfl, _⟩ := h
    rfl
  · obtain ⟨a, ns, k, rfl, hs, hn, k0, k1, h⟩ := h
    have hu0 := hr.units0
    refine ⟨_, (@pss_cons _ _ _ _ _ (@ps_if _ _ _ _ _ _ _ _ (@pt_cmpR _ _ _ _ _ _ _ _ (@op_eqL _ hu0) (@pv _ 0 _ _ (by rfl) (by first | exact Or.inl rfl | exact Or.inr (Or.inl rfl) | exact Or.inr (Or.inr rfl)) (by decide) (by decide)) (@pe_lst _ _ _ _ (@pa_nil _)) (@nomark _ _ (by decide) (by decide))) (@pss_one _ _ _ (@ps_ret _ _ _ _ (@pe_op _ _ _ _ _ _ _ _ (@op_mul _) (@pv _ 1 _ _ (by rfl) (by first | exact Or.inl rfl | exact Or.inr (Or.inl rfl) | exact Or.inr (Or.inr rfl)) (by decide) (by decide)) (@pe_int _ _ _ _)))) (@pss_nil _)) (@pss_one _ _ _ (@ps_ret _ _ _ _ (@pe_op _ _ _ _ _ _ _ _ (@op_add _) (@pe_ix _ _ _ _ _ _ _ (@ix_list _) (@pv _ 0 _ _ (by rfl) (by first | exact Or.inl rfl | exact Or.inr (Or.inl rfl) | exact Or.inr (Or.inr rfl)) (by decide) (by decide)) (@pe_op _ _ _ _ _ _ _ _ (@op_mod _) (@pv _ 1 _ _ (by rfl) (by first | exact Or.inl rfl | exact Or.inr (Or.inl rfl) | exact Or.inr (Or.inr rfl)) (by decide) (by decide)) (@pe_callB _ _ _ _ _ _ _ _ _ (@call_len_seq _) rfl T.n_len PySem.boot_len (@pa_cons _ _ _ _ _ (@pv _ 0 _ _ (by rfl) (by first | exact Or.inl rfl | exact Or.inr (Or.inl rfl) | exact Or.inr (Or.inr rfl)) (by decide) (by decide)) (@pa_nil _) (by exact star_plain rfl)) (by decide) (by decide) (by exact star_plain rfl) (by exact any_plain rfl))) (fun _ _ => rfl)) (@pe_op _ _ _ _ _ _ _ _ (@op_mul _) (@pe_op _ _ _ _ _ _ _ _ (@op_fdiv _) (@pv _ 1 _ _ (by rfl) (by first | exact Or.inl rfl | exact Or.inr (Or.inl rfl) | exact Or.inr (Or.inr rfl)) (by decide) (by decide)) (@pe_callB _ _ _ _ _ _ _ _ _ (@call_len_seq _) rfl T.n_len PySem.boot_len (@pa_cons _ _ _ _ _ (@pv _ 0 _ _ (by rfl) (by first | exact Or.inl rfl | exact Or.inr (Or.inl rfl) | exact Or.inr (Or.inr rfl)) (by decide) (by decide)) (@pa_nil _) (by exact star_plain rfl)) (by decide) (by decide) (by exact star_plain rfl) (by exact any_plain rfl))) (@pe_int _ _ _ _)))))), ?_⟩
    refine ⟨_, rfl, Nat.zero_le _, fun l nl => ⟨a, l, _, _, rfl, rfl, (same_new nl).seq hs, SqL.of upd_same, ?_⟩⟩
    by_cases e : ns = []
    · refine .inl ⟨by rw [e]; rfl, by rw [e]; rfl, _, rfl, iteT ⟨_, rfl, _, _, rfl, rfl, .inr ⟨by decide, by decide⟩, h _ _ (same_new nl)⟩⟩
    · have pos : 0 < ns.length := List.length_pos_iff.mpr e
      refine .inr ⟨by rw [List.length_map]; intro z; exact e (List.length_eq_zero_iff.mp z), _, rfl, iteF ?_⟩
      have hs' := (same_new (o := .lst []) nl).seq hs
      have hm0 : 0 ≤ k % (ns.length : Int) := Int.emod_nonneg _ (by omega)
      have hm1 : k % (ns.length : Int) < ns.length := Int.emod_lt_of_pos _ (by omega)
      have at_ : (ns.map V.int)[(k % (ns.length : Int)).toNat]? = some (.int (ns.getD (k % (ns.length : Int)).toNat 0)) := by
        have : (k % (ns.length : Int)).toNat < ns.length := by omega
        rw [List.getElem?_map, List.getD_eq_getElem?_getD, List.getElem?_eq_getElem this]
        rfl
      refine ⟨_, rfl, _, rfl, _, rfl, a, _, rfl, .inl hs', _, _, rfl, rfl, by rw [List.length_map]; omega, a, _, _, .int (ns.getD (k % (ns.length : Int)).toNat 0), rfl, rfl, hs', by rw [List.length_map]; exact atI_of hm0 at_, ?_⟩
      · refine ⟨_, rfl, _, rfl, a, _, rfl, .inl hs', _, _, rfl, rfl, ⟨by rw [List.length_map]; omega, by rw [List.length_map]; omega⟩, _, _, rfl, rfl, .inr ⟨by decide, by decide⟩, _, _, rfl, rfl, h _ _ (same_new nl)⟩
/-- a great number: some int -/
def spDrawn : Sp := fun vs H Q _ => ∃ (c k : Int), vs = [.int c, .int k] ∧ ∀ z, Q (.int z) H
theorem scDn : FnScope ["_law_cell_here", "_law_k", "_law_more"] ["_law_cell_here", "_law_k"] (defScope sDrawn) := ⟨rfl, rfl, rfl, by decide +kernel, rfl, by decide +kernel, by decide +kernel⟩
theorem ok_drawn {f : Addr} {fd : FuncData} (F : Fun K "_law_drawn" "_law_drawn" sDrawn f fd) : FnOk P w K mg base (CXw P w) 51 f fd ["_law_cell_here", "_law_k"] spDrawn := by
  refine F.okX (by decide) scDn (fun vs H Q E h => ?_) (fun cdv A outer s H vs Q E hr h => ?_)
  · obtain ⟨c, k, rfl, _⟩ := h
    rfl
  · obtain ⟨c, k, rfl, h⟩ := h
    refine ⟨_, (@pss_cons _ _ _ _ _ (@ps_set _ _ (2) _ _ _ _ scDn.nd rfl (Or.inl rfl) (@pe_op _ _ _ _ _ _ _ _ (@op_mod _) (@pe_op _ _ _ _ _ _ _ _ (@op_add _) (@pe_op _ _ _ _ _ _ _ _ (@op_mul _) (@pv _ 0 _ _ (by rfl) (by first | exact Or.inl rfl | exact Or.inr (Or.inl rfl) | exact Or.inr (Or.inr rfl)) (by decide) (by decide)) (@pe_int _ _ _ _)) (@pe_op _ _ _ _ _ _ _ _ (@op_mul _) (@pe_op _ _ _ _ _ _ _ _ (@op_add _) (@pv _ 1 _ _ (by rfl) (by first | exact Or.inl rfl | exact Or.inr (Or.inl rfl) | exact Or.inr (Or.inr rfl)) (by decide) (by decide)) (@pe_int _ _ _ _)) (@pe_int _ _ _ _))) (@pe_int _ _ _ _)) (by rfl) (by first | exact .inl rfl | exact .inr rfl | assumption)) (@pss_one _ _ _ (@ps_ret _ _ _ _ (@pe_op _ _ _ _ _ _ _ _ (@op_mod _) (@pe_op _ _ _ _ _ _ _ _ (@op_mulB _) (@pv _ 2 _ _ (by rfl) (by first | exact Or.inl rfl | exact Or.inr (Or.inl rfl) | exact Or.inr (Or.inr rfl)) (by decide) (by decide)) (@pv _ 2 _ _ (by rfl) (by first | exact Or.inl rfl | exact Or.inr (Or.inl rfl) | exact Or.inr (Or.inr rfl)) (by decide) (by decide))) (@pe_int _ _ _ _))))), ?_⟩
    refine ⟨_, rfl, _, _, rfl, rfl, .inr ⟨by decide, by decide⟩, _, rfl, _, _, rfl, rfl, _, _, rfl, rfl, .inr ⟨by decide, by decide⟩, _, _, rfl, rfl, _, _, rfl, rfl, by show (0 : Int) < 340282366920938463463374607431768211507; decide, ?_⟩
    refine ⟨_, rfl, _, rfl, _, _, rfl, rfl, ?_, _, _, rfl, rfl, by show (0 : Int) < 340282366920938463463374607431768211297; decide, h _⟩
    have b : ∀ z : Int, (z % 340282366920938463463374607431768211507).natAbs < 2 ^ 200 := fun z => by
      have h1 := Int.emod_nonneg z (show (340282366920938463463374607431768211507 : Int) ≠ 0 by decide)
      have h2 := Int.emod_lt_of_pos z (show (0 : Int) < 340282366920938463463374607431768211507 by decide)
      have h3 : (z % 340282366920938463463374607431768211507).natAbs < 340282366920938463463374607431768211507 := by omega
      exact Nat.lt_of_lt_of_le h3 (by decide)
    exact ⟨b _, b _⟩
/-- the law's own chip, a dict -/
def ownK (S : CS) (rws wl : Addr) : List (Key × V) := [(.inr "rows", .ref rws), (.inr "worn", .ref wl), (.inr "many", .int S.many), (.inr "left", leftV S.left), (.inr "cut", .bl S.dark)]
def spOwn : Sp := fun vs H Q _ => ∃ (r wl : Addr) (m : Int), vs = [.ref r, .ref wl, .int m] ∧ ∀ d, H d = none → Q (.ref d) (upd H d (.dK [(.inr "rows", .ref r), (.inr "worn", .ref wl), (.inr "many", .int m), (.inr "left", .non), (.inr "cut", .bl false)]))
theorem scOw : FnScope ["_law_rows", "_law_worn", "_law_many"] ["_law_rows", "_law_worn", "_law_many"] (defScope sOwn) := ⟨rfl, rfl, rfl, by decide +kernel, rfl, by decide +kernel, by decide +kernel⟩
theorem ok_own {f : Addr} {fd : FuncData} (F : Fun K "_law_own" "_law_own" sOwn f fd) : FnOk P w K mg base (CXw P w) 51 f fd ["_law_rows", "_law_worn", "_law_many"] spOwn := by
  refine F.okX (by decide) scOw (fun vs H Q E h => ?_) (fun cdv A outer s H vs Q E hr h => ?_)
  · obtain ⟨r, wl, m, rfl, _⟩ := h
    rfl
  · obtain ⟨r, wl, m, rfl, h⟩ := h
    refine ⟨_, (@pss_one _ _ _ (@ps_ret _ _ _ _ (@pe_disp _ _ _ _ _ (@pps_cons _ _ _ _ _ _ _ _ _ (@pe_str _ _ _ _) (@pv _ 0 _ _ (by rfl) (by first | exact Or.inl rfl | exact Or.inr (Or.inl rfl) | exact Or.inr (Or.inr rfl)) (by decide) (by decide)) (@pps_cons _ _ _ _ _ _ _ _ _ (@pe_str _ _ _ _) (@pv _ 1 _ _ (by rfl) (by first | exact Or.inl rfl | exact Or.inr (Or.inl rfl) | exact Or.inr (Or.inr rfl)) (by decide) (by decide)) (@pps_cons _ _ _ _ _ _ _ _ _ (@pe_str _ _ _ _) (@pv _ 2 _ _ (by rfl) (by first | exact Or.inl rfl | exact Or.inr (Or.inl rfl) | exact Or.inr (Or.inr rfl)) (by decide) (by decide)) (@pps_cons _ _ _ _ _ _ _ _ _ (@pe_str _ _ _ _) (@pe_non _ _ _) (@pps_cons _ _ _ _ _ _ _ _ _ (@pe_str _ _ _ _) (@pe_bl _ _ _ _) (@pps_nil _ _)))))) rfl rfl (by intro z; cases z) (by decide)))), ?_⟩
    intro d nd
    refine ⟨_, rfl, _, rfl, _, rfl, upd_same, [(.inr "rows", .ref r), (.inr "worn", .ref wl), (.inr "many", .int m), (.inr "left", .non), (.inr "cut", .bl false)], rfl, by show 5 ≤ 15; decide, ?_⟩
    rw [upd_upd]
    exact h d nd
end
end Ev

set_option Elab.async false
set_option linter.all false
set_option maxRecDepth 100000
namespace Ev
open PySem L2
/-! ### comprehensions whose elements lay nothing -/
def CompP (H1 : Hp) (acc : Addr) (xs : List V) (p : V → Bool) (g : V → V) (i m : Nat) (ys : List V) (H2 : Hp) : Prop := m = xs.length - i ∧ i ≤ xs.length ∧ ys = ((xs.take i).filter p).map g ∧ H2 = upd H1 acc (.lst ys)
theorem comp_pure {J : It} {H1 : Hp} {acc : Addr} {tt : TT} {te : TE} {Q : VK} {σc : St} (xs : List V) (hn : xs.length < 1000) (p : V → Bool) (g : V → V) (nacc : H1 acc = none)
    (stop : ∀ H2, Same H1 H2 → J.stop xs.length H2) (go : ∀ i H2, i < xs.length → Same H1 H2 → J.go i H2) (yld : ∀ i x H2 H3, i < xs.length → Same H1 H2 → J.yld i H2 x H3 → H3 = H2 ∧ xs[i]? = some x)
    (test : ∀ (i : Nat) x H2 (R : Bool → Hp → Prop), xs[i]? = some x → Same H1 H2 → R (p x) H2 → tt (some x :: σc) H2 R)
    (elt : ∀ (i : Nat) x H2 (R : V → Hp → Prop), xs[i]? = some x → p x = true → Same H1 H2 → R (g x) H2 → te (some x :: σc) H2 R)
    (fin : Q (.ref acc) (upd H1 acc (.lst ((xs.filter p).map g)))) :
    ∃ W : Nat → Nat → List V → Hp → Prop, (∃ m, W 0 m [] (upd H1 acc (.lst []))) ∧
      ∀ i m ys H2, W i m ys H2 → (J.stop i H2 ∧ Q (.ref acc) H2) ∨ (J.go i H2 ∧ ∀ x H3, J.yld i H2 x H3 → tt (some x :: σc) H3 fun b H4 =>
        if b = true then te (some x :: σc) H4 fun y H5 => H5 acc = some (.lst ys) ∧ ys.length < sizeLine ∧ ∃ m', m' < m ∧ W (i + 1) m' (ys ++ [y]) (upd H5 acc (.lst (ys ++ [y])))
        else ∃ m', m' < m ∧ W (i + 1) m' ys H4) := by
  refine ⟨CompP H1 acc xs p g, ⟨xs.length, by simp, Nat.zero_le _, rfl, rfl⟩, ?_⟩
  rintro i m ys H2 ⟨rfl, hi, hys, hH⟩
  have s2 : Same H1 H2 := by rw [hH]; exact same_new nacc
  by_cases hlt : i < xs.length
  · refine .inr ⟨go i H2 hlt s2, fun x H3 y => ?_⟩
    obtain ⟨rfl, ex⟩ := yld i x H2 H3 hlt s2 y
    have tk : xs.take (i + 1) = xs.take i ++ [x] := by rw [List.take_add_one, ex]; rfl
    refine test i x H3 _ ex s2 ?_
    cases hp : p x with
    | false =>
      refine iteF ⟨xs.length - (i + 1), by omega, rfl, hlt, ?_, hH⟩
      rw [hys, tk, List.filter_append]
      simp [hp]
    | true =>
      have hl : ys.length ≤ xs.length := by
        rw [hys, List.length_map]
        exact Nat.le_trans (List.length_filter_le _ _) (by rw [List.length_take]; omega)
      refine iteT (elt i x H3 _ ex hp s2 ⟨by rw [hH]; exact upd_same, small1000 (by omega), xs.length - (i + 1), by omega, rfl, hlt, ?_, ?_⟩)
      · rw [hys, tk, List.filter_append]
        simp [hp]
      · rw [hH, upd_upd]
  · have e : i = xs.length := by omega
    subst e
    rw [List.take_length] at hys
    refine .inl ⟨stop H2 s2, ?_⟩
    rw [hH, hys]
    exact fin
theorem comp_pure_list {K : PySem.W.Frag} {tl : TE} {ci : List Nat} {tt : TT} {te : TE} {σ : St} {H H0 : Hp} {Q : VK} (a : Addr) (xs : List V) (hn : xs.length < 1000) (hs : SqL K H a xs) (htl : ∀ R : V → Hp → Prop, R (.ref a) H → tl σ H0 R) (p : V → Bool) (g : V → V)
    (test : ∀ (i : Nat) x H2 (R : Bool → Hp → Prop), xs[i]? = some x → Same H H2 → R (p x) H2 → tt (some x :: capt ci σ) H2 R)
    (elt : ∀ (i : Nat) x H2 (R : V → Hp → Prop), xs[i]? = some x → p x = true → Same H H2 → R (g x) H2 → te (some x :: capt ci σ) H2 R)
    (fin : ∀ acc, H acc = none → Q (.ref acc) (upd H acc (.lst ((xs.filter p).map g)))) : tComp (iList K tl) ci tt te σ H0 Q := by
  unfold tComp
  refine htl _ ⟨a, rfl, ⟨_, hs⟩, fun acc nacc => ?_⟩
  refine comp_pure (Q := Q) (J := Itl K a) (σc := capt ci σ) xs hn p g nacc (fun _ s => ⟨xs, s.seq hs, Nat.le_refl _⟩) (fun i _ h s => ⟨xs, xs[i], s.seq hs, by simp [h]⟩) (fun i x H2 H3 hi s2 y => ?_) test elt (fin acc nacc)
  obtain ⟨e, y⟩ := y
  exact ⟨e, y xs (s2.seq hs)⟩
theorem comp_pure_range {ta : TA} {ci : List Nat} {tt : TT} {te : TE} {σ : St} {H : Hp} {Q : VK} (n : Nat) (hn : n < 1000) (hta : ∀ R : List V → Hp → Prop, R [.int n] H → ta σ H R) (p : V → Bool) (g : V → V)
    (test : ∀ (i : Nat) H2 (R : Bool → Hp → Prop), i < n → Same H H2 → R (p (.int i)) H2 → tt (some (.int i) :: capt ci σ) H2 R)
    (elt : ∀ (i : Nat) H2 (R : V → Hp → Prop), i < n → p (.int i) = true → Same H H2 → R (g (.int i)) H2 → te (some (.int i) :: capt ci σ) H2 R)
    (fin : ∀ acc, H acc = none → Q (.ref acc) (upd H acc (.lst ((((List.range n).map fun i : Nat => V.int i).filter p).map g)))) : tComp (iRng1 ta) ci tt te σ H Q := by
  unfold tComp
  have len : ((List.range n).map fun i : Nat => V.int (i : Int)).length = n := by simp
  have get : ∀ {i : Nat} {x : V}, ((List.range n).map fun i : Nat => V.int (i : Int))[i]? = some x → i < n ∧ x = .int i := fun {i x} e => by
    have hi := (List.getElem?_eq_some_iff.mp e).1
    rw [len] at hi
    rw [List.getElem?_map, List.getElem?_range hi] at e
    exact ⟨hi, (Option.some.inj e).symm⟩
  refine hta _ ⟨n, rfl, by omega, by omega, fun acc nacc => ?_⟩
  refine comp_pure (Q := Q) (J := Itr 0 (n : Int).toNat) (σc := capt ci σ) _ (by rw [len]; exact hn) p g nacc (fun _ _ => by show (n : Int).toNat ≤ _; rw [len]; omega) (fun i _ h _ => by show i < (n : Int).toNat; rw [len] at h; omega) (fun i x H2 H3 hi s2 y => ?_) (fun i x H2 R e s2 r => ?_) (fun i x H2 R e hp s2 r => ?_) (fin acc nacc)
  · obtain ⟨e, y⟩ := y
    rw [len] at hi
    refine ⟨e, ?_⟩
    rw [y, List.getElem?_map, List.getElem?_range hi, Int.zero_add]
    rfl
  · obtain ⟨hi, rfl⟩ := get e
    exact test i H2 R hi s2 r
  · obtain ⟨hi, rfl⟩ := get e
    exact elt i H2 R hi hp s2 r
theorem compH_pure_list {K : PySem.W.Frag} {eh : Addr} {cls : Value} {tl : TE} {ci : List Nat} {tt : TT} {te : TE} {σ : St} {H H0 : Hp} {Q : VK} (a : Addr) (xs : List V) (hn : xs.length < 1000) (hs : SqL K H a xs) (htl : ∀ R : V → Hp → Prop, R (.ref a) H → tl σ H0 R) (p : V → Bool) (g : V → V) (he : H eh = some (excO eh cls))
    (test : ∀ (i : Nat) x H2 (R : Bool → Hp → Prop), xs[i]? = some x → Same H H2 → R (p x) H2 → tt (some x :: capt ci σ) H2 R)
    (elt : ∀ (i : Nat) x H2 (R : V → Hp → Prop), xs[i]? = some x → p x = true → Same H H2 → R (g x) H2 → te (some x :: capt ci σ) H2 R)
    (fin : ∀ acc, H acc = none → Q (.ref acc) (upd H acc (.lst ((xs.filter p).map g)))) : tCompH eh cls (iList K tl) ci tt te σ H0 Q := by
  unfold tCompH
  refine htl _ ⟨a, rfl, ⟨_, hs⟩, fun acc nacc => ?_⟩
  refine comp_pure (Q := fun v H2 => H2 eh = some (excO eh cls) ∧ Q v H2) (J := Itl K a) (σc := capt ci σ) xs hn p g nacc (fun _ s => ⟨xs, s.seq hs, Nat.le_refl _⟩) (fun i _ h s => ⟨xs, xs[i], s.seq hs, by simp [h]⟩) (fun i x H2 H3 hi s2 y => ?_) test elt ⟨same_new nacc _ _ he, fin acc nacc⟩
  obtain ⟨e, y⟩ := y
  exact ⟨e, y xs (s2.seq hs)⟩
/-! ### small words -/
theorem iteD {c A B : Prop} [Decidable c] (h : c) (a : A) : if decide c = true then A else B := by rw [decide_eq_true h]; exact iteT a
theorem iteDn {c A B : Prop} [Decidable c] (h : ¬ c) (b : B) : if decide c = true then A else B := by rw [decide_eq_false h]; exact iteF b
theorem iteN {c A B : Prop} [Decidable c] (h : c) (b : B) : if (!decide c) = true then A else B := by rw [decide_eq_true h]; exact iteF b
theorem iteNn {c A B : Prop} [Decidable c] (h : ¬ c) (a : A) : if (!decide c) = true then A else B := by rw [decide_eq_false h]; exact iteT a
theorem at0 {α : Type} {a : α} {l : List α} : atI (a :: l) 0 = some a := atI_of (i := 0) (by decide) rfl
theorem at1 {α : Type} {a b : α} {l : List α} : atI (a :: b :: l) 1 = some b := atI_of (i := 1) (by decide) rfl
theorem at2 {α : Type} {a b c : α} {l : List α} : atI (a :: b :: c :: l) 2 = some c := atI_of (i := 2) (by decide) rfl
theorem at3 {α : Type} {a b c d : α} {l : List α} : atI (a :: b :: c :: d :: l) 3 = some d := atI_of (i := 3) (by decide) rfl
def Ref.nm : Ref → Str
  | .bs => "BadSize"
  | .np => "NoPage"
  | .ne => "NotErased"
  | .cut => "Cut"
def Ref.fl (r : Ref) : List Bool := [decide (r = .bs), decide (r = .np), decide (r = .ne), false, false, decide (r = .cut)]
def Ref.ix : Ref → Nat
  | .bs => 0
  | .np => 1
  | .ne => 2
  | .cut => 5
/-- what the classes tell of one another -/
structure TxtW (K : PySem.W.Frag) (cBS cNP cNE cNS cBC cCu cWE : Addr) : Prop where
  ask : ∀ r, XAsk K (clsOf cBS cNP cNE cCu r)
  kBS : ∀ r, PySem.W.kitOne K (.ref (clsOf cBS cNP cNE cCu r)) (.ref cBS) = some (decide (r = .bs))
  kNP : ∀ r, PySem.W.kitOne K (.ref (clsOf cBS cNP cNE cCu r)) (.ref cNP) = some (decide (r = .np))
  kNE : ∀ r, PySem.W.kitOne K (.ref (clsOf cBS cNP cNE cCu r)) (.ref cNE) = some (decide (r = .ne))
  kNS : ∀ r, PySem.W.kitOne K (.ref (clsOf cBS cNP cNE cCu r)) (.ref cNS) = some false
  kBC : ∀ r, PySem.W.kitOne K (.ref (clsOf cBS cNP cNE cCu r)) (.ref cBC) = some false
  kCu : ∀ r, PySem.W.kitOne K (.ref (clsOf cBS cNP cNE cCu r)) (.ref cCu) = some (decide (r = .cut))
  kVE : ∀ r, PySem.W.kitOne K (.ref (clsOf cBS cNP cNE cCu r)) (.type "ValueError") = some true
  ex : ∀ r, PySem.W.exmOne K (.ref (clsOf cBS cNP cNE cCu r)) (.ref cWE) = some true
section
variable {P : Program} {w : World} {K : PySem.W.Frag} {mg : Str → Option Value} {base : Heap} {C cBS cNP cNE cNS cBC cCu cWE : Addr}
def spWord (cl : Ref → Addr) : SpA := fun A vs H Q _ => ∃ (x : Addr) (r : Ref), vs = [.ref x] ∧ A.handled = some (.ref x) ∧ H x = some (excO x (.ref (cl r))) ∧ ∀ H', Same H H' → Q (.str r.nm) H'
theorem scWd : FnScope ["_law_e", "_law_flags", "_law_words"] ["_law_e"] (defScope sWord) := ⟨rfl, rfl, rfl, by decide +kernel, rfl, by decide +kernel, by decide +kernel⟩
theorem ok_word {f : Addr} {fd : FuncData} (F : Fun K "_law_word" "_law_word" sWord f fd) (T : Txt K mg C cBS cNP cNE cNS cBC cCu cWE) (W : TxtW K cBS cNP cNE cNS cBC cCu cWE) : FnOkA P w K mg base (CXw P w) 5 f fd ["_law_e"] (spWord (clsOf cBS cNP cNE cCu)) := by
  refine F.okA scWd (fun A vs H Q E h => ?_) (fun cdv A outer s H vs Q E hr h => ?_)
  · obtain ⟨x, r, rfl, _⟩ := h
    rfl
  · obtain ⟨x, r, rfl, hh, hx, h⟩ := h
    refine ⟨_, (@pss_cons _ _ _ _ _ (@ps_set _ _ (1) _ _ _ _ scWd.nd rfl (Or.inl rfl) (@pe_lst _ _ _ _ (@pa_cons _ _ _ _ _ (@pe_callB _ _ _ _ _ _ _ _ _ (@call_isexc _) rfl T.n_isinstance PyProof.Rows.Boot.«isinstance» (@pa_cons _ _ _ _ _ (@pv _ 0 _ _ (by rfl) (by first | exact Or.inl rfl | exact Or.inr (Or.inl rfl) | exact Or.inr (Or.inr rfl)) (by decide) (by decide)) (@pa_cons _ _ _ _ _ (@pe_glob _ _ (.ref cBS) _ _ rfl T.g_BadSize rfl (by decide)) (@pa_nil _) (by exact star_plain rfl)) (by exact star_plain rfl)) (by decide) (by decide) (by exact star_plain rfl) (by exact any_plain rfl)) (@pa_cons _ _ _ _ _ (@pe_callB _ _ _ _ _ _ _ _ _ (@call_isexc _) rfl T.n_isinstance PyProof.Rows.Boot.«isinstance» (@pa_cons _ _ _ _ _ (@pv _ 0 _ _ (by rfl) (by first | exact Or.inl rfl | exact Or.inr (Or.inl rfl) | exact Or.inr (Or.inr rfl)) (by decide) (by decide)) (@pa_cons _ _ _ _ _ (@pe_glob _ _ (.ref cNP) _ _ rfl T.g_NoPage rfl (by decide)) (@pa_nil _) (by exact star_plain rfl)) (by exact star_plain rfl)) (by decide) (by decide) (by exact star_plain rfl) (by exact any_plain rfl)) (@pa_cons _ _ _ _ _ (@pe_callB _ _ _ _ _ _ _ _ _ (@call_isexc _) rfl T.n_isinstance PyProof.Rows.Boot.«isinstance» (@pa_cons _ _ _ _ _ (@pv _ 0 _ _ (by rfl) (by first | exact Or.inl rfl | exact Or.inr (Or.inl rfl) | exact Or.inr (Or.inr rfl)) (by decide) (by decide)) (@pa_cons _ _ _ _ _ (@pe_glob _ _ (.ref cNE) _ _ rfl T.g_NotErased rfl (by decide)) (@pa_nil _) (by exact star_plain rfl)) (by exact star_plain rfl)) (by decide) (by decide) (by exact star_plain rfl) (by exact any_plain rfl)) (@pa_cons _ _ _ _ _ (@pe_callB _ _ _ _ _ _ _ _ _ (@call_isexc _) rfl T.n_isinstance PyProof.Rows.Boot.«isinstance» (@pa_cons _ _ _ _ _ (@pv _ 0 _ _ (by rfl) (by first | exact Or.inl rfl | exact Or.inr (Or.inl rfl) | exact Or.inr (Or.inr rfl)) (by decide) (by decide)) (@pa_cons _ _ _ _ _ (@pe_glob _ _ (.ref cNS) _ _ rfl T.g_NoSector rfl (by decide)) (@pa_nil _) (by exact star_plain rfl)) (by exact star_plain rfl)) (by decide) (by decide) (by exact star_plain rfl) (by exact any_plain rfl)) (@pa_nil _) (by exact star_plain rfl)) (by exact star_plain rfl)) (by exact star_plain rfl)) (by exact star_plain rfl))) (by rfl) (by first | exact .inl rfl | exact .inr rfl | assumption)) (@pss_cons _ _ _ _ _ (@ps_set _ _ (1) _ _ _ _ scWd.nd rfl (Or.inl rfl) (@pe_op _ _ _ _ _ _ _ _ (@op_cat _) (@pv _ 1 _ _ (by rfl) (by first | exact Or.inl rfl | exact Or.inr (Or.inl rfl) | exact Or.inr (Or.inr rfl)) (by decide) (by decide)) (@pe_lst _ _ _ _ (@pa_cons _ _ _ _ _ (@pe_callB _ _ _ _ _ _ _ _ _ (@call_isexc _) rfl T.n_isinstance PyProof.Rows.Boot.«isinstance» (@pa_cons _ _ _ _ _ (@pv _ 0 _ _ (by rfl) (by first | exact Or.inl rfl | exact Or.inr (Or.inl rfl) | exact Or.inr (Or.inr rfl)) (by decide) (by decide)) (@pa_cons _ _ _ _ _ (@pe_glob _ _ (.ref cBC) _ _ rfl T.g_BadContent rfl (by decide)) (@pa_nil _) (by exact star_plain rfl)) (by exact star_plain rfl)) (by decide) (by decide) (by exact star_plain rfl) (by exact any_plain rfl)) (@pa_cons _ _ _ _ _ (@pe_callB _ _ _ _ _ _ _ _ _ (@call_isexc _) rfl T.n_isinstance PyProof.Rows.Boot.«isinstance» (@pa_cons _ _ _ _ _ (@pv _ 0 _ _ (by rfl) (by first | exact Or.inl rfl | exact Or.inr (Or.inl rfl) | exact Or.inr (Or.inr rfl)) (by decide) (by decide)) (@pa_cons _ _ _ _ _ (@pe_glob _ _ (.ref cCu) _ _ rfl T.g_Cut rfl (by decide)) (@pa_nil _) (by exact star_plain rfl)) (by exact star_plain rfl)) (by decide) (by decide) (by exact star_plain rfl) (by exact any_plain rfl)) (@pa_nil _) (by exact star_plain rfl)) (by exact star_plain rfl)))) (by rfl) (by first | exact .inl rfl | exact .inr rfl | assumption)) (@pss_cons _ _ _ _ _ (@ps_set _ _ (2) _ _ _ _ scWd.nd rfl (Or.inl rfl) (@pe_lst _ _ _ _ (@pa_cons _ _ _ _ _ (@pe_str _ _ _ _) (@pa_cons _ _ _ _ _ (@pe_str _ _ _ _) (@pa_cons _ _ _ _ _ (@pe_str _ _ _ _) (@pa_cons _ _ _ _ _ (@pe_str _ _ _ _) (@pa_cons _ _ _ _ _ (@pe_str _ _ _ _) (@pa_cons _ _ _ _ _ (@pe_str _ _ _ _) (@pa_nil _) (by exact star_plain rfl)) (by exact star_plain rfl)) (by exact star_plain rfl)) (by exact star_plain rfl)) (by exact star_plain rfl)) (by exact star_plain rfl))) (by rfl) (by first | exact .inl rfl | exact .inr rfl | assumption)) (@pss_cons _ _ _ _ _ (@ps_if _ _ _ _ _ _ _ _ (PW.pt (@pw_or _ _ _ _ _ _ _ (@pt_cmpR _ _ _ _ _ _ _ _ (@op_ne _) (@pe_callB _ _ _ _ _ _ _ _ _ (@call_sumH _) rfl T.n_sum PyProof.Rows.Boot.«sum» (@pa_cons _ _ _ _ _ (@pe_compH _ _ _ _ _ _ _ _ ([]) ([]) _ _ _ _ (.ref (clsOf cBS cNP cNE cCu r)) hh (@pi_listH _ _ _ _ (@pv _ 1 _ _ (by rfl) (by first | exact Or.inl rfl | exact Or.inr (Or.inl rfl) | exact Or.inr (Or.inr rfl)) (by decide) (by decide))) rfl (by decide +kernel) (by decide +kernel) (by decide +kernel) (by show ∀ y : Str × NameKind, y ∈ _ → y.2 = NameKind.free → List.lookup y.1 (defScope sWord).names = some NameKind.cell; decide +kernel) (by show ∀ p : Str × Nat, p ∈ _ → List.lookup p.1 _ = some NameKind.free ∧ (["_law_e", "_law_flags", "_law_words"] : List Str)[p.2]? = some p.1; decide +kernel) rfl (by decide +kernel) (fun _ _ _ _ _ => (@pts_nil _)) (fun _ _ _ _ _ => (@pe_callTy _ _ _ _ _ _ _ _ _ (@call_int1 _) rfl T.n_int PyProof.Rows.Boot.«int» (@pa_cons _ _ _ _ _ (@pv _ 0 _ _ (by rfl) (by first | exact Or.inl rfl | exact Or.inr (Or.inl rfl) | exact Or.inr (Or.inr rfl)) (by decide) (by decide)) (@pa_nil _) (by exact star_plain rfl)) (by decide) (by decide) (by exact star_plain rfl) (by exact any_plain rfl))) (by intro _; rfl)) (@pa_nil _) (by exact star_plain rfl)) (by decide) (by decide) (by exact star_plain rfl) (by exact any_plain rfl)) (@pe_int _ _ _ _) (@nomark _ _ (by decide) (by decide))) (@pw_or1 _ _ _ _ (@pt_not _ _ _ _ (@pt_val _ _ _ (@pe_callB _ _ _ _ _ _ _ _ _ (@call_isexc _) rfl T.n_isinstance PyProof.Rows.Boot.«isinstance» (@pa_cons _ _ _ _ _ (@pv _ 0 _ _ (by rfl) (by first | exact Or.inl rfl | exact Or.inr (Or.inl rfl) | exact Or.inr (Or.inr rfl)) (by decide) (by decide)) (@pa_cons _ _ _ _ _ (@pe_bltn _ _ (.ty "ValueError") _ _ rfl T.n_ValueError PyProof.Rows.Boot.«ValueError» rfl (by decide) (by decide)) (@pa_nil _) (by exact star_plain rfl)) (by exact star_plain rfl)) (by decide) (by decide) (by exact star_plain rfl) (by exact any_plain rfl)) (by intro _; rfl)))))) (@pss_one _ _ _ (@ps_ret _ _ _ _ (@pe_str _ _ _ _))) (@pss_nil _)) (@pss_one _ _ _ (@ps_ret _ _ _ _ (@pe_ix _ _ _ _ _ _ _ (@ix_list _) (@pv _ 2 _ _ (by rfl) (by first | exact Or.inl rfl | exact Or.inr (Or.inl rfl) | exact Or.inr (Or.inr rfl)) (by decide) (by decide)) (@pe_bm _ _ _ _ _ _ _ _ _ _ _ _ PySem.F.plainAttrs_list PySem.F.slot_list_index PySem.F.type_list_index (@mt_index _) (@pv _ 1 _ _ (by rfl) (by first | exact Or.inl rfl | exact Or.inr (Or.inl rfl) | exact Or.inr (Or.inr rfl)) (by decide) (by decide)) (@pa_cons _ _ _ _ _ (@pe_bl _ _ _ _) (@pa_nil _) (by exact star_plain rfl)) (by rfl) (by rfl) (by rfl) (by exact star_plain rfl) (by exact any_plain rfl)) (fun _ _ => rfl)))))))), ?_⟩
    refine ⟨_, rfl, x, _, _, .ref cBS, _, rfl, rfl, fun _ e => e, hx, W.ask r, W.kBS r, _, rfl, x, _, _, .ref cNP, _, rfl, rfl, fun _ e => e, hx, W.ask r, W.kNP r, _, rfl, x, _, _, .ref cNE, _, rfl, rfl, fun _ e => e, hx, W.ask r, W.kNE r, _, rfl, x, _, _, .ref cNS, _, rfl, rfl, fun _ e => e, hx, W.ask r, W.kNS r, by show 4 ≤ sizeLine; decide, fun l1 n1 => ?_⟩
    have s1 := same_new (o := .lst [.bl (decide (r = .bs)), .bl (decide (r = .np)), .bl (decide (r = .ne)), .bl false]) n1
    generalize hH1 : upd H l1 _ = H1
    have e1 : H1 l1 = some (.lst [.bl (decide (r = .bs)), .bl (decide (r = .np)), .bl (decide (r = .ne)), .bl false]) := by rw [← hH1]; exact upd_same
    have s1 : Same H H1 := by rw [← hH1]; exact same_new n1
    have x1 := s1 _ _ hx
    refine ⟨_, rfl, _, rfl, x, _, _, .ref cBC, _, rfl, rfl, fun _ e => e, x1, W.ask r, W.kBC r, _, rfl, x, _, _, .ref cCu, _, rfl, rfl, fun _ e => e, x1, W.ask r, W.kCu r, by show 2 ≤ sizeLine; decide, fun l2 n2 => ⟨l1, l2, _, _, rfl, rfl, same_new n2 _ _ e1, upd_same, by show 6 ≤ sizeLine; decide, fun l3 n3 => ?_⟩⟩
    generalize hH3 : upd (upd H1 l2 _) l3 _ = H3
    have e3 : H3 l3 = some (.lst (r.fl.map V.bl)) := by rw [← hH3]; exact upd_same
    have s3 : Same H1 H3 := by rw [← hH3]; exact (same_new n2).trans (same_new n3)
    refine ⟨by show 6 ≤ sizeLine; decide, fun l4 n4 => ?_⟩
    generalize hH4 : upd H3 l4 _ = H4
    have e4 : H4 l4 = some (.lst [.str "BadSize", .str "NoPage", .str "NotErased", .str "NoSector", .str "BadContent", .str "Cut"]) := by rw [← hH4]; exact upd_same
    have s4 : Same H3 H4 := by rw [← hH4]; exact same_new n4
    have x4 := s4 _ _ (s3 _ _ x1)
    have f4 := s4 _ _ e3
    refine compH_pure_list l3 (r.fl.map V.bl) (by show 6 < 1000; decide) (SqL.of f4) (fun R q => ⟨_, rfl, q⟩) (fun _ => true) (fun v => match v with | .bl b => .int (if b then 1 else 0) | _ => .non) x4 (fun i y H2 R e s2 q => q) (fun i y H2 R e _ s2 q => ?_) fun acc nacc => ?_
    · obtain ⟨b, rfl⟩ : ∃ b, y = V.bl b := by
        rw [List.getElem?_map] at e
        cases z : r.fl[i]? with
        | none => rw [z] at e; cases e
        | some b => rw [z] at e; exact ⟨b, (Option.some.inj e).symm⟩
      exact ⟨_, rfl, .inr ⟨b, rfl, q⟩⟩
    have s5 := same_new (o := .lst (((r.fl.map V.bl).filter fun _ => true).map fun v => match v with | .bl b => .int (if b then 1 else 0) | _ => .non)) nacc
    have hl : ∃ ns : List Int, (((r.fl.map V.bl).filter fun _ => true).map fun v => match v with | .bl b => V.int (if b then 1 else 0) | _ => .non) = ns.map V.int ∧ ns.sum = 1 ∧ (∀ n ∈ ns, n = 0 ∨ n = 1) ∧ ns.length ≤ 1000 := by
      cases r
      · exact ⟨[1, 0, 0, 0, 0, 0], rfl, rfl, by decide, by decide⟩
      · exact ⟨[0, 1, 0, 0, 0, 0], rfl, rfl, by decide, by decide⟩
      · exact ⟨[0, 0, 1, 0, 0, 0], rfl, rfl, by decide, by decide⟩
      · exact ⟨[0, 0, 0, 0, 0, 1], rfl, rfl, by decide, by decide⟩
    obtain ⟨ns, en, sn, n01, ln⟩ := hl
    refine ⟨acc, ns, x, _, rfl, by rw [← en]; exact upd_same, n01, ln, hh, s5 _ _ x4, rfl, _, rfl, ?_⟩
    rw [sn]
    refine iteN rfl ⟨_, rfl, x, _, _, .ty "ValueError", _, rfl, rfl, fun _ e => e, s5 _ _ x4, W.ask r, W.kVE r, _, rfl, iteF ?_⟩
    refine ⟨_, rfl, _, rfl, .inl ⟨rfl, _, SqL.of (s5 _ _ f4)⟩, l3, r.fl, r.ix, rfl, rfl, s5 _ _ f4, by cases r <;> rfl, by cases r <;> decide, by cases r <;> decide, l4, _, _, .str r.nm, rfl, rfl, SqL.of (s5 _ _ e4), atI_of (by omega) (by rw [Int.toNat_natCast]; cases r <;> rfl), h _ ?_⟩
    exact s1.trans (s3.trans (s4.trans s5))
/-- Chip(..), or the refusal's class -/
def spMade (C : Addr) : Sp := fun vs H Q _ => ∃ (b g : Int), vs = [.int b, .int g] ∧
  if 4 ≤ b ∧ b ≤ 32 ∧ 2 ≤ g ∧ g ≤ 16 then ∀ H' p hl el rl, ChipAt C H' p (fresh b.toNat g.toNat) hl el rl → Same H H' → (∀ a ∈ fpC p hl el rl, H a = none) → Q (.ref p) H' else ∀ H', Same H H' → Q (.str "BadSize") H'
theorem scMa : FnScope ["_law_blocks", "_law_pages", "_law_e"] ["_law_blocks", "_law_pages"] (defScope sMade) := ⟨rfl, rfl, rfl, by decide +kernel, rfl, by decide +kernel, by decide +kernel⟩
theorem ok_made {f : Addr} {fd : FuncData} (F : Fun K "_law_made" "_law_made" sMade f fd) (T : Txt K mg C cBS cNP cNE cNS cBC cCu cWE) (W : TxtW K cBS cNP cNE cNS cBC cCu cWE)
    (B_Chip : MkB P w K mg base C 51 "Chip" ["self", "blocks", "pages"] (spInit C cBS)) (B_law_word : FnBA P w K mg base 5 "_law_word" ["_law_e"] (spWord (clsOf cBS cNP cNE cCu))) : FnOk P w K mg base (CXw P w) 53 f fd ["_law_blocks", "_law_pages"] (spMade C) := by
  refine F.okX (by decide) scMa (fun vs H Q E h => ?_) (fun cdv A outer s H vs Q E hr h => ?_)
  · obtain ⟨b, g, rfl, _⟩ := h
    rfl
  · obtain ⟨b, g, rfl, h⟩ := h
    obtain ⟨EH, hEH⟩ : ∃ E : XK, E = fun cls _ H' => cls = .ref cBS ∧ Same H H' ∧ ¬ (4 ≤ b ∧ b ≤ 32 ∧ 2 ≤ g ∧ g ≤ 16) := ⟨_, rfl⟩
    refine ⟨_, (@pss_one _ _ _ (@ps_tryAs _ _ _ _ _ _ _ _ _ _ (EH) _ (fun xh => tRet (tCall (spWord (clsOf cBS cNP cNE cCu) ((A.deeper (PyProof.Rows.envOfC "_law_made" (defScope sMade) s.heap.objs.size f cdv)).mark (some (.ref xh)))) [] E0 (tCons (tVar 2) tNil))) (2) ⟨rfl, rfl⟩ scMa.nd rfl rfl rfl T.g_WearError (fun pn xe hP => (@pss_one _ _ _ (@ps_ret _ _ _ _ (@pe_makeF _ _ _ _ _ _ _ _ _ _ _ _ B_Chip (hr.mono (by decide)) rfl hP (@pa_cons _ _ _ _ _ (@pv _ 0 _ _ (by rfl) (by first | exact Or.inl rfl | exact Or.inr (Or.inl rfl) | exact Or.inr (Or.inr rfl)) (by decide) (by decide)) (@pa_cons _ _ _ _ _ (@pv _ 1 _ _ (by rfl) (by first | exact Or.inl rfl | exact Or.inr (Or.inl rfl) | exact Or.inr (Or.inr rfl)) (by decide) (by decide)) (@pa_nil _) (by exact star_plain rfl)) (by exact star_plain rfl)) (by decide) (by exact star_plain rfl) (by exact any_plain rfl))))) (fun xh pn => (@pss_one _ _ _ (@ps_ret _ _ _ _ (@pe_callW _ _ _ _ _ _ _ _ _ _ B_law_word (hr.mark (by decide) (by decide) _) rfl (@pa_cons _ _ _ _ _ (@pv _ 2 _ _ (by rfl) (by first | exact Or.inl rfl | exact Or.inr (Or.inl rfl) | exact Or.inr (Or.inr rfl)) (by decide) (by decide)) (@pa_nil _) (by exact star_plain rfl)) (by decide) (by exact star_plain rfl) (by exact any_plain rfl))))) (by decide))), ?_, ?_⟩
    · refine ⟨_, rfl, _, rfl, fun x dx nx ndx ne => ⟨x, dx, b, g, rfl, upd_same, ?_⟩⟩
      have s0 : Same H (upd (upd H dx (.own x)) x (.ins C dx [])) := (same_new ndx).trans (same_new (by rw [upd_ne (Ne.symm ne)]; exact nx))
      by_cases hb : 4 ≤ b ∧ b ≤ 32 ∧ 2 ≤ g ∧ g ≤ 16
      · rw [if_pos hb] at h ⊢
        intro H' hl el rl A1 D
        refine ⟨rfl, h H' x hl el rl A1 (fun a o e => D.keep a o (s0 a o e) ?_) fun a m => ?_⟩
        · have := ne_of_none e nx
          simpa using this
        · rcases D.new a m with z | z
          · have z' : a = x := by simpa using z
            rw [z']
            exact nx
          · exact s0.free z
      · rw [if_neg hb]
        intro y
        rw [hEH]
        exact ⟨rfl, s0, hb⟩
    · intro cls x H' q
      rw [hEH] at q
      obtain ⟨rfl, s1, hb⟩ := q
      rw [if_neg hb] at h
      refine ⟨W.ex .bs, fun nx σ' _ e => ⟨_, e, x, .bs, rfl, rfl, upd_same, fun H2 s2 => h H2 (s1.trans ((same_new nx).trans s2))⟩⟩
end
end Ev

set_option Elab.async false
set_option linter.all false
set_option maxRecDepth 100000
namespace Ev
open PySem L2
inductive Deed where
  | write (b g : Int) (t : V)
  | erase (b : Int)
  | power (l : Option Int)
def Deed.vs : Deed → List V
  | .write b g t => [.str "write", .int b, .int g, t]
  | .erase b => [.str "erase", .int b]
  | .power l => [.str "power", leftV l]
def Deed.ok : Deed → Prop
  | .write _ _ t => plainV t = true
  | .erase _ => True
  | .power l => ∀ k, l = some k → 0 ≤ k
def CS.did (S : CS) : Deed → Option Ref × CS
  | .write b g t => S.write b g t
  | .erase b => S.erase b
  | .power l => (none, S.powered l)
def resNm : Option Ref → Str
  | none => ""
  | some r => r.nm
theorem Did.then {H H1 H2 : Hp} {fp fp' : List Addr} (d : Did H H1 fp fp') (s : Same H1 H2) : Did H H2 fp fp' := ⟨fun b o e n => s b o (d.keep b o e n), d.new⟩
section
variable {P : Program} {w : World} {K : PySem.W.Frag} {mg : Str → Option Value} {base : Heap} {C cBS cNP cNE cNS cBC cCu cWE : Addr}
def spDone (C : Addr) : Sp := fun vs H Q _ => ∃ (p t : Addr) (d : Deed) (S : CS) (hl el : Addr) (rl : List Addr), vs = [.ref p, .ref t] ∧ d.ok ∧ H t = some (.tup d.vs) ∧ ChipAt C H p S hl el rl ∧
  ∀ H' rl', ChipAt C H' p (S.did d).2 hl el rl' → Did H H' (fpC p hl el rl) (fpC p hl el rl') → Q (.str (resNm (S.did d).1)) H'
theorem scDo : FnScope ["_law_chip", "_law_deed_here", "_law_e"] ["_law_chip", "_law_deed_here"] (defScope sDone) := ⟨rfl, rfl, rfl, by decide +kernel, rfl, by decide +kernel, by decide +kernel⟩
theorem ok_done {f : Addr} {fd : FuncData} (F : Fun K "_law_done" "_law_done" sDone f fd) (T : Txt K mg C cBS cNP cNE cNS cBC cCu cWE) (W : TxtW K cBS cNP cNE cNS cBC cCu cWE)
    (M_write : MtB P w K mg base C 53 "write" ["self", "block", "page", "thing"] (spWrite C (clsOf cBS cNP cNE cCu))) (M_erase : MtB P w K mg base C 52 "erase" ["self", "block"] (spErase C (clsOf cBS cNP cNE cCu))) (M_power : MtB P w K mg base C 51 "power" ["self", "many"] (spPower C))
    (B_law_word : FnBA P w K mg base 5 "_law_word" ["_law_e"] (spWord (clsOf cBS cNP cNE cCu))) : FnOk P w K mg base (CXw P w) 54 f fd ["_law_chip", "_law_deed_here"] (spDone C) := by
  refine F.okX (by decide) scDo (fun vs H Q E h => ?_) (fun cdv A outer s H vs Q E hr h => ?_)
  · obtain ⟨p, t, d, S, hl, el, rl, rfl, _⟩ := h
    rfl
  · obtain ⟨p, t, d, S, hl, el, rl, rfl, hd, ht, A1, h⟩ := h
    obtain ⟨dx, h1⟩ := A1.ob
    obtain ⟨EH, hEH⟩ : ∃ E : XK, E = fun cls _ H' => ∃ r rl', cls = .ref (clsOf cBS cNP cNE cCu r) ∧ (S.did d).1 = some r ∧ ChipAt C H' p (S.did d).2 hl el rl' ∧ Did H H' (fpC p hl el rl) (fpC p hl el rl') := ⟨_, rfl⟩
    refine ⟨_, (@pss_cons _ _ _ _ _ (@ps_tryAs _ _ _ _ _ _ _ _ _ _ (EH) _ (fun xh => tRet (tCall (spWord (clsOf cBS cNP cNE cCu) ((A.deeper (PyProof.Rows.envOfC "_law_done" (defScope sDone) s.heap.objs.size f cdv)).mark (some (.ref xh)))) [] E0 (tCons (tVar 2) tNil))) (2) ⟨rfl, rfl⟩ scDo.nd rfl rfl rfl T.g_WearError (fun pn xe hP => (@pss_one _ _ _ (@ps_if _ _ _ _ _ _ _ _ (@pt_cmpR _ _ _ _ _ _ _ _ (@op_eq _) (@pe_ix _ _ _ _ _ _ _ (@ix_tupK _ (K) rfl) (@pv _ 1 _ _ (by rfl) (by first | exact Or.inl rfl | exact Or.inr (Or.inl rfl) | exact Or.inr (Or.inr rfl)) (by decide) (by decide)) (@pe_int _ _ _ _) (fun _ _ => rfl)) (@pe_str _ _ _ _) (@nomark _ _ (by decide) (by decide))) (@pss_one _ _ _ (@ps_expr _ _ _ _ (@pe_methF _ _ _ _ _ _ _ _ _ _ _ _ _ _ _ T.cl M_write (hr.mono (by decide)) hP (@pv _ 0 _ _ (by rfl) (by first | exact Or.inl rfl | exact Or.inr (Or.inl rfl) | exact Or.inr (Or.inr rfl)) (by decide) (by decide)) (@pa_cons _ _ _ _ _ (@pe_ix _ _ _ _ _ _ _ (@ix_tupK _ (K) rfl) (@pv _ 1 _ _ (by rfl) (by first | exact Or.inl rfl | exact Or.inr (Or.inl rfl) | exact Or.inr (Or.inr rfl)) (by decide) (by decide)) (@pe_int _ _ _ _) (fun _ _ => rfl)) (@pa_cons _ _ _ _ _ (@pe_ix _ _ _ _ _ _ _ (@ix_tupK _ (K) rfl) (@pv _ 1 _ _ (by rfl) (by first | exact Or.inl rfl | exact Or.inr (Or.inl rfl) | exact Or.inr (Or.inr rfl)) (by decide) (by decide)) (@pe_int _ _ _ _) (fun _ _ => rfl)) (@pa_cons _ _ _ _ _ (@pe_ix _ _ _ _ _ _ _ (@ix_tupK _ (K) rfl) (@pv _ 1 _ _ (by rfl) (by first | exact Or.inl rfl | exact Or.inr (Or.inl rfl) | exact Or.inr (Or.inr rfl)) (by decide) (by decide)) (@pe_int _ _ _ _) (fun _ _ => rfl)) (@pa_nil _) (by exact star_plain rfl)) (by exact star_plain rfl)) (by exact star_plain rfl)) (by exact star_plain rfl) (by exact any_plain rfl) (by rfl)) (by rfl))) (@pss_one _ _ _ (@ps_if _ _ _ _ _ _ _ _ (@pt_cmpR _ _ _ _ _ _ _ _ (@op_eq _) (@pe_ix _ _ _ _ _ _ _ (@ix_tupK _ (K) rfl) (@pv _ 1 _ _ (by rfl) (by first | exact Or.inl rfl | exact Or.inr (Or.inl rfl) | exact Or.inr (Or.inr rfl)) (by decide) (by decide)) (@pe_int _ _ _ _) (fun _ _ => rfl)) (@pe_str _ _ _ _) (@nomark _ _ (by decide) (by decide))) (@pss_one _ _ _ (@ps_expr _ _ _ _ (@pe_methF _ _ _ _ _ _ _ _ _ _ _ _ _ _ _ T.cl M_erase (hr.mono (by decide)) hP (@pv _ 0 _ _ (by rfl) (by first | exact Or.inl rfl | exact Or.inr (Or.inl rfl) | exact Or.inr (Or.inr rfl)) (by decide) (by decide)) (@pa_cons _ _ _ _ _ (@pe_ix _ _ _ _ _ _ _ (@ix_tupK _ (K) rfl) (@pv _ 1 _ _ (by rfl) (by first | exact Or.inl rfl | exact Or.inr (Or.inl rfl) | exact Or.inr (Or.inr rfl)) (by decide) (by decide)) (@pe_int _ _ _ _) (fun _ _ => rfl)) (@pa_nil _) (by exact star_plain rfl)) (by exact star_plain rfl) (by exact any_plain rfl) (by rfl)) (by rfl))) (@pss_one _ _ _ (@ps_expr _ _ _ _ (@pe_methF _ _ _ _ _ _ _ _ _ _ _ _ _ _ _ T.cl M_power (hr.mono (by decide)) (@passE _ _ _) (@pv _ 0 _ _ (by rfl) (by first | exact Or.inl rfl | exact Or.inr (Or.inl rfl) | exact Or.inr (Or.inr rfl)) (by decide) (by decide)) (@pa_cons _ _ _ _ _ (@pe_ix _ _ _ _ _ _ _ (@ix_tupK _ (K) rfl) (@pv _ 1 _ _ (by rfl) (by first | exact Or.inl rfl | exact Or.inr (Or.inl rfl) | exact Or.inr (Or.inr rfl)) (by decide) (by decide)) (@pe_int _ _ _ _) (fun _ _ => rfl)) (@pa_nil _) (by exact star_plain rfl)) (by exact star_plain rfl) (by exact any_plain rfl) (by rfl)) (by rfl)))))))) (fun xh pn => (@pss_one _ _ _ (@ps_ret _ _ _ _ (@pe_callW _ _ _ _ _ _ _ _ _ _ B_law_word (hr.mark (by decide) (by decide) _) rfl (@pa_cons _ _ _ _ _ (@pv _ 2 _ _ (by rfl) (by first | exact Or.inl rfl | exact Or.inr (Or.inl rfl) | exact Or.inr (Or.inr rfl)) (by decide) (by decide)) (@pa_nil _) (by exact star_plain rfl)) (by decide) (by exact star_plain rfl) (by exact any_plain rfl))))) (by decide)) (@pss_one _ _ _ (@ps_ret _ _ _ _ (@pe_str _ _ _ _)))), ?_, ?_⟩
    · have ends : ∀ (H' : Hp) (rl' : List Addr), ChipAt C H' p (S.did d).2 hl el rl' → Did H H' (fpC p hl el rl) (fpC p hl el rl') → EndsAs (clsOf cBS cNP cNE cCu) (fun _ H1 => Q (.str "") H1) EH H' (S.did d).1 := by
        intro H' rl' A2 D2
        cases e : (S.did d).1 with
        | none =>
          have q := h H' rl' A2 D2
          rw [e] at q
          exact q
        | some r =>
          intro x
          rw [hEH]
          exact ⟨r, rl', rfl, e, A2, D2⟩
      cases d with
      | write b g v =>
        refine ⟨_, rfl, t, _, _, _, rfl, rfl, SqT.of ht, at0, rfl, _, rfl, iteD rfl ?_⟩
        refine ⟨_, rfl, p, dx, _, rfl, h1, rfl, _, rfl, t, _, _, _, rfl, rfl, SqT.of ht, at1, _, rfl, t, _, _, _, rfl, rfl, SqT.of ht, at2, _, rfl, t, _, _, _, rfl, rfl, SqT.of ht, at3, p, b, g, v, S, hl, el, rl, rfl, hd, A1, fun H' A2 s2 => ?_⟩
        exact ends H' rl A2 ⟨s2, fun _ m => .inl m⟩
      | erase b =>
        refine ⟨_, rfl, t, _, _, _, rfl, rfl, SqT.of ht, at0, rfl, _, rfl, iteDn (by decide +kernel) ?_⟩
        refine ⟨_, rfl, t, _, _, _, rfl, rfl, SqT.of ht, at0, rfl, _, rfl, iteD rfl ?_⟩
        exact ⟨_, rfl, p, dx, _, rfl, h1, rfl, _, rfl, t, _, _, _, rfl, rfl, SqT.of ht, at1, p, b, S, hl, el, rl, rfl, A1, fun H' rl' A2 D2 => ends H' rl' A2 D2⟩
      | power l =>
        refine ⟨_, rfl, t, _, _, _, rfl, rfl, SqT.of ht, at0, rfl, _, rfl, iteDn (by decide +kernel) ?_⟩
        refine ⟨_, rfl, t, _, _, _, rfl, rfl, SqT.of ht, at0, rfl, _, rfl, iteDn (by decide +kernel) ?_⟩
        exact ⟨_, rfl, p, dx, _, rfl, h1, rfl, _, rfl, t, _, _, _, rfl, rfl, SqT.of ht, at1, p, l, S, hl, el, rl, rfl, hd, A1, fun H' A2 s2 => ends H' rl A2 ⟨fun b o e n => s2 b o e (by intro m; exact n (by simp at m; simp [m])), fun _ m => .inl m⟩⟩
    · intro cls x H' q
      rw [hEH] at q
      obtain ⟨r, rl', rfl, e, A2, D2⟩ := q
      refine ⟨W.ex r, fun nx σ' _ e' => ⟨_, e', x, r, rfl, rfl, upd_same, fun H2 s2 => ?_⟩⟩
      have s3 := (same_new (o := excO x (.ref (clsOf cBS cNP cNE cCu r))) nx).trans s2
      have q := h H2 rl' (A2.same s3) (D2.then s3)
      rw [e] at q
      exact q
end
/-! ### the law's own chip -/
structure BoxAt (H : Hp) (S : CS) (hl el : Addr) (rl : List Addr) : Prop where
  hd : H hl = some (.lst (rl.map V.ref))
  er : H el = some (.lst (S.worn.map V.int))
  rw : RowsAt H rl S.rows
  nd : (hl :: el :: rl).Nodup
  wf : Wf S
structure OwnAt (H : Hp) (d : Addr) (S : CS) (hl el : Addr) (rl : List Addr) : Prop where
  ob : H d = some (.dK (ownK S hl el))
  bx : BoxAt H S hl el rl
section
variable {H H' : Hp} {d : Addr} {S : CS} {hl el : Addr} {rl : List Addr}
theorem BoxAt.keep (A : BoxAt H S hl el rl) (k : ∀ b ∈ hl :: el :: rl, ∀ o, H b = some o → H' b = some o) : BoxAt H' S hl el rl :=
  ⟨k hl (by simp) _ A.hd, k el (by simp) _ A.er, A.rw.keep fun b m => k b (by simp [m]), A.nd, A.wf⟩
theorem BoxAt.lst (A : BoxAt H S hl el rl) {b : Addr} (m : b ∈ hl :: el :: rl) : ∃ l, H b = some (.lst l) := by
  rcases List.mem_cons.mp m with z | m
  · subst z; exact ⟨_, A.hd⟩
  rcases List.mem_cons.mp m with z | m
  · subst z; exact ⟨_, A.er⟩
  obtain ⟨i, hi, e⟩ := List.mem_iff_getElem.mp m
  obtain ⟨r, _, h⟩ := A.rw.at_ i b (by rw [← e]; simp [hi])
  exact ⟨_, h⟩
theorem BoxAt.st (A : BoxAt H S hl el rl) {S' : CS} (hr : S'.rows = S.rows) (hw : S'.worn = S.worn) (wf : Wf S') : BoxAt H S' hl el rl := ⟨A.hd, by rw [hw]; exact A.er, by rw [hr]; exact A.rw, A.nd, wf⟩
theorem BoxAt.putRow (A : BoxAt H S hl el rl) {i : Nat} {a : Addr} (e : rl[i]? = some a) {r : List V} (h1 : r.length = S.np) (h2 : r.all plainV = true) :
    BoxAt (upd H a (.lst r)) { S with rows := S.rows.set i r } hl el rl := by
  obtain ⟨n1, n2⟩ := List.nodup_cons.mp A.nd
  obtain ⟨n3, n4⟩ := List.nodup_cons.mp n2
  have m := List.mem_of_getElem? e
  have ha : hl ≠ a := fun z => n1 (by rw [z]; simp [m])
  have ea : el ≠ a := fun z => n3 (by rw [z]; exact m)
  exact ⟨by rw [upd_ne ha]; exact A.hd, by rw [upd_ne ea]; exact A.er, A.rw.put n4 e r, A.nd, A.wf.setRow h1 h2⟩
theorem BoxAt.putWorn (A : BoxAt H S hl el rl) {ws : List Int} (h : ws.length = S.worn.length) : BoxAt (upd H el (.lst (ws.map V.int))) { S with worn := ws } hl el rl := by
  obtain ⟨n1, n2⟩ := List.nodup_cons.mp A.nd
  obtain ⟨n3, n4⟩ := List.nodup_cons.mp n2
  have he : hl ≠ el := fun z => n1 (by rw [z]; simp)
  have W := A.wf
  exact ⟨by rw [upd_ne he]; exact A.hd, upd_same, A.rw.keep fun b m o e => by rw [upd_ne fun z => n3 (by rw [← z]; exact m)]; exact e, A.nd, ⟨W.b1, W.b2, W.p1, W.p2, W.rl, W.rp, h.trans W.wl, W.lf⟩⟩
theorem BoxAt.newRow (A : BoxAt H S hl el rl) {i : Nat} {q : Addr} {r : List V} (hi : i < rl.length) (hq : H q = some (.lst r)) (nq : q ∉ hl :: el :: rl) (h1 : r.length = S.np) (h2 : r.all plainV = true) :
    BoxAt (upd H hl (.lst ((rl.map V.ref).set i (.ref q)))) { S with rows := S.rows.set i r } hl el (rl.set i q) := by
  obtain ⟨n1, n2⟩ := List.nodup_cons.mp A.nd
  obtain ⟨n3, n4⟩ := List.nodup_cons.mp n2
  have he : el ≠ hl := fun z => n1 (by rw [z]; simp)
  have qh : q ≠ hl := fun z => nq (by rw [z]; simp)
  refine ⟨by rw [upd_same, List.map_set], by rw [upd_ne he]; exact A.er, RowsAt.swap (A.rw.keep fun b m o e => by rw [upd_ne fun z => n1 (by rw [← z]; simp [m])]; exact e) hi (by rw [upd_ne qh]; exact hq), ?_, A.wf.setRow h1 h2⟩
  refine List.nodup_cons.mpr ⟨fun m => ?_, List.nodup_cons.mpr ⟨fun m => ?_, nodup_set n4 (fun m => nq (by simp [m])) _⟩⟩
  · rcases List.mem_cons.mp m with z | m
    · exact he z.symm
    · rcases List.mem_or_eq_of_mem_set m with z | z
      · exact n1 (by simp [z])
      · exact qh z.symm
  · rcases List.mem_or_eq_of_mem_set m with z | z
    · exact n3 z
    · exact nq (by rw [← z]; simp)
theorem OwnAt.same (A : OwnAt H d S hl el rl) (s : Same H H') : OwnAt H' d S hl el rl := ⟨s _ _ A.ob, A.bx.keep fun b _ o e => s b o e⟩
theorem OwnAt.keep (A : OwnAt H d S hl el rl) (k : ∀ b ∈ d :: hl :: el :: rl, ∀ o, H b = some o → H' b = some o) : OwnAt H' d S hl el rl := ⟨k d (by simp) _ A.ob, A.bx.keep fun b m => k b (List.mem_cons_of_mem _ m)⟩
theorem OwnAt.ne (A : OwnAt H d S hl el rl) {b : Addr} (m : b ∈ hl :: el :: rl) : b ≠ d := by
  obtain ⟨l, e⟩ := A.bx.lst m
  exact ne_of e A.ob (by intro z; cases z)
/-- the dict is turned -/
theorem OwnAt.put (A : OwnAt H d S hl el rl) {S' : CS} {kvs : List (Key × V)} (ek : kvs = ownK S' hl el) (hr : S'.rows = S.rows) (hw : S'.worn = S.worn) (wf : Wf S') : OwnAt (upd H d (.dK kvs)) d S' hl el rl := by
  subst ek
  exact ⟨upd_same, (A.bx.keep fun b m o e => by rw [upd_ne (A.ne m)]; exact e).st hr hw wf⟩
theorem OwnAt.g_rows (A : OwnAt H d S hl el rl) : DGet H d (.str "rows") (some (.ref hl)) := DGet.k (k := .inr "rows") A.ob
theorem OwnAt.g_worn (A : OwnAt H d S hl el rl) : DGet H d (.str "worn") (some (.ref el)) := DGet.k (k := .inr "worn") A.ob
theorem OwnAt.g_many (A : OwnAt H d S hl el rl) : DGet H d (.str "many") (some (.int S.many)) := DGet.k (k := .inr "many") A.ob
theorem OwnAt.g_left (A : OwnAt H d S hl el rl) : DGet H d (.str "left") (some (leftV S.left)) := DGet.k (k := .inr "left") A.ob
theorem OwnAt.g_cut (A : OwnAt H d S hl el rl) : DGet H d (.str "cut") (some (.bl S.dark)) := DGet.k (k := .inr "cut") A.ob
theorem OwnAt.p_many (A : OwnAt H d S hl el rl) (v : Int) : DPut H d (.str "many") (.int v) (upd H d (.dK (ownK { S with many := v } hl el))) := DPut.k (k := .inr "many") (v := .int v) A.ob (by show 5 < sizeLine; decide)
theorem OwnAt.p_left (A : OwnAt H d S hl el rl) (v : Option Int) : DPut H d (.str "left") (leftV v) (upd H d (.dK (ownK { S with left := v } hl el))) := DPut.k (k := .inr "left") (v := leftV v) A.ob (by show 5 < sizeLine; decide)
theorem OwnAt.p_cut (A : OwnAt H d S hl el rl) (v : Bool) : DPut H d (.str "cut") (.bl v) (upd H d (.dK (ownK { S with dark := v } hl el))) := DPut.k (k := .inr "cut") (v := .bl v) A.ob (by show 5 < sizeLine; decide)
end
end Ev

set_option Elab.async false
set_option linter.all false
set_option maxRecDepth 100000
namespace Ev
open PySem L2
theorem with_rest {Pr R : Hp → Prop} {G : Prop} (main : (∀ H, Pr H → R H) → G) (rest : ∀ H, Pr H → R H) : G := main rest
/-- over a list that is laid for it -/
theorem comp_pure_new {K : PySem.W.Frag} {tl : TE} {ci : List Nat} {tt : TT} {te : TE} {σ : St} {H : Hp} {Q : VK} (xs : List V) (hn : xs.length < 1000) (htl : ∀ R : V → Hp → Prop, (∀ a, H a = none → R (.ref a) (upd H a (.lst xs))) → tl σ H R) (p : V → Bool) (g : V → V)
    (test : ∀ (i : Nat) x H2 (R : Bool → Hp → Prop), xs[i]? = some x → Same H H2 → R (p x) H2 → tt (some x :: capt ci σ) H2 R)
    (elt : ∀ (i : Nat) x H2 (R : V → Hp → Prop), xs[i]? = some x → p x = true → Same H H2 → R (g x) H2 → te (some x :: capt ci σ) H2 R)
    (fin : ∀ acc H2, H2 acc = some (.lst ((xs.filter p).map g)) → Same H H2 → Q (.ref acc) H2) : tComp (iList K tl) ci tt te σ H Q := by
  unfold tComp
  refine htl _ fun a na => ⟨a, rfl, ⟨_, SqL.of upd_same⟩, fun acc nacc => ?_⟩
  have s1 := same_new (o := .lst xs) na
  have hs : SqL K (upd H a (.lst xs)) a xs := SqL.of upd_same
  refine comp_pure (Q := Q) (J := Itl K a) (σc := capt ci σ) xs hn p g nacc (fun _ s => ⟨xs, s.seq hs, Nat.le_refl _⟩) (fun i _ h s => ⟨xs, xs[i], s.seq hs, by simp [h]⟩) (fun i x H2 H3 hi s2 y => ?_) (fun i x H2 R e s2 q => test i x H2 R e (s1.trans s2) q) (fun i x H2 R e hp s2 q => elt i x H2 R e hp (s1.trans s2) q) (fin acc _ upd_same (s1.trans (same_new nacc)))
  obtain ⟨e, y⟩ := y
  exact ⟨e, y xs (s2.seq hs)⟩
abbrev fpO (d hl el : Addr) (rl : List Addr) : List Addr := d :: hl :: el :: rl
theorem draw_own {S : CS} (W : Wf S) (hk : S.dark = false) : (S.left = none ∧ S.draw = some (true, { S with dark := false })) ∨ (S.left = some 0 ∧ S.draw = some (false, { S with dark := true })) ∨ ∃ k, 0 < k ∧ S.left = some k ∧ S.draw = some (true, { S with dark := false, left := some (k - 1) }) := by
  obtain ⟨nb, np, rows, worn, many, left, dark⟩ := S
  dsimp only at hk
  subst hk
  cases left with
  | none => exact .inl ⟨rfl, rfl⟩
  | some k =>
    have k0 := W.lf k rfl
    by_cases h : k = 0
    · subst h
      exact .inr (.inl ⟨rfl, rfl⟩)
    · refine .inr (.inr ⟨k, by omega, rfl, ?_⟩)
      unfold CS.draw
      rw [if_neg Bool.false_ne_true]
      show (if k ≤ 0 then _ else _) = _
      rw [if_neg (by omega)]
theorem OwnAt.g_leftI {H : Hp} {d : Addr} {S : CS} {hl el : Addr} {rl : List Addr} (A : OwnAt H d S hl el rl) {k : Int} (e : S.left = some k) : DGet H d (.str "left") (some (.int k)) := by
  have z := A.g_left
  rw [e] at z
  exact z
section
variable {P : Program} {w : World} {K : PySem.W.Frag} {mg : Str → Option Value} {base : Heap} {C cBS cNP cNE cNS cBC cCu cWE : Addr}
def spBeside : Sp := fun vs H Q _ => ∃ (d t : Addr) (e : Deed) (S : CS) (hl el : Addr) (rl : List Addr), vs = [.ref d, .ref t] ∧ e.ok ∧ H t = some (.tup e.vs) ∧ OwnAt H d S hl el rl ∧
  ∀ H' rl', OwnAt H' d (S.did e).2 hl el rl' → Did H H' (fpO d hl el rl) (fpO d hl el rl') → Q (.str (resNm (S.did e).1)) H'
theorem scBe : FnScope ["_law_m", "_law_deed_here", "_law_row"] ["_law_m", "_law_deed_here"] (defScope sBeside) := ⟨rfl, rfl, rfl, by decide +kernel, rfl, by decide +kernel, by decide +kernel⟩
theorem ok_beside {f : Addr} {fd : FuncData} (F : Fun K "_law_beside" "_law_beside" sBeside f fd) (T : Txt K mg C cBS cNP cNE cNS cBC cCu cWE) : FnOk P w K mg base (CXw P w) 51 f fd ["_law_m", "_law_deed_here"] spBeside := by
  refine F.okX (by decide) scBe (fun vs H Q E h => ?_) (fun cdv A outer s H vs Q E hr h => ?_)
  · obtain ⟨d, t, e, S, hl, el, rl, rfl, _⟩ := h
    rfl
  · obtain ⟨d, t, e, S, hl, el, rl, rfl, he, ht, A1, h⟩ := h
    have hu0 := hr.units0
    have hu := hu_of hr
    have W := A1.bx.wf
    have td : t ≠ d := ne_of ht A1.ob (by intro z; cases z)
    have tb : t ∉ hl :: el :: rl := fun m => by
      obtain ⟨l, z⟩ := A1.bx.lst m
      rw [ht] at z
      cases z
    have nop : ∀ H', Same H H' → (S.did e).2 = S → Did H H' (fpO d hl el rl) (fpO d hl el rl) ∧ OwnAt H' d (S.did e).2 hl el rl := fun H' s1 z => ⟨Did.same s1, by rw [z]; exact A1.same s1⟩
    refine ⟨_, (@pss_cons _ _ _ _ _ (@ps_if _ _ _ _ _ _ _ _ (@pt_cmpR _ _ _ _ _ _ _ _ (@op_eq _) (@pe_ix _ _ _ _ _ _ _ (@ix_tup _) (@pv _ 1 _ _ (by rfl) (by first | exact Or.inl rfl | exact Or.inr (Or.inl rfl) | exact Or.inr (Or.inr rfl)) (by decide) (by decide)) (@pe_int _ _ _ _) (fun _ _ => rfl)) (@pe_str _ _ _ _) (@nomark _ _ (by decide) (by decide))) (@pss_cons _ _ _ _ _ (@ps_dput _ _ _ _ _ _ _ _ _ hu (@pv _ 0 _ _ (by rfl) (by first | exact Or.inl rfl | exact Or.inr (Or.inl rfl) | exact Or.inr (Or.inr rfl)) (by decide) (by decide)) (@pe_str _ _ _ _) (@pe_ix _ _ _ _ _ _ _ (@ix_tup _) (@pv _ 1 _ _ (by rfl) (by first | exact Or.inl rfl | exact Or.inr (Or.inl rfl) | exact Or.inr (Or.inr rfl)) (by decide) (by decide)) (@pe_int _ _ _ _) (fun _ _ => rfl)) rfl) (@pss_cons _ _ _ _ _ (@ps_dput _ _ _ _ _ _ _ _ _ hu (@pv _ 0 _ _ (by rfl) (by first | exact Or.inl rfl | exact Or.inr (Or.inl rfl) | exact Or.inr (Or.inr rfl)) (by decide) (by decide)) (@pe_str _ _ _ _) (@pe_bl _ _ _ _) rfl) (@pss_one _ _ _ (@ps_ret _ _ _ _ (@pe_str _ _ _ _))))) (@pss_nil _)) (@pss_cons _ _ _ _ _ (@ps_if _ _ _ _ _ _ _ _ (PW.pt (@pw_or _ _ _ _ _ _ _ (@pt_cmpR _ _ _ _ _ _ _ _ (@op_lt _) (@pe_ix _ _ _ _ _ _ _ (@ix_tup _) (@pv _ 1 _ _ (by rfl) (by first | exact Or.inl rfl | exact Or.inr (Or.inl rfl) | exact Or.inr (Or.inr rfl)) (by decide) (by decide)) (@pe_int _ _ _ _) (fun _ _ => rfl)) (@pe_int _ _ _ _) (@nomark _ _ (by decide) (by decide))) (@pw_or1 _ _ _ _ (@pt_cmpR _ _ _ _ _ _ _ _ (@op_ge _) (@pe_ix _ _ _ _ _ _ _ (@ix_tup _) (@pv _ 1 _ _ (by rfl) (by first | exact Or.inl rfl | exact Or.inr (Or.inl rfl) | exact Or.inr (Or.inr rfl)) (by decide) (by decide)) (@pe_int _ _ _ _) (fun _ _ => rfl)) (@pe_callB _ _ _ _ _ _ _ _ _ (@call_len_seq _) rfl T.n_len PySem.boot_len (@pa_cons _ _ _ _ _ (@pe_dget _ _ _ _ _ _ hu (@pv _ 0 _ _ (by rfl) (by first | exact Or.inl rfl | exact Or.inr (Or.inl rfl) | exact Or.inr (Or.inr rfl)) (by decide) (by decide)) (@pe_str _ _ _ _) (fun _ _ => rfl)) (@pa_nil _) (by exact star_plain rfl)) (by decide) (by decide) (by exact star_plain rfl) (by exact any_plain rfl)) (@nomark _ _ (by decide) (by decide)))))) (@pss_one _ _ _ (@ps_ret _ _ _ _ (@pe_str _ _ _ _))) (@pss_nil _)) (@pss_cons _ _ _ _ _ (@ps_set _ _ (2) _ _ _ _ scBe.nd rfl (Or.inl rfl) (@pe_ix _ _ _ _ _ _ _ (@ix_list _) (@pe_dget _ _ _ _ _ _ hu (@pv _ 0 _ _ (by rfl) (by first | exact Or.inl rfl | exact Or.inr (Or.inl rfl) | exact Or.inr (Or.inr rfl)) (by decide) (by decide)) (@pe_str _ _ _ _) (fun _ _ => rfl)) (@pe_ix _ _ _ _ _ _ _ (@ix_tup _) (@pv _ 1 _ _ (by rfl) (by first | exact Or.inl rfl | exact Or.inr (Or.inl rfl) | exact Or.inr (Or.inr rfl)) (by decide) (by decide)) (@pe_int _ _ _ _) (fun _ _ => rfl)) (fun _ _ => rfl)) (by rfl) (by first | exact .inl rfl | exact .inr rfl | assumption)) (@pss_cons _ _ _ _ _ (@ps_if _ _ _ _ _ _ _ _ (@pt_cmpR _ _ _ _ _ _ _ _ (@op_eq _) (@pe_ix _ _ _ _ _ _ _ (@ix_tup _) (@pv _ 1 _ _ (by rfl) (by first | exact Or.inl rfl | exact Or.inr (Or.inl rfl) | exact Or.inr (Or.inr rfl)) (by decide) (by decide)) (@pe_int _ _ _ _) (fun _ _ => rfl)) (@pe_str _ _ _ _) (@nomark _ _ (by decide) (by decide))) (@pss_cons _ _ _ _ _ (@ps_if _ _ _ _ _ _ _ _ (PW.pt (@pw_or _ _ _ _ _ _ _ (@pt_cmpR _ _ _ _ _ _ _ _ (@op_lt _) (@pe_ix _ _ _ _ _ _ _ (@ix_tup _) (@pv _ 1 _ _ (by rfl) (by first | exact Or.inl rfl | exact Or.inr (Or.inl rfl) | exact Or.inr (Or.inr rfl)) (by decide) (by decide)) (@pe_int _ _ _ _) (fun _ _ => rfl)) (@pe_int _ _ _ _) (@nomark _ _ (by decide) (by decide))) (@pw_or1 _ _ _ _ (@pt_cmpR _ _ _ _ _ _ _ _ (@op_ge _) (@pe_ix _ _ _ _ _ _ _ (@ix_tup _) (@pv _ 1 _ _ (by rfl) (by first | exact Or.inl rfl | exact Or.inr (Or.inl rfl) | exact Or.inr (Or.inr rfl)) (by decide) (by decide)) (@pe_int _ _ _ _) (fun _ _ => rfl)) (@pe_callB _ _ _ _ _ _ _ _ _ (@call_len_seq _) rfl T.n_len PySem.boot_len (@pa_cons _ _ _ _ _ (@pv _ 2 _ _ (by rfl) (by first | exact Or.inl rfl | exact Or.inr (Or.inl rfl) | exact Or.inr (Or.inr rfl)) (by decide) (by decide)) (@pa_nil _) (by exact star_plain rfl)) (by decide) (by decide) (by exact star_plain rfl) (by exact any_plain rfl)) (@nomark _ _ (by decide) (by decide)))))) (@pss_one _ _ _ (@ps_ret _ _ _ _ (@pe_str _ _ _ _))) (@pss_nil _)) (@pss_one _ _ _ (@ps_if _ _ _ _ _ _ _ _ (@pt_cmpR _ _ _ _ _ _ _ _ (@op_neL _ hu0) (@pe_comp _ _ _ _ _ _ _ _ ([]) ([]) _ _ _ rfl (@pi_list _ _ _ _ (@pe_slice _ _ _ _ _ _ _ _ _ _ (@sl_list _) (@pv _ 2 _ _ (by rfl) (by first | exact Or.inl rfl | exact Or.inr (Or.inl rfl) | exact Or.inr (Or.inr rfl)) (by decide) (by decide)) (@po_some _ _ _ (@pe_ix _ _ _ _ _ _ _ (@ix_tup _) (@pv _ 1 _ _ (by rfl) (by first | exact Or.inl rfl | exact Or.inr (Or.inl rfl) | exact Or.inr (Or.inr rfl)) (by decide) (by decide)) (@pe_int _ _ _ _) (fun _ _ => rfl))) (@po_none _))) rfl (by decide +kernel) (by decide +kernel) (by decide +kernel) (by show ∀ y : Str × NameKind, y ∈ _ → y.2 = NameKind.free → List.lookup y.1 (defScope sBeside).names = some NameKind.cell; decide +kernel) (by show ∀ p : Str × Nat, p ∈ _ → List.lookup p.1 _ = some NameKind.free ∧ (["_law_m", "_law_deed_here", "_law_row"] : List Str)[p.2]? = some p.1; decide +kernel) rfl (by decide +kernel) (fun _ _ _ _ _ => (@pts_one _ _ _ (@pt_cmp _ _ _ _ _ _ (@pc_notN _ _ _ _ _ (@pv _ 0 _ _ (by rfl) (by first | exact Or.inl rfl | exact Or.inr (Or.inl rfl) | exact Or.inr (Or.inr rfl)) (by decide) (by decide))) (by first | exact nobehind _ (by decide) (by decide) | rfl)))) (fun _ _ _ _ _ => (@pv _ 0 _ _ (by rfl) (by first | exact Or.inl rfl | exact Or.inr (Or.inl rfl) | exact Or.inr (Or.inr rfl)) (by decide) (by decide))) (by intro _; rfl)) (@pe_lst _ _ _ _ (@pa_nil _)) (@nomark _ _ (by decide) (by decide))) (@pss_one _ _ _ (@ps_ret _ _ _ _ (@pe_str _ _ _ _))) (@pss_nil _)))) (@pss_nil _)) (@pss_cons _ _ _ _ _ (@ps_if _ _ _ _ _ _ _ _ (@pt_val _ _ _ (@pe_dget _ _ _ _ _ _ hu (@pv _ 0 _ _ (by rfl) (by first | exact Or.inl rfl | exact Or.inr (Or.inl rfl) | exact Or.inr (Or.inr rfl)) (by decide) (by decide)) (@pe_str _ _ _ _) (fun _ _ => rfl)) (by intro _; rfl)) (@pss_one _ _ _ (@ps_ret _ _ _ _ (@pe_str _ _ _ _))) (@pss_nil _)) (@pss_cons _ _ _ _ _ (@ps_dput _ _ _ _ _ _ _ _ _ hu (@pv _ 0 _ _ (by rfl) (by first | exact Or.inl rfl | exact Or.inr (Or.inl rfl) | exact Or.inr (Or.inr rfl)) (by decide) (by decide)) (@pe_str _ _ _ _) (@pe_cmpR _ _ _ _ _ _ _ _ (@op_eq _) (@pe_dget _ _ _ _ _ _ hu (@pv _ 0 _ _ (by rfl) (by first | exact Or.inl rfl | exact Or.inr (Or.inl rfl) | exact Or.inr (Or.inr rfl)) (by decide) (by decide)) (@pe_str _ _ _ _) (fun _ _ => rfl)) (@pe_int _ _ _ _) (@nomark _ _ (by decide) (by decide))) rfl) (@pss_cons _ _ _ _ _ (@ps_if _ _ _ _ _ _ _ _ (PW.pt (@pw_and _ _ _ _ _ _ _ (@pt_cmp _ _ _ _ _ _ (@pc_notN _ _ _ _ _ (@pe_dget _ _ _ _ _ _ hu (@pv _ 0 _ _ (by rfl) (by first | exact Or.inl rfl | exact Or.inr (Or.inl rfl) | exact Or.inr (Or.inr rfl)) (by decide) (by decide)) (@pe_str _ _ _ _) (fun _ _ => rfl))) (by first | exact nobehind _ (by decide) (by decide) | rfl)) (@pw_and1 _ _ _ _ (@pt_not _ _ _ _ (@pt_val _ _ _ (@pe_dget _ _ _ _ _ _ hu (@pv _ 0 _ _ (by rfl) (by first | exact Or.inl rfl | exact Or.inr (Or.inl rfl) | exact Or.inr (Or.inr rfl)) (by decide) (by decide)) (@pe_str _ _ _ _) (fun _ _ => rfl)) (by intro _; rfl)))))) (@pss_one _ _ _ (@ps_dput _ _ _ _ _ _ _ _ _ hu (@pv _ 0 _ _ (by rfl) (by first | exact Or.inl rfl | exact Or.inr (Or.inl rfl) | exact Or.inr (Or.inr rfl)) (by decide) (by decide)) (@pe_str _ _ _ _) (@pe_op _ _ _ _ _ _ _ _ (@op_sub _) (@pe_dget _ _ _ _ _ _ hu (@pv _ 0 _ _ (by rfl) (by first | exact Or.inl rfl | exact Or.inr (Or.inl rfl) | exact Or.inr (Or.inr rfl)) (by decide) (by decide)) (@pe_str _ _ _ _) (fun _ _ => rfl)) (@pe_int _ _ _ _)) rfl)) (@pss_nil _)) (@pss_cons _ _ _ _ _ (@ps_if _ _ _ _ _ _ _ _ (@pt_cmpR _ _ _ _ _ _ _ _ (@op_eq _) (@pe_ix _ _ _ _ _ _ _ (@ix_tup _) (@pv _ 1 _ _ (by rfl) (by first | exact Or.inl rfl | exact Or.inr (Or.inl rfl) | exact Or.inr (Or.inr rfl)) (by decide) (by decide)) (@pe_int _ _ _ _) (fun _ _ => rfl)) (@pe_str _ _ _ _) (@nomark _ _ (by decide) (by decide))) (@pss_cons _ _ _ _ _ (@ps_dput _ _ _ _ _ _ _ _ _ hu (@pv _ 0 _ _ (by rfl) (by first | exact Or.inl rfl | exact Or.inr (Or.inl rfl) | exact Or.inr (Or.inr rfl)) (by decide) (by decide)) (@pe_str _ _ _ _) (@pe_op _ _ _ _ _ _ _ _ (@op_add _) (@pe_dget _ _ _ _ _ _ hu (@pv _ 0 _ _ (by rfl) (by first | exact Or.inl rfl | exact Or.inr (Or.inl rfl) | exact Or.inr (Or.inr rfl)) (by decide) (by decide)) (@pe_str _ _ _ _) (fun _ _ => rfl)) (@pe_int _ _ _ _)) rfl) (@pss_one _ _ _ (@ps_asg _ _ _ _ _ _ (@pe_ix _ _ _ _ _ _ _ (@ix_list _) (@pe_lst _ _ _ _ (@pa_cons _ _ _ _ _ (@pe_ix _ _ _ _ _ _ _ (@ix_tup _) (@pv _ 1 _ _ (by rfl) (by first | exact Or.inl rfl | exact Or.inr (Or.inl rfl) | exact Or.inr (Or.inr rfl)) (by decide) (by decide)) (@pe_int _ _ _ _) (fun _ _ => rfl)) (@pa_cons _ _ _ _ _ (@pe_str _ _ _ _) (@pa_nil _) (by exact star_plain rfl)) (by exact star_plain rfl))) (@pe_callTy _ _ _ _ _ _ _ _ _ (@call_int1 _) rfl T.n_int PyProof.Rows.Boot.«int» (@pa_cons _ _ _ _ _ (@pe_dget _ _ _ _ _ _ hu (@pv _ 0 _ _ (by rfl) (by first | exact Or.inl rfl | exact Or.inr (Or.inl rfl) | exact Or.inr (Or.inr rfl)) (by decide) (by decide)) (@pe_str _ _ _ _) (fun _ _ => rfl)) (@pa_nil _) (by exact star_plain rfl)) (by decide) (by decide) (by exact star_plain rfl) (by exact any_plain rfl)) (fun _ _ => rfl)) (@pg_sub _ _ _ _ _ _ _ (@pv _ 2 _ _ (by rfl) (by first | exact Or.inl rfl | exact Or.inr (Or.inl rfl) | exact Or.inr (Or.inr rfl)) (by decide) (by decide)) (@pe_ix _ _ _ _ _ _ _ (@ix_tup _) (@pv _ 1 _ _ (by rfl) (by first | exact Or.inl rfl | exact Or.inr (Or.inl rfl) | exact Or.inr (Or.inr rfl)) (by decide) (by decide)) (@pe_int _ _ _ _) (fun _ _ => rfl)) (@set_list _) (by intro _; rfl)) (by rfl) (by rfl) (by rfl)))) (@pss_cons _ _ _ _ _ (@ps_asg _ _ _ _ _ _ (@pe_op _ _ _ _ _ _ _ _ (@op_add _) (@pe_ix _ _ _ _ _ _ _ (@ix_list _) (@pe_dget _ _ _ _ _ _ hu (@pv _ 0 _ _ (by rfl) (by first | exact Or.inl rfl | exact Or.inr (Or.inl rfl) | exact Or.inr (Or.inr rfl)) (by decide) (by decide)) (@pe_str _ _ _ _) (fun _ _ => rfl)) (@pe_ix _ _ _ _ _ _ _ (@ix_tup _) (@pv _ 1 _ _ (by rfl) (by first | exact Or.inl rfl | exact Or.inr (Or.inl rfl) | exact Or.inr (Or.inr rfl)) (by decide) (by decide)) (@pe_int _ _ _ _) (fun _ _ => rfl)) (fun _ _ => rfl)) (@pe_int _ _ _ _)) (@pg_sub _ _ _ _ _ _ _ (@pe_dget _ _ _ _ _ _ hu (@pv _ 0 _ _ (by rfl) (by first | exact Or.inl rfl | exact Or.inr (Or.inl rfl) | exact Or.inr (Or.inr rfl)) (by decide) (by decide)) (@pe_str _ _ _ _) (fun _ _ => rfl)) (@pe_ix _ _ _ _ _ _ _ (@ix_tup _) (@pv _ 1 _ _ (by rfl) (by first | exact Or.inl rfl | exact Or.inr (Or.inl rfl) | exact Or.inr (Or.inr rfl)) (by decide) (by decide)) (@pe_int _ _ _ _) (fun _ _ => rfl)) (@set_list _) (by intro _; rfl)) (by rfl) (by rfl) (by rfl)) (@pss_one _ _ _ (@ps_asg _ _ _ _ _ _ (@pe_op _ _ _ _ _ _ _ _ (@op_rep _) (@pe_lst _ _ _ _ (@pa_cons _ _ _ _ _ (@pe_ix _ _ _ _ _ _ _ (@ix_list _) (@pe_lst _ _ _ _ (@pa_cons _ _ _ _ _ (@pe_non _ _ _) (@pa_cons _ _ _ _ _ (@pe_str _ _ _ _) (@pa_nil _) (by exact star_plain rfl)) (by exact star_plain rfl))) (@pe_callTy _ _ _ _ _ _ _ _ _ (@call_int1 _) rfl T.n_int PyProof.Rows.Boot.«int» (@pa_cons _ _ _ _ _ (@pe_dget _ _ _ _ _ _ hu (@pv _ 0 _ _ (by rfl) (by first | exact Or.inl rfl | exact Or.inr (Or.inl rfl) | exact Or.inr (Or.inr rfl)) (by decide) (by decide)) (@pe_str _ _ _ _) (fun _ _ => rfl)) (@pa_nil _) (by exact star_plain rfl)) (by decide) (by decide) (by exact star_plain rfl) (by exact any_plain rfl)) (fun _ _ => rfl)) (@pa_nil _) (by exact star_plain rfl))) (@pe_callB _ _ _ _ _ _ _ _ _ (@call_len_seq _) rfl T.n_len PySem.boot_len (@pa_cons _ _ _ _ _ (@pv _ 2 _ _ (by rfl) (by first | exact Or.inl rfl | exact Or.inr (Or.inl rfl) | exact Or.inr (Or.inr rfl)) (by decide) (by decide)) (@pa_nil _) (by exact star_plain rfl)) (by decide) (by decide) (by exact star_plain rfl) (by exact any_plain rfl))) (@pg_sub _ _ _ _ _ _ _ (@pe_dget _ _ _ _ _ _ hu (@pv _ 0 _ _ (by rfl) (by first | exact Or.inl rfl | exact Or.inr (Or.inl rfl) | exact Or.inr (Or.inr rfl)) (by decide) (by decide)) (@pe_str _ _ _ _) (fun _ _ => rfl)) (@pe_ix _ _ _ _ _ _ _ (@ix_tup _) (@pv _ 1 _ _ (by rfl) (by first | exact Or.inl rfl | exact Or.inr (Or.inl rfl) | exact Or.inr (Or.inr rfl)) (by decide) (by decide)) (@pe_int _ _ _ _) (fun _ _ => rfl)) (@set_list _) (by intro _; rfl)) (by rfl) (by rfl) (by rfl))))) (@pss_one _ _ _ (@ps_ret _ _ _ _ (@pe_ix _ _ _ _ _ _ _ (@ix_list _) (@pe_lst _ _ _ _ (@pa_cons _ _ _ _ _ (@pe_str _ _ _ _) (@pa_cons _ _ _ _ _ (@pe_str _ _ _ _) (@pa_nil _) (by exact star_plain rfl)) (by exact star_plain rfl))) (@pe_callTy _ _ _ _ _ _ _ _ _ (@call_int1 _) rfl T.n_int PyProof.Rows.Boot.«int» (@pa_cons _ _ _ _ _ (@pe_dget _ _ _ _ _ _ hu (@pv _ 0 _ _ (by rfl) (by first | exact Or.inl rfl | exact Or.inr (Or.inl rfl) | exact Or.inr (Or.inr rfl)) (by decide) (by decide)) (@pe_str _ _ _ _) (fun _ _ => rfl)) (@pa_nil _) (by exact star_plain rfl)) (by decide) (by decide) (by exact star_plain rfl) (by exact any_plain rfl)) (fun _ _ => rfl)))))))))))), ?_⟩
    cases e with
    | power l =>
      refine ⟨_, rfl, t, _, _, _, rfl, rfl, SqT.of ht, at0, rfl, _, rfl, iteD rfl ?_⟩
      have A2 := A1.put (S' := { S with left := l }) rfl rfl rfl ⟨W.b1, W.b2, W.p1, W.p2, W.rl, W.rp, W.wl, he⟩
      refine ⟨_, rfl, t, _, _, _, rfl, rfl, SqT.of ht, at1, _, rfl, d, _, rfl, A1.p_left l, _, rfl, d, _, rfl, A2.p_cut false, ?_⟩
      rw [upd_upd]
      exact h _ rl (A1.put (S' := S.powered l) rfl rfl rfl (W.powered he)) ⟨but_put (by simp), fun _ m => .inl m⟩
    | write b g v =>
      refine ⟨_, rfl, t, _, _, _, rfl, rfl, SqT.of ht, at0, rfl, _, rfl, iteDn (by decide +kernel) ?_⟩
      refine ⟨_, rfl, t, _, _, _, rfl, rfl, SqT.of ht, at1, b, 0, rfl, rfl, _, rfl, ?_⟩
      have refuse : ∀ (r : Ref) (H' : Hp), Same H H' → S.write b g v = (some r, S) → Q (.str r.nm) H' := fun r H' s1 z => by
        have z' : S.did (.write b g v) = (some r, S) := z
        have q := h H' rl (nop H' s1 (by rw [z'])).2 (nop H' s1 (by rw [z'])).1
        rw [z'] at q
        exact q
      by_cases hb0 : b < 0
      · exact iteD hb0 (iteT (refuse .np H (Same.refl _) (by unfold CS.write; rw [if_pos fun z => by have := z.1.1; omega])))
      refine iteDn hb0 ⟨_, rfl, t, _, _, _, rfl, rfl, SqT.of ht, at1, _, rfl, d, _, rfl, A1.g_rows, hl, _, rfl, .inl (SqL.of A1.bx.hd), b, _, rfl, rfl, _, rfl, ?_⟩
      have len1 : ((rl.map V.ref).length : Int) = S.nb := by rw [List.length_map, A1.bx.rw.ln, W.rl]
      rw [len1]
      by_cases hb1 : (S.nb : Int) ≤ b
      · exact iteD hb1 (refuse .np H (Same.refl _) (by unfold CS.write; rw [if_pos fun z => by have := z.1.2; omega]))
      refine iteDn hb1 ?_
      have hb : S.okB b := ⟨by omega, by omega⟩
      obtain ⟨r1, r2, r3⟩ := W.row hb
      obtain ⟨a, ea, ha⟩ := A1.bx.rw.row r1
      refine ⟨_, rfl, d, _, rfl, A1.g_rows, _, rfl, t, _, _, _, rfl, rfl, SqT.of ht, at1, hl, _, _, _, rfl, rfl, SqL.of A1.bx.hd, atI_of hb.1 (by rw [List.getElem?_map, ea]; rfl), ?_⟩
      refine ⟨_, rfl, t, _, _, _, rfl, rfl, SqT.of ht, at0, rfl, _, rfl, iteD rfl ?_⟩
      refine ⟨_, rfl, t, _, _, _, rfl, rfl, SqT.of ht, at2, g, 0, rfl, rfl, _, rfl, ?_⟩
      by_cases hg0 : g < 0
      · exact iteD hg0 (iteT (refuse .np H (Same.refl _) (by unfold CS.write; rw [if_pos fun z => by have := z.2.1; omega])))
      refine iteDn hg0 ⟨_, rfl, t, _, _, _, rfl, rfl, SqT.of ht, at2, _, rfl, a, _, rfl, .inl (SqL.of ha), g, _, rfl, rfl, _, rfl, ?_⟩
      rw [r2]
      by_cases hg1 : (S.np : Int) ≤ g
      · exact iteD hg1 (refuse .np H (Same.refl _) (by unfold CS.write; rw [if_pos fun z => by have := z.2.2; omega]))
      refine iteDn hg1 ?_
      have hg : S.okP b g := ⟨hb, by omega, by omega⟩
      -- the pages behind
      refine comp_pure_new ((S.row b).drop g.toNat) (by rw [List.length_drop, r2]; have := W.p2; omega) (fun R q => ⟨_, rfl, _, rfl, t, _, _, _, rfl, rfl, SqT.of ht, at2, g, rfl, a, _, rfl, SqL.of ha, fun p np => by rw [cut_from _ hg.2.1]; exact q p np⟩) (fun v => !decide (v = .non)) (fun v => v) (fun i y H2 R ey s2 q => ⟨_, rfl, _, rfl, q⟩) (fun i y H2 R ey _ s2 q => ⟨_, rfl, q⟩) fun acc H2 hacc s2 => ?_
      refine ⟨Nat.zero_le _, fun l nl => ⟨acc, l, _, _, rfl, rfl, SqL.of (same_new nl _ _ hacc), SqL.of upd_same, ?_⟩⟩
      have s3 : Same H (upd H2 l (.lst [])) := s2.trans (same_new nl)
      by_cases hc : S.clear b g = true
      rotate_left
      · refine .inr ⟨fun z => ?_, _, rfl, iteT (refuse .ne _ s3 (by unfold CS.write; rw [if_neg (fun z => z hg), if_pos (by simpa using hc)]))⟩
        refine hc (List.all_eq_true.mpr fun x m => decide_eq_true ?_)
        rw [List.length_map] at z
        by_cases hx : x = .non
        · exact hx
        · have : x ∈ ((S.row b).drop g.toNat).filter fun v => !decide (v = V.non) := List.mem_filter.mpr ⟨m, by rw [decide_eq_false hx]; rfl⟩
          rw [List.length_eq_zero_iff.mp z] at this
          cases this
      have hf : (((S.row b).drop g.toNat).filter fun v => !decide (v = V.non)) = [] := List.filter_eq_nil_iff.mpr fun x m => by
        have := of_decide_eq_true (List.all_eq_true.mp hc x m)
        simp [this]
      refine .inl ⟨by rw [hf]; rfl, by rw [hf]; rfl, _, rfl, iteF ?_⟩
      -- cut
      generalize hH1 : upd H2 l (.lst []) = H1 at s3 ⊢
      have A2 := A1.same s3
      have ht1 := s3 _ _ ht
      refine ⟨_, rfl, d, _, rfl, A2.g_cut, _, rfl, ?_⟩
      cases hk : S.dark with
      | true => exact iteT (refuse .cut H1 s3 (by unfold CS.write; rw [if_neg (fun z => z hg), if_neg (by rw [hc]; decide)]; unfold CS.draw; rw [if_pos hk]))
      | false =>
        refine iteF ?_
        refine with_rest (R := ?R) (Pr := fun H3 => ∃ l S1, OwnAt H3 d S1 hl el rl ∧ S.draw = some (l, S1) ∧ S1.dark = !l ∧ SameBut [d] H1 H3) (fun rest => ?main) (fun H3 pr => ?rest)
        case main =>
          have A3 := A2.put (S' := { S with dark := decide (leftV S.left = .int 0) }) rfl rfl rfl ⟨W.b1, W.b2, W.p1, W.p2, W.rl, W.rp, W.wl, W.lf⟩
          refine ⟨_, rfl, d, _, rfl, A2.g_left, by cases S.left <;> rfl, _, rfl, d, _, rfl, A2.p_cut _, _, rfl, d, _, rfl, A3.g_left, _, rfl, ?_⟩
          rcases draw_own W hk with ⟨e1, e2⟩ | ⟨e1, e2⟩ | ⟨k, k0, e1, e2⟩
          · have z : decide (leftV S.left = V.int 0) = false := by rw [e1]; rfl
            rw [z] at A3 ⊢
            refine iteN (by rw [show ({ S with dark := false } : CS).left = none from e1]; rfl) (iteF ?_)
            generalize hH3 : upd H1 d _ = H3 at A3 ⊢
            exact rest H3 ⟨true, _, A3, e2, rfl, by rw [← hH3]; exact but_put (by simp)⟩
          · have z : decide (leftV S.left = V.int 0) = true := by rw [e1]; rfl
            rw [z] at A3 ⊢
            refine iteNn (by rw [show ({ S with dark := true } : CS).left = some 0 from e1]; intro z; cases z) ⟨_, rfl, d, _, rfl, A3.g_cut, _, rfl, iteF ?_⟩
            generalize hH3 : upd H1 d _ = H3 at A3 ⊢
            exact rest H3 ⟨false, _, A3, e2, rfl, by rw [← hH3]; exact but_put (by simp)⟩
          · have z : decide (leftV S.left = V.int 0) = false := by rw [e1]; exact decide_eq_false (by intro z; injection z with z; omega)
            rw [z] at A3 ⊢
            have e1' : ({ S with dark := false } : CS).left = some k := e1
            have gl := A3.g_leftI e1'
            refine iteNn (by rw [e1']; intro z; cases z) ⟨_, rfl, d, _, rfl, A3.g_cut, _, rfl, iteT ⟨_, rfl, d, _, rfl, gl, k, 1, rfl, rfl, _, rfl, d, _, rfl, A3.p_left (some (k - 1)), ?_⟩⟩
            have A4 := A3.put (S' := { S with dark := false, left := some (k - 1) }) rfl rfl rfl ⟨W.b1, W.b2, W.p1, W.p2, W.rl, W.rp, W.wl, fun j e => by cases e; omega⟩
            generalize hH3 : upd (upd H1 d _) d _ = H3 at A4 ⊢
            exact rest H3 ⟨true, _, A4, e2, rfl, by rw [← hH3]; exact (but_put (by simp)).trans (but_put (by simp))⟩
        case rest =>
          obtain ⟨lt, S1, A3, hd, hk1, s4⟩ := pr
          obtain ⟨d1, d2, d3, d4, d5⟩ := draw_eq hd
          have ht3 := s4 _ _ ht1 (by simpa using td)
          have W1 := A3.bx.wf
          refine ⟨_, rfl, t, _, _, _, rfl, rfl, SqT.of ht3, at0, rfl, _, rfl, iteD rfl ?_⟩
          refine ⟨_, rfl, d, _, rfl, A3.g_many, _, _, rfl, rfl, _, rfl, d, _, rfl, A3.p_many (S1.many + 1), ?_⟩
          have A4 := A3.put (S' := { S1 with many := S1.many + 1 }) rfl rfl rfl ⟨W1.b1, W1.b2, W1.p1, W1.p2, W1.rl, W1.rp, W1.wl, W1.lf⟩
          have ht4 : (upd H3 d (.dK (ownK { S1 with many := S1.many + 1 } hl el))) t = some (.tup (Deed.write b g v).vs) := by rw [upd_ne td]; exact ht3
          have s5 : SameBut [d] H1 (upd H3 d (.dK (ownK { S1 with many := S1.many + 1 } hl el))) := s4.trans (but_put (by simp))
          generalize upd H3 d _ = H4 at A4 ht4 s5 ⊢
          refine ⟨_, rfl, t, _, _, _, rfl, rfl, SqT.of ht4, at3, by show 2 ≤ sizeLine; decide, fun l2 nl2 => ?_⟩
          have s6 := same_new (o := .lst [v, .str "torn"]) nl2
          have A5 := A4.same s6
          have ht5 := s6 _ _ ht4
          have hl2 : (upd H4 l2 (.lst [v, .str "torn"])) l2 = some (.lst [v, .str "torn"]) := upd_same
          have s5' : SameBut [d] H1 (upd H4 l2 (.lst [v, .str "torn"])) := s5.trans (SameBut.of s6)
          generalize upd H4 l2 _ = H5 at A5 ht5 hl2 s5' ⊢
          have hb1' : S1.okB b := ⟨hb.1, by rw [d1]; exact hb.2⟩
          obtain ⟨q1, q2, q3⟩ := W1.row hb1'
          have ha5 : H5 a = some (.lst (S1.row b)) := by
            obtain ⟨a', ea', ha'⟩ := A5.bx.rw.row (i := b.toNat) (r := S1.row b) q1
            rw [ea] at ea'
            cases ea'
            exact ha'
          refine ⟨_, rfl, d, _, rfl, A5.g_cut, .inr ⟨_, rfl, l2, _, _, if lt then v else torn, rfl, rfl, SqL.of hl2, ?_, _, rfl, _, rfl, t, _, _, _, rfl, rfl, SqT.of ht5, at2, a, _, g, _, rfl, rfl, ha5, ixN_of hg.2.1 (by rw [q2, d2]; exact hg.2.2), ?_⟩⟩
          · show atI _ (if S1.dark = true then 1 else 0) = _
            rw [hk1]
            cases lt
            · exact at1
            · exact at0
          have A6 := A5.bx.putRow ea (r := (S1.row b).set g.toNat (if lt then v else torn)) (by rw [List.length_set]; exact q2) (all_set q3 (by cases lt; exact rfl; exact he))
          have am : a ∈ hl :: el :: rl := by have := List.mem_of_getElem? ea; simp [this]
          have ad : a ≠ d := A5.ne am
          have A7 : OwnAt (upd H5 a (.lst ((S1.row b).set g.toNat (if lt then v else torn)))) d { S1 with many := S1.many + 1, rows := S1.rows.set b.toNat ((S1.row b).set g.toNat (if lt then v else torn)) } hl el rl := ⟨by rw [upd_ne (Ne.symm ad)]; exact A5.ob, A6⟩
          refine ⟨by show 2 ≤ sizeLine; decide, fun l3 nl3 => ?_⟩
          have s8 := same_new (o := .lst [.str "", .str "Cut"]) nl3
          have A8 := A7.same s8
          have ew : S.did (.write b g v) = (if lt then none else some .cut, { S1 with many := S1.many + 1, rows := S1.rows.set b.toNat ((S1.row b).set g.toNat (if lt then v else torn)) }) := by
            show S.write b g v = _
            unfold CS.write; rw [if_neg (fun z => z hg), if_neg (by rw [hc]; decide), hd]
          rw [ew] at h
          refine ⟨_, rfl, d, _, rfl, A8.g_cut, .inr ⟨_, rfl, l3, _, _, .str (resNm (if lt then none else some .cut)), rfl, rfl, SqL.of upd_same, ?_, h _ rl A8 ⟨fun c o z n => ?_, fun _ m => .inl m⟩⟩⟩
          · show atI _ (if S1.dark = true then 1 else 0) = _
            rw [hk1]
            cases lt
            · exact at1
            · exact at0
          · have nc : c ≠ a := fun y => n (by rw [y]; exact List.mem_cons_of_mem _ am)
            have nd' : c ≠ d := fun y => n (by rw [y]; simp)
            refine s8 _ _ ?_
            rw [upd_ne nc]
            exact s5' c o (s3 c o z) (by simpa using nd')
    | erase b =>
      refine ⟨_, rfl, t, _, _, _, rfl, rfl, SqT.of ht, at0, rfl, _, rfl, iteDn (by decide +kernel) ?_⟩
      refine ⟨_, rfl, t, _, _, _, rfl, rfl, SqT.of ht, at1, b, 0, rfl, rfl, _, rfl, ?_⟩
      have refuse : ∀ (r : Ref), S.erase b = (some r, S) → Q (.str r.nm) H := fun r z => by
        have z' : S.did (.erase b) = (some r, S) := z
        have q := h H rl (nop H (Same.refl _) (by rw [z'])).2 (nop H (Same.refl _) (by rw [z'])).1
        rw [z'] at q
        exact q
      by_cases hb0 : b < 0
      · exact iteD hb0 (iteT (refuse .np (by unfold CS.erase; rw [if_pos fun z => by have := z.1; omega])))
      refine iteDn hb0 ⟨_, rfl, t, _, _, _, rfl, rfl, SqT.of ht, at1, _, rfl, d, _, rfl, A1.g_rows, hl, _, rfl, .inl (SqL.of A1.bx.hd), b, _, rfl, rfl, _, rfl, ?_⟩
      have len1 : ((rl.map V.ref).length : Int) = S.nb := by rw [List.length_map, A1.bx.rw.ln, W.rl]
      rw [len1]
      by_cases hb1 : (S.nb : Int) ≤ b
      · exact iteD hb1 (refuse .np (by unfold CS.erase; rw [if_pos fun z => by have := z.2; omega]))
      refine iteDn hb1 ?_
      have hb : S.okB b := ⟨by omega, by omega⟩
      obtain ⟨r1, r2, r3⟩ := W.row hb
      obtain ⟨a, ea, ha⟩ := A1.bx.rw.row r1
      refine ⟨_, rfl, d, _, rfl, A1.g_rows, _, rfl, t, _, _, _, rfl, rfl, SqT.of ht, at1, hl, _, _, _, rfl, rfl, SqL.of A1.bx.hd, atI_of hb.1 (by rw [List.getElem?_map, ea]; rfl), ?_⟩
      refine ⟨_, rfl, t, _, _, _, rfl, rfl, SqT.of ht, at0, rfl, _, rfl, iteDn (by decide +kernel) ?_⟩
      refine ⟨_, rfl, d, _, rfl, A1.g_cut, _, rfl, ?_⟩
      cases hk : S.dark with
      | true => exact iteT (refuse .cut (by unfold CS.erase; rw [if_neg (fun z => z hb)]; unfold CS.draw; rw [if_pos hk]))
      | false =>
        refine iteF ?_
        refine with_rest (R := ?R2) (Pr := fun H3 => ∃ l S1, OwnAt H3 d S1 hl el rl ∧ S.draw = some (l, S1) ∧ S1.dark = !l ∧ SameBut [d] H H3) (fun rest => ?main2) (fun H3 pr => ?rest2)
        case main2 =>
          have A3 := A1.put (S' := { S with dark := decide (leftV S.left = .int 0) }) rfl rfl rfl ⟨W.b1, W.b2, W.p1, W.p2, W.rl, W.rp, W.wl, W.lf⟩
          refine ⟨_, rfl, d, _, rfl, A1.g_left, by cases S.left <;> rfl, _, rfl, d, _, rfl, A1.p_cut _, _, rfl, d, _, rfl, A3.g_left, _, rfl, ?_⟩
          rcases draw_own W hk with ⟨e1, e2⟩ | ⟨e1, e2⟩ | ⟨k, k0, e1, e2⟩
          · have z : decide (leftV S.left = V.int 0) = false := by rw [e1]; rfl
            rw [z] at A3 ⊢
            refine iteN (by rw [show ({ S with dark := false } : CS).left = none from e1]; rfl) (iteF ?_)
            generalize hH3 : upd H d _ = H3 at A3 ⊢
            exact rest H3 ⟨true, _, A3, e2, rfl, by rw [← hH3]; exact but_put (by simp)⟩
          · have z : decide (leftV S.left = V.int 0) = true := by rw [e1]; rfl
            rw [z] at A3 ⊢
            refine iteNn (by rw [show ({ S with dark := true } : CS).left = some 0 from e1]; intro z; cases z) ⟨_, rfl, d, _, rfl, A3.g_cut, _, rfl, iteF ?_⟩
            generalize hH3 : upd H d _ = H3 at A3 ⊢
            exact rest H3 ⟨false, _, A3, e2, rfl, by rw [← hH3]; exact but_put (by simp)⟩
          · have z : decide (leftV S.left = V.int 0) = false := by rw [e1]; exact decide_eq_false (by intro z; injection z with z; omega)
            rw [z] at A3 ⊢
            have e1' : ({ S with dark := false } : CS).left = some k := e1
            have gl := A3.g_leftI e1'
            refine iteNn (by rw [e1']; intro z; cases z) ⟨_, rfl, d, _, rfl, A3.g_cut, _, rfl, iteT ⟨_, rfl, d, _, rfl, gl, k, 1, rfl, rfl, _, rfl, d, _, rfl, A3.p_left (some (k - 1)), ?_⟩⟩
            have A4 := A3.put (S' := { S with dark := false, left := some (k - 1) }) rfl rfl rfl ⟨W.b1, W.b2, W.p1, W.p2, W.rl, W.rp, W.wl, fun j e => by cases e; omega⟩
            generalize hH3 : upd (upd H d _) d _ = H3 at A4 ⊢
            exact rest H3 ⟨true, _, A4, e2, rfl, by rw [← hH3]; exact (but_put (by simp)).trans (but_put (by simp))⟩
        case rest2 =>
          obtain ⟨lt, S1, A3, hd, hk1, s4⟩ := pr
          obtain ⟨d1, d2, d3, d4, d5⟩ := draw_eq hd
          have ht3 := s4 _ _ ht (by simpa using td)
          have W1 := A3.bx.wf
          have hb1' : S1.okB b := ⟨hb.1, by rw [d1]; exact hb.2⟩
          have ew : S.did (.erase b) = (if lt then none else some .cut, { S1 with worn := S1.worn.set b.toNat (S1.worn.getD b.toNat 0 + 1), rows := S1.rows.set b.toNat (List.replicate S1.np (if lt then V.non else torn)) }) := by
            show S.erase b = _
            unfold CS.erase; rw [if_neg (fun z => z hb), hd]
          rw [ew] at h
          refine ⟨_, rfl, t, _, _, _, rfl, rfl, SqT.of ht3, at0, rfl, _, rfl, iteDn (by decide +kernel) ?_⟩
          -- worn
          refine ⟨_, rfl, d, _, rfl, A3.g_worn, _, rfl, t, _, _, _, rfl, rfl, SqT.of ht3, at1, el, _, _, _, rfl, rfl, SqL.of A3.bx.er, atI_of hb.1 (by rw [List.getElem?_map, W1.worn_at hb1']; rfl), _, _, rfl, rfl, _, rfl, d, _, rfl, A3.g_worn, _, rfl, t, _, _, _, rfl, rfl, SqT.of ht3, at1, el, _, b, _, rfl, rfl, A3.bx.er, ixN_of hb.1 (by rw [List.length_map, W1.wl]; exact hb1'.2), ?_⟩
          have ew2 : (S1.worn.map V.int).set b.toNat (.int (S1.worn.getD b.toNat 0 + 1)) = (S1.worn.set b.toNat (S1.worn.getD b.toNat 0 + 1)).map V.int := by rw [List.map_set]
          rw [ew2]
          have B4 := A3.bx.putWorn (ws := S1.worn.set b.toNat (S1.worn.getD b.toNat 0 + 1)) (by rw [List.length_set])
          have de : d ≠ el := (A3.ne (by simp)).symm
          have te : t ≠ el := fun z => tb (by rw [z]; simp)
          have o4 : (upd H3 el (.lst ((S1.worn.set b.toNat (S1.worn.getD b.toNat 0 + 1)).map V.int))) d = some (.dK (ownK S1 hl el)) := by rw [upd_ne de]; exact A3.ob
          have A4 : OwnAt _ d { S1 with worn := S1.worn.set b.toNat (S1.worn.getD b.toNat 0 + 1) } hl el rl := ⟨o4, B4⟩
          have ht4 : (upd H3 el (.lst ((S1.worn.set b.toNat (S1.worn.getD b.toNat 0 + 1)).map V.int))) t = some (.tup (Deed.erase b).vs) := by rw [upd_ne te]; exact ht3
          have s5 : SameBut (fpO d hl el rl) H (upd H3 el (.lst ((S1.worn.set b.toNat (S1.worn.getD b.toNat 0 + 1)).map V.int))) := fun c o z n => by
            rw [upd_ne fun y => n (by rw [y]; simp)]
            exact s4 c o z (by intro m; exact n (by simp at m; simp [m]))
          generalize upd H3 el _ = H4 at A4 ht4 s5 B4 o4 ⊢
          -- the row
          refine ⟨by show 2 ≤ sizeLine; decide, fun l2 nl2 => ?_⟩
          have s6 := same_new (o := .lst [.non, .str "torn"]) nl2
          have hl2 : (upd H4 l2 (.lst [.non, .str "torn"])) l2 = some (.lst [.non, .str "torn"]) := upd_same
          have A5 := A4.same s6
          refine ⟨_, rfl, d, _, rfl, A5.g_cut, .inr ⟨_, rfl, l2, _, _, if lt then .non else torn, rfl, rfl, SqL.of hl2, ?_, by show 1 ≤ sizeLine; decide, fun l3 nl3 => ?_⟩⟩
          · show atI _ (if S1.dark = true then 1 else 0) = _
            rw [hk1]
            cases lt
            · exact at1
            · exact at0
          have s7 := s6.trans (same_new (o := .lst [if lt then V.non else torn]) nl3)
          have A6 := A4.same s7
          have hl3 : (upd (upd H4 l2 (.lst [.non, .str "torn"])) l3 (.lst [if lt then V.non else torn])) l3 = some (.lst [if lt then V.non else torn]) := upd_same
          generalize upd (upd H4 l2 _) l3 _ = H6 at A6 s7 hl3 ⊢
          obtain ⟨q1, q2, q3⟩ := W1.row hb1'
          have ha6 : H6 a = some (.lst (S1.row b)) := by
            obtain ⟨a', ea', ha'⟩ := A6.bx.rw.row (i := b.toNat) (r := S1.row b) q1
            rw [ea] at ea'
            cases ea'
            exact ha'
          refine ⟨_, rfl, a, _, rfl, .inl (SqL.of ha6), l3, _, [if lt then V.non else torn], rfl, rfl, hl3, by omega, by rw [q2]; have := W1.p2; omega, ?_, fun q nq => ?_⟩
          · rw [q2, Int.toNat_natCast]
            show 1 * S1.np ≤ sizeLine
            have := W1.p2
            exact Nat.le_of_lt (small1000 (by omega))
          rw [rep_one, q2, Int.toNat_natCast]
          have s8 := same_new (o := .lst (List.replicate S1.np (if lt then V.non else torn))) nq
          have A7 := A6.same s8
          have ht7 := s8 _ _ (s7 _ _ ht4)
          have qn : q ∉ hl :: el :: rl := fun m => by
            obtain ⟨l, z⟩ := A6.bx.lst m
            rw [nq] at z
            cases z
          have q4 : H4 q = none := s7.free nq
          have hq : (upd H6 q (.lst (List.replicate S1.np (if lt then V.non else torn)))) q = some (.lst (List.replicate S1.np (if lt then V.non else torn))) := upd_same
          have s9 := s7.trans s8
          generalize upd H6 q _ = H7 at A7 ht7 hq s9 s8 ⊢
          have bl : b.toNat < rl.length := by
            rw [A7.bx.rw.ln, A7.bx.wf.rl]
            have := hb1'.1
            have := hb1'.2
            show b.toNat < S1.nb
            omega
          refine ⟨_, rfl, d, _, rfl, A7.g_rows, _, rfl, t, _, _, _, rfl, rfl, SqT.of ht7, at1, hl, _, b, _, rfl, rfl, A7.bx.hd, ixN_of hb.1 (by rw [List.length_map]; omega), ?_⟩
          have B8 := A7.bx.newRow bl hq qn List.length_replicate (List.all_eq_true.mpr fun x m => by rw [(List.mem_replicate.mp m).2]; cases lt <;> rfl)
          have dh : d ≠ hl := (A7.ne (by simp)).symm
          have A8 : OwnAt _ d { S1 with worn := S1.worn.set b.toNat (S1.worn.getD b.toNat 0 + 1), rows := S1.rows.set b.toNat (List.replicate S1.np (if lt then V.non else torn)) } hl el (rl.set b.toNat q) := ⟨by rw [upd_ne dh]; exact A7.ob, B8⟩
          refine ⟨by show 2 ≤ sizeLine; decide, fun l4 nl4 => ?_⟩
          have s10 := same_new (o := .lst [.str "", .str "Cut"]) nl4
          have A9 := A8.same s10
          refine ⟨_, rfl, d, _, rfl, A9.g_cut, .inr ⟨_, rfl, l4, _, _, .str (resNm (if lt then none else some .cut)), rfl, rfl, SqL.of upd_same, ?_, h _ _ A9 ⟨fun c o z n => ?_, fun c m => ?_⟩⟩⟩
          · show atI _ (if S1.dark = true then 1 else 0) = _
            rw [hk1]
            cases lt
            · exact at1
            · exact at0
          · refine s10 _ _ ?_
            rw [upd_ne fun y => n (by rw [y]; simp)]
            exact s9 _ _ (s5 c o z n)
          · by_cases y : c ∈ fpO d hl el rl
            · exact .inl y
            · refine .inr ?_
              have cq : c = q := by
                rcases List.mem_cons.mp m with z | m
                · exact absurd (by rw [z]; simp) y
                rcases List.mem_cons.mp m with z | m
                · exact absurd (by rw [z]; simp) y
                rcases List.mem_cons.mp m with z | m
                · exact absurd (by rw [z]; simp) y
                rcases List.mem_or_eq_of_mem_set m with z | z
                · exact absurd (by simp [z]) y
                · exact z
              cases e : H c with
              | none => rfl
              | some o =>
                have := s5 c o e y
                rw [cq, q4] at this
                cases this
end
end Ev

set_option Elab.async false
set_option linter.all false
set_option maxRecDepth 100000
set_option maxHeartbeats 2000000
namespace Ev
open PySem L2
theorem with_rest2 {α : Type} {Pr R : α → Hp → Prop} {G : Prop} (main : (∀ a H, Pr a H → R a H) → G) (rest : ∀ a H, Pr a H → R a H) : G := main rest
section
variable {P : Program} {w : World} {K : PySem.W.Frag} {mg : Str → Option Value} {base : Heap} {C cBS cNP cNE cNS cBC cCu cWE : Addr}
def spDeed : Sp := fun vs H Q _ => ∃ (z : Int) (d : Addr) (S : CS) (hl el : Addr) (rl : List Addr), vs = [.int z, .ref d] ∧ OwnAt H d S hl el rl ∧
  ∀ H' t (e : Deed), e.ok → H t = none → H' t = some (.tup e.vs) → Same H H' → Q (.ref t) H'
theorem scDe : FnScope ["_law_more", "_law_m", "_law_block", "_law_page"] ["_law_more", "_law_m"] (defScope sDeed) := ⟨rfl, rfl, rfl, by decide +kernel, rfl, by decide +kernel, by decide +kernel⟩
theorem ok_deed {f : Addr} {fd : FuncData} (F : Fun K "_law_deed" "_law_deed" sDeed f fd) (T : Txt K mg C cBS cNP cNE cNS cBC cCu cWE) : FnOk P w K mg base (CXw P w) 51 f fd ["_law_more", "_law_m"] spDeed := by
  refine F.okX (by decide) scDe (fun vs H Q E h => ?_) (fun cdv A outer s H vs Q E hr h => ?_)
  · obtain ⟨z, d, S, hl, el, rl, rfl, _⟩ := h
    rfl
  · obtain ⟨z, d, S, hl, el, rl, rfl, A1, h⟩ := h
    have hu := hu_of hr
    have W := A1.bx.wf
    have len1 : (rl.map V.ref).length = S.nb := by rw [List.length_map, A1.bx.rw.ln, W.rl]
    refine ⟨_, (@pss_cons _ _ _ _ _ (@ps_set _ _ (2) _ _ _ _ scDe.nd rfl (Or.inl rfl) (@pe_ix _ _ _ _ _ _ _ (@ix_list _) (@pe_lst _ _ _ _ (@pa_cons _ _ _ _ _ (@pe_op _ _ _ _ _ _ _ _ (@op_mod _) (@pe_op _ _ _ _ _ _ _ _ (@op_fdiv _) (@pv _ 0 _ _ (by rfl) (by first | exact Or.inl rfl | exact Or.inr (Or.inl rfl) | exact Or.inr (Or.inr rfl)) (by decide) (by decide)) (@pe_int _ _ _ _)) (@pe_callB _ _ _ _ _ _ _ _ _ (@call_len_seq _) rfl T.n_len PySem.boot_len (@pa_cons _ _ _ _ _ (@pe_dget _ _ _ _ _ _ hu (@pv _ 1 _ _ (by rfl) (by first | exact Or.inl rfl | exact Or.inr (Or.inl rfl) | exact Or.inr (Or.inr rfl)) (by decide) (by decide)) (@pe_str _ _ _ _) (fun _ _ => rfl)) (@pa_nil _) (by exact star_plain rfl)) (by decide) (by decide) (by exact star_plain rfl) (by exact any_plain rfl))) (@pa_cons _ _ _ _ _ (@pe_op _ _ _ _ _ _ _ _ (@op_sub _) (@pe_op _ _ _ _ _ _ _ _ (@op_mod _) (@pe_op _ _ _ _ _ _ _ _ (@op_fdiv _) (@pv _ 0 _ _ (by rfl) (by first | exact Or.inl rfl | exact Or.inr (Or.inl rfl) | exact Or.inr (Or.inr rfl)) (by decide) (by decide)) (@pe_int _ _ _ _)) (@pe_int _ _ _ _)) (@pe_int _ _ _ _)) (@pa_nil _) (by exact star_plain rfl)) (by exact star_plain rfl))) (@pe_callTy _ _ _ _ _ _ _ _ _ (@call_int1 _) rfl T.n_int PyProof.Rows.Boot.«int» (@pa_cons _ _ _ _ _ (@pe_cmpR _ _ _ _ _ _ _ _ (@op_eq _) (@pe_op _ _ _ _ _ _ _ _ (@op_mod _) (@pe_op _ _ _ _ _ _ _ _ (@op_fdiv _) (@pv _ 0 _ _ (by rfl) (by first | exact Or.inl rfl | exact Or.inr (Or.inl rfl) | exact Or.inr (Or.inr rfl)) (by decide) (by decide)) (@pe_int _ _ _ _)) (@pe_int _ _ _ _)) (@pe_int _ _ _ _) (@nomark _ _ (by decide) (by decide))) (@pa_nil _) (by exact star_plain rfl)) (by decide) (by decide) (by exact star_plain rfl) (by exact any_plain rfl)) (fun _ _ => rfl)) (by rfl) (by first | exact .inl rfl | exact .inr rfl | assumption)) (@pss_cons _ _ _ _ _ (@ps_set _ _ (3) _ _ _ _ scDe.nd rfl (Or.inl rfl) (@pe_ix _ _ _ _ _ _ _ (@ix_list _) (@pe_lst _ _ _ _ (@pa_cons _ _ _ _ _ (@pe_op _ _ _ _ _ _ _ _ (@op_sub _) (@pe_op _ _ _ _ _ _ _ _ (@op_mod _) (@pe_op _ _ _ _ _ _ _ _ (@op_fdiv _) (@pv _ 0 _ _ (by rfl) (by first | exact Or.inl rfl | exact Or.inr (Or.inl rfl) | exact Or.inr (Or.inr rfl)) (by decide) (by decide)) (@pe_int _ _ _ _)) (@pe_int _ _ _ _)) (@pe_int _ _ _ _)) (@pa_cons _ _ _ _ _ (@pe_int _ _ _ _) (@pa_nil _) (by exact star_plain rfl)) (by exact star_plain rfl))) (@pe_callTy _ _ _ _ _ _ _ _ _ (@call_int1 _) rfl T.n_int PyProof.Rows.Boot.«int» (@pa_cons _ _ _ _ _ (@pe_op _ _ _ _ _ _ _ _ (@op_mod _) (@pe_op _ _ _ _ _ _ _ _ (@op_fdiv _) (@pv _ 0 _ _ (by rfl) (by first | exact Or.inl rfl | exact Or.inr (Or.inl rfl) | exact Or.inr (Or.inr rfl)) (by decide) (by decide)) (@pe_int _ _ _ _)) (@pe_int _ _ _ _)) (@pa_nil _) (by exact star_plain rfl)) (by decide) (by decide) (by exact star_plain rfl) (by exact any_plain rfl)) (fun _ _ => rfl)) (by rfl) (by first | exact .inl rfl | exact .inr rfl | assumption)) (@pss_cons _ _ _ _ _ (@ps_if _ _ _ _ _ _ _ _ (PW.pt (@pw_and _ _ _ _ _ _ _ (@pt_chain _ _ _ _ _ _ _ _ _ _ _ _ (@op_le _) (@op_lt _) (@pe_int _ _ _ _) (@pv _ 2 _ _ (by rfl) (by first | exact Or.inl rfl | exact Or.inr (Or.inl rfl) | exact Or.inr (Or.inr rfl)) (by decide) (by decide)) (@pe_callB _ _ _ _ _ _ _ _ _ (@call_len_seq _) rfl T.n_len PySem.boot_len (@pa_cons _ _ _ _ _ (@pe_dget _ _ _ _ _ _ hu (@pv _ 1 _ _ (by rfl) (by first | exact Or.inl rfl | exact Or.inr (Or.inl rfl) | exact Or.inr (Or.inr rfl)) (by decide) (by decide)) (@pe_str _ _ _ _) (fun _ _ => rfl)) (@pa_nil _) (by exact star_plain rfl)) (by decide) (by decide) (by exact star_plain rfl) (by exact any_plain rfl)) (by with_unfolding_all rfl)) (@pw_and1 _ _ _ _ (@pt_cmpR _ _ _ _ _ _ _ _ (@op_gt _) (@pe_op _ _ _ _ _ _ _ _ (@op_mod _) (@pe_op _ _ _ _ _ _ _ _ (@op_fdiv _) (@pv _ 0 _ _ (by rfl) (by first | exact Or.inl rfl | exact Or.inr (Or.inl rfl) | exact Or.inr (Or.inr rfl)) (by decide) (by decide)) (@pe_int _ _ _ _)) (@pe_int _ _ _ _)) (@pe_int _ _ _ _) (@nomark _ _ (by decide) (by decide)))))) (@pss_one _ _ _ (@ps_set _ _ (3) _ _ _ _ scDe.nd rfl (Or.inl rfl) (@pe_callB _ _ _ _ _ _ _ _ _ (@call_len_seq _) rfl T.n_len PySem.boot_len (@pa_cons _ _ _ _ _ (@pe_comp _ _ _ _ _ _ _ _ ([]) ([]) _ _ _ rfl (@pi_list _ _ _ _ (@pe_ix _ _ _ _ _ _ _ (@ix_list _) (@pe_dget _ _ _ _ _ _ hu (@pv _ 1 _ _ (by rfl) (by first | exact Or.inl rfl | exact Or.inr (Or.inl rfl) | exact Or.inr (Or.inr rfl)) (by decide) (by decide)) (@pe_str _ _ _ _) (fun _ _ => rfl)) (@pv _ 2 _ _ (by rfl) (by first | exact Or.inl rfl | exact Or.inr (Or.inl rfl) | exact Or.inr (Or.inr rfl)) (by decide) (by decide)) (fun _ _ => rfl))) rfl (by decide +kernel) (by decide +kernel) (by decide +kernel) (by show ∀ y : Str × NameKind, y ∈ _ → y.2 = NameKind.free → List.lookup y.1 (defScope sDeed).names = some NameKind.cell; decide +kernel) (by show ∀ p : Str × Nat, p ∈ _ → List.lookup p.1 _ = some NameKind.free ∧ (["_law_more", "_law_m", "_law_block", "_law_page"] : List Str)[p.2]? = some p.1; decide +kernel) rfl (by decide +kernel) (fun _ _ _ _ _ => (@pts_one _ _ _ (@pt_cmp _ _ _ _ _ _ (@pc_notN _ _ _ _ _ (@pv _ 0 _ _ (by rfl) (by first | exact Or.inl rfl | exact Or.inr (Or.inl rfl) | exact Or.inr (Or.inr rfl)) (by decide) (by decide))) (by first | exact nobehind _ (by decide) (by decide) | rfl)))) (fun _ _ _ _ _ => (@pe_int _ _ _ _)) (by intro _; rfl)) (@pa_nil _) (by exact star_plain rfl)) (by decide) (by decide) (by exact star_plain rfl) (by exact any_plain rfl)) (by rfl) (by first | exact .inl rfl | exact .inr rfl | assumption))) (@pss_nil _)) (@pss_cons _ _ _ _ _ (@ps_if _ _ _ _ _ _ _ _ (@pt_cmpR _ _ _ _ _ _ _ _ (@op_lt _) (@pe_op _ _ _ _ _ _ _ _ (@op_mod _) (@pv _ 0 _ _ (by rfl) (by first | exact Or.inl rfl | exact Or.inr (Or.inl rfl) | exact Or.inr (Or.inr rfl)) (by decide) (by decide)) (@pe_int _ _ _ _)) (@pe_int _ _ _ _) (@nomark _ _ (by decide) (by decide))) (@pss_one _ _ _ (@ps_ret _ _ _ _ (@pe_tup _ _ _ _ _ (@pa_cons _ _ _ _ _ (@pe_str _ _ _ _) (@pa_cons _ _ _ _ _ (@pv _ 2 _ _ (by rfl) (by first | exact Or.inl rfl | exact Or.inr (Or.inl rfl) | exact Or.inr (Or.inr rfl)) (by decide) (by decide)) (@pa_cons _ _ _ _ _ (@pv _ 3 _ _ (by rfl) (by first | exact Or.inl rfl | exact Or.inr (Or.inl rfl) | exact Or.inr (Or.inr rfl)) (by decide) (by decide)) (@pa_cons _ _ _ _ _ (@pe_tup _ _ _ _ _ (@pa_cons _ _ _ _ _ (@pe_str _ _ _ _) (@pa_cons _ _ _ _ _ (@pe_op _ _ _ _ _ _ _ _ (@op_mod _) (@pe_op _ _ _ _ _ _ _ _ (@op_fdiv _) (@pv _ 0 _ _ (by rfl) (by first | exact Or.inl rfl | exact Or.inr (Or.inl rfl) | exact Or.inr (Or.inr rfl)) (by decide) (by decide)) (@pe_op _ _ _ _ _ _ _ _ (@op_pow _) (@pe_int _ _ _ _) (@pe_int _ _ _ _))) (@pe_int _ _ _ _)) (@pa_nil _) (by exact star_plain rfl)) (by exact star_plain rfl))) (@pa_nil _) (by exact star_plain rfl)) (by exact star_plain rfl)) (by exact star_plain rfl)) (by exact star_plain rfl))))) (@pss_nil _)) (@pss_cons _ _ _ _ _ (@ps_if _ _ _ _ _ _ _ _ (@pt_cmpR _ _ _ _ _ _ _ _ (@op_lt _) (@pe_op _ _ _ _ _ _ _ _ (@op_mod _) (@pv _ 0 _ _ (by rfl) (by first | exact Or.inl rfl | exact Or.inr (Or.inl rfl) | exact Or.inr (Or.inr rfl)) (by decide) (by decide)) (@pe_int _ _ _ _)) (@pe_int _ _ _ _) (@nomark _ _ (by decide) (by decide))) (@pss_one _ _ _ (@ps_ret _ _ _ _ (@pe_tup _ _ _ _ _ (@pa_cons _ _ _ _ _ (@pe_str _ _ _ _) (@pa_cons _ _ _ _ _ (@pv _ 2 _ _ (by rfl) (by first | exact Or.inl rfl | exact Or.inr (Or.inl rfl) | exact Or.inr (Or.inr rfl)) (by decide) (by decide)) (@pa_nil _) (by exact star_plain rfl)) (by exact star_plain rfl))))) (@pss_nil _)) (@pss_one _ _ _ (@ps_ret _ _ _ _ (@pe_tup _ _ _ _ _ (@pa_cons _ _ _ _ _ (@pe_str _ _ _ _) (@pa_cons _ _ _ _ _ (@pe_ix _ _ _ _ _ _ _ (@ix_list _) (@pe_lst _ _ _ _ (@pa_cons _ _ _ _ _ (@pe_non _ _ _) (@pa_cons _ _ _ _ _ (@pe_op _ _ _ _ _ _ _ _ (@op_mod _) (@pe_op _ _ _ _ _ _ _ _ (@op_fdiv _) (@pv _ 0 _ _ (by rfl) (by first | exact Or.inl rfl | exact Or.inr (Or.inl rfl) | exact Or.inr (Or.inr rfl)) (by decide) (by decide)) (@pe_op _ _ _ _ _ _ _ _ (@op_pow _) (@pe_int _ _ _ _) (@pe_int _ _ _ _))) (@pe_int _ _ _ _)) (@pa_cons _ _ _ _ _ (@pe_int _ _ _ _) (@pa_nil _) (by exact star_plain rfl)) (by exact star_plain rfl)) (by exact star_plain rfl))) (@pe_op _ _ _ _ _ _ _ _ (@op_mod _) (@pe_op _ _ _ _ _ _ _ _ (@op_fdiv _) (@pv _ 0 _ _ (by rfl) (by first | exact Or.inl rfl | exact Or.inr (Or.inl rfl) | exact Or.inr (Or.inr rfl)) (by decide) (by decide)) (@pe_int _ _ _ _)) (@pe_int _ _ _ _)) (fun _ _ => rfl)) (@pa_nil _) (by exact star_plain rfl)) (by exact star_plain rfl)))))))))), ?_⟩
    refine ⟨_, rfl, _, _, rfl, rfl, ⟨by decide, by decide⟩, _, rfl, d, _, rfl, A1.g_rows, hl, _, rfl, .inl (SqL.of A1.bx.hd), _, _, rfl, rfl, by rw [len1]; have := W.b1; omega, _, rfl, _, _, rfl, rfl, ⟨by decide, by decide⟩, _, _, rfl, rfl, by show (0 : Int) < 40; decide, _, _, rfl, rfl, by show 2 ≤ sizeLine; decide, fun l1 n1 => ?_⟩
    have s1 := same_new (o := .lst [.int (z / 8 % ((rl.map V.ref).length : Int)), .int (z / 8 % 40 - 4)]) n1
    obtain ⟨bk, hbk⟩ : ∃ bk, atI [V.int (z / 8 % ((rl.map V.ref).length : Int)), V.int (z / 8 % 40 - 4)] (if decide (V.int (z / 512 % 9) = V.int 0) = true then 1 else 0) = some (.int bk) := by
      cases decide (V.int (z / 512 % 9) = V.int 0)
      · exact ⟨_, at0⟩
      · exact ⟨_, at1⟩
    refine ⟨_, rfl, _, _, rfl, rfl, ⟨by decide, by decide⟩, _, _, rfl, rfl, by show (0 : Int) < 9; decide, rfl, .inr ⟨_, rfl, l1, _, _, _, rfl, rfl, SqL.of upd_same, hbk, ?_⟩⟩
    generalize upd H l1 _ = H1 at s1 ⊢
    refine with_rest2 (α := Int) (R := ?R) (Pr := fun _ H3 => Same H H3) (fun rest => ?main) (fun p3 H3 s3 => ?rest)
    case main =>
      obtain ⟨pg, hpg⟩ : ∃ pg, atI [V.int (z / 4096 % 18 - 1), V.int 0] (z / 512 % 2) = some (.int pg) := by
        rcases Int.emod_two_eq (z / 512) with e | e <;> rw [e]
        · exact ⟨_, at0⟩
        · exact ⟨_, at1⟩
      refine ⟨_, rfl, _, _, rfl, rfl, ⟨by decide, by decide⟩, _, _, rfl, rfl, by show (0 : Int) < 18; decide, _, _, rfl, rfl, by show 2 ≤ sizeLine; decide, fun l2 n2 => ⟨_, rfl, _, _, rfl, rfl, ⟨by decide, by decide⟩, _, _, rfl, rfl, by show (0 : Int) < 2; decide, .inl ⟨_, rfl, l2, _, _, _, rfl, rfl, SqL.of upd_same, hpg, ?_⟩⟩⟩
      have s2 := s1.trans (same_new (o := .lst [.int (z / 4096 % 18 - 1), .int 0]) n2)
      generalize upd H1 l2 _ = H2 at s2 ⊢
      have A2 := A1.same s2
      refine ⟨_, rfl, _, _, rfl, rfl, _, rfl, ite2 (fun h0 => ?_) fun h0 => ⟨_, rfl, iteF (iteF ?_)⟩⟩
      rotate_left
      · exact rest pg H2 s2
      refine ⟨_, rfl, d, _, rfl, A2.g_rows, hl, _, rfl, .inl (SqL.of A2.bx.hd), _, _, rfl, rfl, _, rfl, ite2 (fun h1 => ?_) fun h1 => iteF (rest pg H2 s2)⟩
      refine ⟨_, rfl, _, _, rfl, rfl, ⟨by decide, by decide⟩, _, _, rfl, rfl, by show (0 : Int) < 3; decide, _, _, rfl, rfl, _, rfl, ite2 (fun h2 => ?_) fun h2 => rest pg H2 s2⟩
      have hb : S.okB bk := ⟨of_decide_eq_true h0, by have := of_decide_eq_true h1; rw [len1] at this; exact this⟩
      obtain ⟨r1, r2, r3⟩ := W.row hb
      obtain ⟨a, ea, ha⟩ := A2.bx.rw.row r1
      refine comp_pure_list a (S.row bk) (by rw [r2]; have := W.p2; omega) (SqL.of ha) (fun R q => ⟨_, rfl, d, _, rfl, A2.g_rows, _, rfl, hl, _, _, _, rfl, rfl, SqL.of A2.bx.hd, atI_of hb.1 (by rw [List.getElem?_map, ea]; rfl), q⟩) (fun v => !decide (v = .non)) (fun _ => .int 1) (fun i y H3 R ey s3 q => ⟨_, rfl, _, rfl, q⟩) (fun i y H3 R ey _ s3 q => q) fun acc nacc => ?_
      refine ⟨acc, _, rfl, .inl (SqL.of upd_same), ?_⟩
      have s3 := s2.trans (same_new (o := .lst (((S.row bk).filter fun v => !decide (v = V.non)).map fun _ => V.int 1)) nacc)
      generalize upd H2 acc _ = H3 at s3 ⊢
      exact rest _ H3 s3
    case rest =>
      refine ⟨_, rfl, _, _, rfl, rfl, by show (0 : Int) < 8; decide, _, _, rfl, rfl, _, rfl, ite2 (fun _ => ?_) fun _ => ?_⟩
      · refine ⟨_, rfl, _, rfl, _, rfl, _, _, rfl, rfl, ⟨by decide, by decide, by decide⟩, _, _, rfl, rfl, ⟨by decide, by decide⟩, _, _, rfl, rfl, by show (0 : Int) < 1000; decide, by show 2 ≤ sizeLine; decide, fun tt ntt => ⟨by show 4 ≤ sizeLine; decide, fun t nt => ?_⟩⟩
        exact h _ t (.write bk p3 (.ref tt)) rfl ((s3.trans (same_new ntt)).free nt) upd_same (s3.trans ((same_new ntt).trans (same_new nt)))
      refine ⟨_, rfl, _, _, rfl, rfl, by show (0 : Int) < 8; decide, _, _, rfl, rfl, _, rfl, ite2 (fun _ => ?_) fun _ => ?_⟩
      · refine ⟨_, rfl, by show 2 ≤ sizeLine; decide, fun t nt => ?_⟩
        exact h _ t (.erase bk) True.intro (s3.free nt) upd_same (s3.trans (same_new nt))
      · obtain ⟨l, l0, hl⟩ : ∃ l : Option Int, (∀ k, l = some k → 0 ≤ k) ∧ atI [V.non, V.int (z / 2 ^ 20 % 12), V.int 0] (z / 512 % 3) = some (leftV l) := by
          have e : z / 512 % 3 = 0 ∨ z / 512 % 3 = 1 ∨ z / 512 % 3 = 2 := by omega
          rcases e with e | e | e <;> rw [e]
          · exact ⟨none, fun k z => (by cases z), at0⟩
          · exact ⟨some (z / 2 ^ 20 % 12), fun k z => by cases z; exact Int.emod_nonneg _ (by decide), at1⟩
          · exact ⟨some 0, fun k z => by cases z; decide, at2⟩
        refine ⟨_, rfl, _, _, rfl, rfl, ⟨by decide, by decide, by decide⟩, _, _, rfl, rfl, ⟨by decide, by decide⟩, _, _, rfl, rfl, by show (0 : Int) < 12; decide, by show 3 ≤ sizeLine; decide, fun l3 n3 => ⟨_, rfl, _, _, rfl, rfl, ⟨by decide, by decide⟩, _, _, rfl, rfl, by show (0 : Int) < 3; decide, l3, _, _, _, rfl, rfl, SqL.of upd_same, hl, by show 2 ≤ sizeLine; decide, fun t nt => ?_⟩⟩
        exact h _ t (.power l) l0 ((s3.trans (same_new n3)).free nt) upd_same (s3.trans ((same_new n3).trans (same_new nt)))
def spRight (C : Addr) : Sp := fun vs H Q _ => ∃ (p d : Addr) (S : CS) (hl el : Addr) (rl : List Addr) (hl' el' : Addr) (rl' : List Addr), vs = [.ref p, .ref d] ∧ ChipAt C H p S hl el rl ∧ OwnAt H d S hl' el' rl' ∧ ∀ H', Same H H' → Q (.bl true) H'
theorem scRi : FnScope ["_law_chip", "_law_m", "_law_blocks", "_law_pages", "_law_block"] ["_law_chip", "_law_m"] (defScope sRight) := ⟨rfl, rfl, rfl, by decide +kernel, rfl, by decide +kernel, by decide +kernel⟩
theorem row_all {S : CS} {b : Int} (h : (S.row b).length = S.np) : ((((List.range S.np).map fun i : Nat => V.int (i : Int)).filter fun _ => true).map fun v => match v with | .int i => (S.row b).getD i.toNat .non | _ => .non) = S.row b := by
  rw [List.filter_eq_self.mpr fun _ _ => rfl, List.map_map]
  refine List.ext_getElem? fun i => ?_
  by_cases hi : i < S.np
  · rw [List.getElem?_map, List.getElem?_range hi]
    have hi' : i < (S.row b).length := by rw [h]; exact hi
    show some ((S.row b).getD (i : Int).toNat .non) = _
    rw [Int.toNat_natCast, List.getD_eq_getElem?_getD, List.getElem?_eq_getElem hi']
    rfl
  · rw [List.getElem?_eq_none (by simp; omega), List.getElem?_eq_none (by omega)]
theorem ok_right {f : Addr} {fd : FuncData} (F : Fun K "_law_right" "_law_right" sRight f fd) (T : Txt K mg C cBS cNP cNE cNS cBC cCu cWE)
    (M_size : MtB P w K mg base C 51 "size" ["self"] (spSize C)) (M_written : MtB P w K mg base C 51 "written" ["self"] (spWritten C)) (M_worn : MtB P w K mg base C 52 "worn" ["self", "block"] (spWorn C cNP)) (M_page : MtB P w K mg base C 53 "page" ["self", "block", "page"] (spPage C cNP)) :
    FnOk P w K mg base (CXw P w) 54 f fd ["_law_chip", "_law_m"] (spRight C) := by
  refine F.okX (by decide) scRi (fun vs H Q E h => ?_) (fun cdv A outer s H vs Q E hr h => ?_)
  · obtain ⟨p, d, S, hl, el, rl, hl', el', rl', rfl, _⟩ := h
    rfl
  · obtain ⟨p, d, S, hl, el, rl, hl', el', rl', rfl, A1, O1, h⟩ := h
    have hu0 := hr.units0
    have hu := hu_of hr
    have W := A1.wf
    have len1 : ((rl'.map V.ref).length : Int) = S.nb := by rw [List.length_map, O1.bx.rw.ln, W.rl]
    have b0 : S.okB 0 := ⟨by decide, by have := W.b1; omega⟩
    obtain ⟨r1, r2, r3⟩ := W.row b0
    obtain ⟨a0, ea0, ha0⟩ := O1.bx.rw.row r1
    obtain ⟨dx, h1⟩ := A1.ob
    refine ⟨_, (@pss_cons _ _ _ _ _ (@ps_set _ _ (2) _ _ _ _ scRi.nd rfl (Or.inl rfl) (@pe_callB _ _ _ _ _ _ _ _ _ (@call_len_seq _) rfl T.n_len PySem.boot_len (@pa_cons _ _ _ _ _ (@pe_dget _ _ _ _ _ _ hu (@pv _ 1 _ _ (by rfl) (by first | exact Or.inl rfl | exact Or.inr (Or.inl rfl) | exact Or.inr (Or.inr rfl)) (by decide) (by decide)) (@pe_str _ _ _ _) (fun _ _ => rfl)) (@pa_nil _) (by exact star_plain rfl)) (by decide) (by decide) (by exact star_plain rfl) (by exact any_plain rfl)) (by rfl) (by first | exact .inl rfl | exact .inr rfl | assumption)) (@pss_cons _ _ _ _ _ (@ps_set _ _ (3) _ _ _ _ scRi.nd rfl (Or.inl rfl) (@pe_callB _ _ _ _ _ _ _ _ _ (@call_len_seq _) rfl T.n_len PySem.boot_len (@pa_cons _ _ _ _ _ (@pe_ix _ _ _ _ _ _ _ (@ix_list _) (@pe_dget _ _ _ _ _ _ hu (@pv _ 1 _ _ (by rfl) (by first | exact Or.inl rfl | exact Or.inr (Or.inl rfl) | exact Or.inr (Or.inr rfl)) (by decide) (by decide)) (@pe_str _ _ _ _) (fun _ _ => rfl)) (@pe_int _ _ _ _) (fun _ _ => rfl)) (@pa_nil _) (by exact star_plain rfl)) (by decide) (by decide) (by exact star_plain rfl) (by exact any_plain rfl)) (by rfl) (by first | exact .inl rfl | exact .inr rfl | assumption)) (@pss_cons _ _ _ _ _ (@ps_if _ _ _ _ _ _ _ _ (PW.pt (@pw_or _ _ _ _ _ _ _ (@pt_cmpR _ _ _ _ _ _ _ _ (@op_neT _ hu0) (@pe_methF0 _ _ _ _ _ _ _ _ _ _ _ _ T.cl M_size (hr.mono (by decide)) (@passE _ _ _) (@pv _ 0 _ _ (by rfl) (by first | exact Or.inl rfl | exact Or.inr (Or.inl rfl) | exact Or.inr (Or.inr rfl)) (by decide) (by decide)) (by rfl)) (@pe_tup _ _ _ _ _ (@pa_cons _ _ _ _ _ (@pv _ 2 _ _ (by rfl) (by first | exact Or.inl rfl | exact Or.inr (Or.inl rfl) | exact Or.inr (Or.inr rfl)) (by decide) (by decide)) (@pa_cons _ _ _ _ _ (@pv _ 3 _ _ (by rfl) (by first | exact Or.inl rfl | exact Or.inr (Or.inl rfl) | exact Or.inr (Or.inr rfl)) (by decide) (by decide)) (@pa_nil _) (by exact star_plain rfl)) (by exact star_plain rfl))) (@nomark _ _ (by decide) (by decide))) (@pw_or1 _ _ _ _ (@pt_cmpR _ _ _ _ _ _ _ _ (@op_ne _) (@pe_methF0 _ _ _ _ _ _ _ _ _ _ _ _ T.cl M_written (hr.mono (by decide)) (@passE _ _ _) (@pv _ 0 _ _ (by rfl) (by first | exact Or.inl rfl | exact Or.inr (Or.inl rfl) | exact Or.inr (Or.inr rfl)) (by decide) (by decide)) (by rfl)) (@pe_dget _ _ _ _ _ _ hu (@pv _ 1 _ _ (by rfl) (by first | exact Or.inl rfl | exact Or.inr (Or.inl rfl) | exact Or.inr (Or.inr rfl)) (by decide) (by decide)) (@pe_str _ _ _ _) (fun _ _ => rfl)) (@nomark _ _ (by decide) (by decide)))))) (@pss_one _ _ _ (@ps_ret _ _ _ _ (@pe_bl _ _ _ _))) (@pss_nil _)) (@pss_cons _ _ _ _ _ (@ps_for _ _ _ _ _ _ _ _ PassesOwn.leaving rfl (@pi_range1 _ _ _ _ _ _ rfl T.n_range (@pa_cons _ _ _ _ _ (@pv _ 2 _ _ (by rfl) (by first | exact Or.inl rfl | exact Or.inr (Or.inl rfl) | exact Or.inr (Or.inr rfl)) (by decide) (by decide)) (@pa_nil _) (by exact star_plain rfl)) (by exact star_plain rfl)) (@pg_name _ _ (4) _ scRi.nd rfl (Or.inr rfl) (by first | exact .inl rfl | exact .inr rfl | assumption)) (@pss_cons _ _ _ _ _ (@ps_if _ _ _ _ _ _ _ _ (@pt_cmpR _ _ _ _ _ _ _ _ (@op_ne _) (@pe_methF _ _ _ _ _ _ _ _ _ _ _ _ _ _ _ T.cl M_worn (hr.mono (by decide)) passes_w (@pv _ 0 _ _ (by rfl) (by first | exact Or.inl rfl | exact Or.inr (Or.inl rfl) | exact Or.inr (Or.inr rfl)) (by decide) (by decide)) (@pa_cons _ _ _ _ _ (@pv _ 4 _ _ (by rfl) (by first | exact Or.inl rfl | exact Or.inr (Or.inl rfl) | exact Or.inr (Or.inr rfl)) (by decide) (by decide)) (@pa_nil _) (by exact star_plain rfl)) (by exact star_plain rfl) (by exact any_plain rfl) (by rfl)) (@pe_ix _ _ _ _ _ _ _ (@ix_list _) (@pe_dget _ _ _ _ _ _ hu (@pv _ 1 _ _ (by rfl) (by first | exact Or.inl rfl | exact Or.inr (Or.inl rfl) | exact Or.inr (Or.inr rfl)) (by decide) (by decide)) (@pe_str _ _ _ _) (fun _ _ => rfl)) (@pv _ 4 _ _ (by rfl) (by first | exact Or.inl rfl | exact Or.inr (Or.inl rfl) | exact Or.inr (Or.inr rfl)) (by decide) (by decide)) (fun _ _ => rfl)) (@nomark _ _ (by decide) (by decide))) (@pss_one _ _ _ (@ps_ret _ _ _ _ (@pe_bl _ _ _ _))) (@pss_nil _)) (@pss_one _ _ _ (@ps_if _ _ _ _ _ _ _ _ (@pt_cmpR _ _ _ _ _ _ _ _ (@op_neL _ hu0) (@pe_comp _ _ _ _ _ _ _ _ ([4, 0]) (["_law_block", "_law_chip"]) _ _ _ rfl (@pi_range1 _ _ _ _ _ _ rfl T.n_range (@pa_cons _ _ _ _ _ (@pv _ 3 _ _ (by rfl) (by first | exact Or.inl rfl | exact Or.inr (Or.inl rfl) | exact Or.inr (Or.inr rfl)) (by decide) (by decide)) (@pa_nil _) (by exact star_plain rfl)) (by exact star_plain rfl)) rfl (by decide +kernel) (by decide +kernel) (by decide +kernel) (by show ∀ y : Str × NameKind, y ∈ _ → y.2 = NameKind.free → List.lookup y.1 (defScope sRight).names = some NameKind.cell; decide +kernel) (by show ∀ p : Str × Nat, p ∈ _ → List.lookup p.1 _ = some NameKind.free ∧ (["_law_chip", "_law_m", "_law_blocks", "_law_pages", "_law_block"] : List Str)[p.2]? = some p.1; decide +kernel) rfl (by decide +kernel) (fun _ _ _ _ _ => (@pts_nil _)) (fun _ _ _ _ _ => (@pe_methF _ _ _ _ _ _ _ _ _ _ _ _ _ _ _ T.cl M_page (hr.mono (by decide)) (@passE _ _ _) (@pv _ 2 _ _ (by rfl) (by first | exact Or.inl rfl | exact Or.inr (Or.inl rfl) | exact Or.inr (Or.inr rfl)) (by decide) (by decide)) (@pa_cons _ _ _ _ _ (@pv _ 1 _ _ (by rfl) (by first | exact Or.inl rfl | exact Or.inr (Or.inl rfl) | exact Or.inr (Or.inr rfl)) (by decide) (by decide)) (@pa_cons _ _ _ _ _ (@pv _ 0 _ _ (by rfl) (by first | exact Or.inl rfl | exact Or.inr (Or.inl rfl) | exact Or.inr (Or.inr rfl)) (by decide) (by decide)) (@pa_nil _) (by exact star_plain rfl)) (by exact star_plain rfl)) (by exact star_plain rfl) (by exact any_plain rfl) (by rfl))) (by intro _; rfl)) (@pe_ix _ _ _ _ _ _ _ (@ix_list _) (@pe_dget _ _ _ _ _ _ hu (@pv _ 1 _ _ (by rfl) (by first | exact Or.inl rfl | exact Or.inr (Or.inl rfl) | exact Or.inr (Or.inr rfl)) (by decide) (by decide)) (@pe_str _ _ _ _) (fun _ _ => rfl)) (@pv _ 4 _ _ (by rfl) (by first | exact Or.inl rfl | exact Or.inr (Or.inl rfl) | exact Or.inr (Or.inr rfl)) (by decide) (by decide)) (fun _ _ => rfl)) (@nomark _ _ (by decide) (by decide))) (@pss_one _ _ _ (@ps_ret _ _ _ _ (@pe_bl _ _ _ _))) (@pss_nil _)))) (by intro _; rfl)) (@pss_one _ _ _ (@ps_ret _ _ _ _ (@pe_bl _ _ _ _))))))), ?_⟩
    refine ⟨_, rfl, d, _, rfl, O1.g_rows, hl', _, rfl, .inl (SqL.of O1.bx.hd), ?_⟩
    rw [len1]
    refine ⟨_, rfl, d, _, rfl, O1.g_rows, hl', _, _, _, rfl, rfl, SqL.of O1.bx.hd, atI_of (by decide) (by rw [List.getElem?_map, ea0]; rfl), a0, _, rfl, .inl (SqL.of ha0), ?_⟩
    rw [r2]
    refine ⟨_, rfl, p, dx, _, rfl, h1, rfl, p, S, hl, el, rl, rfl, A1, fun t nt => ⟨_, rfl, _, rfl, by show 2 ≤ sizeLine; decide, fun t2 nt2 => ⟨t, t2, _, _, rfl, rfl, SqT.of (same_new nt2 _ _ upd_same), SqT.of upd_same, rfl, rfl, _, rfl, iteF ?_⟩⟩⟩
    have s2 := (same_new (o := .tup [.int S.nb, .int S.np]) nt).trans (same_new (o := .tup [.int S.nb, .int S.np]) nt2)
    generalize upd (upd H t _) t2 _ = H2 at s2 ⊢
    have A2 := A1.same s2
    have O2 := O1.same s2
    have h2 := s2 _ _ h1
    refine ⟨_, rfl, p, dx, _, rfl, h2, rfl, p, S, hl, el, rl, rfl, A2, _, rfl, d, _, rfl, O2.g_many, rfl, _, rfl, iteN rfl ?_⟩
    have nb2 := W.b2
    have np2 := W.p2
    refine ⟨_, rfl, (S.nb : Int), rfl, by omega, by omega, for_range (lo := 0) (n := (S.nb : Int).toNat) (fun i σ H3 => Same H2 H3 ∧ ∃ v, σ = [some (.ref p), some (.ref d), some (.int S.nb), some (.int S.np), v]) ⟨Same.refl _, none, rfl⟩ ?_ ?_⟩
    · rintro i σ H3 hi ⟨s3, v, rfl⟩
      rw [Int.zero_add]
      have A3 := A2.same s3
      have O3 := O2.same s3
      have h3 := s3 _ _ h2
      have hb : S.okB (i : Int) := ⟨by omega, by omega⟩
      obtain ⟨q1, q2, q3⟩ := W.row hb
      obtain ⟨a, ea, ha⟩ := O3.bx.rw.row q1
      refine ⟨_, rfl, p, dx, _, rfl, h3, rfl, _, rfl, p, (i : Int), S, hl, el, rl, rfl, A3, ?_⟩
      rw [if_pos hb]
      refine ⟨_, rfl, d, _, rfl, O3.g_worn, _, rfl, el', _, _, _, rfl, rfl, SqL.of O3.bx.er, atI_of hb.1 (by rw [List.getElem?_map, W.worn_at hb]; rfl), rfl, _, rfl, iteN rfl ?_⟩
      refine comp_pure_range S.np (by omega) (fun R q => ⟨_, rfl, q⟩) (fun _ => true) (fun v => match v with | .int j => (S.row i).getD j.toNat .non | _ => .non) (fun j H4 R hj s4 q => q) (fun j H4 R hj _ s4 q => ?_) fun acc nacc => ?_
      · refine ⟨_, rfl, p, dx, _, rfl, s4 _ _ h3, rfl, _, rfl, _, rfl, p, (i : Int), (j : Int), S, hl, el, rl, rfl, A3.same s4, ?_⟩
        rw [if_pos ⟨hb, by omega, by omega⟩]
        exact q
      have s4 := same_new (o := .lst ((((List.range S.np).map fun i : Nat => V.int (i : Int)).filter fun _ => true).map fun v => match v with | .int j => (S.row i).getD j.toNat .non | _ => .non)) nacc
      have O4 := O3.same s4
      refine ⟨_, rfl, d, _, rfl, O4.g_rows, _, rfl, hl', _, _, _, rfl, rfl, SqL.of O4.bx.hd, atI_of hb.1 (by rw [List.getElem?_map, ea]; rfl), acc, a, _, _, rfl, rfl, SqL.of upd_same, SqL.of (s4 _ _ ha), .inl ⟨row_all q2, by rw [row_all q2]; exact q3, _, rfl, iteF ⟨s3.trans s4, _, rfl⟩⟩⟩
    · rintro σ H3 ⟨s3, v, rfl⟩
      exact h H3 (s2.trans s3)
end
end Ev

set_option Elab.async false
set_option linter.all false
set_option maxRecDepth 100000
set_option maxHeartbeats 4000000
namespace Ev
open PySem L2
/-! ### chips and the law's own, side by side -/
structure Pair where
  p : Addr
  S : CS
  hl : Addr
  el : Addr
  rl : List Addr
  d : Addr
  hl' : Addr
  el' : Addr
  rl' : List Addr
def Pair.fc (x : Pair) : List Addr := fpC x.p x.hl x.el x.rl
def Pair.fo (x : Pair) : List Addr := fpO x.d x.hl' x.el' x.rl'
def Apart (l m : List Addr) : Prop := ∀ a, a ∈ l → a ∉ m
structure Pair.Ok (C : Addr) (H : Hp) (x : Pair) : Prop where
  c : ChipAt C H x.p x.S x.hl x.el x.rl
  o : OwnAt H x.d x.S x.hl' x.el' x.rl'
  ap : Apart x.fc x.fo
def Pair.all (x : Pair) : List Addr := x.fc ++ x.fo
def isFrz : HO → Bool
  | .frz _ _ => true
  | _ => false
theorem ChipAt.tr' {C : Addr} {H : Hp} {p : Addr} {S : CS} {hl el : Addr} {rl : List Addr} (A : ChipAt C H p S hl el rl) {b : Addr} (m : b ∈ fpC p hl el rl) : ∃ o, H b = some o ∧ isFrz o = false := by
  rcases List.mem_cons.mp m with z | m
  · subst z; obtain ⟨dx, e⟩ := A.ob; exact ⟨_, e, rfl⟩
  rcases List.mem_cons.mp m with z | m
  · subst z; exact ⟨_, A.hd, rfl⟩
  rcases List.mem_cons.mp m with z | m
  · subst z; exact ⟨_, A.er, rfl⟩
  obtain ⟨i, hi, e⟩ := List.mem_iff_getElem.mp m
  obtain ⟨r, _, h⟩ := A.rw.at_ i b (by rw [← e]; simp [hi])
  exact ⟨_, h, rfl⟩
theorem OwnAt.tr' {H : Hp} {d : Addr} {S : CS} {hl el : Addr} {rl : List Addr} (A : OwnAt H d S hl el rl) {b : Addr} (m : b ∈ fpO d hl el rl) : ∃ o, H b = some o ∧ isFrz o = false := by
  rcases List.mem_cons.mp m with z | m
  · subst z; exact ⟨_, A.ob, rfl⟩
  obtain ⟨l, e⟩ := A.bx.lst m
  exact ⟨_, e, rfl⟩
theorem Pair.Ok.tr {C : Addr} {H : Hp} {x : Pair} (k : x.Ok C H) {b : Addr} (m : b ∈ x.all) : ∃ o, H b = some o ∧ isFrz o = false := by
  rcases List.mem_append.mp m with m | m
  · exact k.c.tr' m
  · exact k.o.tr' m
theorem Pair.Ok.keep {C : Addr} {H H' : Hp} {x : Pair} (k : x.Ok C H) (s : ∀ b ∈ x.all, ∀ o, H b = some o → H' b = some o) : x.Ok C H' :=
  ⟨k.c.keep fun b m => s b (List.mem_append_left _ m), k.o.keep fun b m => s b (List.mem_append_right _ m), k.ap⟩
/-- the script -/
def Scr (K : PySem.W.Frag) (H : Hp) (a : Addr) (ns : List Int) : Prop := (∃ o, H a = some (.frz o (.lst (ns.map V.int)))) ∨ SqL K (fun _ => none) a (ns.map V.int)
theorem Scr.seq {K : PySem.W.Frag} {H : Hp} {a : Addr} {ns : List Int} (h : Scr K H a ns) : SqL K H a (ns.map V.int) := by
  rcases h with ⟨o, h⟩ | h
  · exact .inl (.inr ⟨o, h⟩)
  · rcases h with (h | ⟨o, h⟩) | h
    · cases h
    · cases h
    · exact .inr h
theorem Scr.same {K : PySem.W.Frag} {H H' : Hp} {a : Addr} {ns : List Int} (h : Scr K H a ns) (s : Same H H') : Scr K H' a ns := by
  rcases h with ⟨o, h⟩ | h
  · exact .inl ⟨o, s _ _ h⟩
  · exact .inr h
theorem Scr.but {K : PySem.W.Frag} {H H' : Hp} {a : Addr} {ns : List Int} {fp : List Addr} (h : Scr K H a ns) (s : SameBut fp H H') (t : ∀ b ∈ fp, ∃ o, H b = some o ∧ isFrz o = false) : Scr K H' a ns := by
  rcases h with ⟨o, h⟩ | h
  · refine .inl ⟨o, s _ _ h fun m => ?_⟩
    obtain ⟨u, e, z⟩ := t a m
    rw [h] at e
    cases e
    cases z
  · exact .inr h
structure Good (C : Addr) (H : Hp) (cl bl : Addr) (Ps : List Pair) : Prop where
  hc : H cl = some (.lst (Ps.map fun x => V.ref x.p))
  hb : H bl = some (.lst (Ps.map fun x => V.ref x.d))
  ne : cl ≠ bl
  ok : ∀ (i : Nat) (x : Pair), Ps[i]? = some x → x.Ok C H ∧ cl ∉ x.all ∧ bl ∉ x.all
  ap : ∀ (i j : Nat) (x y : Pair), Ps[i]? = some x → Ps[j]? = some y → i ≠ j → Apart x.all y.all
theorem Good.same {C : Addr} {H H' : Hp} {cl bl : Addr} {Ps : List Pair} (g : Good C H cl bl Ps) (s : Same H H') : Good C H' cl bl Ps :=
  ⟨s _ _ g.hc, s _ _ g.hb, g.ne, fun i x e => ⟨(g.ok i x e).1.keep fun b _ o z => s b o z, (g.ok i x e).2⟩, g.ap⟩
/-- one pair has done a deed -/
theorem Good.did {C : Addr} {H H1 H2 : Hp} {cl bl : Addr} {Ps : List Pair} (g : Good C H cl bl Ps) {i : Nat} {x : Pair} (e : Ps[i]? = some x) {S' : CS} {rl rl' : List Addr}
    (A : ChipAt C H1 x.p S' x.hl x.el rl) (D : Did H H1 x.fc (fpC x.p x.hl x.el rl)) (O : OwnAt H2 x.d S' x.hl' x.el' rl') (D' : Did H1 H2 x.fo (fpO x.d x.hl' x.el' rl')) :
    Good C H2 cl bl (Ps.set i { x with S := S', rl := rl, rl' := rl' }) ∧ ∀ b o, H b = some o → b ∉ x.all → H2 b = some o := by
  obtain ⟨k, nc, nb⟩ := g.ok i x e
  have keep : ∀ b o, H b = some o → b ∉ x.all → H2 b = some o := fun b o z n => D'.keep b o (D.keep b o z fun m => n (List.mem_append_left _ m)) fun m => n (List.mem_append_right _ m)
  have hi := (List.getElem?_eq_some_iff.mp e).1
  -- where the new footprint lies
  have fresh : ∀ b, b ∈ fpC x.p x.hl x.el rl ++ fpO x.d x.hl' x.el' rl' → b ∈ x.all ∨ H b = none := fun b m => by
    rcases List.mem_append.mp m with m | m
    · rcases D.new b m with z | z
      · exact .inl (List.mem_append_left _ z)
      · exact .inr z
    · rcases D'.new b m with z | z
      · exact .inl (List.mem_append_right _ z)
      · by_cases y : b ∈ x.fc
        · exact .inl (List.mem_append_left _ y)
        · cases q : H b with
          | none => exact .inr rfl
          | some o =>
            have := D.keep b o q y
            rw [z] at this
            cases this
  have apart : ∀ (j : Nat) (y : Pair), Ps[j]? = some y → i ≠ j → Apart (fpC x.p x.hl x.el rl ++ fpO x.d x.hl' x.el' rl') y.all := fun j y ey ne b m m' => by
    rcases fresh b m with z | z
    · exact g.ap i j x y e ey ne b z m'
    · obtain ⟨o, q, _⟩ := (g.ok j y ey).1.tr m'
      rw [z] at q
      cases q
  have out : ∀ b o, H b = some o → b ∉ x.all → b ∉ fpC x.p x.hl x.el rl ++ fpO x.d x.hl' x.el' rl' := fun b o q n m => by
    rcases fresh b m with z | z
    · exact n z
    · rw [z] at q
      cases q
  have get : ∀ {j : Nat} {y : Pair}, (Ps.set i { x with S := S', rl := rl, rl' := rl' })[j]? = some y → (j = i ∧ y = { x with S := S', rl := rl, rl' := rl' }) ∨ (j ≠ i ∧ Ps[j]? = some y) := fun {j y} ey => by
    by_cases z : i = j
    · subst z
      rw [List.getElem?_set_self hi] at ey
      exact .inl ⟨rfl, (Option.some.inj ey).symm⟩
    · rw [List.getElem?_set_ne z] at ey
      exact .inr ⟨Ne.symm z, ey⟩
  have me : ∀ (f : Pair → V), f { x with S := S', rl := rl, rl' := rl' } = f x → (Ps.set i { x with S := S', rl := rl, rl' := rl' }).map f = Ps.map f := fun f hf => by
    rw [List.map_set, hf]
    refine List.ext_getElem? fun j => ?_
    by_cases z : i = j
    · subst z
      rw [List.getElem?_set_self (by rw [List.length_map]; exact hi), List.getElem?_map, e]
      rfl
    · rw [List.getElem?_set_ne z]
  refine ⟨⟨?_, ?_, g.ne, fun j y ey => ?_, fun j l y z ey ez ne => ?_⟩, keep⟩
  · rw [me _ rfl]
    exact keep _ _ g.hc nc
  · rw [me _ rfl]
    exact keep _ _ g.hb nb
  · rcases get ey with ⟨rfl, rfl⟩ | ⟨ne, ey⟩
    · refine ⟨⟨A.keep fun b m o q => ?_, O, fun b m m' => ?_⟩, out _ _ g.hc nc, out _ _ g.hb nb⟩
      · refine D'.keep b o q fun mo => ?_
        rcases D.new b m with z | z
        · exact k.ap b z mo
        · obtain ⟨u, q', _⟩ := k.o.tr' mo
          rw [z] at q'
          cases q'
      · rcases D'.new b m' with z | z
        · rcases D.new b m with y | y
          · exact k.ap b y z
          · obtain ⟨u, q', _⟩ := k.o.tr' z
            rw [y] at q'
            cases q'
        · obtain ⟨u, q', _⟩ := A.tr' m
          rw [z] at q'
          cases q'
    · obtain ⟨ky, cy, by_⟩ := g.ok j y ey
      exact ⟨ky.keep fun b m o q => keep b o q fun m' => g.ap i j x y e ey (Ne.symm ne) b m' m, cy, by_⟩
  · rcases get ey with ⟨rfl, rfl⟩ | ⟨ne1, ey⟩
    · rcases get ez with ⟨rfl, rfl⟩ | ⟨ne2, ez⟩
      · exact absurd rfl ne
      · exact apart l z ez (Ne.symm ne2)
    · rcases get ez with ⟨rfl, rfl⟩ | ⟨ne2, ez⟩
      · exact fun b m m' => apart j y (by assumption) (Ne.symm ne1) b m' m
      · exact g.ap j l y z ey ez ne
/-- one more pair -/
theorem Good.add {C : Addr} {H H' : Hp} {cl bl : Addr} {Ps : List Pair} (g : Good C H cl bl Ps) {x : Pair} (k : x.Ok C H') (s : SameBut [cl, bl] H H') (n : ∀ b ∈ x.all, H b = none)
    (hc : H' cl = some (.lst ((Ps ++ [x]).map fun x => V.ref x.p))) (hb : H' bl = some (.lst ((Ps ++ [x]).map fun x => V.ref x.d))) : Good C H' cl bl (Ps ++ [x]) := by
  have get : ∀ {j : Nat} {y : Pair}, (Ps ++ [x])[j]? = some y → (j = Ps.length ∧ y = x) ∨ Ps[j]? = some y := fun {j y} ey => by
    by_cases z : j < Ps.length
    · rw [List.getElem?_append_left z] at ey
      exact .inr ey
    · have hj := (List.getElem?_eq_some_iff.mp ey).1
      rw [List.length_append] at hj
      simp at hj
      have : j = Ps.length := by omega
      subst this
      rw [List.getElem?_append_right (Nat.le_refl _)] at ey
      simp at ey
      exact .inl ⟨rfl, ey.symm⟩
  refine ⟨hc, hb, g.ne, fun j y ey => ?_, fun j l y z ey ez ne => ?_⟩
  · rcases get ey with ⟨_, rfl⟩ | ey
    · refine ⟨k, fun m => ?_, fun m => ?_⟩
      · have := n _ m
        rw [g.hc] at this
        cases this
      · have := n _ m
        rw [g.hb] at this
        cases this
    · obtain ⟨ky, cy, by_⟩ := g.ok j y ey
      refine ⟨ky.keep fun b m o q => s b o q fun m' => ?_, cy, by_⟩
      rcases List.mem_cons.mp m' with z | m'
      · exact cy (z ▸ m)
      · exact by_ ((by simpa using m' : b = bl) ▸ m)
  · rcases get ey with ⟨rfl, rfl⟩ | ey
    · rcases get ez with ⟨rfl, rfl⟩ | ez
      · exact absurd rfl ne
      · intro b m m'
        obtain ⟨o, q, _⟩ := (g.ok l z ez).1.tr m'
        rw [n b m] at q
        cases q
    · rcases get ez with ⟨rfl, rfl⟩ | ez
      · intro b m m'
        obtain ⟨o, q, _⟩ := (g.ok j y (by assumption)).1.tr m
        rw [n b m'] at q
        cases q
      · exact g.ap j l y z ey ez ne
theorem map_get {Ps : List Pair} {f : Pair → V} {i : Int} (h0 : 0 ≤ i) (h : i < Ps.length) : ∃ x, Ps[i.toNat]? = some x ∧ atI (Ps.map f) i = some (f x) := by
  have hi : i.toNat < Ps.length := by omega
  exact ⟨Ps[i.toNat], by simp [hi], atI_of h0 (by rw [List.getElem?_map, List.getElem?_eq_getElem hi]; rfl)⟩
end Ev

set_option Elab.async false
set_option linter.all false
set_option maxRecDepth 100000
set_option maxHeartbeats 8000000
namespace Ev
open PySem L2
theorem at4 {α : Type} {a b c d e : α} {l : List α} : atI (a :: b :: c :: d :: e :: l) 4 = some e := atI_of (i := 4) (by decide) rfl
theorem at5 {α : Type} {a b c d e f : α} {l : List α} : atI (a :: b :: c :: d :: e :: f :: l) 5 = some f := atI_of (i := 5) (by decide) rfl
section
variable {P : Program} {w : World} {K : PySem.W.Frag} {mg : Str → Option Value} {base : Heap} {C cBS cNP cNE cNS cBC cCu cWE : Addr}
def spLaw (K : PySem.W.Frag) : Sp := fun vs H Q _ => ∃ (a : Addr) (ns : List Int), vs = [.ref a] ∧ Scr K H a ns ∧ ns.length ≤ 63 ∧ ∀ H', Q (.bl true) H'
theorem scLa : FnScope ["_law_script", "_law_more", "_law_sizes", "_law_blocks", "_law_pages", "_law_chips", "_law_both", "_law_k", "_law_rows", "_law_at", "_law_deed_here", "_law_j"] ["_law_script"] (defScope sLaw) := ⟨rfl, rfl, rfl, by decide +kernel, rfl, by decide +kernel, by decide +kernel⟩
theorem ok_law {f : Addr} {fd : FuncData} (F : Fun K "law" "law" sLaw f fd) (T : Txt K mg C cBS cNP cNE cNS cBC cCu cWE)
    (B_law_drawn : FnB P w K mg base 51 "_law_drawn" ["_law_cell_here", "_law_k"] spDrawn) (B_law_cell : FnB P w K mg base 51 "_law_cell" ["_law_script", "_law_k"] (spCell K)) (B_law_made : FnB P w K mg base 53 "_law_made" ["_law_blocks", "_law_pages"] (spMade C))
    (B_law_own : FnB P w K mg base 51 "_law_own" ["_law_rows", "_law_worn", "_law_many"] spOwn) (B_copied : FnB P w K mg base 53 "copied" ["chip"] (spCopied C)) (B_law_deed : FnB P w K mg base 51 "_law_deed" ["_law_more", "_law_m"] spDeed)
    (B_law_done : FnB P w K mg base 54 "_law_done" ["_law_chip", "_law_deed_here"] (spDone C)) (B_law_beside : FnB P w K mg base 51 "_law_beside" ["_law_m", "_law_deed_here"] spBeside) (B_law_right : FnB P w K mg base 54 "_law_right" ["_law_chip", "_law_m"] (spRight C)) :
    FnOk P w K mg base (CXw P w) 55 f fd ["_law_script"] (spLaw K) := by
  refine F.okX (by decide) scLa (fun vs H Q E h => ?_) (fun cdv A outer s H vs Q E hr h => ?_)
  · obtain ⟨a, ns, rfl, _⟩ := h
    rfl
  · obtain ⟨a, ns, rfl, sc0, hn, h⟩ := h
    have hu := hu_of hr
    refine ⟨_, (@pss_cons _ _ _ _ _ (@ps_set _ _ (1) _ _ _ _ scLa.nd rfl (Or.inl rfl) (@pe_callF _ _ _ _ _ _ _ _ _ _ _ B_law_drawn (hr.mono (by decide)) rfl (@passE _ _ _) (@pa_cons _ _ _ _ _ (@pe_callF _ _ _ _ _ _ _ _ _ _ _ B_law_cell (hr.mono (by decide)) rfl (@passE _ _ _) (@pa_cons _ _ _ _ _ (@pv _ 0 _ _ (by rfl) (by first | exact Or.inl rfl | exact Or.inr (Or.inl rfl) | exact Or.inr (Or.inr rfl)) (by decide) (by decide)) (@pa_cons _ _ _ _ _ (@pe_int _ _ _ _) (@pa_nil _) (by exact star_plain rfl)) (by exact star_plain rfl)) (by decide) (by exact star_plain rfl) (by exact any_plain rfl)) (@pa_cons _ _ _ _ _ (@pe_int _ _ _ _) (@pa_nil _) (by exact star_plain rfl)) (by exact star_plain rfl)) (by decide) (by exact star_plain rfl) (by exact any_plain rfl)) (by rfl) (by first | exact .inl rfl | exact .inr rfl | assumption)) (@pss_cons _ _ _ _ _ (@ps_set _ _ (2) _ _ _ _ scLa.nd rfl (Or.inl rfl) (@pe_ix _ _ _ _ _ _ _ (@ix_list _) (@pe_lst _ _ _ _ (@pa_cons _ _ _ _ _ (@pe_tup _ _ _ _ _ (@pa_cons _ _ _ _ _ (@pe_int _ _ _ _) (@pa_cons _ _ _ _ _ (@pe_int _ _ _ _) (@pa_nil _) (by exact star_plain rfl)) (by exact star_plain rfl))) (@pa_cons _ _ _ _ _ (@pe_tup _ _ _ _ _ (@pa_cons _ _ _ _ _ (@pe_int _ _ _ _) (@pa_cons _ _ _ _ _ (@pe_int _ _ _ _) (@pa_nil _) (by exact star_plain rfl)) (by exact star_plain rfl))) (@pa_cons _ _ _ _ _ (@pe_tup _ _ _ _ _ (@pa_cons _ _ _ _ _ (@pe_int _ _ _ _) (@pa_cons _ _ _ _ _ (@pe_int _ _ _ _) (@pa_nil _) (by exact star_plain rfl)) (by exact star_plain rfl))) (@pa_cons _ _ _ _ _ (@pe_tup _ _ _ _ _ (@pa_cons _ _ _ _ _ (@pe_int _ _ _ _) (@pa_cons _ _ _ _ _ (@pe_int _ _ _ _) (@pa_nil _) (by exact star_plain rfl)) (by exact star_plain rfl))) (@pa_cons _ _ _ _ _ (@pe_tup _ _ _ _ _ (@pa_cons _ _ _ _ _ (@pe_int _ _ _ _) (@pa_cons _ _ _ _ _ (@pe_int _ _ _ _) (@pa_nil _) (by exact star_plain rfl)) (by exact star_plain rfl))) (@pa_cons _ _ _ _ _ (@pe_tup _ _ _ _ _ (@pa_cons _ _ _ _ _ (@pe_un _ _ _ _ _ _ (@un_neg _) (@pe_int _ _ _ _)) (@pa_cons _ _ _ _ _ (@pe_int _ _ _ _) (@pa_nil _) (by exact star_plain rfl)) (by exact star_plain rfl))) (@pa_nil _) (by exact star_plain rfl)) (by exact star_plain rfl)) (by exact star_plain rfl)) (by exact star_plain rfl)) (by exact star_plain rfl)) (by exact star_plain rfl))) (@pe_op _ _ _ _ _ _ _ _ (@op_mod _) (@pv _ 1 _ _ (by rfl) (by first | exact Or.inl rfl | exact Or.inr (Or.inl rfl) | exact Or.inr (Or.inr rfl)) (by decide) (by decide)) (@pe_int _ _ _ _)) (fun _ _ => rfl)) (by rfl) (by first | exact .inl rfl | exact .inr rfl | assumption)) (@pss_cons _ _ _ _ _ (@ps_if _ _ _ _ _ _ _ _ (@pt_cmpR _ _ _ _ _ _ _ _ (@op_ne _) (@pe_callF _ _ _ _ _ _ _ _ _ _ _ B_law_made (hr.mono (by decide)) rfl (@passE _ _ _) (@pa_cons _ _ _ _ _ (@pe_ix _ _ _ _ _ _ _ (@ix_tup _) (@pv _ 2 _ _ (by rfl) (by first | exact Or.inl rfl | exact Or.inr (Or.inl rfl) | exact Or.inr (Or.inr rfl)) (by decide) (by decide)) (@pe_int _ _ _ _) (fun _ _ => rfl)) (@pa_cons _ _ _ _ _ (@pe_ix _ _ _ _ _ _ _ (@ix_tup _) (@pv _ 2 _ _ (by rfl) (by first | exact Or.inl rfl | exact Or.inr (Or.inl rfl) | exact Or.inr (Or.inr rfl)) (by decide) (by decide)) (@pe_int _ _ _ _) (fun _ _ => rfl)) (@pa_nil _) (by exact star_plain rfl)) (by exact star_plain rfl)) (by decide) (by exact star_plain rfl) (by exact any_plain rfl)) (@pe_str _ _ _ _) (@nomark _ _ (by decide) (by decide))) (@pss_one _ _ _ (@ps_ret _ _ _ _ (@pe_bl _ _ _ _))) (@pss_nil _)) (@pss_cons _ _ _ _ _ (@ps_set _ _ (3) _ _ _ _ scLa.nd rfl (Or.inl rfl) (@pe_ix _ _ _ _ _ _ _ (@ix_list _) (@pe_lst _ _ _ _ (@pa_cons _ _ _ _ _ (@pe_int _ _ _ _) (@pa_cons _ _ _ _ _ (@pe_op _ _ _ _ _ _ _ _ (@op_add _) (@pe_int _ _ _ _) (@pe_op _ _ _ _ _ _ _ _ (@op_mod _) (@pe_op _ _ _ _ _ _ _ _ (@op_fdiv _) (@pv _ 1 _ _ (by rfl) (by first | exact Or.inl rfl | exact Or.inr (Or.inl rfl) | exact Or.inr (Or.inr rfl)) (by decide) (by decide)) (@pe_int _ _ _ _)) (@pe_int _ _ _ _))) (@pa_cons _ _ _ _ _ (@pe_int _ _ _ _) (@pa_nil _) (by exact star_plain rfl)) (by exact star_plain rfl)) (by exact star_plain rfl))) (@pe_op _ _ _ _ _ _ _ _ (@op_mod _) (@pe_op _ _ _ _ _ _ _ _ (@op_fdiv _) (@pv _ 1 _ _ (by rfl) (by first | exact Or.inl rfl | exact Or.inr (Or.inl rfl) | exact Or.inr (Or.inr rfl)) (by decide) (by decide)) (@pe_int _ _ _ _)) (@pe_int _ _ _ _)) (fun _ _ => rfl)) (by rfl) (by first | exact .inl rfl | exact .inr rfl | assumption)) (@pss_cons _ _ _ _ _ (@ps_set _ _ (4) _ _ _ _ scLa.nd rfl (Or.inr rfl) (@pe_ix _ _ _ _ _ _ _ (@ix_list _) (@pe_lst _ _ _ _ (@pa_cons _ _ _ _ _ (@pe_int _ _ _ _) (@pa_cons _ _ _ _ _ (@pe_op _ _ _ _ _ _ _ _ (@op_add _) (@pe_int _ _ _ _) (@pe_op _ _ _ _ _ _ _ _ (@op_mod _) (@pe_op _ _ _ _ _ _ _ _ (@op_fdiv _) (@pv _ 1 _ _ (by rfl) (by first | exact Or.inl rfl | exact Or.inr (Or.inl rfl) | exact Or.inr (Or.inr rfl)) (by decide) (by decide)) (@pe_int _ _ _ _)) (@pe_int _ _ _ _))) (@pa_cons _ _ _ _ _ (@pe_int _ _ _ _) (@pa_nil _) (by exact star_plain rfl)) (by exact star_plain rfl)) (by exact star_plain rfl))) (@pe_op _ _ _ _ _ _ _ _ (@op_mod _) (@pe_op _ _ _ _ _ _ _ _ (@op_fdiv _) (@pv _ 1 _ _ (by rfl) (by first | exact Or.inl rfl | exact Or.inr (Or.inl rfl) | exact Or.inr (Or.inr rfl)) (by decide) (by decide)) (@pe_int _ _ _ _)) (@pe_int _ _ _ _)) (fun _ _ => rfl)) (by rfl) (by first | exact .inl rfl | exact .inr rfl | assumption)) (@pss_cons _ _ _ _ _ (@ps_set _ _ (5) _ _ _ _ scLa.nd rfl (Or.inl rfl) (@pe_lst _ _ _ _ (@pa_cons _ _ _ _ _ (@pe_callF _ _ _ _ _ _ _ _ _ _ _ B_law_made (hr.mono (by decide)) rfl (@passE _ _ _) (@pa_cons _ _ _ _ _ (@pv _ 3 _ _ (by rfl) (by first | exact Or.inl rfl | exact Or.inr (Or.inl rfl) | exact Or.inr (Or.inr rfl)) (by decide) (by decide)) (@pa_cons _ _ _ _ _ (@pv _ 4 _ _ (by rfl) (by first | exact Or.inl rfl | exact Or.inr (Or.inl rfl) | exact Or.inr (Or.inr rfl)) (by decide) (by decide)) (@pa_nil _) (by exact star_plain rfl)) (by exact star_plain rfl)) (by decide) (by exact star_plain rfl) (by exact any_plain rfl)) (@pa_nil _) (by exact star_plain rfl))) (by rfl) (by first | exact .inl rfl | exact .inr rfl | assumption)) (@pss_cons _ _ _ _ _ (@ps_set _ _ (6) _ _ _ _ scLa.nd rfl (Or.inl rfl) (@pe_lst _ _ _ _ (@pa_cons _ _ _ _ _ (@pe_callF _ _ _ _ _ _ _ _ _ _ _ B_law_own (hr.mono (by decide)) rfl (@passE _ _ _) (@pa_cons _ _ _ _ _ (@pe_comp _ _ _ _ _ _ _ _ ([4]) (["_law_pages"]) _ _ _ rfl (@pi_range1 _ _ _ _ _ _ rfl T.n_range (@pa_cons _ _ _ _ _ (@pv _ 3 _ _ (by rfl) (by first | exact Or.inl rfl | exact Or.inr (Or.inl rfl) | exact Or.inr (Or.inr rfl)) (by decide) (by decide)) (@pa_nil _) (by exact star_plain rfl)) (by exact star_plain rfl)) rfl (by decide +kernel) (by decide +kernel) (by decide +kernel) (by show ∀ y : Str × NameKind, y ∈ _ → y.2 = NameKind.free → List.lookup y.1 (defScope sLaw).names = some NameKind.cell; decide +kernel) (by show ∀ p : Str × Nat, p ∈ _ → List.lookup p.1 _ = some NameKind.free ∧ (["_law_script", "_law_more", "_law_sizes", "_law_blocks", "_law_pages", "_law_chips", "_law_both", "_law_k", "_law_rows", "_law_at", "_law_deed_here", "_law_j"] : List Str)[p.2]? = some p.1; decide +kernel) rfl (by decide +kernel) (fun _ _ _ _ _ => (@pts_nil _)) (fun _ _ _ _ _ => (@pe_op _ _ _ _ _ _ _ _ (@op_rep _) (@pe_lst _ _ _ _ (@pa_cons _ _ _ _ _ (@pe_non _ _ _) (@pa_nil _) (by exact star_plain rfl))) (@pv _ 1 _ _ (by rfl) (by first | exact Or.inl rfl | exact Or.inr (Or.inl rfl) | exact Or.inr (Or.inr rfl)) (by decide) (by decide)))) (by intro _; rfl)) (@pa_cons _ _ _ _ _ (@pe_op _ _ _ _ _ _ _ _ (@op_rep _) (@pe_lst _ _ _ _ (@pa_cons _ _ _ _ _ (@pe_int _ _ _ _) (@pa_nil _) (by exact star_plain rfl))) (@pv _ 3 _ _ (by rfl) (by first | exact Or.inl rfl | exact Or.inr (Or.inl rfl) | exact Or.inr (Or.inr rfl)) (by decide) (by decide))) (@pa_cons _ _ _ _ _ (@pe_int _ _ _ _) (@pa_nil _) (by exact star_plain rfl)) (by exact star_plain rfl)) (by exact star_plain rfl)) (by decide) (by exact star_plain rfl) (by exact any_plain rfl)) (@pa_nil _) (by exact star_plain rfl))) (by rfl) (by first | exact .inl rfl | exact .inr rfl | assumption)) (@pss_cons _ _ _ _ _ (@ps_for _ _ _ _ _ _ _ _ PassesOwn.leaving rfl (@pi_range1 _ _ _ _ _ _ rfl T.n_range (@pa_cons _ _ _ _ _ (@pe_callB _ _ _ _ _ _ _ _ _ (@call_max2 _ rfl) rfl T.n_max PyProof.Rows.Boot.«max» (@pa_cons _ _ _ _ _ (@pe_int _ _ _ _) (@pa_cons _ _ _ _ _ (@pe_callB _ _ _ _ _ _ _ _ _ (@call_min2 _ rfl) rfl T.n_min PyProof.Rows.Boot.«min» (@pa_cons _ _ _ _ _ (@pe_int _ _ _ _) (@pa_cons _ _ _ _ _ (@pe_callB _ _ _ _ _ _ _ _ _ (@call_len_seq _) rfl T.n_len PySem.boot_len (@pa_cons _ _ _ _ _ (@pv _ 0 _ _ (by rfl) (by first | exact Or.inl rfl | exact Or.inr (Or.inl rfl) | exact Or.inr (Or.inr rfl)) (by decide) (by decide)) (@pa_nil _) (by exact star_plain rfl)) (by decide) (by decide) (by exact star_plain rfl) (by exact any_plain rfl)) (@pa_nil _) (by exact star_plain rfl)) (by exact star_plain rfl)) (by decide) (by decide) (by exact star_plain rfl) (by exact any_plain rfl)) (@pa_nil _) (by exact star_plain rfl)) (by exact star_plain rfl)) (by decide) (by decide) (by exact star_plain rfl) (by exact any_plain rfl)) (@pa_nil _) (by exact star_plain rfl)) (by exact star_plain rfl)) (@pg_name _ _ (7) _ scLa.nd rfl (Or.inl rfl) (by first | exact .inl rfl | exact .inr rfl | assumption)) (@pss_cons _ _ _ _ _ (@ps_set _ _ (1) _ _ _ _ scLa.nd rfl (Or.inl rfl) (@pe_callF _ _ _ _ _ _ _ _ _ _ _ B_law_drawn (hr.mono (by decide)) rfl (@passE _ _ _) (@pa_cons _ _ _ _ _ (@pe_callF _ _ _ _ _ _ _ _ _ _ _ B_law_cell (hr.mono (by decide)) rfl (@passE _ _ _) (@pa_cons _ _ _ _ _ (@pv _ 0 _ _ (by rfl) (by first | exact Or.inl rfl | exact Or.inr (Or.inl rfl) | exact Or.inr (Or.inr rfl)) (by decide) (by decide)) (@pa_cons _ _ _ _ _ (@pv _ 7 _ _ (by rfl) (by first | exact Or.inl rfl | exact Or.inr (Or.inl rfl) | exact Or.inr (Or.inr rfl)) (by decide) (by decide)) (@pa_nil _) (by exact star_plain rfl)) (by exact star_plain rfl)) (by decide) (by exact star_plain rfl) (by exact any_plain rfl)) (@pa_cons _ _ _ _ _ (@pe_op _ _ _ _ _ _ _ _ (@op_add _) (@pv _ 7 _ _ (by rfl) (by first | exact Or.inl rfl | exact Or.inr (Or.inl rfl) | exact Or.inr (Or.inr rfl)) (by decide) (by decide)) (@pe_int _ _ _ _)) (@pa_nil _) (by exact star_plain rfl)) (by exact star_plain rfl)) (by decide) (by exact star_plain rfl) (by exact any_plain rfl)) (by rfl) (by first | exact .inl rfl | exact .inr rfl | assumption)) (@pss_cons _ _ _ _ _ (@ps_if _ _ _ _ _ _ _ _ (@pt_cmpR _ _ _ _ _ _ _ _ (@op_eq _) (@pv _ 7 _ _ (by rfl) (by first | exact Or.inl rfl | exact Or.inr (Or.inl rfl) | exact Or.inr (Or.inr rfl)) (by decide) (by decide)) (@pe_int _ _ _ _) (@nomark _ _ (by decide) (by decide))) (@pss_cons _ _ _ _ _ (@ps_expr _ _ _ _ (@pe_bm _ _ _ _ _ _ _ _ _ _ _ _ PySem.F.plainAttrs_list PySem.F.slot_list_append PySem.F.type_list_append (@mt_append _) (@pv _ 5 _ _ (by rfl) (by first | exact Or.inl rfl | exact Or.inr (Or.inl rfl) | exact Or.inr (Or.inr rfl)) (by decide) (by decide)) (@pa_cons _ _ _ _ _ (@pe_callF _ _ _ _ _ _ _ _ _ _ _ B_copied (hr.mono (by decide)) rfl (@passE _ _ _) (@pa_cons _ _ _ _ _ (@pe_ix _ _ _ _ _ _ _ (@ix_list _) (@pv _ 5 _ _ (by rfl) (by first | exact Or.inl rfl | exact Or.inr (Or.inl rfl) | exact Or.inr (Or.inr rfl)) (by decide) (by decide)) (@pe_int _ _ _ _) (fun _ _ => rfl)) (@pa_nil _) (by exact star_plain rfl)) (by decide) (by exact star_plain rfl) (by exact any_plain rfl)) (@pa_nil _) (by exact star_plain rfl)) (by rfl) (by rfl) (by rfl) (by exact star_plain rfl) (by exact any_plain rfl)) (by rfl)) (@pss_cons _ _ _ _ _ (@ps_comp _ _ _ _ _ _ _ _ ([]) ([]) _ _ _ _ (8) _ _ rfl scLa.nd rfl rfl rfl (@pi_list _ _ _ _ (@pe_dget _ _ _ _ _ _ hu (@pe_ix _ _ _ _ _ _ _ (@ix_list _) (@pv _ 6 _ _ (by rfl) (by first | exact Or.inl rfl | exact Or.inr (Or.inl rfl) | exact Or.inr (Or.inr rfl)) (by decide) (by decide)) (@pe_int _ _ _ _) (fun _ _ => rfl)) (@pe_str _ _ _ _) (fun _ _ => rfl))) rfl (by decide +kernel) (by decide +kernel) (by decide +kernel) (by show ∀ y : Str × NameKind, y ∈ _ → y.2 = NameKind.free → List.lookup y.1 (defScope sLaw).names = some NameKind.cell; decide +kernel) (by show ∀ p : Str × Nat, p ∈ _ → List.lookup p.1 _ = some NameKind.free ∧ (["_law_script", "_law_more", "_law_sizes", "_law_blocks", "_law_pages", "_law_chips", "_law_both", "_law_k", "_law_rows", "_law_at", "_law_deed_here", "_law_j"] : List Str)[p.2]? = some p.1; decide +kernel) rfl (by decide +kernel) (fun _ _ _ _ _ => (@pts_nil _)) (fun _ _ _ _ _ => (@pe_callTy _ _ _ _ _ _ _ _ _ (@call_list_ofK _ (K) rfl) rfl T.n_list PyProof.Rows.Boot.«list» (@pa_cons _ _ _ _ _ (@pv _ 0 _ _ (by rfl) (by first | exact Or.inl rfl | exact Or.inr (Or.inl rfl) | exact Or.inr (Or.inr rfl)) (by decide) (by decide)) (@pa_nil _) (by exact star_plain rfl)) (by decide) (by decide) (by exact star_plain rfl) (by exact any_plain rfl))) (by intro _; rfl)) (@pss_one _ _ _ (@ps_expr _ _ _ _ (@pe_bm _ _ _ _ _ _ _ _ _ _ _ _ PySem.F.plainAttrs_list PySem.F.slot_list_append PySem.F.type_list_append (@mt_append _) (@pv _ 6 _ _ (by rfl) (by first | exact Or.inl rfl | exact Or.inr (Or.inl rfl) | exact Or.inr (Or.inr rfl)) (by decide) (by decide)) (@pa_cons _ _ _ _ _ (@pe_callF _ _ _ _ _ _ _ _ _ _ _ B_law_own (hr.mono (by decide)) rfl (@passE _ _ _) (@pa_cons _ _ _ _ _ (@pv _ 8 _ _ (by rfl) (by first | exact Or.inl rfl | exact Or.inr (Or.inl rfl) | exact Or.inr (Or.inr rfl)) (by decide) (by decide)) (@pa_cons _ _ _ _ _ (@pe_callTy _ _ _ _ _ _ _ _ _ (@call_list_ofK _ (K) rfl) rfl T.n_list PyProof.Rows.Boot.«list» (@pa_cons _ _ _ _ _ (@pe_dget _ _ _ _ _ _ hu (@pe_ix _ _ _ _ _ _ _ (@ix_list _) (@pv _ 6 _ _ (by rfl) (by first | exact Or.inl rfl | exact Or.inr (Or.inl rfl) | exact Or.inr (Or.inr rfl)) (by decide) (by decide)) (@pe_int _ _ _ _) (fun _ _ => rfl)) (@pe_str _ _ _ _) (fun _ _ => rfl)) (@pa_nil _) (by exact star_plain rfl)) (by decide) (by decide) (by exact star_plain rfl) (by exact any_plain rfl)) (@pa_cons _ _ _ _ _ (@pe_dget _ _ _ _ _ _ hu (@pe_ix _ _ _ _ _ _ _ (@ix_list _) (@pv _ 6 _ _ (by rfl) (by first | exact Or.inl rfl | exact Or.inr (Or.inl rfl) | exact Or.inr (Or.inr rfl)) (by decide) (by decide)) (@pe_int _ _ _ _) (fun _ _ => rfl)) (@pe_str _ _ _ _) (fun _ _ => rfl)) (@pa_nil _) (by exact star_plain rfl)) (by exact star_plain rfl)) (by exact star_plain rfl)) (by decide) (by exact star_plain rfl) (by exact any_plain rfl)) (@pa_nil _) (by exact star_plain rfl)) (by rfl) (by rfl) (by rfl) (by exact star_plain rfl) (by exact any_plain rfl)) (by rfl))))) (@pss_nil _)) (@pss_cons _ _ _ _ _ (@ps_set _ _ (9) _ _ _ _ scLa.nd rfl (Or.inl rfl) (@pe_op _ _ _ _ _ _ _ _ (@op_mod _) (@pv _ 1 _ _ (by rfl) (by first | exact Or.inl rfl | exact Or.inr (Or.inl rfl) | exact Or.inr (Or.inr rfl)) (by decide) (by decide)) (@pe_callB _ _ _ _ _ _ _ _ _ (@call_len_seq _) rfl T.n_len PySem.boot_len (@pa_cons _ _ _ _ _ (@pv _ 5 _ _ (by rfl) (by first | exact Or.inl rfl | exact Or.inr (Or.inl rfl) | exact Or.inr (Or.inr rfl)) (by decide) (by decide)) (@pa_nil _) (by exact star_plain rfl)) (by decide) (by decide) (by exact star_plain rfl) (by exact any_plain rfl))) (by rfl) (by first | exact .inl rfl | exact .inr rfl | assumption)) (@pss_cons _ _ _ _ _ (@ps_set _ _ (10) _ _ _ _ scLa.nd rfl (Or.inl rfl) (@pe_callF _ _ _ _ _ _ _ _ _ _ _ B_law_deed (hr.mono (by decide)) rfl (@passE _ _ _) (@pa_cons _ _ _ _ _ (@pe_op _ _ _ _ _ _ _ _ (@op_fdiv _) (@pv _ 1 _ _ (by rfl) (by first | exact Or.inl rfl | exact Or.inr (Or.inl rfl) | exact Or.inr (Or.inr rfl)) (by decide) (by decide)) (@pe_int _ _ _ _)) (@pa_cons _ _ _ _ _ (@pe_ix _ _ _ _ _ _ _ (@ix_list _) (@pv _ 6 _ _ (by rfl) (by first | exact Or.inl rfl | exact Or.inr (Or.inl rfl) | exact Or.inr (Or.inr rfl)) (by decide) (by decide)) (@pv _ 9 _ _ (by rfl) (by first | exact Or.inl rfl | exact Or.inr (Or.inl rfl) | exact Or.inr (Or.inr rfl)) (by decide) (by decide)) (fun _ _ => rfl)) (@pa_nil _) (by exact star_plain rfl)) (by exact star_plain rfl)) (by decide) (by exact star_plain rfl) (by exact any_plain rfl)) (by rfl) (by first | exact .inl rfl | exact .inr rfl | assumption)) (@pss_cons _ _ _ _ _ (@ps_if _ _ _ _ _ _ _ _ (@pt_cmpR _ _ _ _ _ _ _ _ (@op_ne _) (@pe_callF _ _ _ _ _ _ _ _ _ _ _ B_law_done (hr.mono (by decide)) rfl (@passE _ _ _) (@pa_cons _ _ _ _ _ (@pe_ix _ _ _ _ _ _ _ (@ix_list _) (@pv _ 5 _ _ (by rfl) (by first | exact Or.inl rfl | exact Or.inr (Or.inl rfl) | exact Or.inr (Or.inr rfl)) (by decide) (by decide)) (@pv _ 9 _ _ (by rfl) (by first | exact Or.inl rfl | exact Or.inr (Or.inl rfl) | exact Or.inr (Or.inr rfl)) (by decide) (by decide)) (fun _ _ => rfl)) (@pa_cons _ _ _ _ _ (@pv _ 10 _ _ (by rfl) (by first | exact Or.inl rfl | exact Or.inr (Or.inl rfl) | exact Or.inr (Or.inr rfl)) (by decide) (by decide)) (@pa_nil _) (by exact star_plain rfl)) (by exact star_plain rfl)) (by decide) (by exact star_plain rfl) (by exact any_plain rfl)) (@pe_callF _ _ _ _ _ _ _ _ _ _ _ B_law_beside (hr.mono (by decide)) rfl (@passE _ _ _) (@pa_cons _ _ _ _ _ (@pe_ix _ _ _ _ _ _ _ (@ix_list _) (@pv _ 6 _ _ (by rfl) (by first | exact Or.inl rfl | exact Or.inr (Or.inl rfl) | exact Or.inr (Or.inr rfl)) (by decide) (by decide)) (@pv _ 9 _ _ (by rfl) (by first | exact Or.inl rfl | exact Or.inr (Or.inl rfl) | exact Or.inr (Or.inr rfl)) (by decide) (by decide)) (fun _ _ => rfl)) (@pa_cons _ _ _ _ _ (@pv _ 10 _ _ (by rfl) (by first | exact Or.inl rfl | exact Or.inr (Or.inl rfl) | exact Or.inr (Or.inr rfl)) (by decide) (by decide)) (@pa_nil _) (by exact star_plain rfl)) (by exact star_plain rfl)) (by decide) (by exact star_plain rfl) (by exact any_plain rfl)) (@nomark _ _ (by decide) (by decide))) (@pss_one _ _ _ (@ps_ret _ _ _ _ (@pe_bl _ _ _ _))) (@pss_nil _)) (@pss_one _ _ _ (@ps_for _ _ _ _ _ _ _ _ PassesOwn.leaving rfl (@pi_range1 _ _ _ _ _ _ rfl T.n_range (@pa_cons _ _ _ _ _ (@pe_callB _ _ _ _ _ _ _ _ _ (@call_len_seq _) rfl T.n_len PySem.boot_len (@pa_cons _ _ _ _ _ (@pv _ 5 _ _ (by rfl) (by first | exact Or.inl rfl | exact Or.inr (Or.inl rfl) | exact Or.inr (Or.inr rfl)) (by decide) (by decide)) (@pa_nil _) (by exact star_plain rfl)) (by decide) (by decide) (by exact star_plain rfl) (by exact any_plain rfl)) (@pa_nil _) (by exact star_plain rfl)) (by exact star_plain rfl)) (@pg_name _ _ (11) _ scLa.nd rfl (Or.inl rfl) (by first | exact .inl rfl | exact .inr rfl | assumption)) (@pss_one _ _ _ (@ps_if _ _ _ _ _ _ _ _ (@pt_not _ _ _ _ (@pt_val _ _ _ (@pe_callF _ _ _ _ _ _ _ _ _ _ _ B_law_right (hr.mono (by decide)) rfl (@passE _ _ _) (@pa_cons _ _ _ _ _ (@pe_ix _ _ _ _ _ _ _ (@ix_list _) (@pv _ 5 _ _ (by rfl) (by first | exact Or.inl rfl | exact Or.inr (Or.inl rfl) | exact Or.inr (Or.inr rfl)) (by decide) (by decide)) (@pv _ 11 _ _ (by rfl) (by first | exact Or.inl rfl | exact Or.inr (Or.inl rfl) | exact Or.inr (Or.inr rfl)) (by decide) (by decide)) (fun _ _ => rfl)) (@pa_cons _ _ _ _ _ (@pe_ix _ _ _ _ _ _ _ (@ix_list _) (@pv _ 6 _ _ (by rfl) (by first | exact Or.inl rfl | exact Or.inr (Or.inl rfl) | exact Or.inr (Or.inr rfl)) (by decide) (by decide)) (@pv _ 11 _ _ (by rfl) (by first | exact Or.inl rfl | exact Or.inr (Or.inl rfl) | exact Or.inr (Or.inr rfl)) (by decide) (by decide)) (fun _ _ => rfl)) (@pa_nil _) (by exact star_plain rfl)) (by exact star_plain rfl)) (by decide) (by exact star_plain rfl) (by exact any_plain rfl)) (by intro _; rfl))) (@pss_one _ _ _ (@ps_ret _ _ _ _ (@pe_bl _ _ _ _))) (@pss_nil _))) (by intro _; rfl)))))))) (by intro _; rfl)) (@pss_one _ _ _ (@ps_ret _ _ _ _ (@pe_bl _ _ _ _))))))))))), ?_⟩
    -- the sizes that are none
    refine ⟨_, rfl, a, ns, 0, rfl, sc0.seq, hn, by decide, by decide, fun H1 z0 s1 => ⟨z0, 3, rfl, fun z => ?_⟩⟩
    refine ⟨by show 2 ≤ sizeLine; decide, fun t1 n1 => ?_⟩
    generalize hT1 : upd H1 t1 _ = T1
    have e1 : T1 t1 = some (.tup [.int 3, .int 2]) := by rw [← hT1]; exact upd_same
    have s1' : Same H1 T1 := by rw [← hT1]; exact same_new n1
    refine ⟨by show 2 ≤ sizeLine; decide, fun t2 n2 => ?_⟩
    generalize hT2 : upd T1 t2 _ = T2
    have e2 : T2 t2 = some (.tup [.int 33, .int 16]) := by rw [← hT2]; exact upd_same
    have s2' : Same T1 T2 := by rw [← hT2]; exact same_new n2
    refine ⟨by show 2 ≤ sizeLine; decide, fun t3 n3 => ?_⟩
    generalize hT3 : upd T2 t3 _ = T3
    have e3 : T3 t3 = some (.tup [.int 4, .int 1]) := by rw [← hT3]; exact upd_same
    have s3' : Same T2 T3 := by rw [← hT3]; exact same_new n3
    refine ⟨by show 2 ≤ sizeLine; decide, fun t4 n4 => ?_⟩
    generalize hT4 : upd T3 t4 _ = T4
    have e4 : T4 t4 = some (.tup [.int 32, .int 17]) := by rw [← hT4]; exact upd_same
    have s4' : Same T3 T4 := by rw [← hT4]; exact same_new n4
    refine ⟨by show 2 ≤ sizeLine; decide, fun t5 n5 => ?_⟩
    generalize hT5 : upd T4 t5 _ = T5
    have e5 : T5 t5 = some (.tup [.int 0, .int 0]) := by rw [← hT5]; exact upd_same
    have s5' : Same T4 T5 := by rw [← hT5]; exact same_new n5
    refine ⟨_, rfl, by show 2 ≤ sizeLine; decide, fun t6 n6 => ?_⟩
    generalize hT6 : upd T5 t6 _ = T6
    have e6 : T6 t6 = some (.tup [.int (-4), .int 4]) := by rw [← hT6]; exact upd_same
    have s6' : Same T5 T6 := by rw [← hT6]; exact same_new n6

    refine ⟨by show 6 ≤ sizeLine; decide, fun l nl => ?_⟩
    generalize hT7 : upd T6 l _ = T7
    have e7 : T7 l = some (.lst [.ref t1, .ref t2, .ref t3, .ref t4, .ref t5, .ref t6]) := by rw [← hT7]; exact upd_same
    have s7' : Same T6 T7 := by rw [← hT7]; exact same_new nl
    obtain ⟨t, b, g, hat, ht, bad⟩ : ∃ (t : Addr) (b g : Int), atI [V.ref t1, .ref t2, .ref t3, .ref t4, .ref t5, .ref t6] (z % 6) = some (.ref t) ∧ T7 t = some (.tup [.int b, .int g]) ∧ ¬ (4 ≤ b ∧ b ≤ 32 ∧ 2 ≤ g ∧ g ≤ 16) := by
      have e : z % 6 = 0 ∨ z % 6 = 1 ∨ z % 6 = 2 ∨ z % 6 = 3 ∨ z % 6 = 4 ∨ z % 6 = 5 := by omega
      rcases e with e | e | e | e | e | e <;> rw [e]
      · exact ⟨t1, 3, 2, at0, s7' _ _ (s6' _ _ (s5' _ _ (s4' _ _ (s3' _ _ (s2' _ _ e1))))), by omega⟩
      · exact ⟨t2, 33, 16, at1, s7' _ _ (s6' _ _ (s5' _ _ (s4' _ _ (s3' _ _ e2)))), by omega⟩
      · exact ⟨t3, 4, 1, at2, s7' _ _ (s6' _ _ (s5' _ _ (s4' _ _ e3))), by omega⟩
      · exact ⟨t4, 32, 17, at3, s7' _ _ (s6' _ _ (s5' _ _ e4)), by omega⟩
      · exact ⟨t5, 0, 0, at4, s7' _ _ (s6' _ _ e5), by omega⟩
      · exact ⟨t6, (-4), 4, at5, s7' _ _ e6, by omega⟩

    refine ⟨_, rfl, _, _, rfl, rfl, by show (0 : Int) < 6; decide, l, _, _, _, rfl, rfl, SqL.of e7, hat, ?_⟩
    have s7 : Same H T7 := s1.trans (s1'.trans (s2'.trans (s3'.trans (s4'.trans (s5'.trans (s6'.trans s7'))))))
    have m1 := B_law_made
    refine ⟨_, rfl, t, _, _, _, rfl, rfl, SqT.of ht, at0, _, rfl, t, _, _, _, rfl, rfl, SqT.of ht, at1, b, g, rfl, ?_⟩
    rw [if_neg bad]
    intro H8 s8
    refine ⟨rfl, _, rfl, iteN rfl ?_⟩
    -- the size
    obtain ⟨bn, hbn, b1, b2⟩ : ∃ bn : Nat, atI [V.int 4, V.int (4 + z / 8 % 29), V.int 32] (z / 256 % 3) = some (.int bn) ∧ 4 ≤ bn ∧ bn ≤ 32 := by
      have e : z / 256 % 3 = 0 ∨ z / 256 % 3 = 1 ∨ z / 256 % 3 = 2 := by omega
      rcases e with e | e | e <;> rw [e]
      · exact ⟨4, at0, by omega, by omega⟩
      · have h0 := Int.emod_nonneg (z / 8) (show (29 : Int) ≠ 0 by decide)
        have h1 := Int.emod_lt_of_pos (z / 8) (show (0 : Int) < 29 by decide)
        obtain ⟨n, hn⟩ := Int.eq_ofNat_of_zero_le (show 0 ≤ 4 + z / 8 % 29 by omega)
        exact ⟨n, by rw [at1, hn], by omega, by omega⟩
      · exact ⟨32, at2, by omega, by omega⟩
    obtain ⟨gn, hgn, g1, g2⟩ : ∃ gn : Nat, atI [V.int 2, V.int (2 + z / 1024 % 15), V.int 16] (z / 16384 % 3) = some (.int gn) ∧ 2 ≤ gn ∧ gn ≤ 16 := by
      have e : z / 16384 % 3 = 0 ∨ z / 16384 % 3 = 1 ∨ z / 16384 % 3 = 2 := by omega
      rcases e with e | e | e <;> rw [e]
      · exact ⟨2, at0, by omega, by omega⟩
      · have h0 := Int.emod_nonneg (z / 1024) (show (15 : Int) ≠ 0 by decide)
        have h1 := Int.emod_lt_of_pos (z / 1024) (show (0 : Int) < 15 by decide)
        obtain ⟨n, hn⟩ := Int.eq_ofNat_of_zero_le (show 0 ≤ 2 + z / 1024 % 15 by omega)
        exact ⟨n, by rw [at1, hn], by omega, by omega⟩
      · exact ⟨16, at2, by omega, by omega⟩
    refine ⟨_, rfl, _, _, rfl, rfl, ⟨by decide, by decide⟩, _, _, rfl, rfl, by show (0 : Int) < 29; decide, _, _, rfl, rfl, by show 3 ≤ sizeLine; decide, fun l9 n9 => ⟨_, rfl, _, _, rfl, rfl, ⟨by decide, by decide⟩, _, _, rfl, rfl, by show (0 : Int) < 3; decide, l9, _, _, _, rfl, rfl, SqL.of upd_same, hbn, ?_⟩⟩
    generalize hH9 : upd H8 l9 _ = H9
    have s9 : Same H8 H9 := by rw [← hH9]; exact same_new n9
    refine ⟨_, rfl, _, _, rfl, rfl, ⟨by decide, by decide⟩, _, _, rfl, rfl, by show (0 : Int) < 15; decide, _, _, rfl, rfl, by show 3 ≤ sizeLine; decide, fun l10 n10 => ⟨_, rfl, _, _, rfl, rfl, ⟨by decide, by decide⟩, _, _, rfl, rfl, by show (0 : Int) < 3; decide, l10, _, _, _, rfl, rfl, SqL.of upd_same, hgn, ?_⟩⟩
    generalize hH10 : upd H9 l10 _ = H10
    have s10 : Same H9 H10 := by rw [← hH10]; exact same_new n10
    have sc10 := sc0.same (s7.trans (s8.trans (s9.trans s10)))
    -- the chip
    refine ⟨_, rfl, _, rfl, (bn : Int), (gn : Int), rfl, ?_⟩
    rw [if_pos ⟨by omega, by omega, by omega, by omega⟩, Int.toNat_natCast, Int.toNat_natCast]
    intro H11 p hl el rl A11 s11 fr11
    refine ⟨by show 1 ≤ sizeLine; decide, fun cl ncl => ?_⟩
    generalize hH12 : upd H11 cl _ = H12
    have e12 : H12 cl = some (.lst [.ref p]) := by rw [← hH12]; exact upd_same
    have s12 : Same H11 H12 := by rw [← hH12]; exact same_new ncl
    -- the law's own
    refine comp_lists_range (bn : Int) (by omega) (by omega) (fun R h => ⟨_, rfl, h⟩) (fun _ => List.replicate gn V.non) yes_mono (fun i H2 R hi s2 k => ?_) fun acc rl2 H13 nacc hl2 nd2 na2 hat2 hacc2 s13 => ?_
    · refine tyes ⟨by show 1 ≤ sizeLine; decide, fun l nl => ⟨_, rfl, l, (gn : Int), [.non], rfl, rfl, upd_same, by omega, by omega, ?_, fun q nq => ?_⟩⟩
      · show 1 * gn ≤ sizeLine
        exact Nat.le_of_lt (small1000 (by omega))
      · rw [rep_one]
        exact k q _ ((same_new nl).free nq) upd_same ((same_new nl).trans (same_new nq))
    refine ⟨by show 1 ≤ sizeLine; decide, fun l14 n14 => ⟨_, rfl, l14, (bn : Int), [.int 0], rfl, rfl, upd_same, by omega, by omega, ?_, fun el' nel => ?_⟩⟩
    · show 1 * bn ≤ sizeLine
      exact Nat.le_of_lt (small1000 (by omega))
    rw [rep_one, Int.toNat_natCast]
    generalize hH14 : upd (upd H13 l14 _) el' _ = H14
    have n14' : H13 el' = none := (same_new n14).free nel
    have e14 : H14 el' = some (.lst ((List.replicate bn 0).map V.int)) := by rw [← hH14, List.map_replicate]; exact upd_same
    have s14 : Same H13 H14 := by rw [← hH14]; exact (same_new n14).trans (same_new nel)
    refine ⟨acc, el', 0, rfl, fun d nd => ⟨by show 1 ≤ sizeLine; decide, fun bl nbl => ?_⟩⟩
    generalize hH15 : upd (upd H14 d _) bl _ = H15
    have n15 : H14 bl = none := (same_new nd).free nbl
    have o15 : H15 d = some (.dK (ownK (fresh bn gn) acc el')) := by rw [← hH15]; exact same_new nbl _ _ upd_same
    have e15 : H15 bl = some (.lst [.ref d]) := by rw [← hH15]; exact upd_same
    have s15 : Same H14 H15 := by rw [← hH15]; exact (same_new nd).trans (same_new nbl)
    have up12 : Same H12 H15 := s13.trans (s14.trans s15)
    have A15 := A11.same (s12.trans up12)
    have hat12 : ∀ (b : Addr), b ∈ fpO d acc el' rl2 → H12 b = none := fun b m => by
      rcases List.mem_cons.mp m with z | m
      · rw [z]; exact s13.free (s14.free nd)
      rcases List.mem_cons.mp m with z | m
      · rw [z]; exact nacc
      rcases List.mem_cons.mp m with z | m
      · rw [z]; exact s13.free n14'
      · obtain ⟨j, hj, e⟩ := List.mem_iff_getElem.mp m
        exact (hat2 j b (by rw [← e]; simp [hj])).2
    have O15 : OwnAt H15 d (fresh bn gn) acc el' rl2 := by
      refine ⟨o15, s15 _ _ (s14 _ _ hacc2), s15 _ _ e14, ⟨?_, fun i a e => ?_⟩, ?_, wf_fresh b1 b2 g1 g2⟩
      · show rl2.length = (List.replicate bn _).length
        rw [List.length_replicate]
        exact Int.ofNat.inj hl2
      · have hi : i < bn := by rw [← Int.ofNat.inj hl2]; exact (List.getElem?_eq_some_iff.mp e).1
        exact ⟨_, rep_get hi, s15 _ _ (s14 _ _ (hat2 i a e).1)⟩
      · refine List.nodup_cons.mpr ⟨fun m => ?_, List.nodup_cons.mpr ⟨fun m => ?_, nd2⟩⟩
        · rcases List.mem_cons.mp m with z | z
          · rw [z, n14'] at hacc2
            cases hacc2
          · exact na2 z
        · obtain ⟨j, hj, e⟩ := List.mem_iff_getElem.mp m
          have q := (hat2 j el' (by rw [← e]; simp [hj])).1
          rw [n14'] at q
          cases q
    have bl12 : H12 bl = none := s13.free (s14.free n15)
    have clbl : cl ≠ bl := ne_of_none e12 bl12
    have G15 : Good C H15 cl bl [⟨p, fresh bn gn, hl, el, rl, d, acc, el', rl2⟩] := by
      refine ⟨up12 _ _ e12, e15, clbl, fun i x e => ?_, fun i j x y ei ej ne => ?_⟩
      · have ex : x = ⟨p, fresh bn gn, hl, el, rl, d, acc, el', rl2⟩ := by simpa using List.mem_of_getElem? e
        subst ex
        have cn : cl ∉ fpC p hl el rl := fun m => by
          obtain ⟨o, q⟩ := A11.tr m
          rw [ncl] at q
          cases q
        have bn' : bl ∉ fpC p hl el rl := fun m => by
          obtain ⟨o, q⟩ := (A11.same s12).tr m
          rw [bl12] at q
          cases q
        refine ⟨⟨A15, O15, fun b m m' => ?_⟩, fun m => ?_, fun m => ?_⟩
        · obtain ⟨o, q⟩ := (A11.same s12).tr m
          rw [hat12 b m'] at q
          cases q
        · rcases List.mem_append.mp m with z | z
          · exact cn z
          · have := hat12 cl z
            rw [e12] at this
            cases this
        · rcases List.mem_append.mp m with z | z
          · exact bn' z
          · have q : bl ∉ fpO d acc el' rl2 := fun m => by
              rcases List.mem_cons.mp m with z | m
              · rw [z] at nbl
                rw [upd_same] at nbl
                cases nbl
              rcases List.mem_cons.mp m with z | m
              · rw [z] at n15
                rw [s14 _ _ hacc2] at n15
                cases n15
              rcases List.mem_cons.mp m with z | m
              · rw [z] at n15
                rw [e14] at n15
                cases n15
              · obtain ⟨j, hj, e⟩ := List.mem_iff_getElem.mp m
                have y := s14 _ _ (hat2 j bl (by rw [← e]; simp [hj])).1
                rw [n15] at y
                cases y
            exact q z
      · have hi := (List.getElem?_eq_some_iff.mp ei).1
        have hj := (List.getElem?_eq_some_iff.mp ej).1
        simp at hi hj
        omega
    have sc15 := sc10.same (s11.trans (s12.trans up12))
    -- the deeds
    refine ⟨_, rfl, a, _, rfl, .inl sc15.seq, _, _, rfl, _, _, rfl, _, rfl, ?_, ?_, ?_⟩
    · split <;> split <;> omega
    · rw [List.length_map]
      split <;> split <;> omega
    generalize hN : (if (if ((ns.map V.int).length : Int) < 40 then ((ns.map V.int).length : Int) else 40) > 1 then (if ((ns.map V.int).length : Int) < 40 then ((ns.map V.int).length : Int) else 40) else 1) = N
    have N40 : N ≤ 40 := by
      rw [← hN]
      split <;> split <;> omega
    refine for_range (lo := 0) (n := N.toNat) (fun i σ H2 => ∃ Ps v1 v2 v3 v4 v7 v8 v9 v10 v11, σ = [some (.ref a), v1, v2, v3, v4, some (.ref cl), some (.ref bl), v7, v8, v9, v10, v11] ∧ Good C H2 cl bl Ps ∧ Scr K H2 a ns ∧ 1 ≤ Ps.length ∧ Ps.length ≤ i + 1) ⟨_, _, _, _, _, _, _, _, _, _, rfl, G15, sc15, Nat.le_refl 1, Nat.le_refl 1⟩ ?_ ?_
    rotate_left
    · rintro σ H2 ⟨Ps, v1, v2, v3, v4, v7, v8, v9, v10, v11, rfl, G, sc, p1, p2⟩
      exact h H2
    · rintro i σ H2 hi ⟨Ps, v1, v2, v3, v4, v7, v8, v9, v10, v11, rfl, G, sc, p1, p2⟩
      rw [Int.zero_add]
      refine ⟨_, rfl, _, rfl, a, ns, (i : Int), rfl, sc.seq, hn, by omega, by omega, fun H3 z1 s3 => ⟨_, rfl, _, _, rfl, rfl, z1, _, rfl, fun z2 => ?_⟩⟩
      have G3 := G.same s3
      have sc3 := sc.same s3
      refine with_rest2 (α := Option V) (R := ?R) (Pr := fun _ H4 => ∃ Ps, Good C H4 cl bl Ps ∧ Scr K H4 a ns ∧ 1 ≤ Ps.length ∧ Ps.length ≤ i + 2) (fun rest => ?main) (fun v8' H4 pr => ?rest)
      case main =>
        refine ⟨_, rfl, rfl, _, rfl, ite2 (fun h9 => ?_) fun h9 => ?_⟩
        · -- the copy
          obtain ⟨x0, e0, a0⟩ := map_get (Ps := Ps) (f := fun x => V.ref x.p) (i := 0) (by decide) (by omega)
          obtain ⟨k0, cn0, bn0⟩ := G3.ok _ x0 e0
          have b0 : atI (Ps.map fun x => V.ref x.d) 0 = some (.ref x0.d) := atI_of (by decide) (by rw [List.getElem?_map, e0]; rfl)
          refine ⟨_, rfl, .inl ⟨rfl, _, SqL.of G3.hc⟩, _, rfl, cl, _, _, _, rfl, rfl, SqL.of G3.hc, a0, x0.p, x0.S, x0.hl, x0.el, x0.rl, rfl, k0.c, fun H4 q hl4 el4 rl4 Aq s4 fr4 => ⟨cl, _, _, rfl, rfl, s4 _ _ G3.hc, by rw [List.length_map]; exact small1000 (by omega), ?_⟩⟩
          generalize hH5 : upd H4 cl _ = H5
          have e5 : H5 cl = some (.lst ((Ps.map fun x => V.ref x.p) ++ [.ref q])) := by rw [← hH5]; exact upd_same
          have u5 : ∀ b o, H4 b = some o → b ≠ cl → H5 b = some o := fun b o z n => by rw [← hH5, upd_ne n]; exact z
          have f5 : ∀ b, H5 b = none → H4 b = none := fun b z => by
            by_cases y : b = cl
            · rw [y, e5] at z
              cases z
            · rw [← hH5, upd_ne y] at z
              exact z
          have qcl : cl ∉ fpC q hl4 el4 rl4 := fun m => by
            have := fr4 _ m
            rw [G3.hc] at this
            cases this
          have Aq5 : ChipAt C H5 q (x0.S.powered none) hl4 el4 rl4 := Aq.keep fun b m o z => u5 b o z fun y => qcl (y ▸ m)
          have hb5 : H5 bl = some (.lst (Ps.map fun x => V.ref x.d)) := u5 _ _ (s4 _ _ G3.hb) (Ne.symm G3.ne)
          have O5 : OwnAt H5 x0.d x0.S x0.hl' x0.el' x0.rl' := k0.o.keep fun b m o z => u5 b o (s4 _ _ z) fun y => cn0 (List.mem_append_right _ (y ▸ m))
          have W0 := k0.c.wf
          refine comp_lists_list x0.hl' (x0.rl'.map V.ref) (by rw [List.length_map, O5.bx.rw.ln, W0.rl]; have := W0.b2; omega) (SqL.of O5.bx.hd) (fun R h => ⟨_, rfl, bl, _, _, _, rfl, rfl, SqL.of hb5, b0, x0.d, _, rfl, O5.g_rows, h⟩) (fun i => x0.S.rows.getD i []) yes_mono (fun i y H2 R hi s2 k => ?_) fun acc rl6 H6 nacc hl6 nd6 na6 hat6 hacc6 s6 => ?_
          · rw [List.getElem?_map] at hi
            cases ei : x0.rl'[i]? with
            | none => rw [ei] at hi; cases hi
            | some a' =>
              rw [ei] at hi
              cases hi
              obtain ⟨r, er, ha⟩ := O5.bx.rw.at_ i a' ei
              have eg : x0.S.rows.getD i [] = r := by rw [List.getD_eq_getElem?_getD, er]; rfl
              exact tyes ⟨_, rfl, a', r, rfl, .inl (SqL.of (s2 _ _ ha)), fun l nl => k l _ nl (by rw [eg]; exact upd_same) (same_new nl)⟩
          have O6 := O5.same s6
          have hb6 := s6 _ _ hb5
          refine ⟨_, rfl, .inl ⟨rfl, _, SqL.of hb6⟩, _, rfl, _, rfl, bl, _, _, _, rfl, rfl, SqL.of hb6, b0, x0.d, _, rfl, O6.g_worn, x0.el', _, rfl, .inl (SqL.of O6.bx.er), fun l7 n7 => ?_⟩
          generalize hH7 : upd H6 l7 _ = H7
          have e7' : H7 l7 = some (.lst (x0.S.worn.map V.int)) := by rw [← hH7]; exact upd_same
          have s7' : Same H6 H7 := by rw [← hH7]; exact same_new n7
          have O7 := O6.same s7'
          have hb7 := s7' _ _ hb6
          refine ⟨_, rfl, bl, _, _, _, rfl, rfl, SqL.of hb7, b0, x0.d, _, rfl, O7.g_many, acc, l7, _, rfl, fun d8 n8 => ⟨bl, _, _, rfl, rfl, same_new n8 _ _ hb7, by rw [List.length_map]; exact small1000 (by omega), ?_⟩⟩
          generalize hH8 : upd H7 d8 _ = H8'
          have o8 : H8' d8 = some (.dK (ownK (x0.S.powered none) acc l7)) := by rw [← hH8]; exact upd_same
          have s8' : Same H7 H8' := by rw [← hH8]; exact same_new n8
          have hb8 := s8' _ _ hb7
          generalize hH9' : upd H8' bl _ = H9'
          have e9 : H9' bl = some (.lst ((Ps.map fun x => V.ref x.d) ++ [.ref d8])) := by rw [← hH9']; exact upd_same
          have u9 : ∀ b o, H8' b = some o → b ≠ bl → H9' b = some o := fun b o z n => by rw [← hH9', upd_ne n]; exact z
          have s58 : Same H5 H8' := s6.trans (s7'.trans s8')
          have foN : ∀ b, b ∈ fpO d8 acc l7 rl6 → H5 b = none := fun b m => by
            rcases List.mem_cons.mp m with z | m
            · rw [z]; exact s6.free (s7'.free n8)
            rcases List.mem_cons.mp m with z | m
            · rw [z]; exact nacc
            rcases List.mem_cons.mp m with z | m
            · rw [z]; exact s6.free n7
            · obtain ⟨j, hj, e⟩ := List.mem_iff_getElem.mp m
              exact (hat6 j b (by rw [← e]; simp [hj])).2
          have fo3 : ∀ b, b ∈ fpO d8 acc l7 rl6 → H3 b = none := fun b m => s4.free (f5 b (foN b m))
          have qbl : bl ∉ fpC q hl4 el4 rl4 := fun m => by
            have := fr4 _ m
            rw [G3.hb] at this
            cases this
          have obl : bl ∉ fpO d8 acc l7 rl6 := fun m => by
            have := foN _ m
            rw [hb5] at this
            cases this
          have O8 : OwnAt H8' d8 (x0.S.powered none) acc l7 rl6 := by
            refine ⟨o8, s8' _ _ (s7' _ _ hacc6), s8' _ _ e7', ⟨?_, fun i a' e => ?_⟩, ?_, W0.powered (fun k z => by cases z)⟩
            · rw [hl6, List.length_map]
              exact O5.bx.rw.ln
            · have hi : i < x0.S.rows.length := by
                have := (List.getElem?_eq_some_iff.mp e).1
                rw [hl6, List.length_map, O5.bx.rw.ln] at this
                exact this
              refine ⟨x0.S.rows.getD i [], ?_, s8' _ _ (s7' _ _ (hat6 i a' e).1)⟩
              show x0.S.rows[i]? = _
              rw [List.getD_eq_getElem?_getD, List.getElem?_eq_getElem hi]
              rfl
            · refine List.nodup_cons.mpr ⟨fun m => ?_, List.nodup_cons.mpr ⟨fun m => ?_, nd6⟩⟩
              · rcases List.mem_cons.mp m with z | z
                · rw [z, n7] at hacc6
                  cases hacc6
                · exact na6 z
              · obtain ⟨j, hj, e⟩ := List.mem_iff_getElem.mp m
                have q := (hat6 j l7 (by rw [← e]; simp [hj])).1
                rw [n7] at q
                cases q
          have kx : Pair.Ok C H9' ⟨q, x0.S.powered none, hl4, el4, rl4, d8, acc, l7, rl6⟩ := by
            refine ⟨(Aq5.same s58).keep fun b m o z => u9 b o z fun y => qbl (y ▸ m), O8.keep fun b m o z => u9 b o z fun y => obl (y ▸ m), fun b m m' => ?_⟩
            obtain ⟨o, z⟩ := Aq5.tr m
            rw [foN b m'] at z
            cases z
          have s39 : SameBut [cl, bl] H3 H9' := fun b o z n => by
            have nc : b ≠ cl := fun y => n (by simp [y])
            have nb : b ≠ bl := fun y => n (by simp [y])
            exact u9 b o (s58 _ _ (u5 b o (s4 _ _ z) nc)) nb
          have G9 : Good C H9' cl bl (Ps ++ [⟨q, x0.S.powered none, hl4, el4, rl4, d8, acc, l7, rl6⟩]) := by
            refine G3.add kx s39 (fun b m => ?_) ?_ ?_
            · rcases List.mem_append.mp m with z | z
              · exact fr4 b z
              · exact fo3 b z
            · rw [List.map_append]
              exact u9 _ _ (s58 _ _ e5) G3.ne
            · rw [List.map_append]
              exact e9
          have sc9 : Scr K H9' a ns := sc3.but s39 fun b m => by
            rcases List.mem_cons.mp m with z | m
            · rw [z]; exact ⟨_, G3.hc, rfl⟩
            · have : b = bl := by simpa using m
              rw [this]; exact ⟨_, G3.hb, rfl⟩
          generalize some (V.ref acc) = v8''
          exact rest v8'' H9' ⟨_, G9, sc9, by simp, by simp; omega⟩
        · generalize v8 = v8''
          generalize H3 = H3' at *
          exact rest v8'' H3' ⟨Ps, G3, sc3, p1, by omega⟩
      case rest =>
        obtain ⟨Ps, G4, sc4, q1, q2⟩ := pr
        have lenc : (((Ps.map fun x => V.ref x.p).length : Nat) : Int) = Ps.length := by rw [List.length_map]
        refine ⟨_, rfl, _, rfl, cl, _, rfl, .inl (SqL.of G4.hc), _, _, rfl, rfl, by rw [lenc]; omega, ?_⟩
        rw [lenc]
        have j0 : 0 ≤ z2 % (Ps.length : Int) := Int.emod_nonneg _ (by omega)
        have j1 : z2 % (Ps.length : Int) < Ps.length := Int.emod_lt_of_pos _ (by omega)
        obtain ⟨x, ex, ap⟩ := map_get (Ps := Ps) (f := fun x => V.ref x.p) j0 j1
        have ad : atI (Ps.map fun x => V.ref x.d) (z2 % (Ps.length : Int)) = some (.ref x.d) := atI_of j0 (by rw [List.getElem?_map, ex]; rfl)
        obtain ⟨k4, cn, bn⟩ := G4.ok _ x ex
        refine ⟨_, rfl, _, _, rfl, rfl, ⟨by decide, by decide⟩, _, rfl, _, rfl, bl, _, _, _, rfl, rfl, SqL.of G4.hb, ad, _, x.d, x.S, x.hl', x.el', x.rl', rfl, k4.o, fun H5 t5 e he nt ht s5 => ?_⟩
        have G5 := G4.same s5
        obtain ⟨k5, _, _⟩ := G5.ok _ x ex
        refine ⟨_, rfl, _, rfl, cl, _, _, _, rfl, rfl, SqL.of G5.hc, ap, _, rfl, x.p, t5, e, x.S, x.hl, x.el, x.rl, rfl, he, ht, k5.c, fun H6 rl6 A6 D6 => ?_⟩
        have t6 : t5 ∉ x.fc := fun m => by
          obtain ⟨o, z, _⟩ := k4.c.tr' m
          rw [nt] at z
          cases z
        have O6 : OwnAt H6 x.d x.S x.hl' x.el' x.rl' := k5.o.keep fun b m o z => D6.keep b o z fun y => k5.ap b y m
        have hb6 : H6 bl = some (.lst (Ps.map fun x => V.ref x.d)) := D6.keep _ _ G5.hb fun y => bn (List.mem_append_left _ y)
        refine ⟨_, rfl, _, rfl, bl, _, _, _, rfl, rfl, SqL.of hb6, ad, _, rfl, x.d, t5, e, x.S, x.hl', x.el', x.rl', rfl, he, D6.keep _ _ ht t6, O6, fun H7 rl7 O7 D7 => ⟨rfl, _, rfl, iteN rfl ?_⟩⟩
        obtain ⟨G7, kp7⟩ := G5.did ex A6 D6 O7 D7
        have sc7 : Scr K H7 a ns := (sc4.same s5).but (fp := x.all) (fun b o z n => kp7 b o z n) fun b m => k5.tr m
        generalize hQ : Ps.set (z2 % (Ps.length : Int)).toNat _ = Qs at G7
        have lq : Qs.length = Ps.length := by rw [← hQ, List.length_set]
        refine ⟨_, rfl, cl, _, rfl, .inl (SqL.of G7.hc), _, rfl, by omega, by rw [List.length_map]; omega, for_range (lo := 0) (n := ((((Qs.map fun y : Pair => V.ref y.p).length : Nat) : Int)).toNat) (fun _ σ H8 => Same H7 H8 ∧ ∃ v, σ = [some (.ref a), some (.int z2), v2, v3, v4, some (.ref cl), some (.ref bl), some (.int i), v8', some (.int (z2 % (Ps.length : Int))), some (.ref t5), v]) ⟨Same.refl _, _, rfl⟩ ?_ ?_⟩
        · rintro m σ H8 hm ⟨s8, v, rfl⟩
          rw [Int.zero_add]
          have G8 := G7.same s8
          have hm' : (m : Int) < Qs.length := by rw [List.length_map] at hm; omega
          obtain ⟨y, ey, yp⟩ := map_get (Ps := Qs) (f := fun x => V.ref x.p) (i := (m : Int)) (by omega) hm'
          have yd : atI (Qs.map fun x => V.ref x.d) (m : Int) = some (.ref y.d) := atI_of (by omega) (by rw [List.getElem?_map, ey]; rfl)
          obtain ⟨ky, _, _⟩ := G8.ok _ y ey
          exact ⟨_, rfl, _, rfl, cl, _, _, _, rfl, rfl, SqL.of G8.hc, yp, _, rfl, _, rfl, bl, _, _, _, rfl, rfl, SqL.of G8.hb, yd, y.p, y.d, y.S, y.hl, y.el, y.rl, y.hl', y.el', y.rl', rfl, ky.c, ky.o, fun H9 s9 => ⟨_, rfl, iteF ⟨s8.trans s9, _, rfl⟩⟩⟩
        · rintro σ H8 ⟨s8, v, rfl⟩
          exact ⟨Qs, _, _, _, _, _, _, _, _, _, rfl, G7.same s8, sc7.same s8, by omega, by omega⟩
end
end Ev

set_option Elab.async false
set_option linter.all false
set_option maxRecDepth 100000
set_option maxHeartbeats 4000000
namespace Ev
open PySem L2
theorem all_mk {l : PySem.W.OpenLaw} {w : World} {K : PySem.W.Frag} {h : Heap} {mg : Str → Option Value} {fa : Addr} (X : K.In h) (G : h.Ns mainGlobals mg) (hfa : mg "law" = some (.ref fa))
    {C cWE cBS cNP cNE cNS cBC cCu : Addr} {tLB : Tok} {tMB : Tok} {tLP : Tok} {tMP : Tok} {tTO : Tok}
    {f_minit : Addr} {od_minit : Option Addr} {an_minit : Option Addr} {sl_minit : Array (Option Value)} {oc_minit : Value} {kV_minit : Value} {dc_minit : Value} {pm_minit : Value} {cd_minit : Value} {ct_minit : Value} {f_msize : Addr} {od_msize : Option Addr} {an_msize : Option Addr} {sl_msize : Array (Option Value)} {oc_msize : Value} {kV_msize : Value} {dc_msize : Value} {pm_msize : Value} {cd_msize : Value} {ct_msize : Value} {f_mpage : Addr} {od_mpage : Option Addr} {an_mpage : Option Addr} {sl_mpage : Array (Option Value)} {oc_mpage : Value} {kV_mpage : Value} {dc_mpage : Value} {pm_mpage : Value} {cd_mpage : Value} {ct_mpage : Value} {f_mworn : Addr} {od_mworn : Option Addr} {an_mworn : Option Addr} {sl_mworn : Array (Option Value)} {oc_mworn : Value} {kV_mworn : Value} {dc_mworn : Value} {pm_mworn : Value} {cd_mworn : Value} {ct_mworn : Value} {f_mwritten : Addr} {od_mwritten : Option Addr} {an_mwritten : Option Addr} {sl_mwritten : Array (Option Value)} {oc_mwritten : Value} {kV_mwritten : Value} {dc_mwritten : Value} {pm_mwritten : Value} {cd_mwritten : Value} {ct_mwritten : Value} {f_mpower : Addr} {od_mpower : Option Addr} {an_mpower : Option Addr} {sl_mpower : Array (Option Value)} {oc_mpower : Value} {kV_mpower : Value} {dc_mpower : Value} {pm_mpower : Value} {cd_mpower : Value} {ct_mpower : Value} {f_mwrite : Addr} {od_mwrite : Option Addr} {an_mwrite : Option Addr} {sl_mwrite : Array (Option Value)} {oc_mwrite : Value} {kV_mwrite : Value} {dc_mwrite : Value} {pm_mwrite : Value} {cd_mwrite : Value} {ct_mwrite : Value} {f_merase : Addr} {od_merase : Option Addr} {an_merase : Option Addr} {sl_merase : Array (Option Value)} {oc_merase : Value} {kV_merase : Value} {dc_merase : Value} {pm_merase : Value} {cd_merase : Value} {ct_merase : Value} {f_mcheck_block : Addr} {od_mcheck_block : Option Addr} {an_mcheck_block : Option Addr} {sl_mcheck_block : Array (Option Value)} {oc_mcheck_block : Value} {kV_mcheck_block : Value} {dc_mcheck_block : Value} {pm_mcheck_block : Value} {cd_mcheck_block : Value} {ct_mcheck_block : Value} {f_mcheck_page : Addr} {od_mcheck_page : Option Addr} {an_mcheck_page : Option Addr} {sl_mcheck_page : Array (Option Value)} {oc_mcheck_page : Value} {kV_mcheck_page : Value} {dc_mcheck_page : Value} {pm_mcheck_page : Value} {cd_mcheck_page : Value} {ct_mcheck_page : Value} {f_mcheck_erased_from : Addr} {od_mcheck_erased_from : Option Addr} {an_mcheck_erased_from : Option Addr} {sl_mcheck_erased_from : Array (Option Value)} {oc_mcheck_erased_from : Value} {kV_mcheck_erased_from : Value} {dc_mcheck_erased_from : Value} {pm_mcheck_erased_from : Value} {cd_mcheck_erased_from : Value} {ct_mcheck_erased_from : Value} {f_mdraw_power : Addr} {od_mdraw_power : Option Addr} {an_mdraw_power : Option Addr} {sl_mdraw_power : Array (Option Value)} {oc_mdraw_power : Value} {kV_mdraw_power : Value} {dc_mdraw_power : Value} {pm_mdraw_power : Value} {cd_mdraw_power : Value} {ct_mdraw_power : Value} {f_dcopied : Addr} {od_dcopied : Option Addr} {an_dcopied : Option Addr} {sl_dcopied : Array (Option Value)} {oc_dcopied : Value} {kV_dcopied : Value} {dc_dcopied : Value} {pm_dcopied : Value} {cd_dcopied : Value} {ct_dcopied : Value} {f_dlaw_cell : Addr} {od_dlaw_cell : Option Addr} {an_dlaw_cell : Option Addr} {sl_dlaw_cell : Array (Option Value)} {oc_dlaw_cell : Value} {kV_dlaw_cell : Value} {dc_dlaw_cell : Value} {pm_dlaw_cell : Value} {cd_dlaw_cell : Value} {ct_dlaw_cell : Value} {f_dlaw_drawn : Addr} {od_dlaw_drawn : Option Addr} {an_dlaw_drawn : Option Addr} {sl_dlaw_drawn : Array (Option Value)} {oc_dlaw_drawn : Value} {kV_dlaw_drawn : Value} {dc_dlaw_drawn : Value} {pm_dlaw_drawn : Value} {cd_dlaw_drawn : Value} {ct_dlaw_drawn : Value} {f_dlaw_word : Addr} {od_dlaw_word : Option Addr} {an_dlaw_word : Option Addr} {sl_dlaw_word : Array (Option Value)} {oc_dlaw_word : Value} {kV_dlaw_word : Value} {dc_dlaw_word : Value} {pm_dlaw_word : Value} {cd_dlaw_word : Value} {ct_dlaw_word : Value} {f_dlaw_made : Addr} {od_dlaw_made : Option Addr} {an_dlaw_made : Option Addr} {sl_dlaw_made : Array (Option Value)} {oc_dlaw_made : Value} {kV_dlaw_made : Value} {dc_dlaw_made : Value} {pm_dlaw_made : Value} {cd_dlaw_made : Value} {ct_dlaw_made : Value} {f_dlaw_own : Addr} {od_dlaw_own : Option Addr} {an_dlaw_own : Option Addr} {sl_dlaw_own : Array (Option Value)} {oc_dlaw_own : Value} {kV_dlaw_own : Value} {dc_dlaw_own : Value} {pm_dlaw_own : Value} {cd_dlaw_own : Value} {ct_dlaw_own : Value} {f_dlaw_done : Addr} {od_dlaw_done : Option Addr} {an_dlaw_done : Option Addr} {sl_dlaw_done : Array (Option Value)} {oc_dlaw_done : Value} {kV_dlaw_done : Value} {dc_dlaw_done : Value} {pm_dlaw_done : Value} {cd_dlaw_done : Value} {ct_dlaw_done : Value} {f_dlaw_beside : Addr} {od_dlaw_beside : Option Addr} {an_dlaw_beside : Option Addr} {sl_dlaw_beside : Array (Option Value)} {oc_dlaw_beside : Value} {kV_dlaw_beside : Value} {dc_dlaw_beside : Value} {pm_dlaw_beside : Value} {cd_dlaw_beside : Value} {ct_dlaw_beside : Value} {f_dlaw_right : Addr} {od_dlaw_right : Option Addr} {an_dlaw_right : Option Addr} {sl_dlaw_right : Array (Option Value)} {oc_dlaw_right : Value} {kV_dlaw_right : Value} {dc_dlaw_right : Value} {pm_dlaw_right : Value} {cd_dlaw_right : Value} {ct_dlaw_right : Value} {f_dlaw_deed : Addr} {od_dlaw_deed : Option Addr} {an_dlaw_deed : Option Addr} {sl_dlaw_deed : Array (Option Value)} {oc_dlaw_deed : Value} {kV_dlaw_deed : Value} {dc_dlaw_deed : Value} {pm_dlaw_deed : Value} {cd_dlaw_deed : Value} {ct_dlaw_deed : Value} {f_dlaw : Addr} {od_dlaw : Option Addr} {an_dlaw : Option Addr} {sl_dlaw : Array (Option Value)} {oc_dlaw : Value} {kV_dlaw : Value} {dc_dlaw : Value} {pm_dlaw : Value} {cd_dlaw : Value} {ct_dlaw : Value}
    (a_cWE : PySem.W.nsIn K mainGlobals "WearError" = some (some (.ref cWE)))
    (a_cBS : PySem.W.nsIn K mainGlobals "BadSize" = some (some (.ref cBS)))
    (a_cNP : PySem.W.nsIn K mainGlobals "NoPage" = some (some (.ref cNP)))
    (a_cNE : PySem.W.nsIn K mainGlobals "NotErased" = some (some (.ref cNE)))
    (a_cNS : PySem.W.nsIn K mainGlobals "NoSector" = some (some (.ref cNS)))
    (a_cBC : PySem.W.nsIn K mainGlobals "BadContent" = some (some (.ref cBC)))
    (a_cCu : PySem.W.nsIn K mainGlobals "Cut" = some (some (.ref cCu)))
    (a_C : PySem.W.nsIn K mainGlobals "Chip" = some (some (.ref C)))
    (x_cBS : PySem.W.excIn K cBS [.type "ValueError", .type "Exception", .type "BaseException", .type "object"] "ValueError.__new__" = true)
    (x_cNP : PySem.W.excIn K cNP [.type "ValueError", .type "Exception", .type "BaseException", .type "object"] "ValueError.__new__" = true)
    (x_cNE : PySem.W.excIn K cNE [.type "ValueError", .type "Exception", .type "BaseException", .type "object"] "ValueError.__new__" = true)
    (x_cCu : PySem.W.excIn K cCu [.type "ValueError", .type "Exception", .type "BaseException", .type "object"] "ValueError.__new__" = true)
    (q_get : PySem.W.specialIn K (.builtin "object.__class__") "__get__" = some (some (.builtin "getset_descriptor.__get__")))
    (q_tk : PySem.W.takesIn K (.builtin "object.__class__") = some true)
    (ga_cBS : PySem.W.findIn K (.ref cBS) "__getattribute__" = some (some (.builtin "BaseException.__getattribute__")))
    (gt_cBS : PySem.W.findIn K (.ref cBS) "__getattr__" = some none)
    (cl_cBS : PySem.W.hasDictIn K cBS = true)
    (at_cBS : PySem.W.findIn K (.ref cBS) "__class__" = some (some (.builtin "object.__class__")))
    (ob_cBS : PySem.W.mroIn K cBS (.type "object") = some true)
    (be_cBS : PySem.W.mroIn K cBS (.type "BaseException") = some true)
    (k_cBS_cBS : PySem.W.kitOne K (.ref cBS) (.ref cBS) = some true)
    (k_cBS_cNP : PySem.W.kitOne K (.ref cBS) (.ref cNP) = some false)
    (k_cBS_cNE : PySem.W.kitOne K (.ref cBS) (.ref cNE) = some false)
    (k_cBS_cNS : PySem.W.kitOne K (.ref cBS) (.ref cNS) = some false)
    (k_cBS_cBC : PySem.W.kitOne K (.ref cBS) (.ref cBC) = some false)
    (k_cBS_cCu : PySem.W.kitOne K (.ref cBS) (.ref cCu) = some false)
    (kv_cBS : PySem.W.kitOne K (.ref cBS) (.type "ValueError") = some true)
    (ex_cBS : PySem.W.exmOne K (.ref cBS) (.ref cWE) = some true)
    (ga_cNP : PySem.W.findIn K (.ref cNP) "__getattribute__" = some (some (.builtin "BaseException.__getattribute__")))
    (gt_cNP : PySem.W.findIn K (.ref cNP) "__getattr__" = some none)
    (cl_cNP : PySem.W.hasDictIn K cNP = true)
    (at_cNP : PySem.W.findIn K (.ref cNP) "__class__" = some (some (.builtin "object.__class__")))
    (ob_cNP : PySem.W.mroIn K cNP (.type "object") = some true)
    (be_cNP : PySem.W.mroIn K cNP (.type "BaseException") = some true)
    (k_cNP_cBS : PySem.W.kitOne K (.ref cNP) (.ref cBS) = some false)
    (k_cNP_cNP : PySem.W.kitOne K (.ref cNP) (.ref cNP) = some true)
    (k_cNP_cNE : PySem.W.kitOne K (.ref cNP) (.ref cNE) = some false)
    (k_cNP_cNS : PySem.W.kitOne K (.ref cNP) (.ref cNS) = some false)
    (k_cNP_cBC : PySem.W.kitOne K (.ref cNP) (.ref cBC) = some false)
    (k_cNP_cCu : PySem.W.kitOne K (.ref cNP) (.ref cCu) = some false)
    (kv_cNP : PySem.W.kitOne K (.ref cNP) (.type "ValueError") = some true)
    (ex_cNP : PySem.W.exmOne K (.ref cNP) (.ref cWE) = some true)
    (ga_cNE : PySem.W.findIn K (.ref cNE) "__getattribute__" = some (some (.builtin "BaseException.__getattribute__")))
    (gt_cNE : PySem.W.findIn K (.ref cNE) "__getattr__" = some none)
    (cl_cNE : PySem.W.hasDictIn K cNE = true)
    (at_cNE : PySem.W.findIn K (.ref cNE) "__class__" = some (some (.builtin "object.__class__")))
    (ob_cNE : PySem.W.mroIn K cNE (.type "object") = some true)
    (be_cNE : PySem.W.mroIn K cNE (.type "BaseException") = some true)
    (k_cNE_cBS : PySem.W.kitOne K (.ref cNE) (.ref cBS) = some false)
    (k_cNE_cNP : PySem.W.kitOne K (.ref cNE) (.ref cNP) = some false)
    (k_cNE_cNE : PySem.W.kitOne K (.ref cNE) (.ref cNE) = some true)
    (k_cNE_cNS : PySem.W.kitOne K (.ref cNE) (.ref cNS) = some false)
    (k_cNE_cBC : PySem.W.kitOne K (.ref cNE) (.ref cBC) = some false)
    (k_cNE_cCu : PySem.W.kitOne K (.ref cNE) (.ref cCu) = some false)
    (kv_cNE : PySem.W.kitOne K (.ref cNE) (.type "ValueError") = some true)
    (ex_cNE : PySem.W.exmOne K (.ref cNE) (.ref cWE) = some true)
    (ga_cCu : PySem.W.findIn K (.ref cCu) "__getattribute__" = some (some (.builtin "BaseException.__getattribute__")))
    (gt_cCu : PySem.W.findIn K (.ref cCu) "__getattr__" = some none)
    (cl_cCu : PySem.W.hasDictIn K cCu = true)
    (at_cCu : PySem.W.findIn K (.ref cCu) "__class__" = some (some (.builtin "object.__class__")))
    (ob_cCu : PySem.W.mroIn K cCu (.type "object") = some true)
    (be_cCu : PySem.W.mroIn K cCu (.type "BaseException") = some true)
    (k_cCu_cBS : PySem.W.kitOne K (.ref cCu) (.ref cBS) = some false)
    (k_cCu_cNP : PySem.W.kitOne K (.ref cCu) (.ref cNP) = some false)
    (k_cCu_cNE : PySem.W.kitOne K (.ref cCu) (.ref cNE) = some false)
    (k_cCu_cNS : PySem.W.kitOne K (.ref cCu) (.ref cNS) = some false)
    (k_cCu_cBC : PySem.W.kitOne K (.ref cCu) (.ref cBC) = some false)
    (k_cCu_cCu : PySem.W.kitOne K (.ref cCu) (.ref cCu) = some true)
    (kv_cCu : PySem.W.kitOne K (.ref cCu) (.type "ValueError") = some true)
    (ex_cCu : PySem.W.exmOne K (.ref cCu) (.ref cWE) = some true)
    (pg : PySem.W.plainGet K C Str.empty = true)
    (hd : PySem.W.hasDictIn K C = true)
    (po : PySem.W.plainOver K C = true)
    (sa : PySem.W.findIn K (.ref C) "__setattr__" = some (some (.builtin "object.__setattr__")))
    (mk : PySem.W.makesIn K C = true)
    (kc : PySem.W.keepIn K (.ref C) = true)
    (aB : PySem.W.findIn K (.ref C) "blocks" = some none)
    (aP : PySem.W.findIn K (.ref C) "pages" = some none)
    (aH : PySem.W.findIn K (.ref C) "held" = some none)
    (aE : PySem.W.findIn K (.ref C) "erasures" = some none)
    (aW : PySem.W.findIn K (.ref C) "writes" = some none)
    (aL : PySem.W.findIn K (.ref C) "left" = some none)
    (aD : PySem.W.findIn K (.ref C) "dark" = some none)
    (z_LB : PySem.W.nsIn K mainGlobals "LEAST_BLOCKS" = some (some (.int 4 tLB)))
    (z_MB : PySem.W.nsIn K mainGlobals "MOST_BLOCKS" = some (some (.int 32 tMB)))
    (z_LP : PySem.W.nsIn K mainGlobals "LEAST_PAGES" = some (some (.int 2 tLP)))
    (z_MP : PySem.W.nsIn K mainGlobals "MOST_PAGES" = some (some (.int 16 tMP)))
    (z_TO : PySem.W.nsIn K mainGlobals "TORN" = some (some (.str "torn" tTO)))
    (n_len : PySem.W.nsIn K mainGlobals "len" = some none)
    (n_range : PySem.W.nsIn K mainGlobals "range" = some none)
    (n_int : PySem.W.nsIn K mainGlobals "int" = some none)
    (n_list : PySem.W.nsIn K mainGlobals "list" = some none)
    (n_sum : PySem.W.nsIn K mainGlobals "sum" = some none)
    (n_max : PySem.W.nsIn K mainGlobals "max" = some none)
    (n_min : PySem.W.nsIn K mainGlobals "min" = some none)
    (n_isinstance : PySem.W.nsIn K mainGlobals "isinstance" = some none)
    (n_ValueError : PySem.W.nsIn K mainGlobals "ValueError" = some none)
    (a_minit : PySem.W.findIn K (.ref C) "__init__" = some (some (.ref f_minit)))
    (i_minit : PySem.W.isFn K (.ref f_minit) = true)
    (l_minit : K.lookup f_minit = some ⟨oc_minit, od_minit, .func (PySem.W.fnOf "__init__" "Chip.__init__" (defArgs sInit) (defBody sInit) (defScope sInit) .none kV_minit dc_minit pm_minit an_minit cd_minit ct_minit), sl_minit⟩)
    (c_minit : PySem.W.codeIn K cd_minit "Chip.__init__" = true)
    (k_minit : PySem.W.keepIn K (.ref f_minit) = true)
    (a_msize : PySem.W.findIn K (.ref C) "size" = some (some (.ref f_msize)))
    (i_msize : PySem.W.isFn K (.ref f_msize) = true)
    (l_msize : K.lookup f_msize = some ⟨oc_msize, od_msize, .func (PySem.W.fnOf "size" "Chip.size" (defArgs sSize) (defBody sSize) (defScope sSize) .none kV_msize dc_msize pm_msize an_msize cd_msize ct_msize), sl_msize⟩)
    (c_msize : PySem.W.codeIn K cd_msize "Chip.size" = true)
    (k_msize : PySem.W.keepIn K (.ref f_msize) = true)
    (a_mpage : PySem.W.findIn K (.ref C) "page" = some (some (.ref f_mpage)))
    (i_mpage : PySem.W.isFn K (.ref f_mpage) = true)
    (l_mpage : K.lookup f_mpage = some ⟨oc_mpage, od_mpage, .func (PySem.W.fnOf "page" "Chip.page" (defArgs sPage) (defBody sPage) (defScope sPage) .none kV_mpage dc_mpage pm_mpage an_mpage cd_mpage ct_mpage), sl_mpage⟩)
    (c_mpage : PySem.W.codeIn K cd_mpage "Chip.page" = true)
    (k_mpage : PySem.W.keepIn K (.ref f_mpage) = true)
    (a_mworn : PySem.W.findIn K (.ref C) "worn" = some (some (.ref f_mworn)))
    (i_mworn : PySem.W.isFn K (.ref f_mworn) = true)
    (l_mworn : K.lookup f_mworn = some ⟨oc_mworn, od_mworn, .func (PySem.W.fnOf "worn" "Chip.worn" (defArgs sWorn) (defBody sWorn) (defScope sWorn) .none kV_mworn dc_mworn pm_mworn an_mworn cd_mworn ct_mworn), sl_mworn⟩)
    (c_mworn : PySem.W.codeIn K cd_mworn "Chip.worn" = true)
    (k_mworn : PySem.W.keepIn K (.ref f_mworn) = true)
    (a_mwritten : PySem.W.findIn K (.ref C) "written" = some (some (.ref f_mwritten)))
    (i_mwritten : PySem.W.isFn K (.ref f_mwritten) = true)
    (l_mwritten : K.lookup f_mwritten = some ⟨oc_mwritten, od_mwritten, .func (PySem.W.fnOf "written" "Chip.written" (defArgs sWritten) (defBody sWritten) (defScope sWritten) .none kV_mwritten dc_mwritten pm_mwritten an_mwritten cd_mwritten ct_mwritten), sl_mwritten⟩)
    (c_mwritten : PySem.W.codeIn K cd_mwritten "Chip.written" = true)
    (k_mwritten : PySem.W.keepIn K (.ref f_mwritten) = true)
    (a_mpower : PySem.W.findIn K (.ref C) "power" = some (some (.ref f_mpower)))
    (i_mpower : PySem.W.isFn K (.ref f_mpower) = true)
    (l_mpower : K.lookup f_mpower = some ⟨oc_mpower, od_mpower, .func (PySem.W.fnOf "power" "Chip.power" (defArgs sPower) (defBody sPower) (defScope sPower) .none kV_mpower dc_mpower pm_mpower an_mpower cd_mpower ct_mpower), sl_mpower⟩)
    (c_mpower : PySem.W.codeIn K cd_mpower "Chip.power" = true)
    (k_mpower : PySem.W.keepIn K (.ref f_mpower) = true)
    (a_mwrite : PySem.W.findIn K (.ref C) "write" = some (some (.ref f_mwrite)))
    (i_mwrite : PySem.W.isFn K (.ref f_mwrite) = true)
    (l_mwrite : K.lookup f_mwrite = some ⟨oc_mwrite, od_mwrite, .func (PySem.W.fnOf "write" "Chip.write" (defArgs sWrite) (defBody sWrite) (defScope sWrite) .none kV_mwrite dc_mwrite pm_mwrite an_mwrite cd_mwrite ct_mwrite), sl_mwrite⟩)
    (c_mwrite : PySem.W.codeIn K cd_mwrite "Chip.write" = true)
    (k_mwrite : PySem.W.keepIn K (.ref f_mwrite) = true)
    (a_merase : PySem.W.findIn K (.ref C) "erase" = some (some (.ref f_merase)))
    (i_merase : PySem.W.isFn K (.ref f_merase) = true)
    (l_merase : K.lookup f_merase = some ⟨oc_merase, od_merase, .func (PySem.W.fnOf "erase" "Chip.erase" (defArgs sErase) (defBody sErase) (defScope sErase) .none kV_merase dc_merase pm_merase an_merase cd_merase ct_merase), sl_merase⟩)
    (c_merase : PySem.W.codeIn K cd_merase "Chip.erase" = true)
    (k_merase : PySem.W.keepIn K (.ref f_merase) = true)
    (a_mcheck_block : PySem.W.findIn K (.ref C) "check_block" = some (some (.ref f_mcheck_block)))
    (i_mcheck_block : PySem.W.isFn K (.ref f_mcheck_block) = true)
    (l_mcheck_block : K.lookup f_mcheck_block = some ⟨oc_mcheck_block, od_mcheck_block, .func (PySem.W.fnOf "check_block" "Chip.check_block" (defArgs sCB) (defBody sCB) (defScope sCB) .none kV_mcheck_block dc_mcheck_block pm_mcheck_block an_mcheck_block cd_mcheck_block ct_mcheck_block), sl_mcheck_block⟩)
    (c_mcheck_block : PySem.W.codeIn K cd_mcheck_block "Chip.check_block" = true)
    (k_mcheck_block : PySem.W.keepIn K (.ref f_mcheck_block) = true)
    (a_mcheck_page : PySem.W.findIn K (.ref C) "check_page" = some (some (.ref f_mcheck_page)))
    (i_mcheck_page : PySem.W.isFn K (.ref f_mcheck_page) = true)
    (l_mcheck_page : K.lookup f_mcheck_page = some ⟨oc_mcheck_page, od_mcheck_page, .func (PySem.W.fnOf "check_page" "Chip.check_page" (defArgs sCP) (defBody sCP) (defScope sCP) .none kV_mcheck_page dc_mcheck_page pm_mcheck_page an_mcheck_page cd_mcheck_page ct_mcheck_page), sl_mcheck_page⟩)
    (c_mcheck_page : PySem.W.codeIn K cd_mcheck_page "Chip.check_page" = true)
    (k_mcheck_page : PySem.W.keepIn K (.ref f_mcheck_page) = true)
    (a_mcheck_erased_from : PySem.W.findIn K (.ref C) "check_erased_from" = some (some (.ref f_mcheck_erased_from)))
    (i_mcheck_erased_from : PySem.W.isFn K (.ref f_mcheck_erased_from) = true)
    (l_mcheck_erased_from : K.lookup f_mcheck_erased_from = some ⟨oc_mcheck_erased_from, od_mcheck_erased_from, .func (PySem.W.fnOf "check_erased_from" "Chip.check_erased_from" (defArgs sCE) (defBody sCE) (defScope sCE) .none kV_mcheck_erased_from dc_mcheck_erased_from pm_mcheck_erased_from an_mcheck_erased_from cd_mcheck_erased_from ct_mcheck_erased_from), sl_mcheck_erased_from⟩)
    (c_mcheck_erased_from : PySem.W.codeIn K cd_mcheck_erased_from "Chip.check_erased_from" = true)
    (k_mcheck_erased_from : PySem.W.keepIn K (.ref f_mcheck_erased_from) = true)
    (a_mdraw_power : PySem.W.findIn K (.ref C) "draw_power" = some (some (.ref f_mdraw_power)))
    (i_mdraw_power : PySem.W.isFn K (.ref f_mdraw_power) = true)
    (l_mdraw_power : K.lookup f_mdraw_power = some ⟨oc_mdraw_power, od_mdraw_power, .func (PySem.W.fnOf "draw_power" "Chip.draw_power" (defArgs sDraw) (defBody sDraw) (defScope sDraw) .none kV_mdraw_power dc_mdraw_power pm_mdraw_power an_mdraw_power cd_mdraw_power ct_mdraw_power), sl_mdraw_power⟩)
    (c_mdraw_power : PySem.W.codeIn K cd_mdraw_power "Chip.draw_power" = true)
    (k_mdraw_power : PySem.W.keepIn K (.ref f_mdraw_power) = true)
    (a_dcopied : PySem.W.nsIn K mainGlobals "copied" = some (some (.ref f_dcopied)))
    (l_dcopied : K.lookup f_dcopied = some ⟨oc_dcopied, od_dcopied, .func (PySem.W.fnOf "copied" "copied" (defArgs sCopied) (defBody sCopied) (defScope sCopied) .none kV_dcopied dc_dcopied pm_dcopied an_dcopied cd_dcopied ct_dcopied), sl_dcopied⟩)
    (c_dcopied : PySem.W.codeIn K cd_dcopied "copied" = true)
    (k_dcopied : PySem.W.keepIn K (.ref f_dcopied) = true)
    (a_dlaw_cell : PySem.W.nsIn K mainGlobals "_law_cell" = some (some (.ref f_dlaw_cell)))
    (l_dlaw_cell : K.lookup f_dlaw_cell = some ⟨oc_dlaw_cell, od_dlaw_cell, .func (PySem.W.fnOf "_law_cell" "_law_cell" (defArgs sCell) (defBody sCell) (defScope sCell) .none kV_dlaw_cell dc_dlaw_cell pm_dlaw_cell an_dlaw_cell cd_dlaw_cell ct_dlaw_cell), sl_dlaw_cell⟩)
    (c_dlaw_cell : PySem.W.codeIn K cd_dlaw_cell "_law_cell" = true)
    (k_dlaw_cell : PySem.W.keepIn K (.ref f_dlaw_cell) = true)
    (a_dlaw_drawn : PySem.W.nsIn K mainGlobals "_law_drawn" = some (some (.ref f_dlaw_drawn)))
    (l_dlaw_drawn : K.lookup f_dlaw_drawn = some ⟨oc_dlaw_drawn, od_dlaw_drawn, .func (PySem.W.fnOf "_law_drawn" "_law_drawn" (defArgs sDrawn) (defBody sDrawn) (defScope sDrawn) .none kV_dlaw_drawn dc_dlaw_drawn pm_dlaw_drawn an_dlaw_drawn cd_dlaw_drawn ct_dlaw_drawn), sl_dlaw_drawn⟩)
    (c_dlaw_drawn : PySem.W.codeIn K cd_dlaw_drawn "_law_drawn" = true)
    (k_dlaw_drawn : PySem.W.keepIn K (.ref f_dlaw_drawn) = true)
    (a_dlaw_word : PySem.W.nsIn K mainGlobals "_law_word" = some (some (.ref f_dlaw_word)))
    (l_dlaw_word : K.lookup f_dlaw_word = some ⟨oc_dlaw_word, od_dlaw_word, .func (PySem.W.fnOf "_law_word" "_law_word" (defArgs sWord) (defBody sWord) (defScope sWord) .none kV_dlaw_word dc_dlaw_word pm_dlaw_word an_dlaw_word cd_dlaw_word ct_dlaw_word), sl_dlaw_word⟩)
    (c_dlaw_word : PySem.W.codeIn K cd_dlaw_word "_law_word" = true)
    (k_dlaw_word : PySem.W.keepIn K (.ref f_dlaw_word) = true)
    (a_dlaw_made : PySem.W.nsIn K mainGlobals "_law_made" = some (some (.ref f_dlaw_made)))
    (l_dlaw_made : K.lookup f_dlaw_made = some ⟨oc_dlaw_made, od_dlaw_made, .func (PySem.W.fnOf "_law_made" "_law_made" (defArgs sMade) (defBody sMade) (defScope sMade) .none kV_dlaw_made dc_dlaw_made pm_dlaw_made an_dlaw_made cd_dlaw_made ct_dlaw_made), sl_dlaw_made⟩)
    (c_dlaw_made : PySem.W.codeIn K cd_dlaw_made "_law_made" = true)
    (k_dlaw_made : PySem.W.keepIn K (.ref f_dlaw_made) = true)
    (a_dlaw_own : PySem.W.nsIn K mainGlobals "_law_own" = some (some (.ref f_dlaw_own)))
    (l_dlaw_own : K.lookup f_dlaw_own = some ⟨oc_dlaw_own, od_dlaw_own, .func (PySem.W.fnOf "_law_own" "_law_own" (defArgs sOwn) (defBody sOwn) (defScope sOwn) .none kV_dlaw_own dc_dlaw_own pm_dlaw_own an_dlaw_own cd_dlaw_own ct_dlaw_own), sl_dlaw_own⟩)
    (c_dlaw_own : PySem.W.codeIn K cd_dlaw_own "_law_own" = true)
    (k_dlaw_own : PySem.W.keepIn K (.ref f_dlaw_own) = true)
    (a_dlaw_done : PySem.W.nsIn K mainGlobals "_law_done" = some (some (.ref f_dlaw_done)))
    (l_dlaw_done : K.lookup f_dlaw_done = some ⟨oc_dlaw_done, od_dlaw_done, .func (PySem.W.fnOf "_law_done" "_law_done" (defArgs sDone) (defBody sDone) (defScope sDone) .none kV_dlaw_done dc_dlaw_done pm_dlaw_done an_dlaw_done cd_dlaw_done ct_dlaw_done), sl_dlaw_done⟩)
    (c_dlaw_done : PySem.W.codeIn K cd_dlaw_done "_law_done" = true)
    (k_dlaw_done : PySem.W.keepIn K (.ref f_dlaw_done) = true)
    (a_dlaw_beside : PySem.W.nsIn K mainGlobals "_law_beside" = some (some (.ref f_dlaw_beside)))
    (l_dlaw_beside : K.lookup f_dlaw_beside = some ⟨oc_dlaw_beside, od_dlaw_beside, .func (PySem.W.fnOf "_law_beside" "_law_beside" (defArgs sBeside) (defBody sBeside) (defScope sBeside) .none kV_dlaw_beside dc_dlaw_beside pm_dlaw_beside an_dlaw_beside cd_dlaw_beside ct_dlaw_beside), sl_dlaw_beside⟩)
    (c_dlaw_beside : PySem.W.codeIn K cd_dlaw_beside "_law_beside" = true)
    (k_dlaw_beside : PySem.W.keepIn K (.ref f_dlaw_beside) = true)
    (a_dlaw_right : PySem.W.nsIn K mainGlobals "_law_right" = some (some (.ref f_dlaw_right)))
    (l_dlaw_right : K.lookup f_dlaw_right = some ⟨oc_dlaw_right, od_dlaw_right, .func (PySem.W.fnOf "_law_right" "_law_right" (defArgs sRight) (defBody sRight) (defScope sRight) .none kV_dlaw_right dc_dlaw_right pm_dlaw_right an_dlaw_right cd_dlaw_right ct_dlaw_right), sl_dlaw_right⟩)
    (c_dlaw_right : PySem.W.codeIn K cd_dlaw_right "_law_right" = true)
    (k_dlaw_right : PySem.W.keepIn K (.ref f_dlaw_right) = true)
    (a_dlaw_deed : PySem.W.nsIn K mainGlobals "_law_deed" = some (some (.ref f_dlaw_deed)))
    (l_dlaw_deed : K.lookup f_dlaw_deed = some ⟨oc_dlaw_deed, od_dlaw_deed, .func (PySem.W.fnOf "_law_deed" "_law_deed" (defArgs sDeed) (defBody sDeed) (defScope sDeed) .none kV_dlaw_deed dc_dlaw_deed pm_dlaw_deed an_dlaw_deed cd_dlaw_deed ct_dlaw_deed), sl_dlaw_deed⟩)
    (c_dlaw_deed : PySem.W.codeIn K cd_dlaw_deed "_law_deed" = true)
    (k_dlaw_deed : PySem.W.keepIn K (.ref f_dlaw_deed) = true)
    (a_dlaw : PySem.W.nsIn K mainGlobals "law" = some (some (.ref f_dlaw)))
    (l_dlaw : K.lookup f_dlaw = some ⟨oc_dlaw, od_dlaw, .func (PySem.W.fnOf "law" "law" (defArgs sLaw) (defBody sLaw) (defScope sLaw) .none kV_dlaw dc_dlaw pm_dlaw an_dlaw cd_dlaw ct_dlaw), sl_dlaw⟩)
    (c_dlaw : PySem.W.codeIn K cd_dlaw "law" = true)
    (k_dlaw : PySem.W.keepIn K (.ref f_dlaw) = true) :
    ∃ fd : FuncData, (∀ (s : Shared) (v : Value), BindsTo s fd ⟨[v], []⟩ [("_law_script", v)]) ∧ ∀ base : Heap, K.In base → base.Ns mainGlobals mg → FnOk l.prog w K mg base (CXw l.prog w) 55 fa fd ["_law_script"] (spLaw K) := by
  have e := hfa.symm.trans (PySem.W.mg_of X G a_dlaw)
  cases e
  have T : Txt K mg C cBS cNP cNE cNS cBC cCu cWE := ⟨⟨pg, hd, po, sa⟩, aB, aP, aH, aE, aW, aL, aD, PySem.W.mg_of X G a_C, PySem.W.mg_of X G a_cBS, PySem.W.mg_of X G a_cNP, PySem.W.mg_of X G a_cNE, PySem.W.mg_of X G a_cNS, PySem.W.mg_of X G a_cBC, PySem.W.mg_of X G a_cCu, PySem.W.mg_of X G a_cWE, ⟨⟨_, _, _, _, PySem.F.excBase_ValueError, x_cBS⟩⟩, ⟨⟨_, _, _, _, PySem.F.excBase_ValueError, x_cNP⟩⟩, ⟨⟨_, _, _, _, PySem.F.excBase_ValueError, x_cNE⟩⟩, ⟨⟨_, _, _, _, PySem.F.excBase_ValueError, x_cCu⟩⟩, ⟨_, PySem.W.mg_of X G z_LB, ⟨_, rfl⟩⟩, ⟨_, PySem.W.mg_of X G z_MB, ⟨_, rfl⟩⟩, ⟨_, PySem.W.mg_of X G z_LP, ⟨_, rfl⟩⟩, ⟨_, PySem.W.mg_of X G z_MP, ⟨_, rfl⟩⟩, ⟨_, PySem.W.mg_of X G z_TO, ⟨_, rfl⟩⟩, PySem.W.mg_none_of X G n_len, PySem.W.mg_none_of X G n_range, PySem.W.mg_none_of X G n_int, PySem.W.mg_none_of X G n_list, PySem.W.mg_none_of X G n_sum, PySem.W.mg_none_of X G n_max, PySem.W.mg_none_of X G n_min, PySem.W.mg_none_of X G n_isinstance, PySem.W.mg_none_of X G n_ValueError⟩
  have W : TxtW K cBS cNP cNE cNS cBC cCu cWE := ⟨(fun r => by cases r; exact ⟨ga_cBS, gt_cBS, cl_cBS, at_cBS, q_get, q_tk, ob_cBS, be_cBS⟩; exact ⟨ga_cNP, gt_cNP, cl_cNP, at_cNP, q_get, q_tk, ob_cNP, be_cNP⟩; exact ⟨ga_cNE, gt_cNE, cl_cNE, at_cNE, q_get, q_tk, ob_cNE, be_cNE⟩; exact ⟨ga_cCu, gt_cCu, cl_cCu, at_cCu, q_get, q_tk, ob_cCu, be_cCu⟩), (fun r => by cases r; exact k_cBS_cBS; exact k_cNP_cBS; exact k_cNE_cBS; exact k_cCu_cBS), (fun r => by cases r; exact k_cBS_cNP; exact k_cNP_cNP; exact k_cNE_cNP; exact k_cCu_cNP), (fun r => by cases r; exact k_cBS_cNE; exact k_cNP_cNE; exact k_cNE_cNE; exact k_cCu_cNE), (fun r => by cases r; exact k_cBS_cNS; exact k_cNP_cNS; exact k_cNE_cNS; exact k_cCu_cNS), (fun r => by cases r; exact k_cBS_cBC; exact k_cNP_cBC; exact k_cNE_cBC; exact k_cCu_cBC), (fun r => by cases r; exact k_cBS_cCu; exact k_cNP_cCu; exact k_cNE_cCu; exact k_cCu_cCu), (fun r => by cases r; exact kv_cBS; exact kv_cNP; exact kv_cNE; exact kv_cCu), (fun r => by cases r; exact ex_cBS; exact ex_cNP; exact ex_cNE; exact ex_cCu)⟩
  have F_minit := fun_mk (st := sInit) l_minit c_minit k_minit
  have b_minit := F_minit.binds (ps := ["self", "blocks", "pages"]) fun _ _ _ _ _ _ us hl => match us, hl with | [_, _, _], _ => rfl
  have F_msize := fun_mk (st := sSize) l_msize c_msize k_msize
  have b_msize := F_msize.binds (ps := ["self"]) fun _ _ _ _ _ _ us hl => match us, hl with | [_], _ => rfl
  have F_mpage := fun_mk (st := sPage) l_mpage c_mpage k_mpage
  have b_mpage := F_mpage.binds (ps := ["self", "block", "page"]) fun _ _ _ _ _ _ us hl => match us, hl with | [_, _, _], _ => rfl
  have F_mworn := fun_mk (st := sWorn) l_mworn c_mworn k_mworn
  have b_mworn := F_mworn.binds (ps := ["self", "block"]) fun _ _ _ _ _ _ us hl => match us, hl with | [_, _], _ => rfl
  have F_mwritten := fun_mk (st := sWritten) l_mwritten c_mwritten k_mwritten
  have b_mwritten := F_mwritten.binds (ps := ["self"]) fun _ _ _ _ _ _ us hl => match us, hl with | [_], _ => rfl
  have F_mpower := fun_mk (st := sPower) l_mpower c_mpower k_mpower
  have b_mpower := F_mpower.binds (ps := ["self", "many"]) fun _ _ _ _ _ _ us hl => match us, hl with | [_, _], _ => rfl
  have F_mwrite := fun_mk (st := sWrite) l_mwrite c_mwrite k_mwrite
  have b_mwrite := F_mwrite.binds (ps := ["self", "block", "page", "thing"]) fun _ _ _ _ _ _ us hl => match us, hl with | [_, _, _, _], _ => rfl
  have F_merase := fun_mk (st := sErase) l_merase c_merase k_merase
  have b_merase := F_merase.binds (ps := ["self", "block"]) fun _ _ _ _ _ _ us hl => match us, hl with | [_, _], _ => rfl
  have F_mcheck_block := fun_mk (st := sCB) l_mcheck_block c_mcheck_block k_mcheck_block
  have b_mcheck_block := F_mcheck_block.binds (ps := ["self", "block"]) fun _ _ _ _ _ _ us hl => match us, hl with | [_, _], _ => rfl
  have F_mcheck_page := fun_mk (st := sCP) l_mcheck_page c_mcheck_page k_mcheck_page
  have b_mcheck_page := F_mcheck_page.binds (ps := ["self", "block", "page"]) fun _ _ _ _ _ _ us hl => match us, hl with | [_, _, _], _ => rfl
  have F_mcheck_erased_from := fun_mk (st := sCE) l_mcheck_erased_from c_mcheck_erased_from k_mcheck_erased_from
  have b_mcheck_erased_from := F_mcheck_erased_from.binds (ps := ["self", "block", "page"]) fun _ _ _ _ _ _ us hl => match us, hl with | [_, _, _], _ => rfl
  have F_mdraw_power := fun_mk (st := sDraw) l_mdraw_power c_mdraw_power k_mdraw_power
  have b_mdraw_power := F_mdraw_power.binds (ps := ["self"]) fun _ _ _ _ _ _ us hl => match us, hl with | [_], _ => rfl
  have F_dcopied := fun_mk (st := sCopied) l_dcopied c_dcopied k_dcopied
  have b_dcopied := F_dcopied.binds (ps := ["chip"]) fun _ _ _ _ _ _ us hl => match us, hl with | [_], _ => rfl
  have F_dlaw_cell := fun_mk (st := sCell) l_dlaw_cell c_dlaw_cell k_dlaw_cell
  have b_dlaw_cell := F_dlaw_cell.binds (ps := ["_law_script", "_law_k"]) fun _ _ _ _ _ _ us hl => match us, hl with | [_, _], _ => rfl
  have F_dlaw_drawn := fun_mk (st := sDrawn) l_dlaw_drawn c_dlaw_drawn k_dlaw_drawn
  have b_dlaw_drawn := F_dlaw_drawn.binds (ps := ["_law_cell_here", "_law_k"]) fun _ _ _ _ _ _ us hl => match us, hl with | [_, _], _ => rfl
  have F_dlaw_word := fun_mk (st := sWord) l_dlaw_word c_dlaw_word k_dlaw_word
  have b_dlaw_word := F_dlaw_word.binds (ps := ["_law_e"]) fun _ _ _ _ _ _ us hl => match us, hl with | [_], _ => rfl
  have F_dlaw_made := fun_mk (st := sMade) l_dlaw_made c_dlaw_made k_dlaw_made
  have b_dlaw_made := F_dlaw_made.binds (ps := ["_law_blocks", "_law_pages"]) fun _ _ _ _ _ _ us hl => match us, hl with | [_, _], _ => rfl
  have F_dlaw_own := fun_mk (st := sOwn) l_dlaw_own c_dlaw_own k_dlaw_own
  have b_dlaw_own := F_dlaw_own.binds (ps := ["_law_rows", "_law_worn", "_law_many"]) fun _ _ _ _ _ _ us hl => match us, hl with | [_, _, _], _ => rfl
  have F_dlaw_done := fun_mk (st := sDone) l_dlaw_done c_dlaw_done k_dlaw_done
  have b_dlaw_done := F_dlaw_done.binds (ps := ["_law_chip", "_law_deed_here"]) fun _ _ _ _ _ _ us hl => match us, hl with | [_, _], _ => rfl
  have F_dlaw_beside := fun_mk (st := sBeside) l_dlaw_beside c_dlaw_beside k_dlaw_beside
  have b_dlaw_beside := F_dlaw_beside.binds (ps := ["_law_m", "_law_deed_here"]) fun _ _ _ _ _ _ us hl => match us, hl with | [_, _], _ => rfl
  have F_dlaw_right := fun_mk (st := sRight) l_dlaw_right c_dlaw_right k_dlaw_right
  have b_dlaw_right := F_dlaw_right.binds (ps := ["_law_chip", "_law_m"]) fun _ _ _ _ _ _ us hl => match us, hl with | [_, _], _ => rfl
  have F_dlaw_deed := fun_mk (st := sDeed) l_dlaw_deed c_dlaw_deed k_dlaw_deed
  have b_dlaw_deed := F_dlaw_deed.binds (ps := ["_law_more", "_law_m"]) fun _ _ _ _ _ _ us hl => match us, hl with | [_, _], _ => rfl
  have F_dlaw := fun_mk (st := sLaw) l_dlaw c_dlaw k_dlaw
  have b_dlaw := F_dlaw.binds (ps := ["_law_script"]) fun _ _ _ _ _ _ us hl => match us, hl with | [_], _ => rfl
  refine ⟨PySem.W.fnOf "law" "law" (defArgs sLaw) (defBody sLaw) (defScope sLaw) .none kV_dlaw dc_dlaw pm_dlaw an_dlaw cd_dlaw ct_dlaw, fun s v => .of_eq rfl, fun base _ _ => ?_⟩
  have M_check_block : MtB l.prog w K mg base C _ "check_block" _ _ := ⟨_, _, ok_check_block (P := l.prog) (w := w) (base := base) F_mcheck_block T, b_mcheck_block, ⟨a_mcheck_block, i_mcheck_block, k_mcheck_block⟩⟩
  have M_check_page : MtB l.prog w K mg base C _ "check_page" _ _ := ⟨_, _, ok_check_page (P := l.prog) (w := w) (base := base) F_mcheck_page T M_check_block, b_mcheck_page, ⟨a_mcheck_page, i_mcheck_page, k_mcheck_page⟩⟩
  have M_size : MtB l.prog w K mg base C _ "size" _ _ := ⟨_, _, ok_size (P := l.prog) (w := w) (base := base) F_msize T, b_msize, ⟨a_msize, i_msize, k_msize⟩⟩
  have M_written : MtB l.prog w K mg base C _ "written" _ _ := ⟨_, _, ok_written (P := l.prog) (w := w) (base := base) F_mwritten T, b_mwritten, ⟨a_mwritten, i_mwritten, k_mwritten⟩⟩
  have M_page : MtB l.prog w K mg base C _ "page" _ _ := ⟨_, _, ok_page (P := l.prog) (w := w) (base := base) F_mpage T M_check_page, b_mpage, ⟨a_mpage, i_mpage, k_mpage⟩⟩
  have M_worn : MtB l.prog w K mg base C _ "worn" _ _ := ⟨_, _, ok_worn (P := l.prog) (w := w) (base := base) F_mworn T M_check_block, b_mworn, ⟨a_mworn, i_mworn, k_mworn⟩⟩
  have M_power : MtB l.prog w K mg base C _ "power" _ _ := ⟨_, _, ok_power (P := l.prog) (w := w) (base := base) F_mpower T, b_mpower, ⟨a_mpower, i_mpower, k_mpower⟩⟩
  have M_draw_power : MtB l.prog w K mg base C _ "draw_power" _ _ := ⟨_, _, ok_draw (P := l.prog) (w := w) (base := base) F_mdraw_power T, b_mdraw_power, ⟨a_mdraw_power, i_mdraw_power, k_mdraw_power⟩⟩
  have M_check_erased_from : MtB l.prog w K mg base C _ "check_erased_from" _ _ := ⟨_, _, ok_check_erased (P := l.prog) (w := w) (base := base) F_mcheck_erased_from T, b_mcheck_erased_from, ⟨a_mcheck_erased_from, i_mcheck_erased_from, k_mcheck_erased_from⟩⟩
  have M_write : MtB l.prog w K mg base C _ "write" _ _ := ⟨_, _, ok_write (P := l.prog) (w := w) (base := base) F_mwrite T M_check_page M_check_erased_from M_draw_power, b_mwrite, ⟨a_mwrite, i_mwrite, k_mwrite⟩⟩
  have M_erase : MtB l.prog w K mg base C _ "erase" _ _ := ⟨_, _, ok_erase (P := l.prog) (w := w) (base := base) F_merase T M_check_block M_draw_power, b_merase, ⟨a_merase, i_merase, k_merase⟩⟩
  have B_Chip : MkB l.prog w K mg base C _ "Chip" _ _ := ⟨_, _, ok_init (P := l.prog) (w := w) (base := base) F_minit T, b_minit, ⟨mk, a_minit, i_minit, kc⟩, T.g_Chip⟩
  have B_copied : FnB l.prog w K mg base _ "copied" _ _ := ⟨_, _, ok_copied (P := l.prog) (w := w) (base := base) F_dcopied T B_Chip, b_dcopied, PySem.W.mg_of X G a_dcopied, k_dcopied⟩
  have B_law_cell : FnB l.prog w K mg base _ "_law_cell" _ _ := ⟨_, _, ok_cell (P := l.prog) (w := w) (base := base) F_dlaw_cell T, b_dlaw_cell, PySem.W.mg_of X G a_dlaw_cell, k_dlaw_cell⟩
  have B_law_drawn : FnB l.prog w K mg base _ "_law_drawn" _ _ := ⟨_, _, ok_drawn (P := l.prog) (w := w) (base := base) F_dlaw_drawn, b_dlaw_drawn, PySem.W.mg_of X G a_dlaw_drawn, k_dlaw_drawn⟩
  have B_law_own : FnB l.prog w K mg base _ "_law_own" _ _ := ⟨_, _, ok_own (P := l.prog) (w := w) (base := base) F_dlaw_own, b_dlaw_own, PySem.W.mg_of X G a_dlaw_own, k_dlaw_own⟩
  have B_law_word : FnBA l.prog w K mg base _ "_law_word" _ _ := ⟨_, _, ok_word (P := l.prog) (w := w) (base := base) F_dlaw_word T W, b_dlaw_word, PySem.W.mg_of X G a_dlaw_word, k_dlaw_word⟩
  have B_law_made : FnB l.prog w K mg base _ "_law_made" _ _ := ⟨_, _, ok_made (P := l.prog) (w := w) (base := base) F_dlaw_made T W B_Chip B_law_word, b_dlaw_made, PySem.W.mg_of X G a_dlaw_made, k_dlaw_made⟩
  have B_law_done : FnB l.prog w K mg base _ "_law_done" _ _ := ⟨_, _, ok_done (P := l.prog) (w := w) (base := base) F_dlaw_done T W M_write M_erase M_power B_law_word, b_dlaw_done, PySem.W.mg_of X G a_dlaw_done, k_dlaw_done⟩
  have B_law_beside : FnB l.prog w K mg base _ "_law_beside" _ _ := ⟨_, _, ok_beside (P := l.prog) (w := w) (base := base) F_dlaw_beside T, b_dlaw_beside, PySem.W.mg_of X G a_dlaw_beside, k_dlaw_beside⟩
  have B_law_right : FnB l.prog w K mg base _ "_law_right" _ _ := ⟨_, _, ok_right (P := l.prog) (w := w) (base := base) F_dlaw_right T M_size M_written M_worn M_page, b_dlaw_right, PySem.W.mg_of X G a_dlaw_right, k_dlaw_right⟩
  have B_law_deed : FnB l.prog w K mg base _ "_law_deed" _ _ := ⟨_, _, ok_deed (P := l.prog) (w := w) (base := base) F_dlaw_deed T, b_dlaw_deed, PySem.W.mg_of X G a_dlaw_deed, k_dlaw_deed⟩
  exact ok_law F_dlaw T B_law_drawn B_law_cell B_law_made B_law_own B_copied B_law_deed B_law_done B_law_beside B_law_right
theorem scr_of {K : PySem.W.Frag} {H : Hp} {a : Addr} {ns : List Int} (hO : Only H) (hS : SqL K H a (ns.map V.int)) : Scr K H a ns := by
  rcases hS with (h | ⟨o, h⟩) | h
  · rcases hO a with z | ⟨o, xs, z⟩
    · rw [z] at h; cases h
    · rw [z] at h; cases h
  · exact .inl ⟨o, h⟩
  · exact .inr (.inr h)
theorem walk {l : PySem.W.OpenLaw} {q : Program} {loose : List Str} {XP : (Str → Option Value) → Heap → Prop} {YP : World → Heap → Prop} {d : DefRec} {K : Params → PySem.W.Frag} (hn : l.most = some 63) (hdf : d.params.defaults = [])
    (hY : ∀ (w : World) (h : Heap), YP w h → (K w.params).In h)
    (F : ∀ (w : World) (mg : Str → Option Value) (fa : Addr) (h : Heap), (K w.params).In h → h.Ns mainGlobals mg → mg d.name = some (.ref fa) →
      ∃ fd : FuncData, (∀ (s : Shared) (u : Value), BindsTo s fd ⟨[u], []⟩ [("_law_script", u)]) ∧ ∀ base : Heap, (K w.params).In base → base.Ns mainGlobals mg → FnOk l.prog w (K w.params) mg base (CXw l.prog w) 55 fa fd ["_law_script"] (spLaw (K w.params))) :
    PySem.W.WalkO q loose XP YP l.row.toRowW d [] (fun f vs => PySem.call f vs) :=
  L2.walk_of (n := 63) (k := 55) (x := "_law_script") (CX := fun w => CXw l.prog w) (sp := fun w => spLaw (K w.params)) hn (by decide) hdf ⟨fun _ => rfl, by decide, by decide⟩ hY F (fun _ _ a ns hl hO hS => ⟨a, ns, rfl, scr_of hO hS, hl, fun _ => rfl⟩) fun _ _ _ _ _ z => by
    obtain ⟨x, T, cls, H', _, _, _, _, _, _, _, _, _, _, z⟩ := z
    exact z
end Ev
open PySem PySem.W PyProof.Rows
set_option maxRecDepth 100000 in
set_option maxHeartbeats 0 in
theorem PySem.Challenge.cw_evenwear_k10_chip_holds : PySem.Challenge.rw_evenwear_k10_chip.Holds := by
  w_on; o_law; k_head; (case hw => w_witness2)
  k_fill
  refine Ev.walk (l := PySem.Challenge.rw_evenwear_k10_chip) rfl rfl (fun w h Y => PySem.W.kIn_of Y) ?F
  case F =>
    intro w mg fa h KX G hmg
    refine' Ev.all_mk KX G hmg ?a_cWE ?a_cBS ?a_cNP ?a_cNE ?a_cNS ?a_cBC ?a_cCu ?a_C ?x_cBS ?x_cNP ?x_cNE ?x_cCu ?q_get ?q_tk ?ga_cBS ?gt_cBS ?cl_cBS ?at_cBS ?ob_cBS ?be_cBS ?k_cBS_cBS ?k_cBS_cNP ?k_cBS_cNE ?k_cBS_cNS ?k_cBS_cBC ?k_cBS_cCu ?kv_cBS ?ex_cBS ?ga_cNP ?gt_cNP ?cl_cNP ?at_cNP ?ob_cNP ?be_cNP ?k_cNP_cBS ?k_cNP_cNP ?k_cNP_cNE ?k_cNP_cNS ?k_cNP_cBC ?k_cNP_cCu ?kv_cNP ?ex_cNP ?ga_cNE ?gt_cNE ?cl_cNE ?at_cNE ?ob_cNE ?be_cNE ?k_cNE_cBS ?k_cNE_cNP ?k_cNE_cNE ?k_cNE_cNS ?k_cNE_cBC ?k_cNE_cCu ?kv_cNE ?ex_cNE ?ga_cCu ?gt_cCu ?cl_cCu ?at_cCu ?ob_cCu ?be_cCu ?k_cCu_cBS ?k_cCu_cNP ?k_cCu_cNE ?k_cCu_cNS ?k_cCu_cBC ?k_cCu_cCu ?kv_cCu ?ex_cCu ?pg ?hd ?po ?sa ?mk ?kc ?aB ?aP ?aH ?aE ?aW ?aL ?aD ?z_LB ?z_MB ?z_LP ?z_MP ?z_TO ?n_len ?n_range ?n_int ?n_list ?n_sum ?n_max ?n_min ?n_isinstance ?n_ValueError ?a_minit ?i_minit ?l_minit ?c_minit ?k_minit ?a_msize ?i_msize ?l_msize ?c_msize ?k_msize ?a_mpage ?i_mpage ?l_mpage ?c_mpage ?k_mpage ?a_mworn ?i_mworn ?l_mworn ?c_mworn ?k_mworn ?a_mwritten ?i_mwritten ?l_mwritten ?c_mwritten ?k_mwritten ?a_mpower ?i_mpower ?l_mpower ?c_mpower ?k_mpower ?a_mwrite ?i_mwrite ?l_mwrite ?c_mwrite ?k_mwrite ?a_merase ?i_merase ?l_merase ?c_merase ?k_merase ?a_mcheck_block ?i_mcheck_block ?l_mcheck_block ?c_mcheck_block ?k_mcheck_block ?a_mcheck_page ?i_mcheck_page ?l_mcheck_page ?c_mcheck_page ?k_mcheck_page ?a_mcheck_erased_from ?i_mcheck_erased_from ?l_mcheck_erased_from ?c_mcheck_erased_from ?k_mcheck_erased_from ?a_mdraw_power ?i_mdraw_power ?l_mdraw_power ?c_mdraw_power ?k_mdraw_power ?a_dcopied ?l_dcopied ?c_dcopied ?k_dcopied ?a_dlaw_cell ?l_dlaw_cell ?c_dlaw_cell ?k_dlaw_cell ?a_dlaw_drawn ?l_dlaw_drawn ?c_dlaw_drawn ?k_dlaw_drawn ?a_dlaw_word ?l_dlaw_word ?c_dlaw_word ?k_dlaw_word ?a_dlaw_made ?l_dlaw_made ?c_dlaw_made ?k_dlaw_made ?a_dlaw_own ?l_dlaw_own ?c_dlaw_own ?k_dlaw_own ?a_dlaw_done ?l_dlaw_done ?c_dlaw_done ?k_dlaw_done ?a_dlaw_beside ?l_dlaw_beside ?c_dlaw_beside ?k_dlaw_beside ?a_dlaw_right ?l_dlaw_right ?c_dlaw_right ?k_dlaw_right ?a_dlaw_deed ?l_dlaw_deed ?c_dlaw_deed ?k_dlaw_deed ?a_dlaw ?l_dlaw ?c_dlaw ?k_dlaw
    (case a_cWE => k_is)
    (case a_cBS => k_is)
    (case a_cNP => k_is)
    (case a_cNE => k_is)
    (case a_cNS => k_is)
    (case a_cBC => k_is)
    (case a_cCu => k_is)
    (case a_C => k_is)
    (case x_cBS => k_exc)
    (case x_cNP => k_exc)
    (case x_cNE => k_exc)
    (case x_cCu => k_exc)
    (case q_get => k_is)
    (case q_tk => k_is)
    (case ga_cBS => k_is)
    (case gt_cBS => k_is)
    (case cl_cBS => k_is)
    (case at_cBS => k_is)
    (case ob_cBS => k_is)
    (case be_cBS => k_is)
    (case k_cBS_cBS => kit_is)
    (case k_cBS_cNP => kit_is)
    (case k_cBS_cNE => kit_is)
    (case k_cBS_cNS => kit_is)
    (case k_cBS_cBC => kit_is)
    (case k_cBS_cCu => kit_is)
    (case kv_cBS => kit_is)
    (case ex_cBS => kts_exm)
    (case ga_cNP => k_is)
    (case gt_cNP => k_is)
    (case cl_cNP => k_is)
    (case at_cNP => k_is)
    (case ob_cNP => k_is)
    (case be_cNP => k_is)
    (case k_cNP_cBS => kit_is)
    (case k_cNP_cNP => kit_is)
    (case k_cNP_cNE => kit_is)
    (case k_cNP_cNS => kit_is)
    (case k_cNP_cBC => kit_is)
    (case k_cNP_cCu => kit_is)
    (case kv_cNP => kit_is)
    (case ex_cNP => kts_exm)
    (case ga_cNE => k_is)
    (case gt_cNE => k_is)
    (case cl_cNE => k_is)
    (case at_cNE => k_is)
    (case ob_cNE => k_is)
    (case be_cNE => k_is)
    (case k_cNE_cBS => kit_is)
    (case k_cNE_cNP => kit_is)
    (case k_cNE_cNE => kit_is)
    (case k_cNE_cNS => kit_is)
    (case k_cNE_cBC => kit_is)
    (case k_cNE_cCu => kit_is)
    (case kv_cNE => kit_is)
    (case ex_cNE => kts_exm)
    (case ga_cCu => k_is)
    (case gt_cCu => k_is)
    (case cl_cCu => k_is)
    (case at_cCu => k_is)
    (case ob_cCu => k_is)
    (case be_cCu => k_is)
    (case k_cCu_cBS => kit_is)
    (case k_cCu_cNP => kit_is)
    (case k_cCu_cNE => kit_is)
    (case k_cCu_cNS => kit_is)
    (case k_cCu_cBC => kit_is)
    (case k_cCu_cCu => kit_is)
    (case kv_cCu => kit_is)
    (case ex_cCu => kts_exm)
    (case pg => k_is)
    (case hd => k_is)
    (case po => k_is)
    (case sa => k_is)
    (case mk => k_is)
    (case kc => k_is)
    (case aB => k_is)
    (case aP => k_is)
    (case aH => k_is)
    (case aE => k_is)
    (case aW => k_is)
    (case aL => k_is)
    (case aD => k_is)
    (case z_LB => k_is)
    (case z_MB => k_is)
    (case z_LP => k_is)
    (case z_MP => k_is)
    (case z_TO => k_is)
    (case n_len => k_is)
    (case n_range => k_is)
    (case n_int => k_is)
    (case n_list => k_is)
    (case n_sum => k_is)
    (case n_max => k_is)
    (case n_min => k_is)
    (case n_isinstance => k_is)
    (case n_ValueError => k_is)
    (case a_minit => k_is)
    (case i_minit => k_is)
    (case l_minit => k_is)
    (case c_minit => k_is)
    (case k_minit => k_is)
    (case a_msize => k_is)
    (case i_msize => k_is)
    (case l_msize => k_is)
    (case c_msize => k_is)
    (case k_msize => k_is)
    (case a_mpage => k_is)
    (case i_mpage => k_is)
    (case l_mpage => k_is)
    (case c_mpage => k_is)
    (case k_mpage => k_is)
    (case a_mworn => k_is)
    (case i_mworn => k_is)
    (case l_mworn => k_is)
    (case c_mworn => k_is)
    (case k_mworn => k_is)
    (case a_mwritten => k_is)
    (case i_mwritten => k_is)
    (case l_mwritten => k_is)
    (case c_mwritten => k_is)
    (case k_mwritten => k_is)
    (case a_mpower => k_is)
    (case i_mpower => k_is)
    (case l_mpower => k_is)
    (case c_mpower => k_is)
    (case k_mpower => k_is)
    (case a_mwrite => k_is)
    (case i_mwrite => k_is)
    (case l_mwrite => k_is)
    (case c_mwrite => k_is)
    (case k_mwrite => k_is)
    (case a_merase => k_is)
    (case i_merase => k_is)
    (case l_merase => k_is)
    (case c_merase => k_is)
    (case k_merase => k_is)
    (case a_mcheck_block => k_is)
    (case i_mcheck_block => k_is)
    (case l_mcheck_block => k_is)
    (case c_mcheck_block => k_is)
    (case k_mcheck_block => k_is)
    (case a_mcheck_page => k_is)
    (case i_mcheck_page => k_is)
    (case l_mcheck_page => k_is)
    (case c_mcheck_page => k_is)
    (case k_mcheck_page => k_is)
    (case a_mcheck_erased_from => k_is)
    (case i_mcheck_erased_from => k_is)
    (case l_mcheck_erased_from => k_is)
    (case c_mcheck_erased_from => k_is)
    (case k_mcheck_erased_from => k_is)
    (case a_mdraw_power => k_is)
    (case i_mdraw_power => k_is)
    (case l_mdraw_power => k_is)
    (case c_mdraw_power => k_is)
    (case k_mdraw_power => k_is)
    (case a_dcopied => k_is)
    (case l_dcopied => k_is)
    (case c_dcopied => k_is)
    (case k_dcopied => k_is)
    (case a_dlaw_cell => k_is)
    (case l_dlaw_cell => k_is)
    (case c_dlaw_cell => k_is)
    (case k_dlaw_cell => k_is)
    (case a_dlaw_drawn => k_is)
    (case l_dlaw_drawn => k_is)
    (case c_dlaw_drawn => k_is)
    (case k_dlaw_drawn => k_is)
    (case a_dlaw_word => k_is)
    (case l_dlaw_word => k_is)
    (case c_dlaw_word => k_is)
    (case k_dlaw_word => k_is)
    (case a_dlaw_made => k_is)
    (case l_dlaw_made => k_is)
    (case c_dlaw_made => k_is)
    (case k_dlaw_made => k_is)
    (case a_dlaw_own => k_is)
    (case l_dlaw_own => k_is)
    (case c_dlaw_own => k_is)
    (case k_dlaw_own => k_is)
    (case a_dlaw_done => k_is)
    (case l_dlaw_done => k_is)
    (case c_dlaw_done => k_is)
    (case k_dlaw_done => k_is)
    (case a_dlaw_beside => k_is)
    (case l_dlaw_beside => k_is)
    (case c_dlaw_beside => k_is)
    (case k_dlaw_beside => k_is)
    (case a_dlaw_right => k_is)
    (case l_dlaw_right => k_is)
    (case c_dlaw_right => k_is)
    (case k_dlaw_right => k_is)
    (case a_dlaw_deed => k_is)
    (case l_dlaw_deed => k_is)
    (case c_dlaw_deed => k_is)
    (case k_dlaw_deed => k_is)
    (case a_dlaw => k_is)
    (case l_dlaw => k_is)
    (case c_dlaw => k_is)
    (case k_dlaw => k_is)

