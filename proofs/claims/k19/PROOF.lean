import PyProof.Rows.All
import Wide.All
import OpenK.AllK
import Wide.FinOn
import Lean
import PyProof.EqAt
import PyProof.EqKinds
import PyProof.TupleCall
import PySem.Challenge.RW_cellkeep_k19_deeds_refused
set_option Elab.async false
set_option linter.all false
set_option maxRecDepth 100000
set_option maxHeartbeats 4000000
/-! THE HAND LAYER, for ints, bools, texts, own classes, LISTS and tuples (index, slices, in, append, pop ..), calls, loops. Paste it whole ahead of your own text; what your proof does not reach may be deleted. -/
namespace L2
open PySem PySem.Spec PyProof.Rows

/-- a key: an int or a str -/
abbrev Key := Sum Int Str
def keyIs : Key → Value → Bool
  | .inl k, v => Value.isInt k v
  | .inr x, v => Value.isStrOf x v
def keyH (w : World) : Key → Int
  | .inl k => hashInt k
  | .inr x => hashStr w x
theorem keyIs_shape : ∀ {k : Key} {v : Value}, keyIs k v = true → (∃ i t, k = Sum.inl i ∧ v = Value.int i t) ∨ (∃ x t, k = Sum.inr x ∧ v = Value.str x t)
  | .inl i, v, h => by
    obtain ⟨t, e⟩ := Value.isInt_shape (k := i) (v := v) h
    exact .inl ⟨i, t, rfl, e⟩
  | .inr x, v, h => by
    obtain ⟨t, e⟩ := Value.isStrOf_shape (x := x) (v := v) h
    exact .inr ⟨x, t, rfl, e⟩
theorem keyIs_int (i : Int) (t : Tok) : keyIs (.inl i) (.int i t) = true := by simp [keyIs, Value.isInt]
theorem keyIs_str (x : Str) (t : Tok) : keyIs (.inr x) (.str x t) = true := by simp [keyIs, Value.isStrOf]
theorem key_ll (a b : Int) : decide ((Sum.inl a : Key) = Sum.inl b) = (a == b) := by
  by_cases e : a = b
  · subst e; simp
  · have h : ¬ (Sum.inl a : Key) = Sum.inl b := fun q => e (Sum.inl.inj q)
    rw [decide_eq_false h]
    exact (beq_eq_false_iff_ne.mpr e).symm
theorem key_rr (a b : Str) : decide ((Sum.inr a : Key) = Sum.inr b) = decide (a = b) := by
  by_cases e : a = b
  · subst e; simp
  · have h : ¬ (Sum.inr a : Key) = Sum.inr b := fun q => e (Sum.inr.inj q)
    rw [decide_eq_false h, decide_eq_false e]
theorem key_lr (a : Int) (b : Str) : decide ((Sum.inl a : Key) = Sum.inr b) = false := decide_eq_false (fun q => nomatch q)
theorem key_rl (a : Str) (b : Int) : decide ((Sum.inr a : Key) = Sum.inl b) = false := decide_eq_false (fun q => nomatch q)

def mixKind (prog : Program) (w : World) : PySem.KeyKind prog w Key where
  is := keyIs
  hash := keyH w
  inj := fun v a b ha hb => by
    rcases keyIs_shape ha with ⟨i, t, rfl, rfl⟩ | ⟨x, t, rfl, rfl⟩
    · rcases keyIs_shape hb with ⟨j, u, rfl, e⟩ | ⟨y, u, rfl, e⟩
      · injection e with e1 _; rw [e1]
      · exact nomatch e
    · rcases keyIs_shape hb with ⟨j, u, rfl, e⟩ | ⟨y, u, rfl, e⟩
      · exact nomatch e
      · injection e with e1 _; rw [e1]
  byValue := fun k v h => by
    rcases keyIs_shape h with ⟨i, t, rfl, rfl⟩ | ⟨x, t, rfl, rfl⟩ <;> rfl
  pyHash := fun hv h => by
    rcases keyIs_shape hv with ⟨i, t, rfl, rfl⟩ | ⟨x, t, rfl, rfl⟩
    · exact wpAny_pyHash_int h
    · exact wpAny_pyHash_str h
  eqBool := fun hu hv h => by
    rcases keyIs_shape hu with ⟨i, t, rfl, rfl⟩ | ⟨x, t, rfl, rfl⟩
    · rcases keyIs_shape hv with ⟨j, u, rfl, rfl⟩ | ⟨y, u, rfl, rfl⟩
      · rw [key_ll] at h; exact wpAny_eqBool_int h
      · rw [key_lr] at h; exact SeqAt.EqAt.int_str i t y u _ _ _ _ h
    · rcases keyIs_shape hv with ⟨j, u, rfl, rfl⟩ | ⟨y, u, rfl, rfl⟩
      · rw [key_rl] at h; exact SeqAt.EqAt.str_int x t j u _ _ _ _ h
      · rw [key_rr] at h; exact wpAny_eqBool_str h
  «strs» := fun k x t v h => by
    rcases keyIs_shape h with ⟨i, u, rfl, e⟩ | ⟨y, u, rfl, e⟩
    · exact nomatch e
    · injection e with e1 _
      subst e1
      cases v <;> rfl

theorem mixKind_int (prog : Program) (w : World) (i : Int) (t : Tok) : (mixKind prog w).is (.inl i) (.int i t) = true := keyIs_int i t
theorem mixKind_str (prog : Program) (w : World) (x : Str) (t : Tok) : (mixKind prog w).is (.inr x) (.str x t) = true := keyIs_str x t
end L2

namespace L2
open PySem PySem.Spec PyProof.Rows

/-- a value, without the heap -/
inductive V where
  | non | bl (b : Bool) | int (i : Int) | str (x : Str) | byt (b : Array UInt8) | flt (b : UInt64) | ref (a : Addr) | ty (n : String)
  deriving DecidableEq

def RelV : V → Value → Prop
  | .non, u => u = Value.none
  | .bl b, u => u = Value.bool b
  | .int i, u => ∃ t, u = Value.int i t
  | .str x, u => ∃ t, u = Value.str x t
  | .byt b, u => ∃ t, u = Value.bytes b t
  | .flt b, u => ∃ t, u = Value.float b t
  | .ref a, u => u = Value.ref a
  | .ty n, u => u = Value.type n

abbrev Vals : List V → List Value → Prop := Paired RelV
theorem Vals.length {xs : List V} {us : List Value} (r : Vals xs us) : xs.length = us.length := Paired.length r
theorem Vals.get : ∀ {xs : List V} {us : List Value} {i : Nat} {x : V}, Vals xs us → xs[i]? = some x → ∃ u, us[i]? = some u ∧ RelV x u
  | _, _, _, _, .nil, e => by simp at e
  | _, _, 0, _, .cons r _, e => by simp at e; subst e; exact ⟨_, rfl, r⟩
  | _, _, i + 1, x, .cons _ t, e => by
    obtain ⟨u, h1, h2⟩ := Vals.get (i := i) (x := x) t (by simpa using e)
    exact ⟨u, by simpa using h1, h2⟩
theorem Vals.set {x : V} {u : Value} (r : RelV x u) : ∀ {xs : List V} {us : List Value} (i : Nat), Vals xs us → Vals (xs.set i x) (us.set i u)
  | _, _, _, .nil => .nil
  | _, _, 0, .cons _ t => .cons r t
  | _, _, i + 1, .cons q t => .cons q (Vals.set r i t)
theorem Vals.append : ∀ {xs ys : List V} {us ws : List Value}, Vals xs us → Vals ys ws → Vals (xs ++ ys) (us ++ ws)
  | _, _, _, _, .nil, s => s
  | _, _, _, _, .cons r t, s => .cons r (Vals.append t s)
theorem Vals.take : ∀ {xs : List V} {us : List Value} (n : Nat), Vals xs us → Vals (xs.take n) (us.take n)
  | _, _, 0, _ => .nil
  | _, _, _ + 1, .nil => .nil
  | _, _, n + 1, .cons r t => .cons r (Vals.take n t)
theorem Vals.drop : ∀ {xs : List V} {us : List Value} (n : Nat), Vals xs us → Vals (xs.drop n) (us.drop n)
  | _, _, 0, r => r
  | _, _, _ + 1, .nil => .nil
  | _, _, n + 1, .cons _ t => Vals.drop n t
theorem Vals.none_of : ∀ {xs : List V} {us : List Value} {i : Nat}, Vals xs us → xs[i]? = none → us[i]? = none := fun {xs us i} r e => by
  have h1 := r.length
  have h2 : xs.length ≤ i := List.getElem?_eq_none_iff.mp e
  exact List.getElem?_eq_none_iff.mpr (by omega)

def RelO : Option V → Option Value → Prop
  | some v, some u => RelV v u
  | none, none => True
  | _, _ => False
def KV {κ : Type} : List (κ × V) → List (κ × Value) → Prop := Paired fun (p : κ × V) (q : κ × Value) => p.1 = q.1 ∧ RelV p.2 q.2

/-- a key of a dict (00_mix): an int or a text -/
def kV : Key → V
  | .inl i => .int i
  | .inr x => .str x

/-- what stands at a tracked address -/
inductive HO where
  /-- a list -/
  | lst (xs : List V)
  /-- a tuple (never changes) -/
  | tup (xs : List V)
  /-- a dict whose keys are ints and texts; one whose keys are tuples of ints and texts (the empty one is both) -/
  | dK (kvs : List (Key × V)) | dT (kvs : List (List Key × V))
  /-- a set of ints: its members, its size -/
  | set (S : Int → Bool) (n : Nat)
  /-- an instance of the class at C, its dict at dx, its attributes -/
  | ins (C dx : Addr) (fs : List (Str × V))
  /-- the dict of the instance at x -/
  | own (x : Addr)
  /-- the dict of an exception -/
  | xd (fs : List (Str × V))
  /-- a bound method, f of x -/
  | met (f x : Addr)
  /-- a range object lo, lo + 1, .. below hi -/
  | rng (lo hi : Int)
  /-- a thing that is known to the object (the script; a dict while a loop walks it): read, never written while it is so -/
  | frz (o : Obj) (u : HO)
  /-- a code object's table -/
  | tbl (ps : Array Value)
  /-- any other thing, by what is true of its one object (a def of one's own: SetO a S n := HO.ext fun h => ..) -/
  | ext (φ : Heap → Prop)
  /-- an exception that was caught, by its class -/
  | exc (cls : Value)

abbrev Hp := Addr → Option HO
def upd (H : Hp) (a : Addr) (o : HO) : Hp := fun b => if b = a then some o else H b
theorem upd_same {H : Hp} {a : Addr} {o : HO} : upd H a o a = some o := by unfold upd; rw [if_pos rfl]
theorem upd_ne {H : Hp} {a b : Addr} {o : HO} (h : b ≠ a) : upd H a o b = H b := by unfold upd; rw [if_neg h]
theorem upd_upd {H : Hp} {a : Addr} {o u : HO} : upd (upd H a o) a u = upd H a u := by
  funext b; unfold upd; split <;> rfl
/-- two objects of different content stand apart -/
theorem ne_of {H : Hp} {a b : Addr} {o u : HO} (h : H a = some o) (h' : H b = some u) (d : o ≠ u) : a ≠ b := by
  intro e; subst e; rw [h] at h'; exact d (Option.some.inj h')
theorem ne_of_none {H : Hp} {a b : Addr} {o : HO} (h : H a = some o) (h' : H b = none) : a ≠ b := by
  intro e; subst e; rw [h] at h'; cases h'

section
variable (P : Program) (w : World)
def ObjOk (H : Hp) (h : Heap) (a : Addr) : HO → Prop
  | .lst xs => xs.length ≤ sizeLine ∧ ∃ (its : List Value) (n : Nat), Vals xs its ∧ h.get? a = some { cls := .type "list", data := .seq its.toArray n }
  | .tup xs => xs.length ≤ sizeLine ∧ ∃ its : List Value, Vals xs its ∧ IsTup h a its.toArray
  | .dK kvs => kvs.length ≤ sizeLine ∧ (a == sysModules) = false ∧ ∃ vs, KV kvs vs ∧ h.DictOf (mixKind P w) a vs
  | .dT kvs => kvs.length ≤ sizeLine ∧ (a == sysModules) = false ∧ ∃ xs : List (List Key × Addr × Value),
      Paired (fun (p : List Key × V) (q : List Key × Addr × Value) => p.1 = q.1 ∧ H q.2.1 = some (.tup (p.1.map kV)) ∧ RelV p.2 q.2.2) kvs xs ∧
      ∃ o es ep, h.get? a = some o ∧ o.ExactDict ∧ o.data = .dict es ep ∧ es.toList = xs.map (entryOfKey (tupleKind (mixKind P w))) ∧ (xs.map (·.1)).Nodup
  | .set S n => h.SetOf (intKind P w) a S n
  | .ins C dx fs => H dx = some (.own a) ∧ fs.length ≤ 1000 ∧ dx ≠ a ∧ h.get? a = some (PySem.W.instObj C dx) ∧
      ∃ mA, h.Ns1 dx mA ∧ (∀ f, RelO (fs.lookup f) (mA f)) ∧ PySem.Within mA (fs.map (·.1))
  | .own _ => ∃ o, h.get? a = some o
  | .xd fs => ∃ mA, h.Ns1 a mA ∧ ∀ f, RelO (fs.lookup f) (mA f)
  | .rng lo hi => ∃ t u v, h.get? a = some { cls := .type "range", data := .fields #[.int lo t, .int hi u, .int 1 v] }
  | .frz o u => h.get? a = some o ∧ ObjOk H h a u
  | .tbl ps => h.get? a = some { cls := .none, data := .fields ps }
  | .met f x => h.get? a = some (PySem.W.methodObj (.ref f) (.ref x))
  | .exc cls => ∃ o vs, h.get? a = some o ∧ o.cls = cls ∧ o.data = .fields vs
  | .ext φ => φ h ∧ (∃ o, h.get? a = some o) ∧ ∀ h1 h2 : Heap, φ h1 → (∀ o, h1.get? a = some o → h2.get? a = some o) → φ h2
/-- the abstract heap is held -/
def HOk (H : Hp) (h : Heap) : Prop := ∀ a o, H a = some o → ObjOk P w H h a o
end

section
variable {P : Program} {w : World} {H H' : Hp} {h h' : Heap} {a : Addr} {o : HO}
theorem ObjOk.lt (x : ObjOk P w H h a o) : a < h.objs.size := by
  cases o with
  | lst xs => obtain ⟨_, _, _, _, e⟩ := x; exact Heap.lt_size e
  | tup xs => obtain ⟨_, _, _, p⟩ := x; exact p.lt
  | dK kvs => obtain ⟨_, _, _, _, o, _, _, e, _⟩ := x; exact Heap.lt_size e
  | dT kvs => obtain ⟨_, _, _, _, o, _, _, e, _⟩ := x; exact Heap.lt_size e
  | set S n => obtain ⟨o, _, _, _, e, _⟩ := x; exact Heap.lt_size e
  | ins C dx fs => obtain ⟨_, _, _, e, _⟩ := x; exact Heap.lt_size e
  | own y => obtain ⟨_, e⟩ := x; exact Heap.lt_size e
  | xd fs => obtain ⟨_, ⟨_, _, _, e, _⟩, _⟩ := x; exact Heap.lt_size e
  | rng lo hi => obtain ⟨_, _, _, e⟩ := x; exact Heap.lt_size e
  | frz ob u => obtain ⟨e, _⟩ := x; exact Heap.lt_size e
  | tbl ps => exact Heap.lt_size (show h.get? a = some _ from x)
  | met f y => exact Heap.lt_size (show h.get? a = some _ from x)
  | ext φ => obtain ⟨_, ⟨_, e⟩, _⟩ := x; exact Heap.lt_size e
  | exc cls => obtain ⟨_, _, e, _⟩ := x; exact Heap.lt_size e
theorem Paired.mapP {α β : Type} {F G : α → β → Prop} : ∀ {l₁ : List α} {l₂ : List β}, Paired F l₁ l₂ → (∀ a b, F a b → G a b) → Paired G l₁ l₂
  | _, _, .nil, _ => .nil
  | _, _, .cons r t, f => .cons (f _ _ r) (Paired.mapP t f)
/-- what an object's description leans on: its own object, its own dict, the tuples -/
theorem ObjOk.stay (x : ObjOk P w H h a o) (k : ∀ b u, (b = a ∨ H b = some (.own a)) → h.get? b = some u → h'.get? b = some u)
    (ho : ∀ b, H b = some (.own a) → H' b = some (.own a)) (ht : ∀ b xs, H b = some (.tup xs) → H' b = some (.tup xs)) : ObjOk P w H' h' a o := by
  induction o with
  | lst xs => obtain ⟨z, its, n, r, e⟩ := x; exact ⟨z, its, n, r, k _ _ (.inl rfl) e⟩
  | tup xs => obtain ⟨z, its, r, ob, e, c⟩ := x; exact ⟨z, its, r, ob, k _ _ (.inl rfl) e, c⟩
  | dK kvs => obtain ⟨z, y, vs, r, ob, es, ep, e, c⟩ := x; exact ⟨z, y, vs, r, ob, es, ep, k _ _ (.inl rfl) e, c⟩
  | dT kvs =>
    obtain ⟨z, y, xs, r, ob, es, ep, e, c⟩ := x
    exact ⟨z, y, xs, Paired.mapP r fun p q z => ⟨z.1, ht _ _ z.2.1, z.2.2⟩, ob, es, ep, k _ _ (.inl rfl) e, c⟩
  | set S n => obtain ⟨ob, es, ep, t, e, c⟩ := x; exact ⟨ob, es, ep, t, k _ _ (.inl rfl) e, c⟩
  | ins C dx fs =>
    obtain ⟨d, z, ne, e, mA, ⟨od, es, ep, e2, c⟩, r⟩ := x
    exact ⟨ho _ d, z, ne, k _ _ (.inl rfl) e, mA, ⟨od, es, ep, k _ _ (.inr d) e2, c⟩, r⟩
  | own y => obtain ⟨ob, e⟩ := x; exact ⟨ob, k _ _ (.inl rfl) e⟩
  | xd fs => obtain ⟨mA, ⟨od, es, ep, e, c⟩, r⟩ := x; exact ⟨mA, ⟨od, es, ep, k _ _ (.inl rfl) e, c⟩, r⟩
  | rng lo hi => obtain ⟨t, u, v, e⟩ := x; exact ⟨t, u, v, k _ _ (.inl rfl) e⟩
  | frz ob u ih => obtain ⟨e, q⟩ := x; exact ⟨k _ _ (.inl rfl) e, ih q⟩
  | tbl ps =>
    have e : h.get? a = some { cls := .none, data := .fields ps } := x
    show h'.get? a = some { cls := .none, data := .fields ps }
    exact k a _ (.inl rfl) e
  | met f y =>
    have e : h.get? a = some (PySem.W.methodObj (.ref f) (.ref y)) := x
    show h'.get? a = some (PySem.W.methodObj (.ref f) (.ref y))
    exact k a _ (.inl rfl) e
  | exc cls => obtain ⟨o, vs, e, c⟩ := x; exact ⟨o, vs, k _ _ (.inl rfl) e, c⟩
  | ext φ => obtain ⟨p, ⟨o, e⟩, st⟩ := x; exact ⟨st _ _ p fun o q => k _ _ (.inl rfl) q, ⟨o, k _ _ (.inl rfl) e⟩, st⟩
theorem HOk.lt (x : HOk P w H h) (e : H a = some o) : a < h.objs.size := (x a o e).lt
theorem HOk.fresh (x : HOk P w H h) (e : h.objs.size ≤ a) : H a = none := by
  cases q : H a with
  | none => rfl
  | some u => exact absurd (Nat.lt_of_lt_of_le (x.lt q) e) (Nat.lt_irrefl _)
/-- every object of the heap is kept -/
theorem HOk.kept (x : HOk P w H h) (k : ∀ b u, h.get? b = some u → h'.get? b = some u) : HOk P w H h' := fun a o e =>
  (x a o e).stay (fun b u _ q => k b u q) (fun _ q => q) fun _ _ q => q
/-- a new object is laid and tracked -/
theorem HOk.laid (x : HOk P w H h) (k : ∀ b u, h.get? b = some u → h'.get? b = some u) (hp : h.objs.size ≤ a) (new : ObjOk P w (upd H a o) h' a o) : HOk P w (upd H a o) h' := fun b u e => by
  have hn := x.fresh hp
  by_cases hb : b = a
  · subst hb; rw [upd_same] at e; cases e; exact new
  · rw [upd_ne hb] at e
    exact (x b u e).stay (fun c v _ q => k c v q) (fun c q => by rw [upd_ne (ne_of_none q hn)]; exact q) fun c xs q => by rw [upd_ne (ne_of_none q hn)]; exact q
end

/-- what may be read as u: it is u, or a known u -/
def Rd (H : Hp) (a : Addr) (u : HO) : Prop := H a = some u ∨ ∃ o, H a = some (.frz o u)
theorem Rd.of {H : Hp} {a : Addr} {u : HO} (h : H a = some u) : Rd H a u := .inl h
theorem Rd.ok {P : Program} {w : World} {H : Hp} {h : Heap} {a : Addr} {u : HO} (r : Rd H a u) (x : HOk P w H h) : ObjOk P w H h a u := by
  rcases r with r | ⟨o, r⟩
  · exact x a u r
  · obtain ⟨_, q⟩ := x a _ r
    exact q
/-- what may be written -/
def Mut : Option HO → Prop
  | some (.lst _) => True
  | some (.dK _) => True
  | some (.dT _) => True
  | some (.set _ _) => True
  | some (.ins _ _ _) => True
  | some (.ext _) => True
  | _ => False
section
variable {P : Program} {w : World} {H : Hp} {h h' : Heap} {x e : Addr} {o' : HO}
/-- the object at e is changed: x itself, or the dict of the instance x -/
theorem HOk.write (ok : HOk P w H h) (mu : Mut (H x)) (he : e = x ∨ H e = some (.own x)) (k : ∀ b u, b ≠ e → h.get? b = some u → h'.get? b = some u) (heo : ∃ u, h'.get? e = some u)
    (new : ObjOk P w (upd H x o') h' x o') : HOk P w (upd H x o') h' := fun b u q => by
  have nown : ∀ c y, H c = some (.own y) → c ≠ x := fun c y r z => by subst z; rw [r] at mu; exact mu
  have ntup : ∀ c xs, H c = some (.tup xs) → c ≠ x := fun c xs r z => by subst z; rw [r] at mu; exact mu
  by_cases hb : b = x
  · subst hb; rw [upd_same] at q; cases q; exact new
  · rw [upd_ne hb] at q
    by_cases hbe : b = e
    · have q' : H b = some (.own x) := by
        rcases he with z | z
        · exact absurd (hbe.trans z) hb
        · rw [hbe]; exact z
      rw [q] at q'; cases q'
      obtain ⟨v, hv⟩ := heo
      exact ⟨v, by rw [hbe]; exact hv⟩
    · refine (ok b u q).stay (fun c v hc r => k c v ?_ r) (fun c r => by rw [upd_ne (nown c b r)]; exact r) fun c xs r => by rw [upd_ne (ntup c xs r)]; exact r
      rcases hc with rfl | hc
      · exact hbe
      · rintro rfl
        rcases he with z | z
        · exact nown c b hc z
        · rw [hc] at z; cases z; exact hb rfl
end

/-! ### kept unless tracked; of the frames at fs (the callers') the slots may change (an exception that passes writes there); of the records at ex (iterators) nothing is said -/
structure Un (fs ex : List Addr) (H H' : Hp) (h h' : Heap) : Prop where
  keep : ∀ b o, h.get? b = some o → H b = none → b ∉ fs → b ∉ ex → h'.get? b = some o
  slot : ∀ b o, h.get? b = some o → H b = none → b ∈ fs → b ∉ ex → ∃ sl, h'.get? b = some { o with slots := sl }
  free : ∀ b o, h.get? b = some o → H b = none → b ∉ ex → H' b = none
  there : ∀ b o, h.get? b = some o → b ∉ ex → ∃ o', h'.get? b = some o'
  tups : ∀ b xs, H b = some (.tup xs) → H' b = some (.tup xs)
  frzs : ∀ b o u, H b = some (.frz o u) → H' b = some (.frz o u)
  tbls : ∀ b ps, H b = some (.tbl ps) → ∃ more, H' b = some (.tbl (ps ++ more))
section
variable {fs fs' ex ex' : List Addr} {H H1 H2 : Hp} {h h1 h2 h' : Heap} {a x e : Addr} {o : HO}
theorem Un.any (u : Un fs ex H H1 h h1) {b : Addr} {ob : Obj} (q : h.get? b = some ob) (n : H b = none) (hx : b ∉ ex) : ∃ sl, h1.get? b = some { ob with slots := sl } := by
  by_cases hb : b ∈ fs
  · exact u.slot b ob q n hb hx
  · exact ⟨ob.slots, u.keep b ob q n hb hx⟩
theorem Un.trans (a : Un fs ex H H1 h h1) (b : Un fs ex H1 H2 h1 h2) : Un fs ex H H2 h h2 where
  keep := fun c ob q n hc hx => b.keep c ob (a.keep c ob q n hc hx) (a.free c ob q n hx) hc hx
  slot := fun c ob q n hc hx => by
    obtain ⟨sl, e1⟩ := a.slot c ob q n hc hx
    obtain ⟨sl', e2⟩ := b.slot c _ e1 (a.free c ob q n hx) hc hx
    exact ⟨sl', e2⟩
  free := fun c ob q n hx => by
    obtain ⟨o', e1⟩ := a.there c ob q hx
    exact b.free c o' e1 (a.free c ob q n hx) hx
  there := fun c ob q hx => by
    obtain ⟨o', e1⟩ := a.there c ob q hx
    exact b.there c o' e1 hx
  tups := fun c xs q => b.tups c xs (a.tups c xs q)
  frzs := fun c ob xs q => b.frzs c ob xs (a.frzs c ob xs q)
  tbls := fun c ps q => by
    obtain ⟨m1, e1⟩ := a.tbls c ps q
    obtain ⟨m2, e2⟩ := b.tbls c _ e1
    exact ⟨m1 ++ m2, by rw [e2, Array.append_assoc]⟩
theorem Un.kept (k : ∀ b u, h.get? b = some u → h'.get? b = some u) : Un fs ex H H h h' :=
  ⟨fun b ob q _ _ _ => k b ob q, fun b ob q _ _ _ => ⟨ob.slots, k b ob q⟩, fun _ _ _ n _ => n, fun b ob q _ => ⟨ob, k b ob q⟩, fun _ _ q => q, fun _ _ _ q => q, fun _ ps q => ⟨#[], by rw [q]; simp⟩⟩
theorem Un.refl : Un fs ex H H h h := Un.kept fun _ _ q => q
theorem Un.laid (k : ∀ b u, h.get? b = some u → h'.get? b = some u) (hp : h.objs.size ≤ a) (hn : H a = none) : Un fs ex H (upd H a o) h h' where
  keep := fun b u q _ _ _ => k b u q
  slot := fun b u q _ _ _ => ⟨u.slots, k b u q⟩
  free := fun b u q n _ => by rw [upd_ne (Nat.ne_of_lt (Nat.lt_of_lt_of_le (Heap.lt_size q) hp))]; exact n
  there := fun b u q _ => ⟨u, k b u q⟩
  tups := fun b xs q => by rw [upd_ne (ne_of_none q hn)]; exact q
  frzs := fun b u xs q => by rw [upd_ne (ne_of_none q hn)]; exact q
  tbls := fun b ps q => ⟨#[], by rw [upd_ne (ne_of_none q hn), q]; simp⟩
theorem Un.write (mu : Mut (H x)) (he : e = x ∨ H e = some (.own x)) (k : ∀ b u, b ≠ e → h.get? b = some u → h'.get? b = some u) (heo : ∃ u, h'.get? e = some u) : Un fs ex H (upd H x o) h h' := by
  have hx : ∀ b, H b = none → b ≠ x := fun b n z => by subst z; rw [n] at mu; exact mu
  have hb : ∀ b, H b = none → b ≠ e := fun b n z => by
    subst z
    rcases he with r | r
    · exact hx b n r
    · rw [n] at r; cases r
  have hm : ∀ b u, H b = some u → ¬ Mut (some u) → b ≠ x := fun b u q nm z => by subst z; rw [q] at mu; exact nm mu
  refine ⟨fun b u q n _ _ => k b u (hb b n) q, fun b u q n _ _ => ⟨u.slots, k b u (hb b n) q⟩, fun b u q n _ => by rw [upd_ne (hx b n)]; exact n, fun b u q _ => ?_,
    fun b xs q => by rw [upd_ne (hm b _ q fun z => z)]; exact q, fun b u xs q => by rw [upd_ne (hm b _ q fun z => z)]; exact q, fun b ps q => ⟨#[], by rw [upd_ne (hm b _ q fun z => z), q]; simp⟩⟩
  by_cases hbe : b = e
  · subst hbe; exact heo
  · exact ⟨u, k b u hbe q⟩
theorem Un.mono (u : Un fs ex H H1 h h1) (hs : ∀ b ∈ fs, b ∈ fs') (hx : ∀ b ∈ ex, b ∈ ex') : Un fs' ex' H H1 h h1 :=
  ⟨fun b ob q n hb he => u.keep b ob q n (fun z => hb (hs b z)) fun z => he (hx b z), fun _ _ q n _ he => u.any q n fun z => he (hx _ z), fun b ob q n he => u.free b ob q n fun z => he (hx b z), fun b ob q he => u.there b ob q fun z => he (hx b z), u.tups, u.frzs, u.tbls⟩
end

/-! ### the heap without what is tracked -/
def trk (h : Heap) (H : Hp) : List Addr := (List.range h.objs.size).filter fun a => (H a).isSome
def hidT (h : Heap) (H : Hp) : Heap := PySem.W.hideAll h (trk h H)
theorem hidT_size (h : Heap) (H : Hp) : (hidT h H).objs.size = h.objs.size := PySem.W.hideAll_size _ _
theorem hidT_get {h : Heap} {H : Hp} {b : Addr} {o : Obj} (e : h.get? b = some o) (n : H b = none) : (hidT h H).get? b = some o :=
  PySem.W.hideAll_get _ e fun hm => by
    have q : (H b).isSome = true := (List.mem_filter.mp hm).2
    rw [n] at q; simp at q
theorem of_hidT {h : Heap} {H : Hp} {b : Addr} {o : Obj} (e : (hidT h H).get? b = some o) : h.get? b = some o ∧ H b = none := by
  have e' : h.get? b = some o := PySem.W.of_hideAll (trk h H) e
  refine ⟨e', ?_⟩
  cases q : H b with
  | none => rfl
  | some x =>
    have hm : b ∈ trk h H := List.mem_filter.mpr ⟨List.mem_range.mpr (Heap.lt_size e'), by simp [q]⟩
    have z : (hidT h H).get? b = none := PySem.W.hideAll_none (trk h H) hm
    rw [z] at e; cases e

/-! ### OpenK's ledger, filled with every new object but one -/
def allNews (g h : Heap) (L : Addr) : List (Addr × Obj) := (List.range h.objs.size).filterMap fun a => if a = L ∨ (g.get? a).isSome = true then none else (h.get? a).map fun o => (a, o)
def rest (g h : Heap) (L d : Addr) : List (Addr × Obj) := (allNews g h L).filter fun p => decide (p.1 ≠ d)
end L2

namespace L2
open PySem PySem.Spec PyProof.Rows

/-- the module's facts, over the base: the heap at the law's entry without what is tracked there -/
structure Mod (K : PySem.W.Frag) (mg : Str → Option Value) (base : Heap) : Prop where
  kin : K.In base
  glob : base.Ns mainGlobals mg
  blt : ∃ mb, base.Ns builtinsNs mb ∧ ∀ x : Str, x ≠ "__name__" → mb x = bootBuiltins x
  nolimit : base.NoLimit

/-- the context: a def's body (or a comprehension's block) running. base: fixed through the whole law; s₀, H₀: the entry; outer: the frames whose slots others may change (a def's callers); stack: all frames that run;
   ex: iterators that were made ahead of the entry and are walked here (a comprehension's); fn: the names whose cells were made at the entry (a def: all; a comprehension's block: its own); calm: not within an except suite; pn: pins that every state bears; xe: what is wanted of an exception that leaves the code -/
structure Cx where
  prog : Program
  w : World
  K : PySem.W.Frag
  mg : Str → Option Value
  base : Heap
  A : Around
  N : List Str
  s₀ : Shared
  H₀ : Hp
  env : Env
  outer : List Env
  stack : List Env
  ex : List Addr
  fn : Str → Bool
  calm : Bool
  pn : List (Addr × Obj)
  xe : Value → Shared → Prop
/-- the callers' frames -/
def frs (l : List Env) : List Addr := l.filterMap (·.frame)
abbrev Cx.fs (X : Cx) : List Addr := frs X.outer

def Vis (sc : Scope) (x : Str) : Prop := sc.names.lookup x = some .local ∨ sc.names.lookup x = some .cell ∨ sc.names.lookup x = some .free
def Loc (sc : Scope) (x : Str) : Prop := sc.names.lookup x = some .local ∨ sc.names.lookup x = some .cell
def Look (env : Env) (h : Heap) (m : Str → Option Value) (x : Str) (u : Value) : Prop :=
  (env.kindOf x = some .local ∧ m x = some u) ∨ ((env.kindOf x = some .cell ∨ env.kindOf x = some .free) ∧ ∃ c, env.cells.lookup x = some c ∧ h.IsCell c (some u))

structure Cx.Ok (X : Cx) : Prop where
  mod : Mod X.K X.mg X.base
  kind : X.env.scope.kind = .function
  glob : X.env.globals = mainGlobals
  blt : X.env.builtins = builtinsNs
  above : X.s₀.heap.objs.size ≤ X.env.locals
  inj : ∀ x y c, X.env.cells.lookup x = some c → X.env.cells.lookup y = some c → x = y
  has : ∀ x, (X.env.kindOf x = some .cell ∨ X.env.kindOf x = some .free) → ∃ c, X.env.cells.lookup x = some c
  cab : ∀ x c, X.fn x = true → X.env.cells.lookup x = some c → X.s₀.heap.objs.size ≤ c
  hd : X.calm = true → X.A.handled = none
  frames : X.A.frames = some X.stack
  stk : X.stack = X.outer ∨ (X.stack = X.env :: X.outer ∧ X.env.frame = some X.env.locals)
  exf : ∀ b ∈ X.ex, b ≠ X.env.locals ∧ ∀ x c, X.env.cells.lookup x = some c → c ≠ b
  bs : ∀ b o, X.base.get? b = some o → X.s₀.heap.get? b = some o ∧ X.H₀ b = none
  bsz : X.base.objs.size ≤ X.s₀.heap.objs.size
  noex : ∀ b o, X.base.get? b = some o → b ∉ X.ex
  exfs : ∀ b ∈ X.ex, b ∉ X.fs
  funs : X.s₀.heap.FunFrames X.base X.outer
  frf : ∀ b ∈ X.fs, X.H₀ b = none

structure Inv (X : Cx) (pins : List (Addr × Obj)) (σ : List (Option V)) (H : Hp) (s : Shared) : Prop where
  ok : X.Ok
  os : s.os = X.s₀.os
  bare : AllBare s.gens
  base : Un X.fs X.ex X.H₀ H X.s₀.heap s.heap
  loc : ∃ m, s.heap.Ns X.env.locals m ∧ ∀ (i : Nat) (x : Str) (v : V), X.N[i]? = some x → σ[i]? = some (some v) → Vis X.env.scope x → ∃ u, RelV v u ∧ Look X.env s.heap m x u
  cell : ∀ x c, X.env.cells.lookup x = some c → ∃ v, s.heap.IsCell c v
  free : H X.env.locals = none
  freeC : ∀ x c, X.env.cells.lookup x = some c → H c = none
  pin : ∀ p ∈ X.pn ++ pins, s.heap.get? p.1 = some p.2 ∧ H p.1 = none ∧ p.1 ≠ X.env.locals ∧ p.1 ∉ X.fs ∧ ∀ v, p.2.data ≠ .cell v
  hok : HOk X.prog X.w H s.heap
  len : σ.length = X.N.length

section
variable {X : Cx} {pins : List (Addr × Obj)} {σ : List (Option V)} {H H' : Hp} {s : Shared} {h' : Heap}

theorem Cx.Ok.nofr (ok : X.Ok) {b : Addr} {o : Obj} (e : X.base.get? b = some o) : b ∉ X.fs := fun hb => by
  have := (ok.funs.mem hb).1
  rw [e] at this; cases this
theorem Inv.bs (I : Inv X pins σ H s) : ∀ b o, X.base.get? b = some o → s.heap.get? b = some o ∧ H b = none := fun b o e =>
  ⟨I.base.keep b o (I.ok.bs b o e).1 (I.ok.bs b o e).2 (I.ok.nofr e) (I.ok.noex b o e), I.base.free b o (I.ok.bs b o e).1 (I.ok.bs b o e).2 (I.ok.noex b o e)⟩
theorem Inv.bk (I : Inv X pins σ H s) : ∀ b o, X.base.get? b = some o → s.heap.get? b = some o := fun b o e => (I.bs b o e).1
theorem Inv.mod (I : Inv X pins σ H s) : Mod X.K X.mg X.base := I.ok.mod
theorem Inv.kIn (I : Inv X pins σ H s) : X.K.In s.heap := I.ok.mod.kin.keeps I.bk
theorem Inv.nolimit (I : Inv X pins σ H s) : s.heap.NoLimit := I.ok.mod.nolimit.keeps I.bk
/-- the frame over the base: for OpenK's rules (K.In X.base is I.mod.kin) -/
theorem Inv.fr (I : Inv X pins σ H s) : ∃ m, Fr X.base X.env.locals s.heap m :=
  let ⟨m, hn, _⟩ := I.loc
  ⟨m, hn, I.bk, Nat.le_trans I.ok.bsz I.ok.above⟩
theorem Inv.lt (I : Inv X pins σ H s) : X.env.locals < s.heap.objs.size := let ⟨_, hn, _⟩ := I.loc; hn.lt
theorem Inv.sz (I : Inv X pins σ H s) : X.s₀.heap.objs.size ≤ s.heap.objs.size := Nat.le_trans I.ok.above (Nat.le_of_lt I.lt)
theorem Inv.nofs (I : Inv X pins σ H s) {a : Addr} (h : s.heap.objs.size ≤ a) : a ∉ X.fs := fun hb => by
  obtain ⟨_, o, ho, _⟩ := I.ok.funs.mem hb
  exact absurd (Nat.lt_of_lt_of_le (Heap.lt_size ho) (Nat.le_trans I.sz h)) (Nat.lt_irrefl _)
theorem Inv.cne (I : Inv X pins σ H s) : ∀ x c, X.env.cells.lookup x = some c → c ≠ X.env.locals := fun x c e z => by
  obtain ⟨v, o, ho, hd⟩ := I.cell x c e
  obtain ⟨m, ⟨o', es, ep, ho', hd', _⟩, _⟩ := I.loc
  rw [z, ho'] at ho; cases ho; rw [hd'] at hd; cases hd
theorem Inv.funs (I : Inv X pins σ H s) : s.heap.FunFrames X.base X.outer := by
  have all : ∀ (l : List Env), (∀ b ∈ frs l, b ∈ X.fs) → X.s₀.heap.FunFrames X.base l → s.heap.FunFrames X.base l := by
    intro l
    induction l with
    | nil => intro _ _; trivial
    | cons env r ih =>
      intro hs hl
      obtain ⟨hk, ⟨L, o, hf, hn, ho, hd⟩, hr⟩ := hl
      have hL : L ∈ X.fs := hs L (by unfold frs; rw [List.filterMap_cons, hf]; exact List.mem_cons_self)
      obtain ⟨sl, e⟩ := I.base.slot L o ho (I.ok.frf L hL) hL fun z => I.ok.exfs L z hL
      exact ⟨hk, ⟨L, _, hf, hn, e, hd⟩, ih (fun b hb => hs b (by unfold frs; rw [List.filterMap_cons, hf]; exact List.mem_cons_of_mem _ hb)) hr⟩
  exact all X.outer (fun _ hb => hb) I.ok.funs

/-- the frames that run, for a call -/
theorem Inv.stack (I : Inv X pins σ H s) : s.heap.FunFrames X.base X.stack := by
  rcases I.ok.stk with e | ⟨e, hf⟩
  · rw [e]; exact I.funs
  · rw [e]
    obtain ⟨m, hn, _⟩ := I.loc
    refine .cons (by rw [I.ok.kind]; decide) hf hn ?_ I.funs
    exact Heap.get?_none_of_le (Nat.le_trans I.ok.bsz I.ok.above)
theorem Inv.stkSub (I : Inv X pins σ H s) : ∀ b ∈ frs X.stack, b ∈ X.env.locals :: X.fs := fun b hb => by
  rcases I.ok.stk with e | ⟨e, hf⟩
  · rw [e] at hb; exact List.mem_cons_of_mem _ hb
  · rw [e] at hb
    unfold frs at hb
    rw [List.filterMap_cons, hf] at hb
    exact hb
theorem Inv.stkFree (I : Inv X pins σ H s) : ∀ b ∈ frs X.stack, H b = none := fun b hb => by
  rcases List.mem_cons.mp (I.stkSub b hb) with e | hb
  · rw [e]; exact I.free
  · obtain ⟨_, o, ho, _⟩ := I.ok.funs.mem hb
    exact I.base.free b o ho (I.ok.frf b hb) fun z => I.ok.exfs b z hb

/-- THE STEP: the untracked objects but the frame and the records at ch are kept (the callers' frames up to slots), the frame's map is kept, the new abstract heap is held -/
theorem Inv.step {g' : Array GenState} {t' : Nat} {d' : Drawn} {ch : List Addr} (I : Inv X pins σ H s)
    (hch : ∀ b ∈ ch, (b ∈ X.ex ∨ X.s₀.heap.objs.size ≤ b) ∧ b ≠ X.env.locals ∧ (∀ x c, X.env.cells.lookup x = some c → c ≠ b) ∧ ∀ p ∈ X.pn ++ pins, p.1 ≠ b)
    (keep : ∀ b o, b ≠ X.env.locals → b ∉ X.fs → b ∉ ch → s.heap.get? b = some o → H b = none → h'.get? b = some o)
    (slot : ∀ b o, b ≠ X.env.locals → b ∈ X.fs → b ∉ ch → s.heap.get? b = some o → H b = none → ∃ sl, h'.get? b = some { o with slots := sl }) (free : ∀ b o, b ∉ ch → s.heap.get? b = some o → H b = none → H' b = none)
    (there : ∀ b o, b ∉ ch → s.heap.get? b = some o → ∃ o', h'.get? b = some o')
    (tups : ∀ b xs, H b = some (.tup xs) → H' b = some (.tup xs)) (frzs : ∀ b o u, H b = some (.frz o u) → H' b = some (.frz o u)) (tbls : ∀ b ps, H b = some (.tbl ps) → ∃ more, H' b = some (.tbl (ps ++ more)))
    (ns : ∀ m, s.heap.Ns X.env.locals m → h'.Ns X.env.locals m) (hok : HOk X.prog X.w H' h') (hg : AllBare g') :
    Inv X pins σ H' { s with heap := h', gens := g', drawn := d', toks := t' } := by
  have neL : ∀ b o, X.s₀.heap.get? b = some o → b ≠ X.env.locals := fun b o e => Nat.ne_of_lt (Nat.lt_of_lt_of_le (Heap.lt_size e) I.ok.above)
  have neC : ∀ b o, X.s₀.heap.get? b = some o → b ∉ X.ex → b ∉ ch := fun b o e hx hb => by
    rcases (hch b hb).1 with z | z
    · exact hx z
    · exact absurd (Nat.lt_of_lt_of_le (Heap.lt_size e) z) (Nat.lt_irrefl _)
  have cellK : ∀ x c, X.env.cells.lookup x = some c → ∀ v, s.heap.IsCell c v → h'.IsCell c v := fun x c e v ⟨o, ho, hd⟩ => by
    have nch : c ∉ ch := fun z => (hch c z).2.2.1 x c e rfl
    by_cases hc : c ∈ X.fs
    · obtain ⟨sl, q⟩ := slot c o (I.cne x c e) hc nch ho (I.freeC x c e)
      exact ⟨_, q, hd⟩
    · exact ⟨o, keep c o (I.cne x c e) hc nch ho (I.freeC x c e), hd⟩
  refine ⟨I.ok, I.os, hg, ⟨fun b o e n hb hx => ?_, fun b o e n hb hx => ?_, fun b o e n hx => ?_, fun b o e hx => ?_, fun b xs e => tups b xs (I.base.tups b xs e), fun b o xs e => frzs b o xs (I.base.frzs b o xs e), fun b ps e => ?_⟩, ?_, fun x c e => ?_, ?_, fun x c e => ?_, fun p hp => ?_, hok, I.len⟩
  · exact keep b o (neL b o e) hb (neC b o e hx) (I.base.keep b o e n hb hx) (I.base.free b o e n hx)
  · obtain ⟨sl, e1⟩ := I.base.slot b o e n hb hx
    obtain ⟨sl', e2⟩ := slot b _ (neL b o e) hb (neC b o e hx) e1 (I.base.free b o e n hx)
    exact ⟨sl', e2⟩
  · obtain ⟨o', e1⟩ := I.base.there b o e hx
    exact free b o' (neC b o e hx) e1 (I.base.free b o e n hx)
  · obtain ⟨o', e1⟩ := I.base.there b o e hx
    exact there b o' (neC b o e hx) e1
  · obtain ⟨m1, e1⟩ := I.base.tbls b ps e
    obtain ⟨m2, e2⟩ := tbls b _ e1
    exact ⟨m1 ++ m2, by rw [e2, Array.append_assoc]⟩
  · obtain ⟨m, hn, hl⟩ := I.loc
    refine ⟨m, ns m hn, fun i x v e1 e2 e3 => ?_⟩
    obtain ⟨u, r, l⟩ := hl i x v e1 e2 e3
    refine ⟨u, r, ?_⟩
    rcases l with l | ⟨k, c, e, z⟩
    · exact .inl l
    · exact .inr ⟨k, c, e, cellK x c e _ z⟩
  · obtain ⟨v, z⟩ := I.cell x c e
    exact ⟨v, cellK x c e v z⟩
  · obtain ⟨m, ⟨o, _, _, ho, _⟩, _⟩ := I.loc
    exact free _ o (fun z => (hch _ z).2.1 rfl) ho I.free
  · obtain ⟨v, o, ho, hd⟩ := I.cell x c e
    exact free c o (fun z => (hch c z).2.2.1 x c e rfl) ho (I.freeC x c e)
  · obtain ⟨e, n, ne, nf, d⟩ := I.pin p hp
    have nch : p.1 ∉ ch := fun z => (hch p.1 z).2.2.2 p hp rfl
    exact ⟨keep p.1 p.2 ne nf nch e n, free p.1 p.2 nch e n, ne, nf, d⟩
/-- .. where the frame's own object is kept too -/
theorem Inv.un {t' : Nat} (I : Inv X pins σ H s) (u : Un X.fs [] H H' s.heap h') (hok : HOk X.prog X.w H' h') : Inv X pins σ H' { s with heap := h', toks := t' } := by
  obtain ⟨m, ⟨o, es, ep, ho, r⟩, _⟩ := id I.loc
  obtain ⟨sl, hL⟩ := u.any ho I.free (by simp)
  exact I.step (g' := s.gens) (d' := s.drawn) (ch := []) (fun _ z => nomatch z) (fun b o _ hb _ e n => u.keep b o e n hb (by simp)) (fun b o _ hb _ e n => u.slot b o e n hb (by simp)) (fun b o _ e n => u.free b o e n (by simp)) (fun b o _ e => u.there b o e (by simp)) u.tups u.frzs u.tbls (fun m' hm => by
    obtain ⟨o', es', ep', ho', r'⟩ := hm
    rw [ho] at ho'; cases ho'
    exact ⟨_, es', ep', hL, r'⟩) hok I.bare
/-- behind a call (or a comprehension's block): the slots of this frame may have changed too, the records at ch may have turned -/
theorem Inv.call {g' : Array GenState} {t' : Nat} {d' : Drawn} {ch : List Addr} (I : Inv X pins σ H s) (u : Un (frs X.stack) ch H H' s.heap h') (hok : HOk X.prog X.w H' h') (hg : AllBare g')
    (hch : ∀ b ∈ ch, (b ∈ X.ex ∨ X.s₀.heap.objs.size ≤ b) ∧ b ≠ X.env.locals ∧ (∀ x c, X.env.cells.lookup x = some c → c ≠ b) ∧ ∀ p ∈ X.pn ++ pins, p.1 ≠ b) :
    Inv X pins σ H' { s with heap := h', gens := g', drawn := d', toks := t' } := by
  obtain ⟨m, ⟨o, es, ep, ho, r⟩, _⟩ := id I.loc
  obtain ⟨sl, hL⟩ := u.any ho I.free fun z => (hch _ z).2.1 rfl
  exact I.step (ch := ch) hch (fun b o hL hb hc e n => u.keep b o e n (fun z => (List.mem_cons.mp (I.stkSub b z)).elim hL hb) hc) (fun b o _ _ hc e n => u.any e n hc) (fun b o hc e n => u.free b o e n hc) (fun b o hc e => u.there b o e hc) u.tups u.frzs u.tbls (fun m' hm => by
    obtain ⟨o', es', ep', ho', r'⟩ := hm
    rw [ho] at ho'; cases ho'
    exact ⟨_, es', ep', hL, r'⟩) hok hg
/-- an untracked record of ours (an iterator) has turned -/
theorem Inv.turned {t' : Nat} {it : Addr} (I : Inv X pins σ H s) (k : ∀ b o, b ≠ it → s.heap.get? b = some o → h'.get? b = some o) (hn : H it = none) (hL : it ≠ X.env.locals)
    (h1 : it ∈ X.ex ∨ X.s₀.heap.objs.size ≤ it) (h2 : ∀ x c, X.env.cells.lookup x = some c → c ≠ it) (h3 : ∀ p ∈ X.pn ++ pins, p.1 ≠ it) : Inv X pins σ H { s with heap := h', toks := t' } := by
  have nit : ∀ b u, H b = some u → b ≠ it := fun b u e z => by rw [z, hn] at e; cases e
  refine I.step (g' := s.gens) (d' := s.drawn) (ch := [it]) (fun b hb => ?_) (fun b o _ _ hc e _ => k b o (fun z => hc (by simp [z])) e) (fun b o _ _ hc e _ => ⟨o.slots, k b o (fun z => hc (by simp [z])) e⟩) (fun _ _ _ _ n => n)
    (fun b o hc e => ⟨o, k b o (fun z => hc (by simp [z])) e⟩) (fun _ _ e => e) (fun _ _ _ e => e) (fun b ps e => ⟨#[], by rw [e]; simp⟩) (fun m hm => ?_) (fun b u e => ?_) I.bare
  · have e : b = it := by simpa using hb
    subst e
    exact ⟨h1, hL, h2, h3⟩
  · obtain ⟨o, es, ep, ho, r⟩ := hm
    exact ⟨o, es, ep, k _ o (Ne.symm hL) ho, r⟩
  · refine (I.hok b u e).stay (fun c v hc q => k c v ?_ q) (fun _ q => q) fun _ _ q => q
    rcases hc with z | z
    · rw [z]; exact nit b u e
    · exact nit c _ z
theorem Inv.tok (I : Inv X pins σ H s) (t : Nat) : Inv X pins σ H { s with toks := t } := I.un (h' := s.heap) (t' := t) Un.refl I.hok
/-- all objects kept -/
theorem Inv.kept {t' : Nat} (I : Inv X pins σ H s) (k : ∀ b u, s.heap.get? b = some u → h'.get? b = some u) : Inv X pins σ H { s with heap := h', toks := t' } := I.un (Un.kept k) (I.hok.kept k)
/-- a new object laid and tracked -/
theorem Inv.laid {a : Addr} {o : HO} {t' : Nat} (I : Inv X pins σ H s) (k : ∀ b u, s.heap.get? b = some u → h'.get? b = some u) (hp : s.heap.objs.size ≤ a) (new : ObjOk X.prog X.w (upd H a o) h' a o) :
    Inv X pins σ (upd H a o) { s with heap := h', toks := t' } := I.un (Un.laid k hp (I.hok.fresh hp)) (I.hok.laid k hp new)
/-- an object written -/
theorem Inv.write {x e : Addr} {o : HO} {t' : Nat} (I : Inv X pins σ H s) (mu : Mut (H x)) (he : e = x ∨ H e = some (.own x)) (k : ∀ b u, b ≠ e → s.heap.get? b = some u → h'.get? b = some u) (heo : ∃ u, h'.get? e = some u)
    (new : ObjOk X.prog X.w (upd H x o) h' x o) : Inv X pins σ (upd H x o) { s with heap := h', toks := t' } := I.un (Un.write mu he k heo) (I.hok.write mu he k heo new)
theorem Inv.pins_of {pins' : List (Addr × Obj)} (I : Inv X pins σ H s) (h : ∀ p ∈ pins', s.heap.get? p.1 = some p.2 ∧ H p.1 = none ∧ p.1 ≠ X.env.locals ∧ p.1 ∉ X.fs ∧ ∀ v, p.2.data ≠ .cell v) : Inv X pins' σ H s :=
  ⟨I.ok, I.os, I.bare, I.base, I.loc, I.cell, I.free, I.freeC, fun p hp => (List.mem_append.mp hp).elim (fun z => I.pin p (List.mem_append_left _ z)) (h p), I.hok, I.len⟩

theorem nodup_ix {N : List Str} (hN : N.Nodup) {i j : Nat} {x : Str} (a : N[i]? = some x) (b : N[j]? = some x) : i = j := by
  obtain ⟨h1, e1⟩ := List.getElem?_eq_some_iff.mp a
  obtain ⟨h2, e2⟩ := List.getElem?_eq_some_iff.mp b
  exact (List.getElem_inj hN).mp (e1.trans e2.symm)

/-- a name is stored; what changed -/
theorem store_ok2 {M : Model} {A : Around} {E : Value → Shared → Prop} {i : Nat} {x : Str} {v : V} {u : Value} {Q : Unit → Shared → Prop} (I : Inv X pins σ H s) (hN : X.N.Nodup) (hi : X.N[i]? = some x) (hx : Loc X.env.scope x) (r : RelV v u)
    (h : ∀ s', Inv X pins (σ.set i (some v)) H s' → (∃ a, Heap.SameBut a s.heap s'.heap ∧ (a = X.env.locals ∨ X.env.cells.lookup x = some a)) → Q () s') (hf : X.fn x = true ∨ X.env.scope.names.lookup x = some .local := by first | exact .inl rfl | exact .inr rfl | assumption) : wpAny M A (storeName X.env x u) Q E s := by
  obtain ⟨m, hn, hl⟩ := id I.loc
  have hcls : (X.env.scope.kind == .class || (X.env.scope.kind == .module && X.env.locals != X.env.globals)) = false := by rw [I.ok.kind]; rfl
  have hiσ : i < σ.length := by rw [I.len]; exact (List.getElem?_eq_some_iff.mp hi).1
  have cne := I.cne
  have tracked : ∀ {a : Addr} {h' : Heap}, (∃ o, s.heap.get? a = some o ∧ H a = none) → Heap.SameBut a s.heap h' → HOk X.prog X.w H h' := fun {a h'} ha hs b ob e => by
    obtain ⟨_, _, hfree⟩ := ha
    refine (I.hok b ob e).stay (fun c w' hc q => (hs.2 c ?_).trans q) (fun _ q => q) fun _ _ q => q
    rintro rfl
    rcases hc with rfl | hc
    · rw [hfree] at e; cases e
    · rw [hfree] at hc; cases hc
  rcases hx with hk | hk
  · refine wpAny_storeName_local hk hn (fun h' hn' hs => ?_) hcls
    obtain ⟨oL, _, _, hoL, _⟩ := id hn
    refine h _ ⟨I.ok, I.os, I.bare, ⟨fun b o e n hb hx => ?_, fun b o e n hb hx => ?_, I.base.free, fun b o e hx => ?_, I.base.tups, I.base.frzs, I.base.tbls⟩, ⟨_, hn', fun j y v' e1 e2 e3 => ?_⟩, fun y c e => ?_, I.free, I.freeC, fun p hp => ?_, tracked ⟨oL, hoL, I.free⟩ hs, by simpa using I.len⟩ ⟨_, hs, .inl rfl⟩
    · exact (hs.2 b (Nat.ne_of_lt (Nat.lt_of_lt_of_le (Heap.lt_size e) I.ok.above))).trans (I.base.keep b o e n hb hx)
    · obtain ⟨sl, e1⟩ := I.base.slot b o e n hb hx
      exact ⟨sl, (hs.2 b (Nat.ne_of_lt (Nat.lt_of_lt_of_le (Heap.lt_size e) I.ok.above))).trans e1⟩
    · obtain ⟨o', e1⟩ := I.base.there b o e hx
      exact ⟨o', (hs.2 b (Nat.ne_of_lt (Nat.lt_of_lt_of_le (Heap.lt_size e) I.ok.above))).trans e1⟩
    · by_cases hj : j = i
      · subst hj
        rw [hi] at e1; cases e1
        rw [List.getElem?_set_self hiσ] at e2
        cases e2
        exact ⟨u, r, .inl ⟨hk, by simp⟩⟩
      · rw [List.getElem?_set_ne (Ne.symm hj)] at e2
        obtain ⟨u', r', q⟩ := hl j y v' e1 e2 e3
        refine ⟨u', r', ?_⟩
        rcases q with ⟨k, e⟩ | ⟨k, c, e, z⟩
        · refine .inl ⟨k, ?_⟩
          have : y ≠ x := fun e => hj (nodup_ix hN e1 (e ▸ hi))
          simp [this, e]
        · exact .inr ⟨k, c, e, z.sameBut hs (cne y c e)⟩
    · obtain ⟨w', z⟩ := I.cell y c e
      exact ⟨w', z.sameBut hs (cne y c e)⟩
    · obtain ⟨e, n, ne, nf, d⟩ := I.pin p hp
      exact ⟨(hs.2 p.1 ne).trans e, n, ne, nf, d⟩
  · have hfn : X.fn x = true := by
      rcases hf with z | z
      · exact z
      · rw [z] at hk; cases hk
    obtain ⟨c, hc⟩ := I.ok.has x (.inl hk)
    obtain ⟨w', z⟩ := I.cell x c hc
    refine wpAny_storeName_cell I.ok.kind hk hc z (fun h' hc' hs => ?_)
    obtain ⟨oc, hoc, hocd⟩ := id z
    refine h { s with heap := h' } ⟨I.ok, I.os, I.bare, ⟨fun b o e n hb hx => ?_, fun b o e n hb hx => ?_, I.base.free, fun b o e hx => ?_, I.base.tups, I.base.frzs, I.base.tbls⟩, ⟨m, hn.sameBut hs (Ne.symm (cne x c hc)), fun j y v' e1 e2 e3 => ?_⟩, fun y c' e => ?_, I.free, I.freeC, fun p hp => ?_, tracked ⟨oc, hoc, I.freeC x c hc⟩ hs, by simpa using I.len⟩ ⟨c, hs, .inr hc⟩
    · exact (hs.2 b (Nat.ne_of_lt (Nat.lt_of_lt_of_le (Heap.lt_size e) (I.ok.cab x c hfn hc)))).trans (I.base.keep b o e n hb hx)
    · obtain ⟨sl, e1⟩ := I.base.slot b o e n hb hx
      exact ⟨sl, (hs.2 b (Nat.ne_of_lt (Nat.lt_of_lt_of_le (Heap.lt_size e) (I.ok.cab x c hfn hc)))).trans e1⟩
    · obtain ⟨o', e1⟩ := I.base.there b o e hx
      exact ⟨o', (hs.2 b (Nat.ne_of_lt (Nat.lt_of_lt_of_le (Heap.lt_size e) (I.ok.cab x c hfn hc)))).trans e1⟩
    · by_cases hj : j = i
      · subst hj
        rw [hi] at e1; cases e1
        rw [List.getElem?_set_self hiσ] at e2
        cases e2
        exact ⟨u, r, .inr ⟨.inl hk, c, hc, hc'⟩⟩
      · rw [List.getElem?_set_ne (Ne.symm hj)] at e2
        obtain ⟨u', r', q⟩ := hl j y v' e1 e2 e3
        refine ⟨u', r', ?_⟩
        rcases q with q | ⟨k, c', e, z'⟩
        · exact .inl q
        · refine .inr ⟨k, c', e, z'.sameBut hs ?_⟩
          rintro rfl
          exact hj (nodup_ix hN e1 (I.ok.inj _ _ _ e hc ▸ hi))
    · by_cases hcc : c' = c
      · subst hcc; exact ⟨_, hc'⟩
      · obtain ⟨w2, z2⟩ := I.cell y c' e
        exact ⟨w2, z2.sameBut hs hcc⟩
    · obtain ⟨e, n, ne, nf, d⟩ := I.pin p hp
      refine ⟨(hs.2 p.1 ?_).trans e, n, ne, nf, d⟩
      intro q
      rw [q, hoc] at e
      have q' : oc = p.2 := Option.some.inj e
      exact d w' (by rw [← q']; exact hocd)
theorem store_ok {M : Model} {A : Around} {E : Value → Shared → Prop} {i : Nat} {x : Str} {v : V} {u : Value} {Q : Unit → Shared → Prop} (I : Inv X pins σ H s) (hN : X.N.Nodup) (hi : X.N[i]? = some x) (hx : Loc X.env.scope x) (r : RelV v u)
    (h : ∀ s', Inv X pins (σ.set i (some v)) H s' → Q () s') (hf : X.fn x = true ∨ X.env.scope.names.lookup x = some .local := by first | exact .inl rfl | exact .inr rfl | assumption) : wpAny M A (storeName X.env x u) Q E s :=
  store_ok2 I hN hi hx r (fun s' I' _ => h s' I') hf
/-- behind a call or a block, the state as it is -/
theorem Inv.call' {s' : Shared} {ch : List Addr} (I : Inv X pins σ H s) (ho : s'.os = s.os) (u : Un (frs X.stack) ch H H' s.heap s'.heap) (hok : HOk X.prog X.w H' s'.heap) (hg : AllBare s'.gens)
    (hch : ∀ b ∈ ch, (b ∈ X.ex ∨ X.s₀.heap.objs.size ≤ b) ∧ b ≠ X.env.locals ∧ (∀ x c, X.env.cells.lookup x = some c → c ≠ b) ∧ ∀ p ∈ X.pn ++ pins, p.1 ≠ b) : Inv X pins σ H' s' := by
  obtain ⟨h', g', d', t', o'⟩ := s'
  have e : o' = s.os := ho
  subst e
  exact I.call (g' := g') (t' := t') (d' := d') u hok hg hch
end

/-! ### the judgements -/
/-- an exception: its class, its own dict's address (where it has one), the abstract heap behind it -/
abbrev XK := Value → Option Addr → Hp → Prop
abbrev St := List (Option V)
abbrev VK := V → Hp → Prop
/-- an expression's reading; a test's; an argument list's -/
abbrev TE := St → Hp → VK → Prop
abbrev TT := St → Hp → (Bool → Hp → Prop) → Prop
abbrev TA := St → Hp → (List V → Hp → Prop) → Prop
/-- what is wanted behind a statement -/
structure Ends where
  nx : St → Hp → Prop
  rt : VK
  bk : St → Hp → Prop := fun _ _ => False
  ct : St → Hp → Prop := fun _ _ => False
abbrev TS := Ends → St → Hp → Prop

def EP (X : Cx) (pins : List (Addr × Obj)) (σ : St) (Q : VK) (u : Value) (s' : Shared) : Prop := ∃ v H', Inv X pins σ H' s' ∧ RelV v u ∧ Q v H'
def TP (X : Cx) (pins : List (Addr × Obj)) (σ : St) (Q : Bool → Hp → Prop) (b : Bool) (s' : Shared) : Prop := ∃ H', Inv X pins σ H' s' ∧ Q b H'
def AP (X : Cx) (pins : List (Addr × Obj)) (σ : St) (Q : List V → Hp → Prop) (us : List Value) (s' : Shared) : Prop := ∃ vs H', Inv X pins σ H' s' ∧ Vals vs us ∧ Q vs H'
def SP (X : Cx) (pins : List (Addr × Obj)) (D : Ends) (f : Flow) (s' : Shared) : Prop :=
  match f with
  | .next => ∃ σ' H', Inv X pins σ' H' s' ∧ D.nx σ' H'
  | .brk => ∃ σ' H', Inv X pins σ' H' s' ∧ D.bk σ' H'
  | .cont => ∃ σ' H', Inv X pins σ' H' s' ∧ D.ct σ' H'
  | .ret u => ∃ v σ' H', Inv X pins σ' H' s' ∧ RelV v u ∧ D.rt v H'

def PE (X : Cx) (e : Expr) (t : TE) : Prop :=
  ∀ (pins : List (Addr × Obj)) (s : Shared) (σ : St) (H : Hp) (Q : VK), Inv X pins σ H s → t σ H Q → wpAny (model X.prog X.w) X.A (eval e X.env) (EP X pins σ Q) X.xe s
def PT (X : Cx) (e : Expr) (t : TT) : Prop :=
  ∀ (pins : List (Addr × Obj)) (s : Shared) (σ : St) (H : Hp) (Q : Bool → Hp → Prop), Inv X pins σ H s → t σ H Q → wpAny (model X.prog X.w) X.A (isTrue e X.env (eval e X.env)) (TP X pins σ Q) X.xe s
/-- a test whatever its 'whole' is (and, or) -/
def PW (X : Cx) (e : Expr) (t : TT) : Prop :=
  ∀ (whole : Sem Value) (pins : List (Addr × Obj)) (s : Shared) (σ : St) (H : Hp) (Q : Bool → Hp → Prop), Inv X pins σ H s → t σ H Q → wpAny (model X.prog X.w) X.A (isTrue e X.env whole) (TP X pins σ Q) X.xe s
theorem PW.pt {X : Cx} {e : Expr} {t : TT} (h : PW X e t) : PT X e t := h _
/-- an argument list (no star), from the left -/
def PA (X : Cx) (es : List Expr) (t : TA) : Prop :=
  ∀ (pos : Pos) (pins : List (Addr × Obj)) (s : Shared) (σ : St) (H : Hp) (Q : List V → Hp → Prop), Inv X pins σ H s → t σ H Q → wpAny (model X.prog X.w) X.A (spliced (backTo pos (starEach es X.env))) (AP X pins σ Q) X.xe s
def PS (X : Cx) (st : Stmt) (t : TS) : Prop :=
  ∀ (pins : List (Addr × Obj)) (s : Shared) (σ : St) (H : Hp) (D : Ends), Inv X pins σ H s → t D σ H → wpAny (model X.prog X.w) X.A (exec st X.env) (SP X pins D) X.xe s
def PSs (X : Cx) (st : List Stmt) (t : TS) : Prop :=
  ∀ (pins : List (Addr × Obj)) (s : Shared) (σ : St) (H : Hp) (D : Ends), Inv X pins σ H s → t D σ H → wpAny (model X.prog X.w) X.A (execs st X.env) (SP X pins D) X.xe s
/-- weaken the end -/
theorem thn {α : Type} {t : Sem α} {Q Q' : α → Shared → Prop} {M : Model} {A : Around} {E : Value → Shared → Prop} {s : Shared} (h : wpAny M A t Q E s) (hQ : ∀ a s, Q a s → Q' a s) : wpAny M A t Q' E s := wpAny_mono h hQ fun _ _ x => x
end L2

namespace L2
open PySem PySem.Spec PyProof.Rows
section
variable {X : Cx}

/-! ### names and constants -/
def tVar (i : Nat) : TE := fun σ H Q => ∃ v, σ[i]? = some (some v) ∧ Q v H
def tC (v : V) : TE := fun _ H Q => Q v H
theorem pe_var {i : Nat} {x : Str} {pos : Pos} (hN : X.N[i]? = some x) (hv : Vis X.env.scope x) (hd : (x == ("__debug__" : Str)) = false := by decide) (hcd : (x == ("__classdict__" : Str)) = false := by decide) : PE X (.Name x pos) (tVar i) := by
  intro pins s σ H Q I h
  obtain ⟨v, e, h⟩ := h
  obtain ⟨m, hn, hl⟩ := I.loc
  obtain ⟨u, r, l⟩ := hl i x v hN e hv
  have fin : EP X pins σ Q u s := ⟨v, H, I, r, h⟩
  rcases l with ⟨hk, hm⟩ | ⟨hk, c, hc, hcell⟩
  · exact wpAny_Name (wpAny_loadName_local I.ok.kind hk hn hm fin) hd
  · rcases hk with hk | hk
    · exact wpAny_Name (wpAny_loadName_cell I.ok.kind hk hc hcell fin) hd
    · exact wpAny_Name (wpAny_loadName_free I.ok.kind hk hc hcell fin hcd) hd
theorem pe_int {i j pos} : PE X (.Constant (.int i) j pos) (tC (.int i)) := fun _ _ _ H _ I h => wpAny_Constant_int ⟨.int i, H, I.tok _, ⟨_, rfl⟩, h⟩
theorem pe_bl {b j pos} : PE X (.Constant (.bool b) j pos) (tC (.bl b)) := fun _ _ _ H _ I h => Constant_bool ⟨.bl b, H, I, rfl, h⟩
theorem pe_non {j pos} : PE X (.Constant .none j pos) (tC .non) := fun _ _ _ H _ I h => Constant_none ⟨.non, H, I, rfl, h⟩
theorem pe_str {x j pos} : PE X (.Constant (.str x) j pos) (tC (.str x)) := fun _ _ _ H _ I h => Calls.Constant_str ⟨.str x, H, I.tok _, ⟨_, rfl⟩, h⟩

/-- a global name of the def -/
def Gl (X : Cx) (x : Str) : Prop := X.env.kindOf x = some .globalImplicit
theorem ld_glob {E : Value → Shared → Prop} {pins : List (Addr × Obj)} {s : Shared} {σ : St} {H : Hp} {x : Str} {u : Value} {pos : Pos} {Q : Value → Shared → Prop} (I : Inv X pins σ H s) (hg : Gl X x) (hm : X.mg x = some u) (h : Q u s)
    (hd : (x == ("__debug__" : Str)) = false := by decide) : wpAny (model X.prog X.w) X.A (eval (.Name x pos) X.env) Q E s :=
  Calls.Name_function_global I.ok.kind hg (Calls.loadGlobal_global (by rw [I.ok.glob]; exact I.mod.glob.keeps I.bk) hm h) hd
theorem ld_blt {E : Value → Shared → Prop} {pins : List (Addr × Obj)} {s : Shared} {σ : St} {H : Hp} {x : Str} {u : Value} {pos : Pos} {Q : Value → Shared → Prop} (I : Inv X pins σ H s) (hg : Gl X x) (hm : X.mg x = none) (hv : bootBuiltins x = some u) (h : Q u s)
    (hn : x ≠ "__name__" := by decide) (hd : (x == ("__debug__" : Str)) = false := by decide) : wpAny (model X.prog X.w) X.A (eval (.Name x pos) X.env) Q E s := by
  obtain ⟨mb, h1, h2⟩ := I.mod.blt
  exact Calls.Name_function_global I.ok.kind hg (Calls.loadGlobal_builtin (by rw [I.ok.glob]; exact I.mod.glob.keeps I.bk) hm (by rw [I.ok.blt]; exact h1.keeps I.bk) ((h2 x hn).trans hv) h) hd
/-- a module's constant, a class, a function, as a value -/
theorem pe_glob {x : Str} {v : V} {u : Value} {pos : Pos} (hg : Gl X x) (hm : X.mg x = some u) (r : RelV v u) (hd : (x == ("__debug__" : Str)) = false := by decide) : PE X (.Name x pos) (tC v) :=
  fun _ _ _ H _ I h => ld_glob I hg hm ⟨v, H, I, r, h⟩ hd
theorem pe_bltn {x : Str} {v : V} {u : Value} {pos : Pos} (hg : Gl X x) (hm : X.mg x = none) (hv : bootBuiltins x = some u) (r : RelV v u) (hn : x ≠ "__name__" := by decide) (hd : (x == ("__debug__" : Str)) = false := by decide) : PE X (.Name x pos) (tC v) :=
  fun _ _ _ H _ I h => ld_blt I hg hm hv ⟨v, H, I, r, h⟩ hn hd

/-! ### arithmetic -/
variable {a b : Expr} {ta tb : TE} {pos : Pos}
/-! ### comparisons -/
/-! ### and, or, not -/
variable {tA tB' : TT} {rest : List Expr}
def tAnd (t u : TT) : TT := fun σ H Q => t σ H fun c H1 => if c = true then u σ H1 Q else Q false H1
def tOr (t u : TT) : TT := fun σ H Q => t σ H fun c H1 => if c = true then Q true H1 else u σ H1 Q
def tNot (t : TT) : TT := fun σ H Q => t σ H fun c H1 => Q (!c) H1
theorem pw_and1 (ha : PT X a tA) : PW X (.BoolOp .And [a] pos) tA := by
  intro wh pins s σ H Q I h
  refine isTrue_and (thn (ha pins s σ H Q I h) fun c s1 e => ?_)
  cases c with
  | true => exact isTrue_and_nil e
  | false => exact e
theorem pw_or1 (ha : PT X a tA) : PW X (.BoolOp .Or [a] pos) tA := by
  intro wh pins s σ H Q I h
  refine isTrue_or (thn (ha pins s σ H Q I h) fun c s1 e => ?_)
  cases c with
  | false => exact isTrue_or_nil e
  | true => exact e
theorem pw_and (ha : PT X a tA) (hb : PW X (.BoolOp .And (b :: rest) pos) tB') : PW X (.BoolOp .And (a :: b :: rest) pos) (tAnd tA tB') := by
  intro wh pins s σ H Q I h
  refine isTrue_and (thn (ha pins s σ H _ I h) fun c s1 ⟨H1, I1, q1⟩ => ?_)
  cases c with
  | true => exact hb wh pins s1 σ H1 Q I1 q1
  | false => exact ⟨H1, I1, q1⟩
theorem pw_or (ha : PT X a tA) (hb : PW X (.BoolOp .Or (b :: rest) pos) tB') : PW X (.BoolOp .Or (a :: b :: rest) pos) (tOr tA tB') := by
  intro wh pins s σ H Q I h
  refine isTrue_or (thn (ha pins s σ H _ I h) fun c s1 ⟨H1, I1, q1⟩ => ?_)
  cases c with
  | true => exact ⟨H1, I1, q1⟩
  | false => exact hb wh pins s1 σ H1 Q I1 q1
theorem pt_not (ha : PT X a tA) : PT X (.UnaryOp .Not a pos) (tNot tA) := by
  intro pins s σ H Q I h
  exact isTrue_not (ha pins s σ H (fun c H1 => Q (!c) H1) I h)
/-- .. as values (bools) -/
def tAndV (ta tb : TE) : TE := fun σ H Q => ta σ H fun x H1 => ∃ c, x = .bl c ∧ if c = true then tb σ H1 Q else Q (.bl false) H1
def tOrV (ta tb : TE) : TE := fun σ H Q => ta σ H fun x H1 => ∃ c, x = .bl c ∧ if c = true then Q (.bl true) H1 else tb σ H1 Q
def tNotV (ta : TE) : TE := fun σ H Q => ta σ H fun x H1 => ∃ c, x = .bl c ∧ Q (.bl (!c)) H1
theorem pe_one {op} {t : TE} (h : PE X a t) : PE X (.BoolOp op [a] pos) t := fun pins s σ H Q I hw => BoolOp_one (h pins s σ H Q I hw)
theorem pe_and (ha : PE X a ta) (hb : PE X (.BoolOp .And (b :: rest) pos) tb) : PE X (.BoolOp .And (a :: b :: rest) pos) (tAndV ta tb) := by
  intro pins s σ H Q I h
  refine BoolOp_and (thn (ha pins s σ H _ I h) fun v s1 ⟨x, H1, I1, r1, q1⟩ => ?_)
  obtain ⟨c, rfl, q1⟩ := q1
  cases r1
  refine wpAny_truthy_bool ?_
  cases c with
  | true => exact hb pins s1 σ H1 Q I1 q1
  | false => exact ⟨.bl false, H1, I1, rfl, q1⟩
theorem pe_or (ha : PE X a ta) (hb : PE X (.BoolOp .Or (b :: rest) pos) tb) : PE X (.BoolOp .Or (a :: b :: rest) pos) (tOrV ta tb) := by
  intro pins s σ H Q I h
  refine BoolOp_or (thn (ha pins s σ H _ I h) fun v s1 ⟨x, H1, I1, r1, q1⟩ => ?_)
  obtain ⟨c, rfl, q1⟩ := q1
  cases r1
  refine wpAny_truthy_bool ?_
  cases c with
  | false => exact hb pins s1 σ H1 Q I1 q1
  | true => exact ⟨.bl true, H1, I1, rfl, q1⟩
theorem pe_not (ha : PE X a ta) : PE X (.UnaryOp .Not a pos) (tNotV ta) := by
  intro pins s σ H Q I h
  refine UnaryOp_ (thn (ha pins s σ H _ I h) fun v s1 ⟨x, H1, I1, r1, q1⟩ => ?_)
  obtain ⟨c, rfl, q1⟩ := q1
  cases r1
  exact not_of (wpAny_truthy_bool ⟨.bl (!c), H1, I1, rfl, q1⟩)
/-- a if t else b -/
def tIf (t : TT) (ta tb : TE) : TE := fun σ H Q => t σ H fun c H1 => if c = true then ta σ H1 Q else tb σ H1 Q
theorem pe_ifExp {c : Expr} (hc : PT X c tA) (ha : PE X a ta) (hb : PE X b tb) : PE X (.IfExp c a b pos) (tIf tA ta tb) := by
  intro pins s σ H Q I h
  refine wpAny_IfExp (thn (hc pins s σ H _ I h) fun d s1 ⟨H1, I1, q1⟩ => ?_)
  cases d with
  | true => exact ha pins s1 σ H1 Q I1 q1
  | false => exact hb pins s1 σ H1 Q I1 q1
end
end L2

namespace L2
open PySem PySem.Spec PyProof.Rows

/-! ### a list, a tuple that is read: tracked, frozen, or an object of the module -/
def SqL (K : PySem.W.Frag) (H : Hp) (a : Addr) (xs : List V) : Prop :=
  Rd H a (.lst xs) ∨
    ∃ (o : Obj) (its : Array Value) (n : Nat), K.lookup a = some o ∧ o.cls = .type "list" ∧ o.dict = none ∧ o.data = .seq its n ∧ its.size ≤ sizeLine ∧ Vals xs its.toList
def SqT (K : PySem.W.Frag) (H : Hp) (a : Addr) (xs : List V) : Prop :=
  Rd H a (.tup xs) ∨
    ∃ (o : Obj) (its : Array Value) (n : Nat), K.lookup a = some o ∧ o.cls = .type "tuple" ∧ o.data = .seq its n ∧ its.size ≤ sizeLine ∧ Vals xs its.toList
def absV : Value → Option V
  | .none => some .non
  | .bool b => some (.bl b)
  | .int i _ => some (.int i)
  | .str x _ => some (.str x)
  | .bytes b _ => some (.byt b)
  | .float b _ => some (.flt b)
  | .ref a => some (.ref a)
  | .type n => some (.ty n)
  | _ => none
theorem RelV.abs {x : V} {u : Value} (r : RelV x u) : absV u = some x := by
  cases x with
  | non => cases r; rfl
  | bl _ => cases r; rfl
  | int _ => obtain ⟨t, rfl⟩ := r; rfl
  | str _ => obtain ⟨t, rfl⟩ := r; rfl
  | byt _ => obtain ⟨t, rfl⟩ := r; rfl
  | flt _ => obtain ⟨t, rfl⟩ := r; rfl
  | ref _ => cases r; rfl
  | ty _ => cases r; rfl
theorem RelV.inj {x y : V} {u : Value} (r : RelV x u) (q : RelV y u) : x = y := Option.some.inj (r.abs.symm.trans q.abs)
theorem Vals.inj : ∀ {xs ys : List V} {us : List Value}, Vals xs us → Vals ys us → xs = ys
  | _, _, _, .nil, .nil => rfl
  | _, _, _, .cons r t, .cons r' t' => by rw [r.inj r', Vals.inj t t']
section
variable {X : Cx} {pins : List (Addr × Obj)} {σ : St} {H : Hp} {s : Shared} {a : Addr} {xs ys : List V}
theorem SqL.of {K : PySem.W.Frag} (h : H a = some (.lst xs)) : SqL K H a xs := .inl (.inl h)
theorem SqT.of {K : PySem.W.Frag} (h : H a = some (.tup xs)) : SqT K H a xs := .inl (.inl h)
theorem Inv.list (I : Inv X pins σ H s) (h : SqL X.K H a xs) : ∃ its : List Value, Vals xs its ∧ PlainL s.heap a its.toArray ∧ xs.length ≤ sizeLine := by
  rcases h with h | ⟨o, its, n, hk, hc, hd, hs, hz, r⟩
  · obtain ⟨z, its, n, r, e⟩ := h.ok I.hok
    exact ⟨its, r, ⟨_, n, e, rfl, rfl, rfl⟩, z⟩
  · refine ⟨its.toList, r, ⟨o, n, I.kIn a o hk, hc, hd, by simpa using hs⟩, ?_⟩
    have e := r.length
    simp only [Array.length_toList] at e
    omega
theorem Inv.tuple (I : Inv X pins σ H s) (h : SqT X.K H a xs) : ∃ its : List Value, Vals xs its ∧ IsTup s.heap a its.toArray ∧ xs.length ≤ sizeLine := by
  rcases h with h | ⟨o, its, n, hk, hc, hs, hz, r⟩
  · obtain ⟨z, its, r, p⟩ := h.ok I.hok
    exact ⟨its, r, p, z⟩
  · refine ⟨its.toList, r, ⟨o, I.kIn a o hk, hc, n, by simpa using hs⟩, ?_⟩
    have e := r.length
    simp only [Array.length_toList] at e
    omega
end

/-! ### another wish about exceptions -/
abbrev Cx.wish (X : Cx) (E : Value → Shared → Prop) : Cx := { X with xe := E }
/-- no exception leaves -/
abbrev Cx.nox (X : Cx) : Cx := X.wish fun _ _ => False
theorem Cx.Ok.wish {X : Cx} (ok : X.Ok) (E : Value → Shared → Prop) : (X.wish E).Ok :=
  ⟨ok.mod, ok.kind, ok.glob, ok.blt, ok.above, ok.inj, ok.has, ok.cab, ok.hd, ok.frames, ok.stk, ok.exf, ok.bs, ok.bsz, ok.noex, ok.exfs, ok.funs, ok.frf⟩
theorem Cx.Ok.unwish {X : Cx} {E : Value → Shared → Prop} (ok : (X.wish E).Ok) : X.Ok :=
  ⟨ok.mod, ok.kind, ok.glob, ok.blt, ok.above, ok.inj, ok.has, ok.cab, ok.hd, ok.frames, ok.stk, ok.exf, ok.bs, ok.bsz, ok.noex, ok.exfs, ok.funs, ok.frf⟩
section
variable {X : Cx} {pins : List (Addr × Obj)} {σ : St} {H : Hp} {s : Shared} {E : Value → Shared → Prop}
theorem Inv.wish (I : Inv X pins σ H s) (E : Value → Shared → Prop) : Inv (X.wish E) pins σ H s := ⟨I.ok.wish E, I.os, I.bare, I.base, I.loc, I.cell, I.free, I.freeC, I.pin, I.hok, I.len⟩
theorem Inv.unwish (I : Inv (X.wish E) pins σ H s) : Inv X pins σ H s := ⟨I.ok.unwish, I.os, I.bare, I.base, I.loc, I.cell, I.free, I.freeC, I.pin, I.hok, I.len⟩
theorem SP.unwish {D : Ends} {f : Flow} {s' : Shared} (h : SP (X.wish E) pins D f s') : SP X pins D f s' := by
  cases f with
  | next => obtain ⟨σ', H', I, q⟩ := h; exact ⟨σ', H', I.unwish, q⟩
  | brk => obtain ⟨σ', H', I, q⟩ := h; exact ⟨σ', H', I.unwish, q⟩
  | cont => obtain ⟨σ', H', I, q⟩ := h; exact ⟨σ', H', I.unwish, q⟩
  | ret u => obtain ⟨v, σ', H', I, r, q⟩ := h; exact ⟨v, σ', H', I.unwish, r, q⟩
theorem PE.nox {e : Expr} {t : TE} (h : PE X.nox e t) : PE X e t := fun pins s σ H Q I hw =>
  wpAny_mono (h pins s σ H Q (I.wish _) hw) (fun _ _ ⟨v, H', I', r, q⟩ => ⟨v, H', I'.unwish, r, q⟩) fun _ _ z => False.elim z
theorem PT.nox {e : Expr} {t : TT} (h : PT X.nox e t) : PT X e t := fun pins s σ H Q I hw =>
  wpAny_mono (h pins s σ H Q (I.wish _) hw) (fun _ _ ⟨H', I', q⟩ => ⟨H', I'.unwish, q⟩) fun _ _ z => False.elim z
theorem PSs.nox {st : List Stmt} {t : TS} (h : PSs X.nox st t) : PSs X st t := fun pins s σ H D I hw =>
  wpAny_mono (h pins s σ H D (I.wish _) hw) (fun _ _ q => q.unwish) fun _ _ z => False.elim z
end

/-! ### blocks and small statements -/
section
variable {X : Cx} {st : Stmt} {rest : List Stmt} {t u : TS} {e : Expr} {te : TE} {pos : Pos}
def tNext : TS := fun D σ H => D.nx σ H
def tSeq (t u : TS) : TS := fun D σ H => t { D with nx := u D } σ H
theorem pss_nil : PSs X [] tNext := fun _ _ σ H _ I h => wpAny_execs_nil ⟨σ, H, I, h⟩
theorem pss_cons (h1 : PS X st t) (h2 : PSs X rest u) : PSs X (st :: rest) (tSeq t u) := by
  intro pins s σ H D I h
  refine wpAny_execs_cons (thn (h1 pins s σ H { D with nx := u D } I h) fun f s1 q => ?_)
  cases f with
  | next =>
    obtain ⟨σ', H', I', q⟩ := q
    exact h2 pins s1 σ' H' D I' q
  | ret v => exact q
  | brk => exact q
  | cont => exact q
theorem pss_one (h1 : PS X st t) : PSs X [st] t := by
  intro pins s σ H D I h
  refine wpAny_execs_cons (thn (h1 pins s σ H D I h) fun f s1 q => ?_)
  cases f with
  | next => exact wpAny_execs_nil q
  | ret v => exact q
  | brk => exact q
  | cont => exact q
/-- in a def's body nothing is shown -/
theorem Inv.quiet {pins : List (Addr × Obj)} {σ : St} {H : Hp} {s : Shared} (I : Inv X pins σ H s) : interactive X.env = false := by simp [interactive, I.ok.kind]
/-- an expression whose value is dropped -/
def tDrop (te : TE) : TS := fun D σ H => te σ H fun _ H1 => D.nx σ H1
theorem ps_expr (he : PE X e te) (hs : swapsWith e none pos.line X.env = pure false := by rfl) : PS X (.Expr e pos) (tDrop te) := by
  intro pins s σ H D I h
  exact wpAny_Expr_any (thn (he pins s σ H _ I h) fun v s1 ⟨x, H1, I1, r1, q1⟩ => ⟨σ, H1, I1, q1⟩) I.quiet hs
def tRet (te : TE) : TS := fun D σ H => te σ H D.rt
theorem ps_ret (he : PE X e te) : PS X (.Return (some e) pos) (tRet te) := by
  intro pins s σ H D I h
  exact wpAny_Return_some (thn (he pins s σ H _ I h) fun v s1 ⟨x, H1, I1, r1, q1⟩ => ⟨x, σ, H1, I1, r1, q1⟩)
def tIfS (c : TT) (t u : TS) : TS := fun D σ H => c σ H fun b H1 => if b = true then t D σ H1 else u D σ H1
theorem ps_if {c : Expr} {a b : List Stmt} {tc : TT} (hc : PT X c tc) (ha : PSs X a t) (hb : PSs X b u) : PS X (.If c a b pos) (tIfS tc t u) := by
  intro pins s σ H D I h
  refine wpAny_If (thn (hc pins s σ H _ I h) fun d s1 ⟨H1, I1, q1⟩ => ?_)
  cases d with
  | true => exact ha pins s1 σ H1 D I1 q1
  | false => exact hb pins s1 σ H1 D I1 q1
end

/-! ### targets -/
abbrev TG := V → St → Hp → (St → Hp → Prop) → Prop
abbrev TGs := List V → St → Hp → (St → Hp → Prop) → Prop
def PG (X : Cx) (target : Expr) (t : TG) : Prop :=
  ∀ (pins : List (Addr × Obj)) (s : Shared) (σ : St) (H : Hp) (v : V) (u : Value) (Q : St → Hp → Prop), Inv X pins σ H s → RelV v u → t v σ H Q →
    wpAny (model X.prog X.w) X.A (assign target X.env u) (fun _ s' => ∃ σ' H', Inv X pins σ' H' s' ∧ Q σ' H') X.xe s
/-- several targets, one after another -/
def PGs (X : Cx) (ts : List Expr) (t : TGs) : Prop :=
  ∀ (pins : List (Addr × Obj)) (s : Shared) (σ : St) (H : Hp) (vs : List V) (us : List Value) (Q : St → Hp → Prop), Inv X pins σ H s → Vals vs us → t vs σ H Q →
    wpAny (model X.prog X.w) X.A (assignInOrder ((assignEach ts X.env).map (·.2)) us) (fun _ s' => ∃ σ' H', Inv X pins σ' H' s' ∧ Q σ' H') X.xe s
/-- o[i] = v, by values -/
abbrev TSet := V → V → V → Hp → (Hp → Prop) → Prop
def PSet (X : Cx) (t : TSet) : Prop :=
  ∀ (pins : List (Addr × Obj)) (s : Shared) (σ : St) (H : Hp) (o i v : V) (ov iv u : Value) (Q : Hp → Prop), Inv X pins σ H s → RelV o ov → RelV i iv → RelV v u → t o i v H Q →
    wpAny (model X.prog X.w) X.A (setItem ov iv u) (fun _ s' => ∃ H', Inv X pins σ H' s' ∧ Q H') X.xe s
section
variable {X : Cx} {pos : Pos}
def gName (i : Nat) : TG := fun v σ H Q => Q (σ.set i (some v)) H
theorem pg_name {i : Nat} {x : Str} (hN : X.N.Nodup) (hi : X.N[i]? = some x) (hx : Loc X.env.scope x) (hf : X.fn x = true ∨ X.env.scope.names.lookup x = some .local := by first | exact .inl rfl | exact .inr rfl | assumption) : PG X (.Name x pos) (gName i) := by
  intro pins s σ H v u Q I r h
  exact wpAny_assign_Name (store_ok I hN hi hx r (fun s' I' => ⟨_, H, I', h⟩) hf)
def gNil : TGs := fun vs σ H Q => vs = [] ∧ Q σ H
def gCons (t : TG) (u : TGs) : TGs := fun vs σ H Q => ∃ v r, vs = v :: r ∧ t v σ H fun σ' H' => u r σ' H' Q
/-- (a, b, ..) = a tuple of that length -/
def gTup (K : PySem.W.Frag) (n : Nat) (t : TGs) : TG := fun v σ H Q => ∃ a xs, v = .ref a ∧ SqT K H a xs ∧ xs.length = n ∧ t xs σ H Q
/-- o[i] = .. -/
def gSub (to ti : TE) (t : TSet) : TG := fun v σ H Q => to σ H fun o H1 => ti σ H1 fun i H2 => t o i v H2 fun H3 => Q σ H3
theorem pg_sub {o i : Expr} {to ti : TE} {t : TSet} (ho : PE X o to) (hi : PE X i ti) (hs : PSet X t)
    (ha : ∀ v, assign (.Subscript o i pos) X.env v = (do
      let ov ← holding [v] (eval o X.env)
      let iv ← holding [v, ov] (eval i X.env)
      standAt pos
      holding [v, ov, iv] (setItem ov iv v)
      release [v, ov, iv] []) := by intro _; rfl) : PG X (.Subscript o i pos) (gSub to ti t) := by
  intro pins s σ H v u Q I r h
  rw [ha]
  refine wpAny_bind (wpAny_holding (thn (ho pins s σ H _ I h) fun ov s1 ⟨x, H1, I1, r1, q1⟩ => ?_))
  refine wpAny_bind (wpAny_holding (thn (hi pins s1 σ H1 _ I1 q1) fun iv s2 ⟨y, H2, I2, r2, q2⟩ => ?_))
  refine wpAny_bind (wpAny_standAt (wpAny_bind (wpAny_holding (thn (hs pins s2 σ H2 x y v ov iv u _ I2 r1 r2 r q2) fun _ s3 ⟨H3, I3, q3⟩ => ?_))))
  exact wpAny_release ⟨σ, H3, I3, q3⟩
/-- target = value -/
def tAsg (te : TE) (g : TG) : TS := fun D σ H => te σ H fun x H1 => g x σ H1 D.nx
theorem ps_asg {tg e : Expr} {te : TE} {g : TG} (he : PE X e te) (hg : PG X tg g) (hs : swapsWithSole [tg] e pos.line X.env = pure false := by rfl) (hw : swappedStores [tg] e X.env = pure none := by rfl)
    (h1 : (assignEach [tg] X.env).map (·.2) = [assign tg X.env] := by rfl) : PS X (.Assign [tg] e pos) (tAsg te g) := by
  intro pins s σ H D I h
  refine wpAny_Assign_stores (thn (he pins s σ H _ I h) fun v s1 ⟨x, H1, I1, r1, q1⟩ => ?_) hs hw
  rw [h1]
  exact thn (hg pins s1 σ H1 x v _ I1 r1 q1) fun _ s2 q => q
/-- name = value -/
theorem ps_set {i : Nat} {x : Str} {e : Expr} {te : TE} {pos' : Pos} (hN : X.N.Nodup) (hi : X.N[i]? = some x) (hx : Loc X.env.scope x) (he : PE X e te) (hs : swapsWith e (some (.Name x pos')) pos.line X.env = pure false := by rfl) (hf : X.fn x = true ∨ X.env.scope.names.lookup x = some .local := by first | exact .inl rfl | exact .inr rfl | assumption) :
    PS X (.Assign [.Name x pos'] e pos) (tAsg te (gName i)) := by
  intro pins s σ H D I h
  refine wpAny_Assign_Name (thn (he pins s σ H _ I h) fun v s1 ⟨y, H1, I1, r1, q1⟩ => ?_) hs
  exact store_ok I1 hN hi hx r1 (fun s2 I2 => ⟨_, H1, I2, q1⟩) hf
end

/-! ### while -/
section
variable {X : Cx} {pos : Pos}
end

/-! ### what a loop or a comprehension walks -/
/-- at turn i: it yields x (the heap may grow), or it stops -/
structure It where
  go : Nat → Hp → Prop
  yld : Nat → Hp → V → Hp → Prop
  stop : Nat → Hp → Prop
/-- the iterator's own objects may turn: they are not the frame's, not pinned, younger than the entry (or a comprehension's own) -/
def FpOk (X : Cx) (pins : List (Addr × Obj)) (H : Hp) (b : Addr) : Prop :=
  H b = none ∧ b ≠ X.env.locals ∧ b ∉ X.fs ∧ (b ∈ X.ex ∨ X.s₀.heap.objs.size ≤ b) ∧ (∀ x c, X.env.cells.lookup x = some c → c ≠ b) ∧ ∀ p ∈ X.pn ++ pins, p.1 ≠ b
theorem Inv.fpOk {X : Cx} {pins : List (Addr × Obj)} {σ : St} {H H' : Hp} {s : Shared} {b : Addr} (I : Inv X pins σ H s) (hb : s.heap.objs.size ≤ b) (hn : H' b = none) : FpOk X pins H' b := by
  refine ⟨hn, Nat.ne_of_gt (Nat.lt_of_lt_of_le I.lt hb), I.nofs hb, .inr (Nat.le_trans I.sz hb), fun x c e z => ?_, fun p hp z => ?_⟩
  · obtain ⟨v, q⟩ := I.cell x c e
    exact absurd (Nat.lt_of_lt_of_le q.lt (by rw [z]; exact hb)) (Nat.lt_irrefl _)
  · exact absurd (Nat.lt_of_lt_of_le (Heap.lt_size (I.pin p hp).1) (by rw [z]; exact hb)) (Nat.lt_irrefl _)
structure Turn (P : Program) (w : World) (K : PySem.W.Frag) (tg : Expr) (J : It) (fp : List Addr) (it : Addr) (tn : Nat → Heap → Prop) : Prop where
  mem : it ∈ fp
  obj : ∀ i h, tn i h → ∀ b ∈ fp, ∃ o, h.get? b = some o ∧ ∀ v, o.data ≠ .cell v
  keep : ∀ i h h', tn i h → (∀ b ∈ fp, ∀ o, h.get? b = some o → h'.get? b = some o) → tn i h'
  item : ∀ (X : Cx), X.prog = P → X.w = w → X.K = K → X.calm = true → ∀ (i : Nat) (pins : List (Addr × Obj)) (s : Shared) (σ : St) (H : Hp) (E : Value → Shared → Prop), Inv X pins σ H s → (∀ b ∈ fp, FpOk X pins H b) → tn i s.heap → J.go i H →
    wpAny (model P w) X.A (pyNext (.ref it)) (fun r s1 => ∃ u, r = some u ∧
      wpAny (model P w) X.A (letOwnedTupleGo tg (.ref it) u) (fun _ s2 => ∃ x H', Inv X pins σ H' s2 ∧ RelV x u ∧ J.yld i H x H' ∧ tn (i + 1) s2.heap ∧ ∀ b ∈ fp, H' b = none) E s1) E s
  done : ∀ (X : Cx), X.prog = P → X.w = w → X.K = K → X.calm = true → ∀ (i : Nat) (pins : List (Addr × Obj)) (s : Shared) (σ : St) (H : Hp) (E : Value → Shared → Prop), Inv X pins σ H s → (∀ b ∈ fp, FpOk X pins H b) → tn i s.heap → J.stop i H →
    wpAny (model P w) X.A (pyNext (.ref it)) (fun r s1 => r = none ∧ Inv X pins σ H s1) E s
  self : ∀ (A : Around) (i : Nat) (s : Shared) (Q : Value → Shared → Prop) (E : Value → Shared → Prop), tn i s.heap → Q (.ref it) s → wpAny (model P w) A (pyIter (.ref it)) Q E s
abbrev TI := St → Hp → (It → Hp → Prop) → Prop
/-- an iterator has come -/
def PIE (X : Cx) (pins : List (Addr × Obj)) (σ : St) (tg : Expr) (R : It → Hp → Prop) (itv : Value) (s2 : Shared) : Prop :=
  ∃ (it : Addr) (fp : List Addr) (tn : Nat → Heap → Prop) (J : It) (H' : Hp), itv = .ref it ∧ Inv X pins σ H' s2 ∧ Turn X.prog X.w X.K tg J fp it tn ∧ tn 0 s2.heap ∧ (∀ b ∈ fp, FpOk X pins H' b) ∧ R J H'
def PI (X : Cx) (tg iter : Expr) (wi : TI) : Prop :=
  ∀ (pins : List (Addr × Obj)) (s : Shared) (σ : St) (H : Hp) (R : It → Hp → Prop), Inv X pins σ H s → wi σ H R →
    wpAny (model X.prog X.w) X.A (eval iter X.env) (fun v s1 => wpAny (model X.prog X.w) X.A (pyIter v) (PIE X pins σ tg R) X.xe s1) X.xe s

/-- the step ahead of the store is nothing for an iterator that keeps no tuple -/
theorem go_of {M : Model} {A : Around} {E : Value → Shared → Prop} {s : Shared} {tg : Expr} {it : Addr} {u : Value} {o : Obj} {n : String} {vs : Array Value} {Q : Unit → Shared → Prop} (ho : s.heap.get? it = some o) (hc : o.cls = .type n) (hd : o.data = .fields vs)
    (hn : ["enumerate", "zip", "dict_itemiterator", "dict_reverseitemiterator", "odict_iterator", "itertools.zip_longest", "itertools.pairwise"].contains n = false) (hQ : Q () s) : wpAny M A (letOwnedTupleGo tg (.ref it) u) Q E s := by
  unfold letOwnedTupleGo
  cases tg <;> first
    | exact wpAny_pure hQ
    | (cases u <;> first
        | exact wpAny_pure hQ
        | (refine wpAny_bind (wpAny_load ho ?_)
           rw [hc, hd]
           show wpAny M A (if (["enumerate", "zip", "dict_itemiterator", "dict_reverseitemiterator", "odict_iterator", "itertools.zip_longest", "itertools.pairwise"].contains n && vs[0]? == some (rawInt _)) = true then _ else _) Q E s
           rw [if_neg (by intro h; rw [hn, Bool.false_and] at h; cases h)]
           exact wpAny_pure hQ))

/-- the list at a, as it stands at each turn (a loop may append to it) -/
def Itl (K : PySem.W.Frag) (a : Addr) : It :=
  ⟨fun i H => ∃ xs x, SqL K H a xs ∧ xs[i]? = some x, fun i H x H' => H' = H ∧ ∀ xs, SqL K H a xs → xs[i]? = some x, fun i H => ∃ xs, SqL K H a xs ∧ xs.length ≤ i⟩
def Itt (K : PySem.W.Frag) (a : Addr) : It :=
  ⟨fun i H => ∃ xs x, SqT K H a xs ∧ xs[i]? = some x, fun i H x H' => H' = H ∧ ∀ xs, SqT K H a xs → xs[i]? = some x, fun i H => ∃ xs, SqT K H a xs ∧ xs.length ≤ i⟩
/-- lo, lo + 1, .. (n of them) -/
def Itr (lo : Int) (n : Nat) : It := ⟨fun i _ => i < n, fun i H x H' => H' = H ∧ x = .int (lo + i), fun i _ => n ≤ i⟩
theorem turn_range {P : Program} {w : World} {K : PySem.W.Frag} {tg : Expr} (it : Addr) (lo : Int) (n : Nat) : Turn P w K tg (Itr lo n) [it] it (fun i h => IsRangeIter h it (lo + (i : Nat) * 1) ((n : Int) - (i : Nat)) 1) where
  mem := by simp
  obj := fun i h st b hb => by
    have e : b = it := by simpa using hb
    subst e
    exact ⟨_, st, fun v z => by
      have z' : Data.fields _ = Data.cell v := z
      cases z'⟩
  keep := fun i h h' st k => k it (by simp) _ st
  item := by
    intro X hP hw hK hc i pins s σ H E I hf st hg
    subst hP hw hK
    obtain ⟨f0, f1, f2, f3, f4, f5⟩ := hf it (by simp)
    have W := Walks.range (prog := X.prog) (w := X.w) (I.ok.hd hc) it lo 1 n
    refine W.item i s _ _ hg st fun v h' tk hv st' kk => ?_
    obtain ⟨t, rfl⟩ := hv
    have I1 : Inv X pins σ H { s with heap := h', toks := tk } := I.turned (fun b o hb e => kk b o (by simpa using hb) e) f0 f1 f3 f4 f5
    refine ⟨_, rfl, go_of (s := { s with heap := h', toks := tk }) (n := "range_iterator") st' rfl rfl (by decide) ⟨.int (lo + i), H, I1, ⟨t, ?_⟩, ⟨rfl, rfl⟩, st', fun b hb => (hf b hb).1⟩⟩
    rw [Int.mul_one]
  done := by
    intro X hP hw hK hc i pins s σ H E I hf st hg
    subst hP hw hK
    obtain ⟨f0, f1, f2, f3, f4, f5⟩ := hf it (by simp)
    exact wpAny_pyNext_range_end (I.ok.hd hc) st (by have : n ≤ i := hg; omega) fun h' eb => ⟨rfl, I.turned (t' := s.toks) (fun b o hb e => eb b o hb e) f0 f1 f3 f4 f5⟩
  self := fun _ _ _ _ _ st h => wpAny_pyIter_rangeiter st h
end L2

namespace L2
open PySem PySem.Spec PyProof.Rows
section
variable {X : Cx} {tg : Expr}
/-- a range object just made, walked -/
theorem range_it {pins : List (Addr × Obj)} {σ : St} {H : Hp} {s : Shared} {R : It → Hp → Prop} {E : Value → Shared → Prop} {lo hi : Int} {t u v : Tok} {tk : Nat} (I : Inv X pins σ H s) (h1 : -(2 ^ 62) ≤ lo) (h2 : lo < 2 ^ 62) (h3 : -(2 ^ 62) ≤ hi) (h4 : hi < 2 ^ 62)
    (q : R (Itr lo (hi - lo).toNat) H) : wpAny (model X.prog X.w) X.A (pyIter (.ref s.heap.objs.size)) (PIE X pins σ tg R) E { s with heap := s.heap.push { cls := .type "range", data := .fields #[.int lo t, .int hi u, .int 1 v] }, toks := tk } := by
  refine wpAny_pyIter_range (IsRange.new ..) (small_one h1 h2 h3 h4) ?_
  have I1 : Inv X pins σ H { s with heap := s.heap.push { cls := .type "range", data := .fields #[.int lo t, .int hi u, .int 1 v] }, toks := tk } := I.kept fun b o e => Heap.get?_push_of_some _ e
  refine ⟨(s.heap.push { cls := .type "range", data := .fields #[.int lo t, .int hi u, .int 1 v] }).objs.size, [(s.heap.push { cls := .type "range", data := .fields #[.int lo t, .int hi u, .int 1 v] }).objs.size], _, _, H, rfl,
    I1.kept (t' := tk) fun b o e => Heap.get?_push_of_some _ e, turn_range _ lo (hi - lo).toNat, ?_, fun b hb => ?_, q⟩
  · have e1 : lo + ((0 : Nat) : Int) * 1 = lo := by simp
    have e2 : (((hi - lo).toNat : Nat) : Int) - ((0 : Nat) : Int) = Builtin.Range.rangeSize lo hi 1 := by rw [rangeSize_one]; split <;> omega
    show IsRangeIter _ _ (lo + ((0 : Nat) : Int) * 1) ((((hi - lo).toNat : Nat) : Int) - ((0 : Nat) : Int)) 1
    rw [e1, e2]
    exact Heap.get?_push_size _ rfl
  · have e : b = (s.heap.push { cls := .type "range", data := .fields #[.int lo t, .int hi u, .int 1 v] }).objs.size := by simpa using hb
    subst e
    exact I1.fpOk (Nat.le_refl _) (I1.hok.fresh (Nat.le_refl _))
def iRng1 (ta : TA) : TI := fun σ H R => ta σ H fun vs H1 => ∃ j : Int, vs = [.int j] ∧ -(2 ^ 62) ≤ j ∧ j < 2 ^ 62 ∧ R (Itr 0 j.toNat) H1
def iRng2 (ta : TA) : TI := fun σ H R => ta σ H fun vs H1 => ∃ i j : Int, vs = [.int i, .int j] ∧ (-(2 ^ 62) ≤ i ∧ i < 2 ^ 62 ∧ -(2 ^ 62) ≤ j ∧ j < 2 ^ 62) ∧ R (Itr i (j - i).toNat) H1
theorem pi_range1 {a : Expr} {ta : TA} {p pos : Pos} (hg : Gl X "range") (hm : X.mg "range" = none) (ha : PA X [a] ta) (hs : starEach [a] X.env = [(false, eval a X.env)] := by rfl) : PI X tg (.Call (.Name "range" p) [a] [] pos) (iRng1 ta) := by
  intro pins s σ H R I h
  refine Call_ (ld_blt I hg hm boot_range (PyProof.Rows.callWith_type1 (thn (ha pos pins s σ H _ I h) fun us s1 ⟨vs, H1, I1, r1, q1⟩ => ?_) hs rfl))
  obtain ⟨j, e, q1, q2, q⟩ := q1
  subst e
  cases r1 with
  | cons r rr =>
    cases rr
    obtain ⟨t, rfl⟩ := r
    exact call_range_1 (range_it I1 (by omega) (by omega) q1 q2 (by simpa using q))
theorem pi_range2 {a b : Expr} {ta : TA} {p pos : Pos} (hg : Gl X "range") (hm : X.mg "range" = none) (ha : PA X [a, b] ta) (hs : starEach [a, b] X.env = [(false, eval a X.env), (false, eval b X.env)] := by rfl) (hs2 : starEach [b] X.env = [(false, eval b X.env)] := by rfl) :
    PI X tg (.Call (.Name "range" p) [a, b] [] pos) (iRng2 ta) := by
  intro pins s σ H R I h
  refine Call_ (ld_blt I hg hm boot_range (PyProof.Rows.callWith_type1 (thn (ha pos pins s σ H _ I h) fun us s1 ⟨vs, H1, I1, r1, q1⟩ => ?_) (by rw [hs, hs2]) (by rw [hs2]; rfl)))
  obtain ⟨i, j, e, ⟨q1, q2, q3, q4⟩, q⟩ := q1
  subst e
  cases r1 with
  | cons r rr =>
    cases rr with
    | cons r' rr =>
      cases rr
      obtain ⟨t, rfl⟩ := r
      obtain ⟨t', rfl⟩ := r'
      exact call_range_2 (range_it I1 q1 q2 q3 q4 q)

/-! ### for -/
/-- W: the invariant by the turn and a measure; N: what the body is to reach -/
def tFor (wi : TI) (g : TG) (tb : TS) : TS := fun D σ H => wi σ H fun J H1 => ∃ W : Nat → Nat → St → Hp → Prop, (∃ m, W 0 m σ H1) ∧ ∀ i m σ H, W i m σ H →
  (J.stop i H ∧ D.nx σ H) ∨ (J.go i H ∧ ∃ N : St → Hp → Prop, (∀ σ' H', N σ' H' → ∃ m', m' < m ∧ W (i + 1) m' σ' H') ∧ ∀ x H', J.yld i H x H' → g x σ H' fun σ2 H2 => tb { D with nx := N, ct := N, bk := D.nx } σ2 H2)
/-- the records at fp as they stand -/
def pinsAt (fp : List Addr) (h : Heap) : List (Addr × Obj) := fp.filterMap fun b => (h.get? b).map fun o => (b, o)
theorem mem_pinsAt {fp : List Addr} {h : Heap} {b : Addr} {o : Obj} (hb : b ∈ fp) (e : h.get? b = some o) : (b, o) ∈ pinsAt fp h := List.mem_filterMap.mpr ⟨b, hb, by rw [e]; rfl⟩
theorem of_pinsAt {fp : List Addr} {h : Heap} {p : Addr × Obj} (hp : p ∈ pinsAt fp h) : p.1 ∈ fp ∧ h.get? p.1 = some p.2 := by
  obtain ⟨b, hb, e⟩ := List.mem_filterMap.mp hp
  cases q : h.get? b with
  | none => rw [q] at e; cases e
  | some o =>
    rw [q] at e
    have e' : (b, o) = p := Option.some.inj e
    subst e'
    exact ⟨hb, q⟩
theorem Inv.pinned {pins : List (Addr × Obj)} {σ : St} {H : Hp} {s : Shared} {fp : List Addr} (I : Inv X pins σ H s) (hf : ∀ b ∈ fp, FpOk X pins H b) (ho : ∀ b ∈ fp, ∃ o, s.heap.get? b = some o ∧ ∀ v, o.data ≠ .cell v) : Inv X (pins ++ pinsAt fp s.heap) σ H s :=
  I.pins_of fun p hp => (List.mem_append.mp hp).elim (fun z => I.pin p (List.mem_append_right _ z)) fun z => by
    obtain ⟨hb, e⟩ := of_pinsAt z
    obtain ⟨f0, f1, f2, _⟩ := hf p.1 hb
    obtain ⟨o, e', d⟩ := ho p.1 hb
    rw [e] at e'; cases e'
    exact ⟨e, f0, f1, f2, d⟩
theorem Inv.unpinned {pins pl : List (Addr × Obj)} {σ : St} {H : Hp} {s : Shared} (I : Inv X (pins ++ pl) σ H s) : Inv X pins σ H s := I.pins_of fun p hp => I.pin p (List.mem_append_right _ (List.mem_append_left _ hp))
theorem ps_for {iter : Expr} {body : List Stmt} {wi : TI} {g : TG} {tb : TS} {pos : Pos} (hp : PassesOwn (model X.prog X.w) X.A X.env X.xe) (hc : X.calm = true) (hi : PI X tg iter wi) (hg : PG X tg g) (hb : PSs X body tb)
    (hs : ∀ x, foldedSetIterable iter X.env x = pure x := by intro _; rfl) : PS X (.For tg iter body [] pos) (tFor wi g tb) := by
  intro pins s σ H D I h
  refine wpAny_For (thn (hi pins s σ H _ I h) fun v s1 h1 => thn h1 fun itv s2 h2 => ?_) hs
  obtain ⟨it, fp, tn, J, H2, e, I2, T, st2, f2, W, ⟨m0, w0⟩, turn⟩ := h2
  subst e
  -- what stays true of the iterator's objects through the loop
  have stat : ∀ {H' : Hp}, (∀ b ∈ fp, H' b = none) → ∀ b ∈ fp, FpOk X pins H' b := fun hn b hb => ⟨hn b hb, (f2 b hb).2⟩
  refine codeAny_forLoop_any (fun n s' => ∃ i σ' H', Inv X pins σ' H' s' ∧ tn i s'.heap ∧ (∀ b ∈ fp, H' b = none) ∧ W i n σ' H') ?_ m0 ⟨0, σ, H2, I2, st2, fun b hb => (f2 b hb).1, w0⟩
  rintro n s3 ⟨i, σ3, H3, I3, st3, fr3, w3⟩
  rcases turn i n σ3 H3 w3 with ⟨stop, qn⟩ | ⟨go, N, hN, step⟩
  · refine wpAny_passesOwn hp (thn (T.done X rfl rfl rfl hc i pins s3 σ3 H3 X.xe I3 (stat fr3) st3 stop) fun r s4 ⟨hr, I4⟩ => ?_)
    subst hr
    exact wpAny_execs_nil ⟨σ3, H3, I4, qn⟩
  · refine wpAny_passesOwn hp (thn (T.item X rfl rfl rfl hc i pins s3 σ3 H3 X.xe I3 (stat fr3) st3 go) fun r s4 ⟨u, hr, h4⟩ => ?_)
    subst hr
    refine wpAny_passesOwn hp (thn h4 fun _ s5 ⟨x, H5, I5, r5, y5, st5, fr5⟩ => ?_)
    have I5' := I5.pinned (stat fr5) (T.obj _ _ st5)
    refine wpAny_passesOwn hp (thn (hg _ s5 σ3 H5 x u _ I5' r5 (step x H5 y5)) fun _ s6 ⟨σ6, H6, I6, q6⟩ => ?_)
    refine wpAny_passesOwn hp (thn (hb _ s6 σ6 H6 _ I6 q6) fun f s7 q7 => ?_)
    have again : ∀ {σ7 : St} {H7 : Hp}, Inv X (pins ++ pinsAt fp s5.heap) σ7 H7 s7 → N σ7 H7 → ∃ m, m < n ∧ ∃ i σ' H', Inv X pins σ' H' s7 ∧ tn i s7.heap ∧ (∀ b ∈ fp, H' b = none) ∧ W i m σ' H' := fun {σ7 H7} I7 n7 => by
      obtain ⟨m', hm, w7⟩ := hN σ7 H7 n7
      refine ⟨m', hm, i + 1, σ7, H7, I7.unpinned, T.keep _ _ _ st5 fun b hb o e => (I7.pin (b, o) (List.mem_append_right _ (List.mem_append_right _ (mem_pinsAt hb e)))).1, fun b hb => ?_, w7⟩
      obtain ⟨o, e, d⟩ := T.obj _ _ st5 b hb
      exact (I7.pin (b, o) (List.mem_append_right _ (List.mem_append_right _ (mem_pinsAt hb e)))).2.1
    cases f with
    | next => obtain ⟨σ7, H7, I7, n7⟩ := q7; exact again I7 n7
    | cont => obtain ⟨σ7, H7, I7, n7⟩ := q7; exact again I7 n7
    | brk => obtain ⟨σ7, H7, I7, q7⟩ := q7; exact ⟨σ7, H7, I7.unpinned, q7⟩
    | ret v => obtain ⟨x7, σ7, H7, I7, r7, q7⟩ := q7; exact ⟨x7, σ7, H7, I7.unpinned, r7, q7⟩
end

/-! ### the forms one uses -/
/-- over a list that the body leaves as it is -/
theorem for_list {K : PySem.W.Frag} {a : Addr} {xs : List V} {g : TG} {tb : TS} {D : Ends} {σ : St} {H : Hp} (Pv : Nat → St → Hp → Prop) (h0 : Pv 0 σ H) (hl : ∀ i σ H, i ≤ xs.length → Pv i σ H → SqL K H a xs)
    (hs : ∀ i x σ H, xs[i]? = some x → Pv i σ H → g x σ H fun σ2 H2 => tb { D with nx := Pv (i + 1), ct := Pv (i + 1), bk := D.nx } σ2 H2) (hd : ∀ σ H, Pv xs.length σ H → D.nx σ H) :
    ∃ W : Nat → Nat → St → Hp → Prop, (∃ m, W 0 m σ H) ∧ ∀ i m σ H, W i m σ H →
      ((Itl K a).stop i H ∧ D.nx σ H) ∨ ((Itl K a).go i H ∧ ∃ N : St → Hp → Prop, (∀ σ' H', N σ' H' → ∃ m', m' < m ∧ W (i + 1) m' σ' H') ∧ ∀ x H', (Itl K a).yld i H x H' → g x σ H' fun σ2 H2 => tb { D with nx := N, ct := N, bk := D.nx } σ2 H2) := by
  refine ⟨fun i m σ H => m = xs.length - i ∧ i ≤ xs.length ∧ Pv i σ H, ⟨xs.length, by simp, Nat.zero_le _, h0⟩, ?_⟩
  rintro i m σ H ⟨rfl, hi, p⟩
  have q := hl i σ H hi p
  by_cases hlt : i < xs.length
  · refine .inr ⟨⟨xs, xs[i], q, by simp [hlt]⟩, Pv (i + 1), fun σ' H' p' => ⟨xs.length - (i + 1), by omega, rfl, hlt, p'⟩, fun x H' y => ?_⟩
    obtain ⟨e, y⟩ := y
    subst e
    exact hs i x σ _ (y xs q) p
  · have e : i = xs.length := by omega
    subst e
    exact .inl ⟨⟨xs, q, Nat.le_refl _⟩, hd σ H p⟩
theorem for_tup {K : PySem.W.Frag} {a : Addr} {xs : List V} {g : TG} {tb : TS} {D : Ends} {σ : St} {H : Hp} (Pv : Nat → St → Hp → Prop) (h0 : Pv 0 σ H) (hl : ∀ i σ H, i ≤ xs.length → Pv i σ H → SqT K H a xs)
    (hs : ∀ i x σ H, xs[i]? = some x → Pv i σ H → g x σ H fun σ2 H2 => tb { D with nx := Pv (i + 1), ct := Pv (i + 1), bk := D.nx } σ2 H2) (hd : ∀ σ H, Pv xs.length σ H → D.nx σ H) :
    ∃ W : Nat → Nat → St → Hp → Prop, (∃ m, W 0 m σ H) ∧ ∀ i m σ H, W i m σ H →
      ((Itt K a).stop i H ∧ D.nx σ H) ∨ ((Itt K a).go i H ∧ ∃ N : St → Hp → Prop, (∀ σ' H', N σ' H' → ∃ m', m' < m ∧ W (i + 1) m' σ' H') ∧ ∀ x H', (Itt K a).yld i H x H' → g x σ H' fun σ2 H2 => tb { D with nx := N, ct := N, bk := D.nx } σ2 H2) := by
  refine ⟨fun i m σ H => m = xs.length - i ∧ i ≤ xs.length ∧ Pv i σ H, ⟨xs.length, by simp, Nat.zero_le _, h0⟩, ?_⟩
  rintro i m σ H ⟨rfl, hi, p⟩
  have q := hl i σ H hi p
  by_cases hlt : i < xs.length
  · refine .inr ⟨⟨xs, xs[i], q, by simp [hlt]⟩, Pv (i + 1), fun σ' H' p' => ⟨xs.length - (i + 1), by omega, rfl, hlt, p'⟩, fun x H' y => ?_⟩
    obtain ⟨e, y⟩ := y
    subst e
    exact hs i x σ _ (y xs q) p
  · have e : i = xs.length := by omega
    subst e
    exact .inl ⟨⟨xs, q, Nat.le_refl _⟩, hd σ H p⟩
theorem for_range {lo : Int} {n : Nat} {g : TG} {tb : TS} {D : Ends} {σ : St} {H : Hp} (Pv : Nat → St → Hp → Prop) (h0 : Pv 0 σ H)
    (hs : ∀ i σ H, i < n → Pv i σ H → g (.int (lo + i)) σ H fun σ2 H2 => tb { D with nx := Pv (i + 1), ct := Pv (i + 1), bk := D.nx } σ2 H2) (hd : ∀ σ H, Pv n σ H → D.nx σ H) :
    ∃ W : Nat → Nat → St → Hp → Prop, (∃ m, W 0 m σ H) ∧ ∀ i m σ H, W i m σ H →
      ((Itr lo n).stop i H ∧ D.nx σ H) ∨ ((Itr lo n).go i H ∧ ∃ N : St → Hp → Prop, (∀ σ' H', N σ' H' → ∃ m', m' < m ∧ W (i + 1) m' σ' H') ∧ ∀ x H', (Itr lo n).yld i H x H' → g x σ H' fun σ2 H2 => tb { D with nx := N, ct := N, bk := D.nx } σ2 H2) := by
  refine ⟨fun i m σ H => m = n - i ∧ i ≤ n ∧ Pv i σ H, ⟨n, by simp, Nat.zero_le _, h0⟩, ?_⟩
  rintro i m σ H ⟨rfl, hi, p⟩
  by_cases hlt : i < n
  · refine .inr ⟨hlt, Pv (i + 1), fun σ' H' p' => ⟨n - (i + 1), by omega, rfl, hlt, p'⟩, fun x H' y => ?_⟩
    obtain ⟨e, y⟩ := y
    subst e y
    exact hs i σ _ hlt p
  · have e : i = n := by omega
    subst e
    exact .inl ⟨Nat.le_refl _, hd σ H p⟩
end L2

namespace L2
open PySem PySem.Spec PyProof.Rows

abbrev R2 := V → V → Hp → VK → Prop
/-- a two-place operation on values: f is binaryOp op, inplaceOp op or compareOp op -/
def OpR (X : Cx) (f : Value → Value → Sem Value) (r : R2) : Prop :=
  ∀ (pins : List (Addr × Obj)) (s : Shared) (σ : St) (H : Hp) (x y : V) (v u : Value) (Q : VK), Inv X pins σ H s → RelV x v → RelV y u → r x y H Q →
    wpAny (model X.prog X.w) X.A (f v u) (EP X pins σ Q) X.xe s
/-- a one-place operation -/
def UnR (X : Cx) (f : Value → Sem Value) (r : V → Hp → VK → Prop) : Prop :=
  ∀ (pins : List (Addr × Obj)) (s : Shared) (σ : St) (H : Hp) (x : V) (v : Value) (Q : VK), Inv X pins σ H s → RelV x v → r x H Q →
    wpAny (model X.prog X.w) X.A (f v) (EP X pins σ Q) X.xe s
/-- a call of a value that is known (a builtin, a type) with values -/
def CallR (X : Cx) (f : Value) (r : List V → Hp → VK → Prop) : Prop :=
  ∀ (pins : List (Addr × Obj)) (s : Shared) (σ : St) (H : Hp) (xs : List V) (us : List Value) (Q : VK), Inv X pins σ H s → Vals xs us → r xs H Q →
    wpAny (model X.prog X.w) X.A (call f us) (EP X pins σ Q) X.xe s
/-- a value's truth -/
def TruR (X : Cx) (r : V → Hp → (Bool → Hp → Prop) → Prop) : Prop :=
  ∀ (pins : List (Addr × Obj)) (s : Shared) (σ : St) (H : Hp) (x : V) (v : Value) (Q : Bool → Hp → Prop), Inv X pins σ H s → RelV x v → r x H Q →
    wpAny (model X.prog X.w) X.A (truthy v) (TP X pins σ Q) X.xe s

def tOp (r : R2) (ta tb : TE) : TE := fun σ H Q => ta σ H fun x H1 => tb σ H1 fun y H2 => r x y H2 Q
def tUn (r : V → Hp → VK → Prop) (ta : TE) : TE := fun σ H Q => ta σ H fun x H1 => r x H1 Q
/-- ints in, under C, and a value out -/
def rI (C : Int → Int → Prop) (g : Int → Int → V) : R2 := fun x y H Q => ∃ i j, x = .int i ∧ y = .int j ∧ C i j ∧ Q (g i j) H
def rI0 (g : Int → Int → V) : R2 := fun x y H Q => ∃ i j, x = .int i ∧ y = .int j ∧ Q (g i j) H
def rU (g : Int → V) : V → Hp → VK → Prop := fun x H Q => ∃ i, x = .int i ∧ Q (g i) H

section
variable {X : Cx} {a b c : Expr} {ta tb tc : TE} {pos : Pos}

theorem binT (ha : PE X a ta) (hb : PE X b tb) {pins : List (Addr × Obj)} {s : Shared} {σ : St} {H : Hp} {R : V → V → Hp → Prop} (I : Inv X pins σ H s)
    (h : ta σ H fun x H1 => tb σ H1 fun y H2 => R x y H2) {Q : Value → Shared → Prop} {f : Value → Value → Sem Value}
    (hf : ∀ v u s2 x y H2, Inv X pins σ H2 s2 → RelV x v → RelV y u → R x y H2 → wpAny (model X.prog X.w) X.A (f v u) Q X.xe s2) :
    wpAny (model X.prog X.w) X.A (eval a X.env) (fun v s₁ => wpAny (model X.prog X.w) X.A (eval b X.env) (fun u s₂ => wpAny (model X.prog X.w) X.A (f v u) Q X.xe s₂) X.xe s₁) X.xe s := by
  refine thn (ha pins s σ H _ I h) fun v s1 ⟨x, H1, I1, r1, q1⟩ => ?_
  refine thn (hb pins s1 σ H1 _ I1 q1) fun u s2 ⟨y, H2, I2, r2, q2⟩ => ?_
  exact hf v u s2 x y H2 I2 r1 r2 q2

theorem pe_op {op : Operator} {r : R2} (ho : OpR X (binaryOp op) r) (ha : PE X a ta) (hb : PE X b tb) : PE X (.BinOp a op b pos) (tOp r ta tb) := by
  intro pins s σ H Q I h
  exact wpAny_BinOp (binT ha hb I h fun v u s2 x y H2 I2 rx ry q => ho pins s2 σ H2 x y v u Q I2 rx ry q)
theorem pe_un {op : UnaryOp} {r : V → Hp → VK → Prop} (ho : UnR X (unaryOp op) r) (ha : PE X a ta) : PE X (.UnaryOp op a pos) (tUn r ta) := by
  intro pins s σ H Q I h
  exact UnaryOp_ (thn (ha pins s σ H _ I h) fun v s1 ⟨x, H1, I1, r1, q1⟩ => ho pins s1 σ H1 x v Q I1 r1 q1)
/-! ### ints -/
theorem opI {f : Value → Value → Sem Value} {C : Int → Int → Prop} {g : Int → Int → Int}
    (rule : ∀ (i j : Int) (t u : Tok) (s : Shared) (Q : Value → Shared → Prop) (E : Value → Shared → Prop), C i j → Q (.int (g i j) s.toks) { s with toks := s.toks + 1 } → wpAny (model X.prog X.w) X.A (f (.int i t) (.int j u)) Q E s) :
    OpR X f (rI C fun i j => .int (g i j)) := by
  intro pins s σ H x y v u Q I rx ry h
  obtain ⟨i, j, rfl, rfl, hc, q⟩ := h
  obtain ⟨t, rfl⟩ := rx
  obtain ⟨t', rfl⟩ := ry
  exact rule i j t t' s _ _ hc ⟨.int (g i j), H, I.tok _, ⟨_, rfl⟩, q⟩
theorem opI0 {f : Value → Value → Sem Value} {g : Int → Int → Int}
    (rule : ∀ (i j : Int) (t u : Tok) (s : Shared) (Q : Value → Shared → Prop) (E : Value → Shared → Prop), Q (.int (g i j) s.toks) { s with toks := s.toks + 1 } → wpAny (model X.prog X.w) X.A (f (.int i t) (.int j u)) Q E s) :
    OpR X f (rI0 fun i j => .int (g i j)) := by
  intro pins s σ H x y v u Q I rx ry h
  obtain ⟨i, j, rfl, rfl, q⟩ := h
  obtain ⟨t, rfl⟩ := rx
  obtain ⟨t', rfl⟩ := ry
  exact rule i j t t' s _ _ ⟨.int (g i j), H, I.tok _, ⟨_, rfl⟩, q⟩
theorem opB0 {f : Value → Value → Sem Value} {g : Int → Int → Bool}
    (rule : ∀ (i j : Int) (t u : Tok) (s : Shared) (Q : Value → Shared → Prop) (E : Value → Shared → Prop), Q (.bool (g i j)) s → wpAny (model X.prog X.w) X.A (f (.int i t) (.int j u)) Q E s) :
    OpR X f (rI0 fun i j => .bl (g i j)) := by
  intro pins s σ H x y v u Q I rx ry h
  obtain ⟨i, j, rfl, rfl, q⟩ := h
  obtain ⟨t, rfl⟩ := rx
  obtain ⟨t', rfl⟩ := ry
  exact rule i j t t' s _ _ ⟨.bl (g i j), H, I, rfl, q⟩

def CDiv (i j : Int) : Prop := 0 < j ∧ j < 1073741824
def CPow (i j : Int) : Prop := 0 ≤ j ∧ j ≤ 1000000 ∧ i.natAbs < 2 ^ 64
def CMul (i j : Int) : Prop := (-(2 ^ 64) < i ∧ i < 2 ^ 64) ∨ (-(2 ^ 64) < j ∧ j < 2 ^ 64)
theorem CMul.ok {i j : Int} (h : CMul i j) : IntMulOk i j := by
  rcases h with ⟨h1, h2⟩ | ⟨h1, h2⟩
  · exact .of_left (intBits_le_64 h1 h2)
  · exact .of_right (intBits_le_64 h1 h2)
theorem op_add : OpR X (binaryOp .Add) (rI0 fun i j => .int (i + j)) := opI0 fun _ _ _ _ _ _ _ q => add_int q
theorem op_sub : OpR X (binaryOp .Sub) (rI0 fun i j => .int (i - j)) := opI0 fun _ _ _ _ _ _ _ q => sub_int q
theorem op_mul : OpR X (binaryOp .Mult) (rI CMul fun i j => .int (i * j)) := opI fun _ _ _ _ _ _ _ hc q => mul_int q hc.ok
/-- // by a positive divisor -/
theorem op_fdiv : OpR X (binaryOp .FloorDiv) (rI CDiv fun i j => .int (i / j)) := opI fun i j _ _ _ _ _ hc q => by
  have h1 : (0 : Int) < j := hc.1
  have h2 : j < 1073741824 := hc.2
  exact floordiv_int (by omega) (by rw [Int.fdiv_eq_ediv_of_nonneg i (by omega)]; exact q) (.inl (PyProof.noPylong_small (by omega)))
/-- % by a positive divisor of any size -/
theorem op_mod : OpR X (binaryOp .Mod) (rI (fun _ j => 0 < j) fun i j => .int (i % j)) := opI fun i j _ _ _ _ _ hc q => by
  have h1 : (0 : Int) < j := hc
  exact mod_int' (by omega) (by rw [Int.fmod_eq_emod_of_nonneg i (by omega)]; exact q)
theorem op_pow : OpR X (binaryOp .Pow) (rI CPow fun i j => .int (i ^ j.toNat)) := opI fun _ _ _ _ _ _ _ hc q => pow_int_small hc.1 hc.2.1 hc.2.2 q
theorem unI {f : Value → Sem Value} {g : Int → Int}
    (rule : ∀ (i : Int) (t : Tok) (s : Shared) (Q : Value → Shared → Prop) (E : Value → Shared → Prop), Q (.int (g i) s.toks) { s with toks := s.toks + 1 } → wpAny (model X.prog X.w) X.A (f (.int i t)) Q E s) :
    UnR X f (rU fun i => .int (g i)) := by
  intro pins s σ H x v Q I rx h
  obtain ⟨i, rfl, q⟩ := h
  obtain ⟨t, rfl⟩ := rx
  exact rule i t s _ _ ⟨.int (g i), H, I.tok _, ⟨_, rfl⟩, q⟩
theorem un_neg : UnR X (unaryOp .USub) (rU fun i => .int (-i)) := unI fun _ _ _ _ _ q => neg_int q
/-! ### bools among ints: n += (a < b) -/
end

/-! ### comparisons -/
/-- the scalars that == tells apart as data does -/
def scal : V → V → Bool
  | .non, .non => true | .non, .int _ => true | .int _, .non => true | .non, .bl _ => true | .bl _, .non => true | .non, .str _ => true | .str _, .non => true
  | .int _, .int _ => true | .bl _, .bl _ => true | .str _, .str _ => true | .byt _, .byt _ => true
  | .int _, .str _ => true | .str _, .int _ => true | .bl _, .str _ => true | .str _, .bl _ => true
  | _, _ => false
def rEq : R2 := fun x y H Q => scal x y = true ∧ Q (.bl (decide (x = y))) H
def rNe : R2 := fun x y H Q => scal x y = true ∧ Q (.bl (!decide (x = y))) H

theorem dec_int {i j : Int} : decide (V.int i = V.int j) = (i == j) := by
  rw [Bool.eq_iff_iff]
  simp
theorem dec_bl {i j : Bool} : decide (V.bl i = V.bl j) = (i == j) := by
  rw [Bool.eq_iff_iff]
  simp
theorem dec_str {i j : Str} : decide (V.str i = V.str j) = (i == j) := by
  rw [Bool.eq_iff_iff]
  simp
theorem dec_byt {i j : Array UInt8} : decide (V.byt i = V.byt j) = (i.toList == j.toList) := by
  rw [Bool.eq_iff_iff]
  cases i
  cases j
  simp

section
variable {X : Cx} {a b c : Expr} {ta tb tc : TE} {pos : Pos}
theorem fin_bl {pins : List (Addr × Obj)} {σ : St} {H : Hp} {s : Shared} {Q : VK} {k k' : Bool} (I : Inv X pins σ H s) (q : Q (.bl k) H) (e : k = k') : EP X pins σ Q (.bool k') s := by
  subst e
  exact ⟨.bl k, H, I, rfl, q⟩
theorem op_eq : OpR X (compareOp .Eq) rEq := by
  intro pins s σ H x y v u Q I rx ry h
  obtain ⟨hs, q⟩ := h
  cases x with
  | non =>
    cases rx
    cases y with
    | non => cases ry; exact PySem.EqNone.eq_none_none (fin_bl I q (by simp))
    | bl j => cases ry; exact PySem.EqNone.eq_none_bool (fin_bl I q (by simp))
    | int j => obtain ⟨t', rfl⟩ := ry; exact PySem.EqNone.eq_none_int (fin_bl I q (by simp))
    | str j => obtain ⟨t', rfl⟩ := ry; exact PySem.EqNone.eq_none_str (fin_bl I q (by simp))
    | _ => exact absurd (show false = true from hs) Bool.false_ne_true
  | bl i =>
    cases rx
    cases y with
    | non => cases ry; exact PySem.EqNone.eq_bool_none (fin_bl I q (by simp))
    | bl j => cases ry; exact eq_bool (fin_bl I q dec_bl)
    | str j => obtain ⟨t', rfl⟩ := ry; exact PySem.EqMixed.eq_bool_str (fin_bl I q (by simp))
    | _ => exact absurd (show false = true from hs) Bool.false_ne_true
  | int i =>
    obtain ⟨t, rfl⟩ := rx
    cases y with
    | non => cases ry; exact PySem.EqNone.eq_int_none (fin_bl I q (by simp))
    | int j => obtain ⟨t', rfl⟩ := ry; exact eq_int (fin_bl I q dec_int)
    | str j => obtain ⟨t', rfl⟩ := ry; exact PySem.EqMixed.eq_int_str (fin_bl I q (by simp))
    | _ => exact absurd (show false = true from hs) Bool.false_ne_true
  | str i =>
    obtain ⟨t, rfl⟩ := rx
    cases y with
    | non => cases ry; exact PySem.EqNone.eq_str_none (fin_bl I q (by simp))
    | bl j => cases ry; exact PySem.EqMixed.eq_str_bool (fin_bl I q (by simp))
    | int j => obtain ⟨t', rfl⟩ := ry; exact PySem.EqMixed.eq_str_int (fin_bl I q (by simp))
    | str j => obtain ⟨t', rfl⟩ := ry; exact eq_str (fin_bl I q dec_str)
    | _ => exact absurd (show false = true from hs) Bool.false_ne_true
  | byt i =>
    obtain ⟨t, rfl⟩ := rx
    cases y with
    | byt j => obtain ⟨t', rfl⟩ := ry; exact PySem.W.eq_bytes (fin_bl I q dec_byt)
    | _ => exact absurd (show false = true from hs) Bool.false_ne_true
  | _ => cases y <;> exact absurd (show false = true from hs) Bool.false_ne_true
theorem op_ne : OpR X (compareOp .NotEq) rNe := by
  intro pins s σ H x y v u Q I rx ry h
  obtain ⟨hs, q⟩ := h
  cases x with
  | non =>
    cases rx
    cases y with
    | non => cases ry; exact PySem.EqNone.ne_none_none (fin_bl I q (by simp))
    | bl j => cases ry; exact PySem.EqNone.ne_none_bool (fin_bl I q (by simp))
    | int j => obtain ⟨t', rfl⟩ := ry; exact PySem.EqNone.ne_none_int (fin_bl I q (by simp))
    | str j => obtain ⟨t', rfl⟩ := ry; exact PySem.EqNone.ne_none_str (fin_bl I q (by simp))
    | _ => exact absurd (show false = true from hs) Bool.false_ne_true
  | bl i =>
    cases rx
    cases y with
    | non => cases ry; exact PySem.EqNone.ne_bool_none (fin_bl I q (by simp))
    | bl j => cases ry; exact ne_bool (fin_bl I q (congrArg not dec_bl))
    | str j => obtain ⟨t', rfl⟩ := ry; exact PySem.EqMixed.ne_bool_str (fin_bl I q (by simp))
    | _ => exact absurd (show false = true from hs) Bool.false_ne_true
  | int i =>
    obtain ⟨t, rfl⟩ := rx
    cases y with
    | non => cases ry; exact PySem.EqNone.ne_int_none (fin_bl I q (by simp))
    | int j => obtain ⟨t', rfl⟩ := ry; exact ne_int (fin_bl I q (congrArg not dec_int))
    | str j => obtain ⟨t', rfl⟩ := ry; exact PySem.EqMixed.ne_int_str (fin_bl I q (by simp))
    | _ => exact absurd (show false = true from hs) Bool.false_ne_true
  | str i =>
    obtain ⟨t, rfl⟩ := rx
    cases y with
    | non => cases ry; exact PySem.EqNone.ne_str_none (fin_bl I q (by simp))
    | bl j => cases ry; exact PySem.EqMixed.ne_str_bool (fin_bl I q (by simp))
    | int j => obtain ⟨t', rfl⟩ := ry; exact PySem.EqMixed.ne_str_int (fin_bl I q (by simp))
    | str j => obtain ⟨t', rfl⟩ := ry; exact ne_str (fin_bl I q (congrArg not dec_str))
    | _ => exact absurd (show false = true from hs) Bool.false_ne_true
  | byt i =>
    obtain ⟨t, rfl⟩ := rx
    cases y with
    | byt j => obtain ⟨t', rfl⟩ := ry; exact PySem.W.ne_bytes (fin_bl I q (congrArg not dec_byt))
    | _ => exact absurd (show false = true from hs) Bool.false_ne_true
  | _ => cases y <;> exact absurd (show false = true from hs) Bool.false_ne_true

theorem op_lt : OpR X (compareOp .Lt) (rI0 fun i j => .bl (decide (i < j))) := opB0 fun _ _ _ _ _ _ _ q => lt_int q
theorem op_le : OpR X (compareOp .LtE) (rI0 fun i j => .bl (decide (i ≤ j))) := opB0 fun _ _ _ _ _ _ _ q => le_int q
theorem op_gt : OpR X (compareOp .Gt) (rI0 fun i j => .bl (decide (j < i))) := opB0 fun _ _ _ _ _ _ _ q => gt_int q
/-- two rules for one operation: by cases -/
theorem OpR.or {f : Value → Value → Sem Value} {r r' : R2} (h : OpR X f r) (h' : OpR X f r') : OpR X f (fun x y H Q => r x y H Q ∨ r' x y H Q) := by
  intro pins s σ H x y v u Q I rx ry q
  rcases q with q | q
  · exact h pins s σ H x y v u Q I rx ry q
  · exact h' pins s σ H x y v u Q I rx ry q

theorem nomark (b : Expr) {op : CmpOp} (h : op ≠ .In := by decide) (h2 : op ≠ .NotIn := by decide) : behindInMarks op b = false := by
  have e1 : (op == CmpOp.In) = false := by cases op <;> first | rfl | exact absurd rfl h
  have e2 : (op == CmpOp.NotIn) = false := by cases op <;> first | rfl | exact absurd rfl h2
  cases b <;> simp [behindInMarks, e1, e2]
/-- a comparison as a value; hm: nomark b, or (for in, not in) by with_unfolding_all rfl -/
theorem pe_cmpR {op : CmpOp} {r : R2} (ho : OpR X (compareOp op) r) (ha : PE X a ta) (hb : PE X b tb) (hm : behindInMarks op b = false) : PE X (.Compare a [op] [b] pos) (tOp r ta tb) := by
  intro pins s σ H Q I h
  exact wpAny_Compare1 (binT ha hb I h fun v u s2 x y H2 I2 rx ry q => ho pins s2 σ H2 x y v u Q I2 rx ry q) hm
/-- a reading of a value as a test -/
def tTest (t : TE) : TT := fun σ H Q => t σ H fun x H' => ∃ k, x = .bl k ∧ Q k H'
theorem pt_cmpR {op : CmpOp} {r : R2} (ho : OpR X (compareOp op) r) (ha : PE X a ta) (hb : PE X b tb) (hm : behindInMarks op b = false) : PT X (.Compare a [op] [b] pos) (tTest (tOp r ta tb)) := by
  intro pins s σ H Q I h
  refine wpAny_isTrue_Compare1 (thn (ha pins s σ H _ I h) fun v s1 ⟨x, H1, I1, r1, q1⟩ => thn (hb pins s1 σ H1 _ I1 q1) fun u s2 ⟨y, H2, I2, r2, q2⟩ =>
    thn (ho pins s2 σ H2 x y v u _ I2 r1 r2 q2) fun c s3 ⟨z, H3, I3, r3, k, e, q3⟩ => ?_) hm
  subst e
  cases r3
  exact wpAny_truthy_bool ⟨H3, I3, q3⟩
/-- a op1 b op2 c -/
def tChain (r r' : R2) (ta tb tc : TE) : TE := fun σ H Q => ta σ H fun x H1 => tb σ H1 fun y H2 => r x y H2 fun z H3 => ∃ k, z = .bl k ∧
  (if k = true then tc σ H3 fun w' H4 => r' y w' H4 Q else Q (.bl false) H3)
theorem pe_chain {op op' : CmpOp} {r r' : R2} (ho : OpR X (compareOp op) r) (ho' : OpR X (compareOp op') r') (ha : PE X a ta) (hb : PE X b tb) (hc : PE X c tc)
    (hm : lastMarks [op, op'] [b, c] = false := by with_unfolding_all rfl) : PE X (.Compare a [op, op'] [b, c] pos) (tChain r r' ta tb tc) := by
  intro pins s σ H Q I h
  refine Compare_chain (thn (ha pins s σ H _ I h) fun v s1 ⟨x, H1, I1, r1, q1⟩ => chain_link (thn (hb pins s1 σ H1 _ I1 q1) fun u s2 ⟨y, H2, I2, r2, q2⟩ =>
    thn (ho pins s2 σ H2 x y v u _ I2 r1 r2 q2) fun d s3 ⟨z, H3, I3, r3, k, e, q3⟩ => ?_)) hm
  subst e
  cases r3
  refine wpAny_truthy_bool ?_
  cases k with
  | false => exact ite_ff ⟨.bl false, H3, I3, rfl, q3⟩
  | true => exact ite_tt (chain_last (thn (hc pins s3 σ H3 _ I3 q3) fun w' s4 ⟨z', H4, I4, r4, q4⟩ => ho' pins s4 σ H4 y z' u w' Q I4 r2 r4 q4))
/-! ### truth -/
/-- a value's truth by the abstract heap -/
def TruV (K : PySem.W.Frag) (x : V) (H : Hp) (k : Bool) : Prop :=
  match x with
  | .non => k = false
  | .bl b => k = b
  | .int i => k = (i != 0)
  | .str y => y.length ≤ sizeLine ∧ k = ((y.length : Int) != 0)
  | .byt y => y.size ≤ sizeLine ∧ k = ((y.size : Int) != 0)
  | .ref p => (∃ xs, SqL K H p xs ∧ k = !xs.isEmpty) ∨ (∃ xs, SqT K H p xs ∧ k = !xs.isEmpty) ∨ ∃ kvs, H p = some (.dK kvs) ∧ k = !kvs.isEmpty
  | _ => False
theorem isEmpty_kv {κ : Type} {kvs : List (κ × V)} {vs : List (κ × Value)} (r : KV kvs vs) : (!vs.isEmpty) = !kvs.isEmpty := by
  cases r <;> rfl
theorem isEmpty_of {xs : List V} {its : List Value} (r : Vals xs its) : (!its.toArray.isEmpty) = !xs.isEmpty := by
  cases r <;> simp
theorem line63 : (sizeLine : Nat) < 2 ^ 63 := by rw [sizeLine_eq]; decide
theorem tru_ok : TruR X (fun x H Q => ∃ k, TruV X.K x H k ∧ Q k H) := by
  intro pins s σ H x v Q I rx h
  obtain ⟨k, e, q⟩ := h
  have hl := line63
  have hs : sizeLine = 16777216 := sizeLine_eq
  cases x with
  | non =>
    cases rx
    have e' : k = false := e
    subst e'
    exact truthy_none ⟨H, I, q⟩
  | bl b =>
    cases rx
    have e' : k = b := e
    subst e'
    exact wpAny_truthy_bool ⟨H, I, q⟩
  | int i =>
    obtain ⟨t, rfl⟩ := rx
    have e' : k = (i != 0) := e
    subst e'
    exact PySem.P.truthy_int ⟨H, I, q⟩
  | str y =>
    obtain ⟨t, rfl⟩ := rx
    obtain ⟨hy, e'⟩ : y.length ≤ sizeLine ∧ k = ((y.length : Int) != 0) := e
    subst e'
    exact PySem.P.truthy_str (by omega) ⟨H, I.tok _, q⟩
  | byt y =>
    obtain ⟨t, rfl⟩ := rx
    obtain ⟨hy, e'⟩ : y.size ≤ sizeLine ∧ k = ((y.size : Int) != 0) := e
    subst e'
    exact PySem.W.truthy_bytes (by omega) ⟨H, I.tok _, q⟩
  | ref p =>
    cases rx
    have e' : (∃ xs, SqL X.K H p xs ∧ k = !xs.isEmpty) ∨ (∃ xs, SqT X.K H p xs ∧ k = !xs.isEmpty) ∨ ∃ kvs, H p = some (.dK kvs) ∧ k = !kvs.isEmpty := e
    rcases e' with ⟨xs, hx, e'⟩ | ⟨xs, hx, e'⟩ | ⟨kvs, hx, e'⟩
    · subst e'
      obtain ⟨its, r, pl, hz⟩ := I.list hx
      have hlen := r.length
      exact wpAny_truthy_list pl.isList (by simp only [List.size_toArray]; omega) ⟨H, I.tok _, by rw [isEmpty_of r]; exact q⟩
    · subst e'
      obtain ⟨its, r, pl, hz⟩ := I.tuple hx
      have hlen := r.length
      exact truthy_tuple pl (by simp only [List.size_toArray]; omega) ⟨H, I.tok _, by rw [isEmpty_of r]; exact q⟩
    · subst e'
      obtain ⟨hz, hS, vs, r, m⟩ : kvs.length ≤ sizeLine ∧ (p == sysModules) = false ∧ ∃ vs, KV kvs vs ∧ s.heap.DictOf (mixKind X.prog X.w) p vs := I.hok p _ hx
      have hlen : kvs.length = vs.length := Paired.length r
      exact wpAny_truthy_dict hS m (by omega) ⟨H, I.tok _, by rw [isEmpty_kv r]; exact q⟩
  | _ => exact (show False from e).elim
/-- any expression whose test is its value's truth (a name, a call, a subscript, a field ..: he by fun _ => rfl) -/
theorem pt_truth (ha : PE X a ta) (he : ∀ whole, isTrue a X.env whole = (do let v ← whole; standAt a.pos; holding [v] (truthy v))) :
    PT X a (fun σ H Q => ta σ H fun x H' => ∃ k, TruV X.K x H' k ∧ Q k H') := by
  intro pins s σ H Q I h
  exact isTrue_plain (thn (ha pins s σ H _ I h) fun v s1 ⟨x, H1, I1, r1, q1⟩ => tru_ok pins s1 σ H1 x v Q I1 r1 q1) (he _)

/-! ### strs and bytes -/
theorem op_add_str : OpR X (binaryOp .Add) (fun x y H Q => ∃ i j, x = .str i ∧ y = .str j ∧ i.length + j.length ≤ sizeLine ∧ Q (.str (i ++ j)) H) := by
  intro pins s σ H x y v u Q I rx ry h
  obtain ⟨i, j, rfl, rfl, hz, q⟩ := h
  obtain ⟨t, rfl⟩ := rx
  obtain ⟨t', rfl⟩ := ry
  exact add_str (fun t' tk => ⟨.str (i ++ j), H, I.tok _, ⟨_, rfl⟩, q⟩) hz
/-! ### scalar builtins, by CallR -/
theorem vals1 {x : V} {us : List Value} (r : Vals [x] us) : ∃ u, us = [u] ∧ RelV x u := by
  cases r with
  | cons r1 r2 => cases r2; exact ⟨_, rfl, r1⟩
theorem vals2 {x y : V} {us : List Value} (r : Vals [x, y] us) : ∃ u w', us = [u, w'] ∧ RelV x u ∧ RelV y w' := by
  cases r with
  | cons r1 r2 =>
    cases r2 with
    | cons r3 r4 => cases r4; exact ⟨_, _, rfl, r1, r3⟩
theorem call_int1 : CallR X (.type "int") (fun xs H Q => (∃ i, xs = [.int i] ∧ Q (.int i) H) ∨ ∃ k, xs = [.bl k] ∧ Q (.int (if k then 1 else 0)) H) := by
  intro pins s σ H xs us Q I r h
  rcases h with ⟨i, rfl, q⟩ | ⟨k, rfl, q⟩
  · obtain ⟨u, rfl, t, rfl⟩ := vals1 r
    exact call_int_int ⟨.int i, H, I, ⟨_, rfl⟩, q⟩
  · obtain ⟨u, rfl, r1⟩ := vals1 r
    cases r1
    exact call_int_bool ⟨.int (if k then 1 else 0), H, I.tok _, ⟨_, rfl⟩, q⟩
end
end L2

namespace L2
open PySem PySem.Spec PyProof.Rows

/-! ### an instance, its attributes a map -/
structure ObjM (h : Heap) (x dx C : Addr) (mA : Str → Option Value) : Prop where
  obj : h.get? x = some (PySem.W.instObj C dx)
  ns : h.Ns1 dx mA
  ne : dx ≠ x

theorem lookIn_ns {h : Heap} {dx : Addr} {mA : Str → Option Value} (n : h.Ns1 dx mA) : ∃ od, h.get? dx = some od ∧ ∀ name, PySem.W.lookIn name od = some (mA name) := by
  obtain ⟨o, es, ep, ho, hd, hk, _, hm⟩ := n
  refine ⟨o, ho, fun name => ?_⟩
  have e := hm name
  unfold nsFind findBy at e
  rw [← Array.find?_toList] at e
  unfold PySem.W.lookIn
  rw [hd]
  dsimp only
  split
  · rename_i y q
    rw [q] at e
    exact congrArg some e
  · rename_i q
    rw [q] at e
    have a : es.toList.any (·.refKey) = false := by
      rw [List.any_eq_false]
      intro y hy
      obtain ⟨z, t, hkey⟩ := hk y (Array.mem_toList_iff.mp hy)
      simp [DictEntry.refKey, hkey]
    have a' : ¬ es.toList.any (·.refKey) = true := by rw [a]; exact Bool.false_ne_true
    rw [if_neg a']
    exact congrArg some e

theorem ObjM.look {h : Heap} {x dx C : Addr} {mA : Str → Option Value} (I : ObjM h x dx C mA) : ∃ od, PySem.W.InstAt h x (PySem.W.instObj C dx) C (some od) ∧ ∀ name, PySem.W.lookIn name od = some (mA name) :=
  let ⟨od, ho, hl⟩ := lookIn_ns I.ns
  ⟨od, ⟨I.obj, rfl, rfl, ho⟩, hl⟩

section
variable {prog : Program} {w : World} {A : Around} {E : Value → Shared → Prop} {s : Shared} {K : PySem.W.Frag} {x dx C f : Addr} {mA : Str → Option Value} {name : Str} {v : Value}

theorem get_map {expr : Bool} {Q : Value → Shared → Prop} (X : K.In s.heap) (I : ObjM s.heap x dx C mA) (hg : PySem.W.plainGet K C name = true) (hh : PySem.W.hasDictIn K C = true)
    (ha : PySem.W.findIn K (.ref C) name = some none) (hv : mA name = some v) (hv' : PySem.W.handedIn v = true) (h : Q v { s with toks := s.toks + 1 }) :
    wpAny (model prog w) A (getAttr (.ref x) name expr) Q E s := by
  obtain ⟨od, J, hl⟩ := I.look
  exact PySem.W.get_value X J (PySem.W.plainGet_of hg).1 (PySem.W.findObj_own hh ha rfl (by rw [hl, hv])) hv' h

theorem get_meth {pl : Sem Bool} {Q : Value × List Value → Shared → Prop} (X : K.In s.heap) (I : ObjM s.heap x dx C mA) (hg : PySem.W.plainGet K C name = true)
    (hf : PySem.W.findIn K (.ref C) name = some (some (.ref f))) (ht : PySem.W.isFn K (.ref f) = true) (hv : mA name = none) (h : Q (.ref f, [.ref x]) s) :
    wpAny (model prog w) A (getMethod (.ref x) name pl) Q E s := by
  obtain ⟨od, J, hl⟩ := I.look
  exact PySem.W.method_fn X J (PySem.W.plainGet_of hg).1 (PySem.W.plainGet_of hg).2 hf (beq_iff_eq.mp ht) (by show (PySem.W.lookIn name od).map (·.isSome) = some false; rw [hl, hv]; rfl) h

theorem set_map {ns : List Str} {Q : Unit → Shared → Prop} (X : K.In s.heap) (I : ObjM s.heap x dx C mA)
    (hs : PySem.W.findIn K (.ref C) "__setattr__" = some (some (.builtin "object.__setattr__"))) (hp : PySem.W.plainOver K C = true) (ht : PySem.W.takerIn K C name = some none) (hh : PySem.W.hasDictIn K C = true)
    (hw : PySem.Within mA ns) (hsz : ns.length ≤ sizeLine)
    (h : ∀ h', ObjM h' x dx C (fun y => if y = name then some v else mA y) → Heap.SameBut dx s.heap h' → Q () { s with heap := h', toks := s.toks + 2 }) :
    wpAny (model prog w) A (setAttr (.ref x) name v) Q E s := by
  obtain ⟨od, J, hl⟩ := I.look
  refine PySem.W.set_plain X J hs (PySem.W.osa_open (s := { s with toks := s.toks + 1 }) (r := none) X J hp ht fun b => ?_)
  obtain ⟨cd, hc, hd'⟩ := PySem.W.any_some hh
  have hx : s.heap.get? x = some ⟨.ref C, some dx, .plain, #[]⟩ := I.obj
  refine wpAny_bind (wpAny_pure (wpAny_bind (wpAny_bind (wpAny_loadPart hx (wpAny_bind (PySem.W.Looks.here (s := { s with toks := s.toks + 1 }) (PySem.W.looks_clsIn X hc) ?_))))))
  rw [hd']
  refine wpAny_pure (a := some dx) (wpAny_bind (wpAny_pure (wpAny_bind ?_)))
  refine wpAny_nsSet1 (s := { s with toks := s.toks + 1 }) I.ns fun h' hn2 hs2 => ?_
  obtain ⟨oD, esD, epD, hoD, hdD, hcD⟩ := hn2.count (PySem.Within.cons name v hw)
  refine wpAny_bind (wpAny_lookBehind hoD (by rw [hdD]; exact pastItsLine_dict (Nat.le_trans hcD (by rw [List.length_cons]; omega))) ?_)
  exact wpAny_pure (h _ ⟨(hs2.2 _ (Ne.symm I.ne)).trans I.obj, hn2, I.ne⟩ hs2)

/-- C(..): the dict at the heap's end, the instance behind it; then its __init__ -/
theorem make_map {R : Result → Shared → Prop} {vs : List Value} {kw : List (Str × Value)} (X : K.In s.heap) (hm : PySem.W.makesIn K C = true)
    (hi : PySem.W.findIn K (.ref C) "__init__" = some (some (.ref f))) (hf : PySem.W.typeIn K (.ref f) = some (.type "function"))
    (h : codeAny (model prog w) (A.under (.builtin "type.__call__" ⟨.ref C :: vs, kw⟩)) (.call (.ref f) ⟨.ref (s.heap.objs.size + 1) :: vs, kw⟩) (PySem.W.InitBack (s.heap.objs.size + 1) R)
      { s with heap := (s.heap.push PySem.W.emptyDict).push (PySem.W.instObj C s.heap.objs.size) }) :
    codeAny (model prog w) A (.call (.ref C) ⟨vs, kw⟩) R s := by
  obtain ⟨hh, g, d, t, os⟩ := s
  exact PySem.W.make_core (PySem.W.makes_of X hm) (PySem.W.looks_findIn X hi) (fun self => PySem.W.bind_fn X self hf) (.inl rfl) h
end

/-! ### the attributes as a list of pairs -/
def putF (f : Str) (v : V) : List (Str × V) → List (Str × V)
  | [] => [(f, v)]
  | (g, x) :: r => if g = f then (g, v) :: r else (g, x) :: putF f v r
theorem lookup_putF (f g : Str) (v : V) : ∀ fs : List (Str × V), (putF f v fs).lookup g = if g = f then some v else fs.lookup g
  | [] => by
    show List.lookup g [(f, v)] = _
    by_cases h : g = f
    · have hb : (g == f) = true := beq_iff_eq.mpr h
      simp only [List.lookup, hb, if_pos h]
    · have hb : (g == f) = false := beq_eq_false_iff_ne.mpr h
      simp only [List.lookup, hb, if_neg h]
  | (k, x) :: r => by
    have ih := lookup_putF f g v r
    rw [show putF f v ((k, x) :: r) = (if k = f then (k, v) :: r else (k, x) :: putF f v r) from rfl]
    by_cases hk : k = f
    · rw [if_pos hk]
      by_cases h : g = k
      · have hb : (g == k) = true := beq_iff_eq.mpr h
        simp only [List.lookup, hb, if_pos (h.trans hk)]
      · have hb : (g == k) = false := beq_eq_false_iff_ne.mpr h
        simp only [List.lookup, hb, if_neg (fun e : g = f => h (e.trans hk.symm))]
    · rw [if_neg hk]
      by_cases h : g = k
      · have hb : (g == k) = true := beq_iff_eq.mpr h
        simp only [List.lookup, hb, if_neg (fun e : g = f => hk (h.symm.trans e))]
      · have hb : (g == k) = false := beq_eq_false_iff_ne.mpr h
        simp only [List.lookup, hb]
        exact ih
theorem keys_putF (f : Str) (v : V) : ∀ fs : List (Str × V), f ∈ (putF f v fs).map (·.1) ∧ ∀ g, g ∈ fs.map (·.1) → g ∈ (putF f v fs).map (·.1)
  | [] => ⟨by simp [putF], fun g h => by simp at h⟩
  | (k, x) :: r => by
    obtain ⟨i1, i2⟩ := keys_putF f v r
    rw [show putF f v ((k, x) :: r) = (if k = f then (k, v) :: r else (k, x) :: putF f v r) from rfl]
    by_cases hk : k = f
    · rw [if_pos hk]
      subst hk
      exact ⟨by simp, fun g h => by simpa using h⟩
    · rw [if_neg hk]
      refine ⟨?_, fun g h => ?_⟩
      · rw [List.map_cons]
        exact List.mem_cons_of_mem _ i1
      · rw [List.map_cons] at h ⊢
        rcases List.mem_cons.mp h with e | e
        · exact List.mem_cons.mpr (.inl e)
        · exact List.mem_cons_of_mem _ (i2 g e)
theorem length_putF (f : Str) (v : V) : ∀ fs : List (Str × V), (putF f v fs).length ≤ fs.length + 1
  | [] => by simp [putF]
  | (k, x) :: r => by
    have ih := length_putF f v r
    rw [show putF f v ((k, x) :: r) = (if k = f then (k, v) :: r else (k, x) :: putF f v r) from rfl]
    by_cases hk : k = f
    · rw [if_pos hk, List.length_cons, List.length_cons]; omega
    · rw [if_neg hk, List.length_cons, List.length_cons]; omega

theorem RelO.some_of {v : V} {o : Option Value} (r : RelO (some v) o) : ∃ u, o = some u ∧ RelV v u := by
  cases o with
  | none => exact (show False from r).elim
  | some u => exact ⟨u, rfl, r⟩
theorem RelO.none_of {o : Option Value} (r : RelO none o) : o = none := by
  cases o with
  | none => rfl
  | some u => exact (show False from r).elim
theorem handed_of {v : V} {u : Value} (r : RelV v u) : PySem.W.handedIn u = true := by
  cases v with
  | non => cases (show u = Value.none from r); rfl
  | bl b => cases (show u = Value.bool b from r); rfl
  | int i => obtain ⟨t, e⟩ := (show ∃ t, u = Value.int i t from r); cases e; rfl
  | str x => obtain ⟨t, e⟩ := (show ∃ t, u = Value.str x t from r); cases e; rfl
  | byt b => obtain ⟨t, e⟩ := (show ∃ t, u = Value.bytes b t from r); cases e; rfl
  | flt b => obtain ⟨t, e⟩ := (show ∃ t, u = Value.float b t from r); cases e; rfl
  | ref a => cases (show u = Value.ref a from r); rfl
  | ty n => cases (show u = Value.type n from r); rfl

section
variable {P : Program} {w : World} {H H' : Hp} {h h' : Heap} {a C dx : Addr} {fs fs' : List (Str × V)}
theorem ins_get (hok : HOk P w H h) (e : H a = some (.ins C dx fs)) : ∃ mA, ObjM h a dx C mA ∧ (∀ f, RelO (fs.lookup f) (mA f)) ∧ PySem.Within mA (fs.map (·.1)) ∧ fs.length ≤ 1000 ∧ H dx = some (.own a) := by
  obtain ⟨d, z, ne, ob, mA, n, r, q⟩ := (show ObjOk P w H h a (.ins C dx fs) from hok a _ e)
  exact ⟨mA, ⟨ob, n, ne⟩, r, q, z, d⟩
end

/-! ### what of the text a class must have -/
structure Cls (K : PySem.W.Frag) (C : Addr) : Prop where
  pg : PySem.W.plainGet K C Str.empty = true
  hd : PySem.W.hasDictIn K C = true
  po : PySem.W.plainOver K C = true
  sa : PySem.W.findIn K (.ref C) "__setattr__" = some (some (.builtin "object.__setattr__"))
theorem Cls.get {K : PySem.W.Frag} {C : Addr} (c : Cls K C) (f : Str) : PySem.W.plainGet K C f = true := c.pg
/-- no class of it has the name -/
def NoAttr (K : PySem.W.Frag) (C : Addr) (f : Str) : Prop := PySem.W.findIn K (.ref C) f = some none
theorem NoAttr.taker {K : PySem.W.Frag} {C : Addr} {f : Str} (n : NoAttr K C f) : PySem.W.takerIn K C f = some none := by
  unfold PySem.W.takerIn
  rw [show PySem.W.findIn K (.ref C) f = some none from n]
  rfl
/-- a constant of the class -/
structure Con (K : PySem.W.Frag) (C : Addr) (f : Str) (v : V) (u : Value) : Prop where
  at_ : PySem.W.findIn K (.ref C) f = some (some u)
  rel : RelV v u
  get : PySem.W.specialIn K u "__get__" = some none
  cp : PySem.W.copiedNames.contains f = false
/-- a method: a plain def of the class or of one above it -/
structure Meth (K : PySem.W.Frag) (C : Addr) (m : Str) (f : Addr) : Prop where
  at_ : PySem.W.findIn K (.ref C) m = some (some (.ref f))
  fn : PySem.W.isFn K (.ref f) = true
  kp : PySem.W.keepIn K (.ref f) = true

section
variable {X : Cx} {pins : List (Addr × Obj)} {σ : St} {H : Hp} {s : Shared} {a C dx : Addr} {fs : List (Str × V)} {f : Str} {v : V} {A : Around} {E : Value → Shared → Prop}

theorem getattr_ok {b : Bool} {Q : Value → Shared → Prop} (I : Inv X pins σ H s) (e : H a = some (.ins C dx fs)) (c : Cls X.K C) (n : NoAttr X.K C f) (l : fs.lookup f = some v)
    (h : ∀ u s', Inv X pins σ H s' → RelV v u → Q u s') : wpAny (model X.prog X.w) A (getAttr (.ref a) f b) Q E s := by
  obtain ⟨mA, O, r, _, _, _⟩ := ins_get I.hok e
  obtain ⟨u, hu, ru⟩ := RelO.some_of (v := v) (o := mA f) (by rw [← l]; exact r f)
  exact get_map I.kIn O (c.get f) c.hd n hu (handed_of ru) (h u _ (I.tok _) ru)

theorem getmeth_ok {m : Str} {g : Addr} {pl : Sem Bool} {Q : Value × List Value → Shared → Prop} (I : Inv X pins σ H s) (e : H a = some (.ins C dx fs)) (c : Cls X.K C) (k : Meth X.K C m g) (l : fs.lookup m = none)
    (h : Q (.ref g, [.ref a]) s) : wpAny (model X.prog X.w) A (getMethod (.ref a) m pl) Q E s := by
  obtain ⟨mA, O, r, _, _, _⟩ := ins_get I.hok e
  have hn : mA m = none := RelO.none_of (by rw [← l]; exact r m)
  exact get_meth I.kIn O (c.get m) k.at_ k.fn hn h

theorem setattr_ok {y : V} {u : Value} {Q : Unit → Shared → Prop} (I : Inv X pins σ H s) (e : H a = some (.ins C dx fs)) (c : Cls X.K C) (n : NoAttr X.K C f) (hl : fs.length < 1000) (ry : RelV y u)
    (h : ∀ s', Inv X pins σ (upd H a (.ins C dx (putF f y fs))) s' → Q () s') : wpAny (model X.prog X.w) A (setAttr (.ref a) f u) Q E s := by
  obtain ⟨mA, O, r, wi, _, ho⟩ := ins_get I.hok e
  have hz : (fs.map (·.1)).length ≤ sizeLine := by rw [List.length_map, sizeLine_eq]; omega
  refine set_map I.kIn O c.sa c.po n.taker c.hd wi hz fun h' O' sb => h _ ?_
  have hd : ∃ o, h'.get? dx = some o := let ⟨o, _, _, e', _⟩ := O'.ns; ⟨o, e'⟩
  refine I.write (x := a) (e := dx) (by rw [e]; exact True.intro) (.inr ho) (fun b q hb z => (sb.2 b hb).trans z) hd ?_
  refine ⟨by rw [upd_ne O.ne]; exact ho, ?_, O.ne, O'.obj, _, O'.ns, fun g => ?_, fun g hg => ?_⟩
  · have := length_putF f y fs; omega
  · show RelO ((putF f y fs).lookup g) (if g = f then some u else mA g)
    rw [lookup_putF]
    by_cases q : g = f
    · rw [if_pos q, if_pos q]; exact ry
    · rw [if_neg q, if_neg q]; exact r g
  · by_cases q : g = f
    · rw [q]; exact (keys_putF f y fs).1
    · refine (keys_putF f y fs).2 g (wi g fun z => hg ?_)
      show (if g = f then some u else mA g) = none
      rw [if_neg q]; exact z

/-- a new instance, tracked, without attributes -/
theorem Inv.made (I : Inv X pins σ H s) : Inv X pins σ (upd (upd H s.heap.objs.size (.own (s.heap.objs.size + 1))) (s.heap.objs.size + 1) (.ins C s.heap.objs.size []))
    { s with heap := (s.heap.push PySem.W.emptyDict).push (PySem.W.instObj C s.heap.objs.size) } := by
  have e1 : (s.heap.push PySem.W.emptyDict).get? s.heap.objs.size = some PySem.W.emptyDict := Heap.get?_push_size s.heap rfl
  have e2 : ((s.heap.push PySem.W.emptyDict).push (PySem.W.instObj C s.heap.objs.size)).get? (s.heap.objs.size + 1) = some (PySem.W.instObj C s.heap.objs.size) := by
    have := Heap.get?_push_size (s.heap.push PySem.W.emptyDict) (o := PySem.W.instObj C s.heap.objs.size) rfl
    rwa [Heap.size_push] at this
  have e3 : (s.heap.push PySem.W.emptyDict).Ns s.heap.objs.size (fun _ => none) := ⟨PySem.W.emptyDict, #[], _, e1, rfl, (fun e he => absurd he (by simp)), fun _ => rfl⟩
  have I1 := I.laid (a := s.heap.objs.size) (o := .own (s.heap.objs.size + 1)) (h' := s.heap.push PySem.W.emptyDict) (t' := s.toks) (fun b u q => Heap.get?_push_of_some _ q) (Nat.le_refl _) ⟨_, e1⟩
  refine I1.laid (a := s.heap.objs.size + 1) (o := .ins C s.heap.objs.size []) (t' := s.toks) (fun b u q => Heap.get?_push_of_some _ q) (Nat.le_of_eq (Heap.size_push _ _)) ?_
  have ne : s.heap.objs.size ≠ s.heap.objs.size + 1 := Nat.ne_of_lt (Nat.lt_succ_self _)
  refine ⟨by rw [upd_ne ne, upd_same], Nat.zero_le _, ne, e2, fun _ => none, (Heap.Ns1.of_empty e3).at fun o q => Heap.get?_push_of_some _ q, fun _ => True.intro, fun y hy => absurd rfl hy⟩

/-- e.f where nothing but the object is asked: through attributeBase (super) and the last hold -/
theorem attr_of {prog : Program} {w : World} {env : Env} {e : Expr} {f : Str} {pos : Pos} {s : Shared} {Q : Value → Shared → Prop} (hb : attributeBase e f env (eval e env) = eval e env)
    (h : wpAny (model prog w) A (eval e env) (fun o s₁ => wpAny (model prog w) A (getAttr o f true) Q E s₁) E s) : wpAny (model prog w) A (eval (.Attribute e f pos) env) Q E s :=
  Attribute_any_ h (by rw [arm_eval_Attribute, hb])
end

/-! ### readings and rules -/
section
variable {X : Cx} {o e value : Expr} {f : Str} {pos pos' tpos : Pos} {ta tv : TE}
end

/-! ### isinstance -/
section
variable {X : Cx} {pins : List (Addr × Obj)} {σ : St} {H : Hp} {s : Shared} {A : Around} {E : Value → Shared → Prop} {Q : Value → Shared → Prop} {c : Value} {b : Bool}
/-- the type of a value, as the fragment's deciders take it; for an instance its class -/
inductive TyOf (K : PySem.W.Frag) (H : Hp) : V → Value → Prop where
  | non : TyOf K H .non (.type "NoneType")
  | bl (x : Bool) : TyOf K H (.bl x) (.type "bool")
  | int (i : Int) : TyOf K H (.int i) (.type "int")
  | str (x : Str) : TyOf K H (.str x) (.type "str")
  | flt (x : UInt64) : TyOf K H (.flt x) (.type "float")
  | lst {a : Addr} {xs : List V} (e : H a = some (.lst xs)) : TyOf K H (.ref a) (.type "list")
  | frz {a : Addr} {o : Obj} {xs : List V} (e : H a = some (.frz o (.lst xs))) : TyOf K H (.ref a) (.type "list")
  | tup {a : Addr} {xs : List V} (e : H a = some (.tup xs)) : TyOf K H (.ref a) (.type "tuple")
  | dK {a : Addr} {kvs : List (Key × V)} (e : H a = some (.dK kvs)) : TyOf K H (.ref a) (.type "dict")
  | dT {a : Addr} {kvs : List (List Key × V)} (e : H a = some (.dT kvs)) : TyOf K H (.ref a) (.type "dict")
  | ins {a C dx : Addr} {fs : List (Str × V)} (e : H a = some (.ins C dx fs)) (cl : Cls K C) (ha : PySem.W.findIn K (.ref C) "__class__" = some (some (.builtin "object.__class__")))
      (hn : PySem.W.specialIn K (.builtin "object.__class__") "__get__" = some (some (.builtin "getset_descriptor.__get__"))) (htk : PySem.W.takesIn K (.builtin "object.__class__") = some true)
      (hm : PySem.W.mroIn K C (.type "object") = some true) : TyOf K H (.ref a) (.ref C)
/-- isinstance(x, c) for one class c, a built-in or an own one: kitOne's answer -/
theorem isinst_ok {x : V} {u t : Value} (I : Inv X pins σ H s) (rx : RelV x u) (ty : TyOf X.K H x t) (e : PySem.W.kitOne X.K t c = some b) (h : ∀ tk, Q (.bool b) { s with toks := tk }) :
    wpAny (model X.prog X.w) A (call (.builtin "isinstance") [u, c]) Q E s := by
  cases ty with
  | non => cases (show u = Value.none from rx); exact PySem.W.kia_one PySem.W.kitx_none I.kIn True.intro e (fun z => nomatch z) h
  | bl y => cases (show u = Value.bool y from rx); exact PySem.W.kia_one PySem.W.kitx_bool I.kIn True.intro e (fun z => nomatch z) h
  | int i => obtain ⟨t, q⟩ := (show ∃ t, u = Value.int i t from rx); cases q; exact PySem.W.kia_one PySem.W.kitx_int I.kIn True.intro e (fun z => nomatch z) h
  | str y => obtain ⟨t, q⟩ := (show ∃ t, u = Value.str y t from rx); cases q; exact PySem.W.kia_one PySem.W.kitx_str I.kIn True.intro e (fun z => nomatch z) h
  | flt y => obtain ⟨t, q⟩ := (show ∃ t, u = Value.float y t from rx); cases q; exact PySem.W.kia_one PySem.W.kitx_float I.kIn True.intro e (fun z => nomatch z) h
  | @lst a xs ea =>
    cases (show u = Value.ref a from rx)
    obtain ⟨_, _, n, _, h1⟩ := (show ObjOk X.prog X.w H s.heap a (.lst xs) from I.hok a _ ea)
    exact PySem.W.kia_one PySem.W.kitx_list I.kIn ⟨_, h1, rfl⟩ e (fun z => nomatch z) h
  | @frz a ob xs ea =>
    cases (show u = Value.ref a from rx)
    obtain ⟨_, _, _, n, _, h1⟩ := (show ObjOk X.prog X.w H s.heap a (.frz ob (.lst xs)) from I.hok a _ ea)
    exact PySem.W.kia_one PySem.W.kitx_list I.kIn ⟨_, h1, rfl⟩ e (fun z => nomatch z) h
  | @tup a xs ea =>
    cases (show u = Value.ref a from rx)
    obtain ⟨_, _, _, p⟩ := (show ObjOk X.prog X.w H s.heap a (.tup xs) from I.hok a _ ea)
    obtain ⟨o, h1, h2, _⟩ := p
    exact PySem.W.kia_one PySem.W.kitx_tuple I.kIn ⟨o, h1, h2⟩ e (fun z => nomatch z) h
  | @dK a kvs ea =>
    cases (show u = Value.ref a from rx)
    obtain ⟨_, _, vs, _, p⟩ := (show ObjOk X.prog X.w H s.heap a (.dK kvs) from I.hok a _ ea)
    obtain ⟨o, es, ep, h1, h2, _⟩ := p
    exact PySem.W.kia_one PySem.W.kitx_dict I.kIn ⟨o, h1, h2.1⟩ e (fun z => nomatch z) h
  | @dT a kvs ea =>
    cases (show u = Value.ref a from rx)
    obtain ⟨_, _, xs, _, o, es, ep, h1, h2, _⟩ := (show ObjOk X.prog X.w H s.heap a (.dT kvs) from I.hok a _ ea)
    exact PySem.W.kia_one PySem.W.kitx_dict I.kIn ⟨o, h1, h2.1⟩ e (fun z => nomatch z) h
  | @ins a C dx fs ea cl ha hn htk hm =>
    cases (show u = Value.ref a from rx)
    obtain ⟨mA, O, _⟩ := ins_get I.hok ea
    obtain ⟨od, J, _⟩ := O.look
    exact PySem.W.kia_one (PySem.W.kitx_own (cl.get _) cl.hd ha hn htk hm) I.kIn J e (fun z => nomatch z) h
end
end L2

namespace L2
open PySem PySem.Spec PyProof.Rows

/-! ### room -/
structure Room (ca : Bool) (k : Nat) (A : Around) : Prop where
  hd : ca = true → A.handled = none
  dp : A.depth + 3 * k + 5 < recursionLimit
  un : A.units + 16 * k + 200 < cLine
theorem Room.mono {ca : Bool} {j k : Nat} {A : Around} (r : Room ca k A) (h : j ≤ k) : Room ca j A := ⟨r.hd, by have := r.dp; omega, by have := r.un; omega⟩
theorem Room.deeper {ca : Bool} {k : Nat} {A : Around} (r : Room ca (k + 1) A) (env : Env) : Room ca k (A.deeper env) :=
  ⟨r.hd, by have := r.dp; show A.depth + 1 + 3 * k + 5 < _; omega, by have := r.un; show A.units + 3 + 16 * k + 200 < _; omega⟩
theorem Room.in1 {ca : Bool} {k : Nat} {A : Around} (r : Room ca (k + 1) A) : Room ca k A.in1 :=
  ⟨r.hd, by have := r.dp; show A.depth + 3 * k + 5 < _; omega, by have := r.un; show A.units + 1 + 16 * k + 200 < _; omega⟩
theorem make_depth {A : Around} {C : Addr} {us : List Value} {kw : List (Str × Value)} : (A.under (.builtin "type.__call__" ⟨.ref C :: us, kw⟩)).depth = A.depth + 1 := by
  first | rfl | simp [Around.under, Code.weight, Code.isCreation, Code.isGuard, Code.isCaller, Code.frames, Code.isFrame, guardIds]
theorem make_units {A : Around} {C : Addr} {us : List Value} {kw : List (Str × Value)} : (A.under (.builtin "type.__call__" ⟨.ref C :: us, kw⟩)).units = A.units + 1 := by
  first | rfl | simp [Around.under, Code.cUnits, Code.frames, Code.isFrame]
theorem Room.make {ca : Bool} {k : Nat} {A : Around} (r : Room ca (k + 1) A) (C : Addr) (us : List Value) (kw : List (Str × Value)) : Room ca k (A.under (.builtin "type.__call__" ⟨.ref C :: us, kw⟩)) :=
  ⟨r.hd, by have := r.dp; rw [make_depth]; omega, by have := r.un; rw [make_units]; omega⟩
theorem Room.depth {ca : Bool} {k : Nat} {A : Around} (r : Room ca k A) : A.depth < recursionLimit := by have := r.dp; omega
theorem Room.units {ca : Bool} {k : Nat} {A : Around} (r : Room ca k A) : A.units + 64 < cLine := by have := r.un; omega
/-! ### argument lists and displays -/
def tNil : TA := fun _ H Q => Q [] H
def tCons (ta : TE) (tr : TA) : TA := fun σ H Q => ta σ H fun x H1 => tr σ H1 fun xs H2 => Q (x :: xs) H2
section
variable {X : Cx} {e : Expr} {es : List Expr} {te : TE} {t : TA} {pos : Pos}
theorem pa_nil : PA X [] tNil := fun _ _ _ _ H Q I h => Calls.spliced_nil ⟨[], H, I, .nil, h⟩
theorem pa_cons (ha : PE X e te) (hr : PA X es t) (hs : starEach (e :: es) X.env = (false, eval e X.env) :: starEach es X.env := by rfl) : PA X (e :: es) (tCons te t) := by
  intro pos pins s σ H Q I h
  rw [hs]
  show wpAny _ _ (spliced ((false, eval e X.env) :: backTo pos (starEach es X.env))) _ _ s
  refine Calls.spliced_cons (thn (ha pins s σ H _ I h) fun u s1 ⟨x, H1, I1, r1, q1⟩ => ?_)
  exact thn (hr pos pins s1 σ H1 _ I1 q1) fun us s2 ⟨xs, H2, I2, r2, q2⟩ => ⟨x :: xs, H2, I2, .cons r1 r2, q2⟩

/-- a tuple, a list of written items -/
def tTup (t : TA) : TE := fun σ H Q => t σ H fun xs H1 => xs.length ≤ sizeLine ∧ ∀ p, H1 p = none → Q (.ref p) (upd H1 p (.tup xs))
def tLst (t : TA) : TE := fun σ H Q => t σ H fun xs H1 => xs.length ≤ sizeLine ∧ ∀ p, H1 p = none → Q (.ref p) (upd H1 p (.lst xs))
theorem pe_tup {x1} (h : PA X es t) : PE X (.Tuple es x1 pos) (tTup t) := by
  intro pins s σ H Q I hq
  refine wpAny_Tuple_spliced (thn (h pos pins s σ H _ I hq) fun us s1 ⟨xs, H1, I1, r, z, q⟩ => ⟨by rw [← r.length]; exact z, ?_⟩)
  have hf : H1 s1.heap.objs.size = none := I1.hok.fresh (Nat.le_refl _)
  refine ⟨.ref s1.heap.objs.size, upd H1 s1.heap.objs.size (.tup xs), I1.laid (t' := s1.toks) (fun b u e => Heap.get?_push_of_some _ e) (Nat.le_refl _) ?_, rfl, q _ hf⟩
  exact ⟨z, us, r, ⟨_, Heap.get?_push_size _ rfl, rfl, _, rfl⟩⟩
theorem pe_lst (h : PA X es t) : PE X (.List es pos) (tLst t) := by
  intro pins s σ H Q I hq
  refine wpAny_List_spliced (thn (h pos pins s σ H _ I hq) fun us s1 ⟨xs, H1, I1, r, z, q⟩ => ⟨by rw [← r.length]; exact z, ?_⟩)
  have hf : H1 s1.heap.objs.size = none := I1.hok.fresh (Nat.le_refl _)
  refine ⟨.ref s1.heap.objs.size, upd H1 s1.heap.objs.size (.lst xs), I1.laid (t' := s1.toks) (fun b u e => Heap.get?_push_of_some _ e) (Nat.le_refl _) ?_, rfl, q _ hf⟩
  exact ⟨z, us, 0, r, Heap.get?_push_size _ rfl⟩
end

/-! ### what a def promises -/
/-- a def's promise: the bound arguments in the parameters' order, the heap, the wanted end, the wanted exception -/
abbrev Sp := List V → Hp → VK → XK → Prop
/-- how an exception lies behind a call (file 08 gives it): the callers' frames, abstract heap and state ahead of the call, the wish, the exception, the state -/
abbrev CXT := List Env → Hp → Shared → XK → Value → Shared → Prop

/-- the state at a call -/
structure Env0 (P : Program) (w : World) (K : PySem.W.Frag) (mg : Str → Option Value) (base : Heap) (A : Around) (outer : List Env) (s : Shared) (H : Hp) : Prop where
  frames : A.frames = some outer
  mod : Mod K mg base
  bs : ∀ b o, base.get? b = some o → s.heap.get? b = some o ∧ H b = none
  bsz : base.objs.size ≤ s.heap.objs.size
  funs : s.heap.FunFrames base outer
  frf : ∀ b ∈ frs outer, H b = none
  hok : HOk P w H s.heap
  bare : AllBare s.gens
/-- a call's end -/
def CE (outer : List Env) (P : Program) (w : World) (H : Hp) (s : Shared) (Q : VK) (u : Value) (s' : Shared) : Prop :=
  ∃ v H', s'.os = s.os ∧ AllBare s'.gens ∧ Un (frs outer) [] H H' s.heap s'.heap ∧ HOk P w H' s'.heap ∧ RelV v u ∧ Q v H'
def CR (CX : CXT) (outer : List Env) (P : Program) (w : World) (H : Hp) (s : Shared) (Q : VK) (E : XK) (r : Result) (s' : Shared) : Prop :=
  match r with
  | .ok (.ret u) => CE outer P w H s Q u s'
  | .ok _ => False
  | .error e => CX outer H s E e s'
structure FnOk (P : Program) (w : World) (K : PySem.W.Frag) (mg : Str → Option Value) (base : Heap) (CX : CXT) (ca : Bool) (k : Nat) (f : Addr) (fd : FuncData) (ps : List Str) (sp : Sp) : Prop where
  len : ∀ vs H Q E, sp vs H Q E → vs.length = ps.length
  run : ∀ (A : Around) (outer : List Env) (s : Shared) (H : Hp) (args : Args) (us : List Value) (vs : List V) (Q : VK) (E : XK), Room ca k A → Env0 P w K mg base A outer s H → BindsTo s fd args (ps.zip us) → Vals vs us → sp vs H Q E →
    codeAny (model P w) A (.call (.ref f) args) (CR CX outer P w H s Q E) s
theorem FnOk.mono {P : Program} {w : World} {K : PySem.W.Frag} {mg : Str → Option Value} {base : Heap} {CX : CXT} {ca : Bool} {j k : Nat} {f : Addr} {fd : FuncData} {ps : List Str} {sp : Sp} (F : FnOk P w K mg base CX ca j f fd ps sp) (h : j ≤ k) :
    FnOk P w K mg base CX ca k f fd ps sp := ⟨F.len, fun A outer s H args us vs Q E hr => F.run A outer s H args us vs Q E (hr.mono h)⟩
/-- a weaker promise -/
theorem FnOk.imp {P : Program} {w : World} {K : PySem.W.Frag} {mg : Str → Option Value} {base : Heap} {CX : CXT} {ca : Bool} {k : Nat} {f : Addr} {fd : FuncData} {ps : List Str} {sp sp' : Sp} (F : FnOk P w K mg base CX ca k f fd ps sp)
    (h : ∀ vs H Q E, sp' vs H Q E → sp vs H Q E) : FnOk P w K mg base CX ca k f fd ps sp' :=
  ⟨fun vs H Q E q => F.len vs H Q E (h _ _ _ _ q), fun A outer s H args us vs Q E hr he hb hv hs => F.run A outer s H args us vs Q E hr he hb hv (h _ _ _ _ hs)⟩

theorem Env0.make {P : Program} {w : World} {K : PySem.W.Frag} {mg : Str → Option Value} {base : Heap} {A : Around} {outer : List Env} {s : Shared} {H : Hp} (e : Env0 P w K mg base A outer s H) (C : Addr) (us : List Value) (kw : List (Str × Value)) :
    Env0 P w K mg base (A.under (.builtin "type.__call__" ⟨.ref C :: us, kw⟩)) outer s H := ⟨by first | exact e.frames | (simpa [Around.under, Code.envs, Code.isFrame, pushEnvs] using e.frames), e.mod, e.bs, e.bsz, e.funs, e.frf, e.hok, e.bare⟩
theorem Env0.in1 {P : Program} {w : World} {K : PySem.W.Frag} {mg : Str → Option Value} {base : Heap} {A : Around} {outer : List Env} {s : Shared} {H : Hp} (e : Env0 P w K mg base A outer s H) :
    Env0 P w K mg base A.in1 outer s H := ⟨e.frames, e.mod, e.bs, e.bsz, e.funs, e.frf, e.hok, e.bare⟩

section
variable {X : Cx} {pins : List (Addr × Obj)} {σ : St} {H : Hp} {s s' : Shared}
/-- from a body: what a callee wants -/
theorem Inv.env0 (I : Inv X pins σ H s) : Env0 X.prog X.w X.K X.mg X.base X.A X.stack s H :=
  ⟨I.ok.frames, I.ok.mod, I.bs, Nat.le_trans I.ok.bsz I.sz, I.stack, I.stkFree, I.hok, I.bare⟩
/-- behind a call -/
theorem Inv.after {Q : VK} {u : Value} (I : Inv X pins σ H s) (h : CE X.stack X.prog X.w H s Q u s') : EP X pins σ Q u s' := by
  obtain ⟨v, H', os, bare, un, hok, r, q⟩ := h
  obtain ⟨hh, g, d, t, os'⟩ := s'
  obtain rfl : os' = s.os := os
  exact ⟨v, H', I.call (h' := hh) (g' := g) (d' := d) (t' := t) (ch := []) un hok bare (fun b z => absurd z (by simp)), r, q⟩
end

/-! ### calls -/
/-- how the parameters are bound: us the positional arguments, kw the keywords' values by name, ds the defaults that fill up -/
def Binds (K : PySem.W.Frag) (fd : FuncData) (ps : List Str) (ds : List Value) : Prop :=
  ∀ (s : Shared) (us : List Value), K.In s.heap → (us ++ ds).length = ps.length → BindsTo s fd ⟨us, []⟩ (ps.zip (us ++ ds))
/-- every parameter is given -/
theorem Binds.all {K : PySem.W.Frag} {fd : FuncData} {ps : List Str} (h : ∀ us : List Value, us.length = ps.length → bindArgs fd ⟨us, []⟩ = pure (ps.zip us)) : Binds K fd ps [] := fun s us _ hl => by
  rw [List.append_nil] at hl ⊢
  exact .of_eq (h us hl)

section
variable {X : Cx} {CX : CXT} {ca : Bool} {k : Nat} {f C : Addr} {fd : FuncData} {ps : List Str} {sp : Sp} {dvs : List V} {ds : List Value} {E : XK} {x m : Str} {p pos apos : Pos} {e o : Expr} {es : List Expr} {ta : TE} {t : TA}

/-- what a class must have to be made -/
structure Mk (K : PySem.W.Frag) (C f : Addr) : Prop where
  makes : PySem.W.makesIn K C = true
  init : PySem.W.findIn K (.ref C) "__init__" = some (some (.ref f))
  fn : PySem.W.isFn K (.ref f) = true
  kp : PySem.W.keepIn K (.ref C) = true

end

/-! ### keywords -/
section
variable {X : Cx} {CX : CXT} {ca : Bool} {k : Nat} {f C : Addr} {fd : FuncData} {ps ks : List Str} {sp : Sp} {E : XK} {x m : Str} {p pos apos kpos : Pos} {e o : Expr} {es : List Expr} {kws : List Keyword} {te ta : TE} {t tk : TA} {nm : Option Str}
/-- how a call with keywords binds: g puts the positional values us and the keywords' values ws (names ks) in the parameters' order, defaults among them -/
structure KBinds (K : PySem.W.Frag) (fd : FuncData) (ps ks : List Str) (g : List Value → List Value → List Value) (gV : List V → List V → List V) : Prop where
  to : ∀ (s : Shared) (us ws : List Value), K.In s.heap → (g us ws).length = ps.length → BindsTo s fd ⟨us, ks.zip ws⟩ (ps.zip (g us ws))
  rel : ∀ {vs : List V} {us : List Value} {zs : List V} {ws : List Value}, Vals vs us → Vals zs ws → Vals (gV vs zs) (g us ws)
variable {g : List Value → List Value → List Value} {gV : List V → List V → List V}
end

/-! ### a def's body keeps its promise -/
/-- names: the parameters first -/
structure FnScope (N P : List Str) (sc : Scope) : Prop where
  kind : sc.kind = .function
  co : sc.isCoroutine = false
  gen : sc.isGenerator = false
  nd : N.Nodup
  pre : N.take P.length = P
  par : ∀ x ∈ P, sc.names.lookup x = some .local ∨ sc.names.lookup x = some .cell
  nofree : ∀ y ∈ sc.names, y.2 ≠ .free

theorem bindL_out {kindOf : Str → Option NameKind} {x : Str} : ∀ {binds : List (Str × Value)} {m : Str → Option Value}, (∀ v, (x, v) ∉ binds) → bindL kindOf binds m x = m x
  | [], _, _ => rfl
  | (n, v) :: r, m, h => by
    unfold bindL
    rw [bindL_out fun w hw => h w (List.mem_cons_of_mem _ hw)]
    split
    · have : x ≠ n := by rintro rfl; exact h v List.mem_cons_self
      simp [this]
    · rfl
theorem bindC_out {kindOf : Str → Option NameKind} {x : Str} : ∀ {binds : List (Str × Value)} {m : Str → Option Value}, (∀ v, (x, v) ∉ binds) → bindC kindOf binds m x = m x
  | [], _, _ => rfl
  | (n, v) :: r, m, h => by
    unfold bindC
    rw [bindC_out fun w hw => h w (List.mem_cons_of_mem _ hw)]
    split
    · rfl
    · have : x ≠ n := by rintro rfl; exact h v List.mem_cons_self
      simp [this]
theorem bindL_get {kindOf : Str → Option NameKind} {x : Str} {v : Value} : ∀ {P : List Str} {vs : List Value} {i : Nat} {m : Str → Option Value}, P.Nodup → P[i]? = some x → vs[i]? = some v → kindOf x = some .local →
    bindL kindOf (P.zip vs) m x = some v
  | [], _, _, _, _, h, _, _ => by simp at h
  | _ :: _, [], _, _, _, _, h, _ => by simp at h
  | p :: P, w :: vs, 0, m, nd, h1, h2, hk => by
    simp at h1 h2; subst h1; subst h2
    show bindL kindOf ((p, w) :: P.zip vs) m p = _
    unfold bindL
    rw [bindL_out fun v hv => (List.nodup_cons.mp nd).1 (List.of_mem_zip hv).1, if_pos hk]
    simp
  | p :: P, w :: vs, i + 1, m, nd, h1, h2, hk => by
    show bindL kindOf ((p, w) :: P.zip vs) m x = _
    unfold bindL
    exact bindL_get (i := i) (List.nodup_cons.mp nd).2 (by simpa using h1) (by simpa using h2) hk
theorem bindC_get {kindOf : Str → Option NameKind} {x : Str} {v : Value} : ∀ {P : List Str} {vs : List Value} {i : Nat} {m : Str → Option Value}, P.Nodup → P[i]? = some x → vs[i]? = some v → kindOf x ≠ some .local →
    bindC kindOf (P.zip vs) m x = some v
  | [], _, _, _, _, h, _, _ => by simp at h
  | _ :: _, [], _, _, _, _, h, _ => by simp at h
  | p :: P, w :: vs, 0, m, nd, h1, h2, hk => by
    simp at h1 h2; subst h1; subst h2
    show bindC kindOf ((p, w) :: P.zip vs) m p = _
    unfold bindC
    rw [bindC_out fun v hv => (List.nodup_cons.mp nd).1 (List.of_mem_zip hv).1, if_neg hk]
    simp
  | p :: P, w :: vs, i + 1, m, nd, h1, h2, hk => by
    show bindC kindOf ((p, w) :: P.zip vs) m x = _
    unfold bindC
    exact bindC_get (i := i) (List.nodup_cons.mp nd).2 (by simpa using h1) (by simpa using h2) hk

/-- the names' values at the entry -/
def start (N : List Str) (vs : List V) : St := vs.map some ++ List.replicate (N.length - vs.length) none

/-- the context of a def's body, at its entry; an exception leaves the frame, then lies as CX says -/
def cxOf (CX : CXT) (ca : Bool) (P : Program) (w : World) (K : PySem.W.Frag) (mg : Str → Option Value) (base : Heap) (N : List Str) (qual : Str) (scope : Scope) (f : Addr) (cd : Value) (A : Around) (outer : List Env) (s : Shared) (H : Hp) (E : XK) : Cx where
  prog := P
  w := w
  K := K
  mg := mg
  base := base
  A := A.deeper (envOfC qual scope s.heap.objs.size f cd)
  N := N
  s₀ := s
  H₀ := H
  env := envOfC qual scope s.heap.objs.size f cd
  outer := outer
  stack := envOfC qual scope s.heap.objs.size f cd :: outer
  ex := []
  calm := ca
  fn := fun _ => true
  pn := []
  xe := fun e s' => wpAny (model P w) (A.deeper (envOfC qual scope s.heap.objs.size f cd)) (leaving (envOfC qual scope s.heap.objs.size f cd) e) (fun _ s'' => CX outer H s E e s'') (fun e' s'' => CX outer H s E e' s'') s'

theorem cell_has {sc : Scope} {n : Nat} {x : Str} (h : sc.names.lookup x = some .cell) : ∃ c, (cellsFrom n sc.names []).lookup x = some c := by
  have q := PySem.W.cellsFrom_some sc.names n [] (.inl h)
  exact Option.isSome_iff_exists.mp q

theorem inv_start {CX : CXT} {ca : Bool} {P : Program} {w : World} {K : PySem.W.Frag} {mg : Str → Option Value} {base : Heap} {N ps : List Str} {qual : Str} {scope : Scope} {f : Addr} {cd : Value} {A : Around} {outer : List Env} {s s1 : Shared} {H : Hp} {E : XK} {us : List Value} {vs : List V}
    (S : FnScope N ps scope) (hd : ca = true → A.handled = none) (e0 : Env0 P w K mg base A outer s H) (hl : vs.length = ps.length) (r : Vals vs us)
    (x : InCallC s s.heap.objs.size (bindL (envOfC qual scope s.heap.objs.size f cd).kindOf (ps.zip us) fun _ => none) (cellsFrom (s.heap.objs.size + 1) scope.names []) (bindC (envOfC qual scope s.heap.objs.size f cd).kindOf (ps.zip us) fun _ => none) s1) :
    Inv (cxOf CX ca P w K mg base N qual scope f cd A outer s H E) [] (start N vs) H s1 := by
  have hpl : ps.length ≤ N.length := by have := congrArg List.length S.pre; rw [List.length_take] at this; omega
  obtain ⟨h1, tk, rfl, hk⟩ := x.done
  have noA : ∀ b : Addr, b ∉ (cxOf CX ca P w K mg base N qual scope f cd A outer s H E).ex := fun b z => absurd (show b ∈ ([] : List Addr) from z) (by simp)
  refine ⟨⟨e0.mod, S.kind, rfl, rfl, Nat.le_refl _, fun y z c h1 h2 => ?_, fun y hy => ?_, fun y c _ h => ?_, fun z => hd z, Around.frames_deeper e0.frames, .inr ⟨rfl, rfl⟩, fun b z => absurd z (noA b), e0.bs, e0.bsz, fun b _ _ => noA b, fun b z => absurd z (noA b), e0.funs, e0.frf⟩,
    rfl, e0.bare, Un.kept hk, ⟨_, x.toInCall.ns, fun i y v h1 h2 h3 => ?_⟩, fun y c h => ⟨_, x.cell y c h⟩, e0.hok.fresh (Nat.le_refl _), fun y c h => ?_, fun p hp => absurd (show p ∈ ([] : List (Addr × Obj)) from hp) (by simp), e0.hok.kept hk, ?_⟩
  · exact name_of_addr x.apart (PySem.mem_of_lookup h1) (PySem.mem_of_lookup h2)
  · have hy : scope.names.lookup y = some .cell ∨ scope.names.lookup y = some .free := hy
    rcases hy with hy | hy
    · exact cell_has hy
    · exact absurd rfl (S.nofree _ (PySem.mem_of_lookup hy))
  · exact Nat.le_of_lt (x.above y c (PySem.mem_of_lookup h))
  · have hi : i < vs.length := by
      unfold start at h2
      by_cases hi : i < vs.length
      · exact hi
      · rw [List.getElem?_append_right (by simpa using hi)] at h2
        rw [List.getElem?_replicate] at h2
        split at h2 <;> cases h2
    have ha : vs[i]? = some v := by
      unfold start at h2
      rw [List.getElem?_append_left (by simpa using hi), List.getElem?_map] at h2
      cases e : vs[i]? with
      | none => rw [e] at h2; cases h2
      | some a => rw [e] at h2; cases h2; rfl
    obtain ⟨u, hu, rv⟩ := r.get ha
    have hp : ps[i]? = some y := by
      rw [← S.pre, List.getElem?_take_of_lt (by omega)]; exact h1
    have ndP : ps.Nodup := by rw [← S.pre]; exact S.nd.sublist (List.take_sublist _ _)
    refine ⟨u, rv, ?_⟩
    rcases S.par y (List.mem_of_getElem? hp) with k | k
    · exact .inl ⟨k, bindL_get ndP hp hu k⟩
    · obtain ⟨c, e⟩ := cell_has (n := s.heap.objs.size + 1) k
      refine .inr ⟨.inl k, c, e, ?_⟩
      have q := x.cell y c e
      rw [bindC_get ndP hp hu (by show scope.names.lookup y ≠ _; rw [k]; decide)] at q
      exact q
  · exact e0.hok.fresh (Nat.le_of_lt (x.above y c (PySem.mem_of_lookup h)))
  · unfold start
    show _ = N.length
    rw [List.length_append, List.length_map, List.length_replicate]
    omega

/-- THE RULE: a def (or a method) of the text, by its body. The body's reading t is chosen for each entry; it is run at the parameters' values -/
theorem fn_of {CX : CXT} {ca : Bool} {P : Program} {w : World} {K : PySem.W.Frag} {mg : Str → Option Value} {base : Heap} {k : Nat} {f : Addr} {name qual : Str} {params : Arguments} {body : List Stmt} {scope : Scope} {dV kV doc pm cdv ct oc : Value} {an od : Option Addr}
    {osl : Array (Option Value)} {N ps : List Str} {sp : Sp} (lk : K.lookup f = some ⟨oc, od, .func (PySem.W.fnOf name qual params body scope dV kV doc pm an cdv ct), osl⟩) (hcd : PySem.W.codeIn K cdv qual = true) (S : FnScope N ps scope)
    (len : ∀ vs H Q E, sp vs H Q E → vs.length = ps.length)
    (hbody : ∀ (A : Around) (outer : List Env) (s : Shared) (H : Hp) (vs : List V) (Q : VK) (E : XK), Room ca k (A.deeper (envOfC qual scope s.heap.objs.size f cdv)) → sp vs H Q E →
      ∃ t, PSs (cxOf CX ca P w K mg base N qual scope f cdv A outer s H E) body t ∧ t { nx := fun _ H' => Q .non H', rt := Q } (start N vs) H) :
    FnOk P w K mg base CX ca (k + 1) f (PySem.W.fnOf name qual params body scope dV kV doc pm an cdv ct) ps sp := by
  refine ⟨len, fun A outer s H args us vs Q E hr e0 hb r hsp => ?_⟩
  have hl := len _ _ _ _ hsp
  have KX : K.In s.heap := e0.mod.kin.keeps fun b o e => (e0.bs b o e).1
  have lim : s.heap.NoLimit := e0.mod.nolimit.keeps fun b o e => (e0.bs b o e).1
  have hkind : ∀ y ∈ ps.zip us, scope.names.lookup y.1 = some .local ∨ (scope.names.lookup y.1 = some .cell ∧ ((cellsFrom (s.heap.objs.size + 1) scope.names []).lookup y.1).isSome = true) := fun ⟨n, v⟩ hy => by
    rcases S.par n (List.of_mem_zip hy).1 with q | q
    · exact .inl q
    · exact .inr ⟨q, PySem.W.cellsFrom_some _ _ _ (.inl q)⟩
  refine codeAny_call_function hr.depth (KX _ _ lk) rfl S.co S.gen rfl (PySem.W.codeRec_of KX hcd) (hb _ _ _ _ ?_)
  refine wpAny_newFunctionEnv_cells S.kind hkind fun env he s1 x => ?_
  subst he
  refine ⟨lim.keeps x.toInCall.keep, codeAny_func ?_⟩
  obtain ⟨t, ht, hq⟩ := hbody A outer s H vs Q E (hr.deeper _) hsp
  have I : Inv (cxOf CX ca P w K mg base N qual scope f cdv A outer s H E) [] (start N vs) H s1 := inv_start S hr.hd e0 hl r x
  refine wpAny_mono (ht [] s1 (start N vs) H _ I hq) (fun fl s' hs => ?_) fun e s' hs => hs
  have fin : ∀ {σ' : St} {H' : Hp} {v : V} {u : Value}, Inv (cxOf CX ca P w K mg base N qual scope f cdv A outer s H E) [] σ' H' s' → RelV v u → Q v H' → CE outer P w H s Q u s' :=
    fun {σ' H' v u} J rv q => ⟨v, H', J.os, J.bare, J.base, J.hok, rv, q⟩
  cases fl with
  | ret u =>
    obtain ⟨v, σ', H', J, rv, q⟩ := hs
    exact fin J rv q
  | next =>
    obtain ⟨σ', H', J, q⟩ := hs
    exact fin (v := V.non) (u := Value.none) J rfl q
  | brk =>
    obtain ⟨_, _, _, q⟩ := hs
    exact False.elim q
  | cont =>
    obtain ⟨_, _, _, q⟩ := hs
    exact False.elim q
end L2

namespace L2
open PySem PySem.Spec PyProof.Rows
section
variable {X : Cx} {x : Str} {p pos : Pos} {e : Expr} {es : List Expr} {t : TA} {id T : String} {r : List V → Hp → VK → Prop}

def tCB (r : List V → Hp → VK → Prop) (t : TA) : TE := fun σ H Q => t σ H fun vs H1 => r vs H1 Q
/-- f(e, ..), f a built-in function -/
theorem pe_callB (hc : CallR X (.builtin id) r) (hg : Gl X x) (hm : X.mg x = none) (hv : bootBuiltins x = some (.builtin id)) (ha : PA X (e :: es) t) (hn : x ≠ "__name__" := by decide) (hdb : (x == ("__debug__" : Str)) = false := by decide)
    (he : starEach (e :: es) X.env = (false, eval e X.env) :: starEach es X.env := by rfl) (hpl : (backTo pos (starEach es X.env)).any (·.1) = false := by rfl) : PE X (.Call (.Name x p) (e :: es) [] pos) (tCB r t) := by
  intro pins s σ H Q I h
  refine wpAny_Call_Name_kw (ld_blt I hg hm hv ?_ hn hdb)
  exact PyProof.Rows.callWith_builtin1 (thn (ha pos pins s σ H _ I h) fun us s1 ⟨vs, H1, I1, r1, q1⟩ => hc pins s1 σ H1 vs us Q I1 r1 q1) he hpl
/-- T(e, ..), T a built-in type -/
theorem pe_callTy (hc : CallR X (.type T) r) (hg : Gl X x) (hm : X.mg x = none) (hv : bootBuiltins x = some (.type T)) (ha : PA X (e :: es) t) (hn : x ≠ "__name__" := by decide) (hdb : (x == ("__debug__" : Str)) = false := by decide)
    (he : starEach (e :: es) X.env = (false, eval e X.env) :: starEach es X.env := by rfl) (hpl : (backTo pos (starEach es X.env)).any (·.1) = false := by rfl) : PE X (.Call (.Name x p) (e :: es) [] pos) (tCB r t) := by
  intro pins s σ H Q I h
  refine wpAny_Call_Name_kw (ld_blt I hg hm hv ?_ hn hdb)
  exact PyProof.Rows.callWith_type1 (thn (ha pos pins s σ H _ I h) fun us s1 ⟨vs, H1, I1, r1, q1⟩ => hc pins s1 σ H1 vs us Q I1 r1 q1) he hpl
end
end L2

namespace HT
open PySem PyProof.Rows

section
open PySem.SeqAt
open PySem.AutoSeq1 (wpAny_loadPart')
open PySem.MeetsSeq PySem.MeetsSeq2 PySem.MeetsSeq3

end

section
variable {prog : Program} {w : World} {A : Around} {E : Value → Shared → Prop} {s : Shared}

/-! ### t[a:b], not the whole -/
end
end HT

namespace L2
open PySem PySem.Spec PyProof.Rows

/-! ### the parts of a slice -/
abbrev TO := St → Hp → (Option Int → Hp → Prop) → Prop
/-- a slice's part (left out, or an int) -/
def PO (X : Cx) (e : Option Expr) (t : TO) : Prop :=
  ∀ (pins : List (Addr × Obj)) (s : Shared) (σ : St) (H : Hp) (Q : Option Int → Hp → Prop), Inv X pins σ H s → t σ H Q →
    wpAny (model X.prog X.w) X.A (evalPart e X.env) (fun u s' => ∃ o H', Inv X pins σ H' s' ∧ IsPart u o ∧ Q o H') X.xe s
section
variable {X : Cx} {e : Expr} {te : TE} {lo hi : Option Expr} {tl th : TO} {pos p2 : Pos}

/-- what a slice of a value is, by values: the slice object stands at sl -/
def SlR (X : Cx) (r : V → Option Int → Option Int → Hp → VK → Prop) : Prop :=
  ∀ (pins : List (Addr × Obj)) (s : Shared) (σ : St) (H : Hp) (x : V) (v vl vu : Value) (lo hi : Option Int) (sl : Addr) (Q : VK), Inv X pins σ H s → RelV x v → s.heap.IsSliceOf sl vl vu .none → IsPart vl lo → IsPart vu hi → r x lo hi H Q →
    ∃ T id, typeLookup (.type T) "__getitem__" = pure (some (.builtin id)) ∧ s.TypeIs v T ∧ wpAny (model X.prog X.w) X.A (getItem v (.ref sl)) (EP X pins σ Q) X.xe s
theorem SlR.or {r r' : V → Option Int → Option Int → Hp → VK → Prop} (h : SlR X r) (h' : SlR X r') : SlR X (fun x lo hi H Q => r x lo hi H Q ∨ r' x lo hi H Q) := by
  intro pins s σ H x v vl vu lo hi sl Q I rx hs pl pu q
  rcases q with q | q
  · exact h pins s σ H x v vl vu lo hi sl Q I rx hs pl pu q
  · exact h' pins s σ H x v vl vu lo hi sl Q I rx hs pl pu q
/-! ### t < u, t + u -/
end
end L2

namespace L2
open PySem PySem.Spec PyProof.Rows

/-! ### places -/
/-- the place that an index of any sign means -/
def ixN (n : Nat) (i : Int) : Option Nat := if 0 ≤ i then (if i < n then some i.toNat else none) else if -(n : Int) ≤ i then some (i + n).toNat else none
def atI {α : Type} (xs : List α) (i : Int) : Option α := (ixN xs.length i).bind fun j => xs[j]?
theorem ixN_seq {n : Nat} {i : Int} {j : Nat} (h : ixN n i = some j) : seqIndex? i n = some j ∧ j < n ∧ -(n : Int) ≤ i ∧ i < n := by
  unfold ixN at h
  by_cases h0 : 0 ≤ i
  · rw [if_pos h0] at h
    by_cases h1 : i < n
    · rw [if_pos h1] at h
      have e : i.toNat = j := Option.some.inj h
      exact ⟨by rw [seqIndex_of h0 h1, e], by omega, by omega, h1⟩
    · rw [if_neg h1] at h; cases h
  · rw [if_neg h0] at h
    by_cases h1 : -(n : Int) ≤ i
    · rw [if_pos h1] at h
      have e : (i + n).toNat = j := Option.some.inj h
      exact ⟨by rw [seqIndex_neg (by omega) h1, e], by omega, h1, by omega⟩
    · rw [if_neg h1] at h; cases h
theorem atI_get {α : Type} {xs : List α} {i : Int} {v : α} (h : atI xs i = some v) : ∃ j, seqIndex? i xs.length = some j ∧ xs[j]? = some v ∧ j < xs.length ∧ -(xs.length : Int) ≤ i ∧ i < xs.length := by
  unfold atI at h
  cases e : ixN xs.length i with
  | none => rw [e] at h; cases h
  | some j =>
    rw [e] at h
    obtain ⟨h1, h2, h3, h4⟩ := ixN_seq e
    exact ⟨j, h1, h, h2, h3, h4⟩
theorem atI_nat {α : Type} {xs : List α} {j : Nat} {v : α} (h : xs[j]? = some v) : atI xs (j : Int) = some v := by
  have hj : j < xs.length := (List.getElem?_eq_some_iff.mp h).1
  have e : ixN xs.length (j : Int) = some j := by
    unfold ixN
    rw [if_pos (by omega), if_pos (by omega)]; simp
  unfold atI; rw [e]; exact h
/-! ### what may be subscripted -/
/-- what stands as an index of a plain subscript -/
def PlainIx (b : Expr) : Prop := ∀ o i, subscripted b false o i = operate [o, i] (getItem o i)
/-- a subscript by values -/
def IxR (X : Cx) (r : R2) : Prop :=
  ∀ (value slice : Expr) (pins : List (Addr × Obj)) (s : Shared) (σ : St) (H : Hp) (x y : V) (v u : Value) (Q : VK), Inv X pins σ H s → RelV x v → RelV y u → r x y H Q →
    subscripted slice false v u = operate [v, u] (getItem v u) → wpAny (model X.prog X.w) X.A (subscriptTail value slice v u) (EP X pins σ Q) X.xe s
/-- a call of a builtin's method by values: the receiver, the arguments -/
def MtR (X : Cx) (id : String) (r : V → List V → Hp → VK → Prop) : Prop :=
  ∀ (pins : List (Addr × Obj)) (s : Shared) (σ : St) (H : Hp) (x : V) (xs : List V) (v : Value) (us : List Value) (Q : VK), Inv X pins σ H s → RelV x v → Vals xs us → r x xs H Q →
    wpAny (model X.prog X.w) X.A (call (.builtin id) (v :: us)) (EP X pins σ Q) X.xe s
section
variable {X : Cx} {a b : Expr} {ta tb : TE} {pos : Pos}
theorem IxR.or {r r' : R2} (h : IxR X r) (h' : IxR X r') : IxR X (fun x y H Q => r x y H Q ∨ r' x y H Q) := by
  intro value slice pins s σ H x y v u Q I rx ry q hs
  rcases q with q | q
  · exact h value slice pins s σ H x y v u Q I rx ry q hs
  · exact h' value slice pins s σ H x y v u Q I rx ry q hs
theorem MtR.or {id : String} {r r' : V → List V → Hp → VK → Prop} (h : MtR X id r) (h' : MtR X id r') : MtR X id (fun x xs H Q => r x xs H Q ∨ r' x xs H Q) := by
  intro pins s σ H x xs v us Q I rx rs q
  rcases q with q | q
  · exact h pins s σ H x xs v us Q I rx rs q
  · exact h' pins s σ H x xs v us Q I rx rs q
/-- a[b] -/
theorem pe_ix {r : R2} (hr : IxR X r) (ha : PE X a ta) (hb : PE X b tb) (hs : PlainIx b) : PE X (.Subscript a b pos) (tOp r ta tb) := by
  intro pins s σ H Q I h
  exact Subscript_ (binT ha hb I h fun v u s2 x y H2 I2 rx ry q => hr a b pins s2 σ H2 x y v u Q I2 rx ry q (hs _ _))

def rIxL (K : PySem.W.Frag) : R2 := fun x y H Q => ∃ p xs i v, x = .ref p ∧ y = .int i ∧ SqL K H p xs ∧ atI xs i = some v ∧ Q v H
def rIxT (K : PySem.W.Frag) : R2 := fun x y H Q => ∃ p xs i v, x = .ref p ∧ y = .int i ∧ SqT K H p xs ∧ atI xs i = some v ∧ Q v H
theorem ix_list : IxR X (rIxL X.K) := by
  intro value slice pins s σ H x y v u Q I rx ry h hs
  obtain ⟨p, xs, i, z, rfl, rfl, hq, he, q⟩ := h
  cases rx
  obtain ⟨t, rfl⟩ := ry
  obtain ⟨its, r, pl, hz⟩ := I.list hq
  obtain ⟨j, h1, h2, h3, h4, h5⟩ := atI_get he
  obtain ⟨w, ew, rw'⟩ := r.get h2
  have hl := r.length
  have hn := line63
  have fin : EP X pins σ Q w s := ⟨z, H, I, rw', q⟩
  by_cases h0 : 0 ≤ i
  · have hj : i.toNat = j := by
      rw [seqIndex_of h0 h5] at h1
      exact Option.some.inj h1
    exact item_listR pl.isList h0 (by omega) (by rw [hj]; simpa using ew) fin hs
  · have hj : (i + (its.toArray.size : Int)).toNat = j := by
      rw [seqIndex_neg (by omega) h4] at h1
      rw [List.size_toArray, ← hl]
      exact Option.some.inj h1
    exact subscriptTail_builtinR (x := w) pl.isList.typeIs slot_list_getitem.lookup
      (wpAny_getItem_list_neg (Q := fun r s' => r = w ∧ EP X pins σ Q r s') pl.isList (by omega) (by rw [List.size_toArray] <;> omega) (by omega) (by rw [hj]; simpa using ew) ⟨rfl, fin⟩) hs
theorem ix_tup : IxR X (rIxT X.K) := by
  intro value slice pins s σ H x y v u Q I rx ry h hs
  obtain ⟨p, xs, i, z, rfl, rfl, hq, he, q⟩ := h
  cases rx
  obtain ⟨t, rfl⟩ := ry
  obtain ⟨its, r, pl, hz⟩ := I.tuple hq
  obtain ⟨j, h1, h2, h3, h4, h5⟩ := atI_get he
  obtain ⟨w, ew, rw'⟩ := r.get h2
  have hl := r.length
  have hn := line63
  have fin : EP X pins σ Q w s := ⟨z, H, I, rw', q⟩
  exact subscriptTail_builtinR (x := w) pl.typeIs slot_tuple_getitem.lookup
    (getItem_tuple (j := j) (Q := fun r s' => r = w ∧ EP X pins σ Q r s') pl (by omega) (by omega) (by rw [List.size_toArray, ← hl]; exact h1) (by simpa using ew) ⟨rfl, fin⟩) hs
/-! ### xs[i] = v, any sign -/
/-- the list's object behind a store -/
theorem mapSeq_set (its : List Value) (n j : Nat) (u : Value) : Obj.mapSeq (·.setIfInBounds j u) { cls := .type "list", data := .seq its.toArray n } = { cls := .type "list", data := .seq (its.set j u).toArray n } := by
  simp [Obj.mapSeq]
theorem Inv.lst {pins : List (Addr × Obj)} {σ : St} {H : Hp} {s : Shared} {p : Addr} {xs : List V} (I : Inv X pins σ H s) (h : H p = some (.lst xs)) :
    ∃ (its : List Value) (n : Nat), Vals xs its ∧ s.heap.get? p = some { cls := .type "list", data := .seq its.toArray n } ∧ xs.length ≤ sizeLine := by
  obtain ⟨z, its, n, r, e⟩ := I.hok p _ h
  exact ⟨its, n, r, e, z⟩
/-- the list at p is written by an update of its object -/
theorem Inv.lstUpd {pins : List (Addr × Obj)} {σ : St} {H : Hp} {s : Shared} {p : Addr} {xs ys : List V} {its its' : List Value} {n n' : Nat} {f : Obj → Obj} (I : Inv X pins σ H s) (h : H p = some (.lst xs))
    (ho : s.heap.get? p = some { cls := .type "list", data := .seq its.toArray n }) (hf : f { cls := .type "list", data := .seq its.toArray n } = { cls := .type "list", data := .seq its'.toArray n' }) (r : Vals ys its') (hz : ys.length ≤ sizeLine) (t : Nat) :
    Inv X pins σ (upd H p (.lst ys)) { s with heap := s.heap.update p f, toks := t } := by
  have e : (s.heap.update p f).get? p = some { cls := .type "list", data := .seq its'.toArray n' } := by
    rw [Heap.get?_update_self f ho (by rw [hf] <;> rfl), hf]
  refine I.write (x := p) (e := p) (by rw [h]; trivial) (.inl rfl) (fun b u hb q => (Heap.get?_update_other _ _ (Ne.symm hb)).trans q) ⟨_, e⟩ ?_
  exact ⟨hz, its', n', r, e⟩
def rSetL : V → V → V → Hp → (Hp → Prop) → Prop := fun o i v H Q => ∃ p xs k j, o = .ref p ∧ i = .int k ∧ H p = some (.lst xs) ∧ ixN xs.length k = some j ∧ Q (upd H p (.lst (xs.set j v)))
theorem set_list : PSet X rSetL := by
  intro pins s σ H o i v ov iv u Q I ro ri rv h
  obtain ⟨p, xs, k, j, rfl, rfl, hp, hj, q⟩ := h
  cases ro
  obtain ⟨t, rfl⟩ := ri
  obtain ⟨its, n, r, ho, hz⟩ := I.lst hp
  obtain ⟨h1, h2, h3, h4⟩ := ixN_seq hj
  have hl := r.length
  have hn := line63
  have I' : Inv X pins σ (upd H p (.lst (xs.set j v))) { s with heap := s.heap.update p (Obj.mapSeq (·.setIfInBounds j u)) } :=
    I.lstUpd hp ho (mapSeq_set its n j u) (r.set rv j) (by rw [List.length_set]; exact hz) s.toks
  by_cases h0 : 0 ≤ k
  · have hk : k.toNat = j := by
      rw [seqIndex_of h0 h4] at h1
      exact Option.some.inj h1
    exact PySem.W.ki_setAt ho h0 (by omega) (by rw [List.size_toArray, ← hl]; exact h4) (by rw [hk]; exact ⟨_, I', q⟩)
  · have hk : (k + (its.toArray.size : Int)).toNat = j := by
      rw [seqIndex_neg (by omega) h3] at h1
      rw [List.size_toArray, ← hl]
      exact Option.some.inj h1
    exact PySem.W.ki_setBack ho (by omega) (by rw [List.size_toArray, ← hl]; exact h3) (by omega) (by rw [hk]; exact ⟨_, I', q⟩)

/-! ### slices -/
/-! ### in, not in: flat items -/
def flatV : V → Bool
  | .non => true
  | .bl _ => true
  | .int _ => true
  | .str _ => true
  | _ => false
/-- == of flat values -/
def eqV : V → V → Bool
  | .non, .non => true
  | .bl a, .bl b => a == b
  | .bl a, .int b => (if a then 1 else 0) == b
  | .int a, .bl b => a == (if b then 1 else 0)
  | .int a, .int b => a == b
  | .str a, .str b => a == b
  | _, _ => false
theorem eqAt_V {A : Around} {s : Shared} {y x : V} {u v : Value} (ry : RelV y u) (rx : RelV x v) (fy : flatV y = true) (fx : flatV x = true) : SeqAt.EqAt A s u v (eqV y x) := by
  cases y with
  | non =>
    cases ry
    cases x with
    | non => cases rx; exact SeqAt.EqAt.same _
    | bl b => cases rx; exact SeqAt.EqAt.none_bool b
    | int b => obtain ⟨t, rfl⟩ := rx; exact SeqAt.EqAt.none_int b t
    | str b => obtain ⟨t, rfl⟩ := rx; exact SeqAt.EqAt.none_str b t
    | _ => exact absurd (show false = true from fx) Bool.false_ne_true
  | bl a =>
    cases ry
    cases x with
    | non => cases rx; exact SeqAt.EqAt.bool_none a
    | bl b => cases rx; exact SeqAt.EqAt.bool_bool a b
    | int b => obtain ⟨t, rfl⟩ := rx; exact SeqAt.EqAt.bool_int a b t
    | str b => obtain ⟨t, rfl⟩ := rx; exact SeqAt.EqAt.bool_str a b t
    | _ => exact absurd (show false = true from fx) Bool.false_ne_true
  | int a =>
    obtain ⟨t', rfl⟩ := ry
    cases x with
    | non => cases rx; exact SeqAt.EqAt.int_none a t'
    | bl b => cases rx; exact SeqAt.EqAt.int_bool a t' b
    | int b => obtain ⟨t, rfl⟩ := rx; exact SeqAt.EqAt.int_int a t' b t
    | str b => obtain ⟨t, rfl⟩ := rx; exact SeqAt.EqAt.int_str a t' b t
    | _ => exact absurd (show false = true from fx) Bool.false_ne_true
  | str a =>
    obtain ⟨t', rfl⟩ := ry
    cases x with
    | non => cases rx; exact SeqAt.EqAt.str_none a t'
    | bl b => cases rx; exact SeqAt.EqAt.str_bool a t' b
    | int b => obtain ⟨t, rfl⟩ := rx; exact SeqAt.EqAt.str_int a t' b t
    | str b => obtain ⟨t, rfl⟩ := rx; exact SeqAt.EqAt.str_str a t' b t
    | _ => exact absurd (show false = true from fx) Bool.false_ne_true
  | _ => exact absurd (show false = true from fy) Bool.false_ne_true
/-- the items' answers, read off the values (a value's own answer does not lean on its token) -/
def eqU (x : V) (u : Value) : Bool := match u with
  | .none => eqV .non x
  | .bool b => eqV (.bl b) x
  | .int i _ => eqV (.int i) x
  | .str z _ => eqV (.str z) x
  | _ => false
theorem eqU_of {x y : V} {u : Value} (r : RelV y u) (f : flatV y = true) : eqU x u = eqV y x := by
  cases y with
  | non => cases r; rfl
  | bl b => cases r; rfl
  | int i => obtain ⟨t, rfl⟩ := r; rfl
  | str z => obtain ⟨t, rfl⟩ := r; rfl
  | _ => exact absurd (show false = true from f) Bool.false_ne_true
theorem any_eqU {x : V} : ∀ {xs : List V} {us : List Value}, Vals xs us → xs.all flatV = true → us.any (eqU x) = xs.any fun y => eqV y x
  | _, _, .nil, _ => rfl
  | y :: xs, u :: us, .cons r t, f => by
    rw [List.all_cons, Bool.and_eq_true] at f
    rw [List.any_cons, List.any_cons, eqU_of r f.1, any_eqU t f.2]
theorem mem_eqAt {A : Around} {s : Shared} {x : V} {v : Value} (rx : RelV x v) (fx : flatV x = true) : ∀ {xs : List V} {us : List Value}, Vals xs us → xs.all flatV = true → ∀ u ∈ us, SeqAt.EqAt A s u v (eqU x u)
  | _, _, .nil, _ => fun u hu => by cases hu
  | y :: xs, u :: us, .cons r t, f => fun u' hu => by
    rw [List.all_cons, Bool.and_eq_true] at f
    rcases List.mem_cons.mp hu with rfl | hu
    · rw [eqU_of r f.1]; exact eqAt_V r rx f.1 fx
    · exact mem_eqAt rx fx t f.2 u' hu
def inV (x : V) (xs : List V) : Bool := xs.any fun y => eqV y x
/-- x in a list or tuple of flat items -/
def rIn (K : PySem.W.Frag) (neg : Bool) : R2 := fun x y H Q => ∃ p xs, y = .ref p ∧ (SqL K H p xs ∨ SqT K H p xs) ∧ flatV x = true ∧ xs.all flatV = true ∧ Q (.bl (if neg then !inV x xs else inV x xs)) H
theorem op_in_seq : OpR X (compareOp .In) (rIn X.K false) := by
  intro pins s σ H x y v u Q I rx ry h
  obtain ⟨p, xs, rfl, hq, fx, fs, q⟩ := h
  cases ry
  rcases hq with hq | hq
  · obtain ⟨its, r, pl, hz⟩ := I.list hq
    refine SeqAt.in_listAt (eqU x) pl.isList (fun w hw => mem_eqAt rx fx r fs w (by simpa using hw)) ⟨.bl _, H, I, rfl, ?_⟩
    rw [show its.toArray.any (eqU x) = its.any (eqU x) by simp, any_eqU r fs]
    exact q
  · obtain ⟨its, r, pl, hz⟩ := I.tuple hq
    refine SeqAt.in_tupleAt (eqU x) pl (fun w hw => mem_eqAt rx fx r fs w (by simpa using hw)) ⟨.bl _, H, I, rfl, ?_⟩
    rw [show its.toArray.any (eqU x) = its.any (eqU x) by simp, any_eqU r fs]
    exact q
/-! ### len, list(x), tuple(x) of any list or tuple that is read -/
theorem call_len_seq : CallR X (.builtin "len") (fun xs H Q => ∃ p ys, xs = [.ref p] ∧ (SqL X.K H p ys ∨ SqT X.K H p ys) ∧ Q (.int ys.length) H) := by
  intro pins s σ H xs us Q I r h
  obtain ⟨p, ys, rfl, hq, q⟩ := h
  obtain ⟨u, rfl, rx⟩ := vals1 r
  cases rx
  have hn := line63
  rcases hq with hq | hq
  · obtain ⟨its, r', pl, hz⟩ := I.list hq
    have hlen := r'.length
    exact Calls.call_len_list pl.isList (by simp only [List.size_toArray] <;> omega) ⟨.int ys.length, H, I.tok _, ⟨s.toks + 1, by rw [List.size_toArray, hlen]⟩, q⟩
  · obtain ⟨its, r', pl, hz⟩ := I.tuple hq
    have hlen := r'.length
    exact len_tuple pl (by simp only [List.size_toArray] <;> omega) ⟨.int ys.length, H, I.tok _, ⟨s.toks + 1, by rw [List.size_toArray, hlen]⟩, q⟩
theorem CallR.or {f : Value} {r r' : List V → Hp → VK → Prop} (h : CallR X f r) (h' : CallR X f r') : CallR X f (fun xs H Q => r xs H Q ∨ r' xs H Q) := by
  intro pins s σ H xs us Q I rs q
  rcases q with q | q
  · exact h pins s σ H xs us Q I rs q
  · exact h' pins s σ H xs us Q I rs q
/-! ### the call of a builtin's method: o.m(..) -/
variable {o e : Expr} {es : List Expr} {to : TE} {t : TA} {name : Str} {apos cpos : Pos} {T id : String} {r : V → List V → Hp → VK → Prop}
end
end L2

namespace L2
open PySem PySem.Spec PyProof.Rows

/-! ### lists of values -/
theorem Vals.one : ∀ {x : V} {us : List Value}, Vals [x] us → ∃ u, us = [u] ∧ RelV x u
  | _, _, .cons r .nil => ⟨_, rfl, r⟩
theorem Vals.two : ∀ {x y : V} {us : List Value}, Vals [x, y] us → ∃ u v, us = [u, v] ∧ RelV x u ∧ RelV y v
  | _, _, _, .cons r (.cons q .nil) => ⟨_, _, rfl, r, q⟩
theorem Vals.zero : ∀ {us : List Value}, Vals [] us → us = []
  | _, .nil => rfl
theorem Vals.rep {xs : List V} {us : List Value} (h : Vals xs us) : ∀ k : Nat, Vals (List.replicate k xs).flatten (List.replicate k us).flatten
  | 0 => .nil
  | k + 1 => by
    rw [List.replicate_succ, List.replicate_succ, List.flatten_cons, List.flatten_cons]
    exact Vals.append h (Vals.rep h k)
theorem foldl_rep (its : List Value) : ∀ (k : Nat) (acc : List Value),
    List.foldl (fun x1 x2 => x1 ++ x2) acc.toArray (List.replicate k its.toArray) = (acc ++ (List.replicate k its).flatten).toArray
  | 0, acc => by simp
  | k + 1, acc => by
    have e : acc.toArray ++ its.toArray = (acc ++ its).toArray := by simp
    have e2 : (acc ++ its) ++ (List.replicate k its).flatten = acc ++ (List.replicate (k + 1) its).flatten := by
      rw [List.replicate_succ, List.flatten_cons, List.append_assoc]
    rw [← e2, ← foldl_rep its k (acc ++ its), ← e, List.replicate_succ, List.foldl_cons]

section
variable {X : Cx} {pins : List (Addr × Obj)} {σ : St} {H : Hp} {s : Shared} {l b : Addr} {xs ys zs : List V}

/-! ### the two steps: a tracked list is rewritten, a new list is laid -/
theorem Inv.lnew {its : List Value} {t' : Nat} (I : Inv X pins σ H s) (hv : Vals ys its) (hz : ys.length ≤ sizeLine) :
    Inv X pins σ (upd H s.heap.objs.size (.lst ys)) { s with heap := s.heap.push { cls := .type "list", data := .seq its.toArray }, toks := t' } :=
  I.laid (fun _ _ q => Heap.get?_push_of_some _ q) (Nat.le_refl _) ⟨hz, its, 0, hv, Heap.get?_push_size _ rfl⟩
theorem Inv.fresh (I : Inv X pins σ H s) : H s.heap.objs.size = none := I.hok.fresh (Nat.le_refl _)
theorem Inv.lstM (I : Inv X pins σ H s) (hH : H l = some (.lst xs)) : xs.length ≤ sizeLine ∧ ∃ (its : List Value) (n : Nat), Vals xs its ∧ xs.length = its.length ∧ s.heap.get? l = some { cls := .type "list", data := .seq its.toArray n } := by
  obtain ⟨z, its, n, r, e⟩ := I.hok l _ hH
  exact ⟨z, its, n, r, r.length, e⟩

theorem notLongL {n : Nat} (h : n ≤ sizeLine) : Builtin.List.listTooLong n = false := by
  unfold Builtin.List.listTooLong
  exact decide_eq_false (by omega)
end

section
variable {X : Cx}

/-! ### methods -/
/-! ### list + list, list += list, list * int -/
/-- a list times an int (a negative one is nothing) -/
def rRep : R2 := fun x y H Q => ∃ l k xs, x = .ref l ∧ y = .int k ∧ H l = some (.lst xs) ∧ -(2 ^ 63) ≤ k ∧ k < 2 ^ 63 ∧ xs.length * k.toNat ≤ sizeLine ∧
  ∀ p, H p = none → Q (.ref p) (upd H p (.lst (List.replicate k.toNat xs).flatten))
theorem len_rep {α : Type} (xs : List α) (k : Nat) : (List.replicate k xs).flatten.length = k * xs.length := by
  induction k with
  | zero => simp
  | succ k ih => rw [List.replicate_succ, List.flatten_cons, List.length_append, ih, Nat.succ_mul, Nat.add_comm]
theorem op_rep : OpR X (binaryOp .Mult) rRep := by
  intro pins s σ H x y v u Q I rx ry h
  obtain ⟨l, k, xs, rfl, rfl, hH, h1, h2, hz, q⟩ := h
  cases rx
  obtain ⟨t, rfl⟩ := ry
  obtain ⟨z, its, n, r, hl, e⟩ := I.lstM hH
  have hlen : its.toArray.size * k.toNat ≤ sizeLine := by rw [List.size_toArray, ← hl]; exact hz
  have hcap : ¬ its.toArray.size * k.toNat > (2 ^ 63 - 1) / 8 := by
    have : (sizeLine : Nat) ≤ (2 ^ 63 - 1) / 8 := by decide
    omega
  have hfit : ¬ (!Builtin.List.listFitsIndex k) = true := by
    rw [fitsIndex_both h1 h2]
    exact Bool.false_ne_true
  have hlong : ¬ Builtin.List.listTooLong (its.toArray.size * k.toNat) = true := by
    rw [notLongL hlen]
    exact Bool.false_ne_true
  have hnew : List.foldl (fun x1 x2 => x1 ++ x2) #[] (List.replicate (if its.toArray.isEmpty = true then 0 else k.toNat) its.toArray) = (List.replicate k.toNat its).flatten.toArray := by
    have f0 : ∀ m : Nat, List.foldl (fun x1 x2 => x1 ++ x2) #[] (List.replicate m its.toArray) = (List.replicate m its).flatten.toArray := fun m => by
      have := foldl_rep its m []
      rw [List.nil_append] at this
      exact this
    rw [f0]
    cases its with
    | nil => simp
    | cons a r' => rw [if_neg (by simp)]
  refine wpAny_binaryOp_repeat_ref (T := "list") (U := "int") (by decide) ⟨_, e, rfl⟩ (fun s' => typeIs_int s' k t) noFill_list_mul F.fills_int_mul F.slot_int_rmul repeat_list F.slot_int_index.lookup
    (call_meets F.slot_int_rmul (typeIs_int s k t) F.entry_int_rmul (F.args_int_rmul_2 _ _) (int___rmul___int_list k t l its.toArray n)
      ⟨e, rfl, ⟨_, e, rfl⟩, call_meets F.slot_list_mul ⟨_, e, rfl⟩ F.entry_list_mul (F.args_list_mul_2 _ _) (AutoListH.list___mul___list_int_3 l its.toArray n k t hfit hcap hlong) ⟨e, ?_⟩⟩)
  rw [hnew]
  exact ⟨.ref _, _, I.lnew (t' := s.toks) (r.rep k.toNat) (by rw [len_rep, Nat.mul_comm]; exact hz), rfl, q _ I.fresh⟩

/-! ### del xs[i] -/
end

/-! ### xs[a:b] = ys -/
section
variable {prog : Program} {w : World} {A : Around} {E : Value → Shared → Prop} {s : Shared}
set_option maxRecDepth 100000 in
end

section
variable {X : Cx}
end
end L2

namespace L2
open PySem PySem.Spec PyProof.Rows

/-! ### lists of pairs as tables -/
section
variable {κ : Type} [DecidableEq κ]
def valV (kvs : List (κ × V)) (k : κ) : Option V := (kvs.find? fun kv => decide (kv.1 = k)).map (·.2)
/-- in its place, or at the end -/
def putK (kvs : List (κ × V)) (k : κ) (v : V) : List (κ × V) :=
  if (kvs.any fun kv => decide (kv.1 = k)) = true then kvs.map (fun kv => if kv.1 = k then (kv.1, v) else kv) else kvs ++ [(k, v)]
def dropK (kvs : List (κ × V)) (k : κ) : List (κ × V) := kvs.filter fun kv => decide (kv.1 ≠ k)

theorem valV_pos {p : κ × V} {r : List (κ × V)} {k : κ} (e : p.1 = k) : valV (p :: r) k = some p.2 := by simp [valV, List.find?_cons, e]
theorem valV_neg {p : κ × V} {r : List (κ × V)} {k : κ} (e : ¬ p.1 = k) : valV (p :: r) k = valV r k := by simp [valV, List.find?_cons, e]
theorem valV_any (k : κ) : ∀ kvs : List (κ × V), (kvs.any fun kv => decide (kv.1 = k)) = (valV kvs k).isSome
  | [] => rfl
  | p :: r => by
    rw [List.any_cons]
    by_cases e : p.1 = k
    · simp only [valV_pos e, decide_eq_true e, Bool.true_or, Option.isSome_some]
    · rw [valV_neg e, decide_eq_false e, Bool.false_or]; exact valV_any k r
theorem length_putK (kvs : List (κ × V)) (k : κ) (v : V) : (putK kvs k v).length ≤ kvs.length + 1 := by
  unfold putK
  split
  · rw [List.length_map]; omega
  · rw [List.length_append, List.length_cons, List.length_nil]; omega
theorem RelO.isSome_eq {o : Option V} {u : Option Value} (r : RelO o u) : o.isSome = u.isSome := by
  cases o with
  | none => cases u with
    | none => rfl
    | some _ => exact (show False from r).elim
  | some _ => cases u with
    | none => exact (show False from r).elim
    | some _ => rfl
theorem RelO.getD {o : Option V} {u : Option Value} {d : V} {d' : Value} (r : RelO o u) (rd : RelV d d') : RelV (o.getD d) (u.getD d') := by
  cases o with
  | none => cases u with
    | none => exact rd
    | some _ => exact (show False from r).elim
  | some _ => cases u with
    | none => exact (show False from r).elim
    | some _ => exact r

/-- raw tables of the same keys -/
theorem KV.val {kvs : List (κ × V)} {vs : List (κ × Value)} (r : KV kvs vs) (k : κ) : RelO (valV kvs k) (valueAt vs k) := by
  unfold KV at r
  induction r with
  | nil => exact True.intro
  | @cons p q ps qs h t ih =>
    obtain ⟨h1, h2⟩ := h
    by_cases e : p.1 = k
    · have e' : q.1 = k := h1.symm.trans e
      have b : valueAt (q :: qs) k = some q.2 := by simp [valueAt, List.find?_cons, e']
      rw [valV_pos e, b]; exact h2
    · have e' : ¬ q.1 = k := fun z => e (h1.trans z)
      have b : valueAt (q :: qs) k = valueAt qs k := by simp [valueAt, List.find?_cons, e']
      rw [valV_neg e, b]; exact ih
theorem KV.any {kvs : List (κ × V)} {vs : List (κ × Value)} (r : KV kvs vs) (k : κ) : (kvs.any fun kv => decide (kv.1 = k)) = vs.any fun kv => decide (kv.1 = k) := by
  unfold KV at r
  induction r with
  | nil => rfl
  | cons h t ih => rw [List.any_cons, List.any_cons, ih, h.1]
theorem KV.repl {kvs : List (κ × V)} {vs : List (κ × Value)} (r : KV kvs vs) (k : κ) {y : V} {u : Value} (ry : RelV y u) :
    KV (kvs.map fun kv => if kv.1 = k then (kv.1, y) else kv) (vs.map fun kv => if kv.1 = k then (kv.1, u) else kv) := by
  unfold KV at r ⊢
  induction r with
  | nil => exact .nil
  | @cons p q ps qs h t ih =>
    rw [List.map_cons, List.map_cons]
    refine .cons ?_ ih
    obtain ⟨h1, h2⟩ := h
    by_cases e : p.1 = k
    · rw [if_pos e, if_pos (h1.symm.trans e)]; exact ⟨h1, ry⟩
    · rw [if_neg e, if_neg (fun z => e (h1.trans z))]; exact ⟨h1, h2⟩
theorem KV.put {kvs : List (κ × V)} {vs : List (κ × Value)} (r : KV kvs vs) (k : κ) {y : V} {u : Value} (ry : RelV y u) : KV (putK kvs k y) (stored vs k u) := by
  unfold putK stored
  rw [r.any k]
  by_cases e : (vs.any fun kv => decide (kv.1 = k)) = true
  · rw [if_pos e, if_pos e]; exact r.repl k ry
  · rw [if_neg e, if_neg e]; exact Paired.snoc r ⟨rfl, ry⟩
theorem KV.drop {kvs : List (κ × V)} {vs : List (κ × Value)} (r : KV kvs vs) (k : κ) : KV (dropK kvs k) (without vs k) := by
  unfold KV at r ⊢
  unfold dropK without
  induction r with
  | nil => exact .nil
  | @cons p q ps qs h t ih =>
    obtain ⟨h1, h2⟩ := h
    rw [List.filter_cons, List.filter_cons]
    by_cases e : p.1 = k
    · have a : ¬ decide (p.1 ≠ k) = true := by simp [e]
      have b : ¬ decide (q.1 ≠ k) = true := by simp [h1.symm.trans e]
      rw [if_neg a, if_neg b]; exact ih
    · have e' : ¬ q.1 = k := fun z => e (h1.trans z)
      have a : decide (p.1 ≠ k) = true := by simp [e]
      have b : decide (q.1 ≠ k) = true := by simp [e']
      rw [if_pos a, if_pos b]; exact .cons ⟨h1, h2⟩ ih
theorem KV.keys {kvs : List (κ × V)} {vs : List (κ × Value)} (r : KV kvs vs) : kvs.map (·.1) = vs.map (·.1) := by
  unfold KV at r
  induction r with
  | nil => rfl
  | cons h t ih => rw [List.map_cons, List.map_cons, ih, h.1]
theorem KV.length {kvs : List (κ × V)} {vs : List (κ × Value)} (r : KV kvs vs) : kvs.length = vs.length := Paired.length r
theorem dropK_le (kvs : List (κ × V)) (k : κ) : (dropK kvs k).length ≤ kvs.length := List.length_filter_le _ _
end


/-! ### a tracked dict, its keys ints and texts or tuples of these -/
theorem kV_is {P : Program} {w : World} {k : Key} {u : Value} (r : RelV (kV k) u) : (mixKind P w).is k u = true := by
  cases k with
  | inl i => obtain ⟨t, e⟩ := (show ∃ t, u = Value.int i t from r); subst e; exact mixKind_int P w i t
  | inr x => obtain ⟨t, e⟩ := (show ∃ t, u = Value.str x t from r); subst e; exact mixKind_str P w x t
theorem items_are {P : Program} {w : World} : ∀ {ks : List Key} {us : List Value}, Vals (ks.map kV) us → ItemsAre (mixKind P w) ks us
  | [], _, r => by rw [List.map_nil] at r; cases r; exact .nil
  | k :: ks, _, r => by
    rw [List.map_cons] at r
    cases r with
    | cons h t => exact .cons (kV_is h) (items_are t)

/-- raw entries of a dict with tuple keys -/
abbrev KT (H : Hp) : List (List Key × V) → List (List Key × Addr × Value) → Prop := Paired fun p q => p.1 = q.1 ∧ H q.2.1 = some (.tup (p.1.map kV)) ∧ RelV p.2 q.2.2
theorem KT.val {H : Hp} {kvs : List (List Key × V)} {xs : List (List Key × Addr × Value)} (r : KT H kvs xs) (k : List Key) : RelO (valV kvs k) ((atKey xs k).map (·.2)) := by
  induction r with
  | nil => exact True.intro
  | @cons p q ps qs h t ih =>
    obtain ⟨h1, _, h2⟩ := h
    by_cases e : p.1 = k
    · have e' : q.1 = k := h1.symm.trans e
      have b : atKey (q :: qs) k = some q.2 := by simp [atKey, List.find?_cons, e']
      rw [valV_pos e, b]; exact h2
    · have e' : ¬ q.1 = k := fun z => e (h1.trans z)
      have b : atKey (q :: qs) k = atKey qs k := by simp [atKey, List.find?_cons, e']
      rw [valV_neg e, b]; exact ih
theorem KT.repl {H : Hp} {kvs : List (List Key × V)} {xs : List (List Key × Addr × Value)} (r : KT H kvs xs) (k : List Key) {y : V} {u : Value} (ry : RelV y u) :
    KT H (kvs.map fun kv => if kv.1 = k then (kv.1, y) else kv) (xs.map (putAt k u)) := by
  induction r with
  | nil => exact .nil
  | @cons p q ps qs h t ih =>
    rw [List.map_cons, List.map_cons]
    refine .cons ?_ ih
    obtain ⟨h1, h2, h3⟩ := h
    unfold putAt
    by_cases e : p.1 = k
    · rw [if_pos e, if_pos (h1.symm.trans e)]; exact ⟨h1, h2, ry⟩
    · rw [if_neg e, if_neg (fun z => e (h1.trans z))]; exact ⟨h1, h2, h3⟩
theorem KT.put {H : Hp} {kvs : List (List Key × V)} {xs : List (List Key × Addr × Value)} (r : KT H kvs xs) (k : List Key) {b : Addr} {y : V} {u : Value} (hb : H b = some (.tup (k.map kV))) (ry : RelV y u) :
    KT H (putK kvs k y) (storedH xs k b u) := by
  have e : (kvs.any fun kv => decide (kv.1 = k)) = (atKey xs k).isSome := by
    rw [valV_any, (r.val k).isSome_eq, Option.isSome_map]
  unfold putK storedH
  rw [e]
  by_cases q : (atKey xs k).isSome = true
  · rw [if_pos q, if_pos q]; exact r.repl k ry
  · rw [if_neg q, if_neg q]; exact Paired.snoc r ⟨rfl, hb, ry⟩
theorem KT.keeps {H H' : Hp} {kvs : List (List Key × V)} {xs : List (List Key × Addr × Value)} (r : KT H kvs xs) (ht : ∀ b ys, H b = some (.tup ys) → H' b = some (.tup ys)) : KT H' kvs xs :=
  Paired.mapP r fun _ _ z => ⟨z.1, ht _ _ z.2.1, z.2.2⟩

section
variable {P : Program} {w : World} {H : Hp} {h : Heap} {a : Addr}
theorem rd_of {u : HO} (ok : HOk P w H h) (e : Rd H a u) : ObjOk P w H h a u := e.ok ok
theorem dk_rd {kvs : List (Key × V)} (ok : HOk P w H h) (e : Rd H a (.dK kvs)) : kvs.length ≤ sizeLine ∧ (a == sysModules) = false ∧ ∃ vs, KV kvs vs ∧ h.DictOf (mixKind P w) a vs :=
  show ObjOk P w H h a (.dK kvs) from rd_of ok e
theorem dk_of {kvs : List (Key × V)} (ok : HOk P w H h) (e : H a = some (.dK kvs)) : kvs.length ≤ sizeLine ∧ (a == sysModules) = false ∧ ∃ vs, KV kvs vs ∧ h.DictOf (mixKind P w) a vs := dk_rd ok (.inl e)
/-- a tracked tuple of ints and texts is a key -/
theorem key_of {ks : List Key} (ok : HOk P w H h) (e : H a = some (.tup (ks.map kV))) : (tupleKind (mixKind P w)).is h ks a := by
  obtain ⟨_, its, r, o, h1, h2, n, h3⟩ := (show ObjOk P w H h a (.tup (ks.map kV)) from ok a _ e)
  exact ⟨o, its.toArray, n, h1, h2, h3, by simpa using items_are r⟩
theorem dt_rd {kvs : List (List Key × V)} (ok : HOk P w H h) (e : Rd H a (.dT kvs)) : kvs.length ≤ sizeLine ∧ (a == sysModules) = false ∧
    ∃ xs, KT H kvs xs ∧ h.DictOfH (tupleKind (mixKind P w)) a xs := by
  obtain ⟨z, y, xs, r, o, es, ep, h1, h2, h3, h4, h5⟩ := (show ObjOk P w H h a (.dT kvs) from rd_of ok e)
  refine ⟨z, y, xs, r, o, es, ep, h1, h2, h3, h4, fun x hx => ?_, h5⟩
  have all : ∀ {l : List (List Key × V)} {m : List (List Key × Addr × Value)}, KT H l m → ∀ x ∈ m, (tupleKind (mixKind P w)).is h x.1 x.2.1 := by
    intro l m q
    induction q with
    | nil => intro x hx; exact nomatch hx
    | @cons p q ps qs hq t ih =>
      intro x hx
      rcases List.mem_cons.mp hx with e | hx
      · subst e
        exact key_of ok (by rw [← hq.1]; exact hq.2.1)
      · exact ih x hx
  exact all r x hx
theorem dt_of {kvs : List (List Key × V)} (ok : HOk P w H h) (e : H a = some (.dT kvs)) : kvs.length ≤ sizeLine ∧ (a == sysModules) = false ∧
    ∃ xs, KT H kvs xs ∧ h.DictOfH (tupleKind (mixKind P w)) a xs := dt_rd ok (.inl e)
end

/-- what the dict at a holds at the key y -/
def DGet (H : Hp) (a : Addr) (y : V) (r : Option V) : Prop :=
  (∃ kvs k, Rd H a (.dK kvs) ∧ y = kV k ∧ r = valV kvs k) ∨ ∃ kvs k b, Rd H a (.dT kvs) ∧ y = .ref b ∧ H b = some (.tup (k.map kV)) ∧ r = valV kvs k
/-- the heap behind a[y] = v -/
def DPut (H : Hp) (a : Addr) (y v : V) (H' : Hp) : Prop :=
  (∃ kvs k, H a = some (.dK kvs) ∧ y = kV k ∧ kvs.length < sizeLine ∧ H' = upd H a (.dK (putK kvs k v))) ∨
  ∃ kvs k b, H a = some (.dT kvs) ∧ y = .ref b ∧ H b = some (.tup (k.map kV)) ∧ kvs.length < sizeLine ∧ H' = upd H a (.dT (putK kvs k v))
theorem DGet.k {H : Hp} {a : Addr} {kvs : List (Key × V)} {k : Key} (e : H a = some (.dK kvs)) : DGet H a (kV k) (valV kvs k) := .inl ⟨kvs, k, .inl e, rfl, rfl⟩
theorem DGet.t {H : Hp} {a b : Addr} {kvs : List (List Key × V)} {k : List Key} (e : H a = some (.dT kvs)) (eb : H b = some (.tup (k.map kV))) : DGet H a (.ref b) (valV kvs k) := .inr ⟨kvs, k, b, .inl e, rfl, eb, rfl⟩
theorem DPut.k {H : Hp} {a : Addr} {kvs : List (Key × V)} {k : Key} {v : V} (e : H a = some (.dK kvs)) (hl : kvs.length < sizeLine) : DPut H a (kV k) v (upd H a (.dK (putK kvs k v))) := .inl ⟨kvs, k, e, rfl, hl, rfl⟩
theorem DPut.t {H : Hp} {a b : Addr} {kvs : List (List Key × V)} {k : List Key} {v : V} (e : H a = some (.dT kvs)) (eb : H b = some (.tup (k.map kV))) (hl : kvs.length < sizeLine) :
    DPut H a (.ref b) v (upd H a (.dT (putK kvs k v))) := .inr ⟨kvs, k, b, e, rfl, eb, hl, rfl⟩


section
variable {X : Cx} {pins : List (Addr × Obj)} {σ : St} {H : Hp} {s : Shared} {a : Addr} {y v : V} {u r : Value} {o : Option V} {A : Around} {E : Value → Shared → Prop}

theorem Inv.big (I : Inv X pins σ H s) : sysModules < s.heap.objs.size := by
  have h : mainGlobals < s.heap.objs.size := (I.mod.glob.keeps I.bk).lt
  exact Nat.lt_trans (by decide) h

/-- y in d -/
theorem d_in {Q : Value → Shared → Prop} (hu : A.units + 1 < cLine) (I : Inv X pins σ H s) (g : DGet H a y o) (ry : RelV y u) (h : ∀ s', Inv X pins σ H s' → Q (.bool o.isSome) s') :
    wpAny (model X.prog X.w) A (compareOp .In u (.ref a)) Q E s := by
  rcases g with ⟨kvs, k, e, ey, l⟩ | ⟨kvs, k, b, e, ey, eb, l⟩
  · subst ey
    obtain ⟨z, hd, vs, rel, dd⟩ := dk_rd I.hok e
    refine wpAny_in_of (kV_is ry) hd dd.mapOf ?_
    rw [← (rel.val k).isSome_eq, ← l]
    exact h _ (I.tok _)
  · subst ey
    cases (show u = Value.ref b from ry)
    obtain ⟨z, hd, xs, rel, dd⟩ := dt_rd I.hok e
    refine wpAny_in_heap (tupleKind_room_in1 hu) (key_of I.hok eb) hd dd ?_
    have q := (rel.val k).isSome_eq
    rw [Option.isSome_map] at q
    rw [← q, ← l]
    exact h _ (I.tok _)
/-- a dict's object is replaced -/
theorem d_write {h' : Heap} {t' : Nat} {ob : HO} (I : Inv X pins σ H s) (mu : Mut (H a)) (hs : Heap.SameBut a s.heap h') (he : ∃ q, h'.get? a = some q) (new : ObjOk X.prog X.w (upd H a ob) h' a ob) :
    Inv X pins σ (upd H a ob) { s with heap := h', toks := t' } :=
  I.write (x := a) (e := a) mu (.inl rfl) (fun b q hb z => (hs.2 b hb).trans z) he new
theorem dk_new {P : Program} {w : World} {H' : Hp} {h' : Heap} {kvs : List (Key × V)} {vs : List (Key × Value)} (z : kvs.length ≤ sizeLine) (hd : (a == sysModules) = false) (rel : KV kvs vs) (dd : h'.DictOf (mixKind P w) a vs) :
    ObjOk P w H' h' a (.dK kvs) := ⟨z, hd, vs, rel, dd⟩
/-- d[y] = v -/
theorem d_setItem {H' : Hp} {Q : Unit → Shared → Prop} (hu : A.units + 1 < cLine) (I : Inv X pins σ H s) (g : DPut H a y v H') (ry : RelV y u) (rv : RelV v r) (h : ∀ s', Inv X pins σ H' s' → Q () s') :
    wpAny (model X.prog X.w) A (setItem (.ref a) u r) Q E s := by
  rcases g with ⟨kvs, k, e, ey, l, eH⟩ | ⟨kvs, k, b, e, ey, eb, l, eH⟩
  · subst ey eH
    obtain ⟨z, hd, vs, rel, dd⟩ := dk_of I.hok e
    have hz : vs.length ≤ sizeLine := by rw [← rel.length]; exact z
    have hl : (putK kvs k v).length ≤ sizeLine := by have := length_putK kvs k v; omega
    refine wpAny_setItem_pairs (hsz := hz) (kV_is ry) dd fun h' dd' hs => h _ ?_
    have he : ∃ q, h'.get? a = some q := let ⟨q, _, _, hq, _⟩ := dd'; ⟨q, hq⟩
    exact d_write I (by rw [e]; exact True.intro) hs he (dk_new hl hd (rel.put k rv) dd')
  · subst ey eH
    cases (show u = Value.ref b from ry)
    obtain ⟨z, hd, xs, rel, dd⟩ := dt_of I.hok e
    have hz : xs.length ≤ sizeLine := by rw [← Paired.length rel]; exact z
    have hl : (putK kvs k v).length ≤ sizeLine := by have := length_putK kvs k v; omega
    refine wpAny_setItem_heap (hsz := hz) (tupleKind_room_in1 hu) (key_of I.hok eb) dd fun h' dd' hs => h _ ?_
    obtain ⟨q, es, ep, hq, h2, h3, h4, _, h5⟩ := dd'
    refine d_write I (by rw [e]; exact True.intro) hs ⟨q, hq⟩ ⟨hl, hd, _, (rel.put k eb rv).keeps fun c ys ec => ?_, q, es, ep, hq, h2, h3, h4, h5⟩
    rw [upd_ne (ne_of ec e (fun z => nomatch z))]
    exact ec
end

section
variable {X : Cx} {pins : List (Addr × Obj)} {σ : St} {H : Hp} {s : Shared} {a : Addr} {kvs : List (Key × V)} {k : Key} {u : Value} {A : Around} {E : Value → Shared → Prop}
/-- d.pop(k[, x]), there -/
theorem d_pop {v : V} {more : List Value} {Q : Value → Shared → Prop} (I : Inv X pins σ H s) (e : H a = some (.dK kvs)) (ry : RelV (kV k) u) (l : valV kvs k = some v) (hm : more = [] ∨ ∃ x, more = [x])
    (h : ∀ w' s', Inv X pins σ (upd H a (.dK (dropK kvs k))) s' → RelV v w' → Q w' s') : wpAny (model X.prog X.w) A (call (.builtin "dict.pop") (.ref a :: u :: more)) Q E s := by
  obtain ⟨z, hd, vs, rel, dd⟩ := dk_of I.hok e
  obtain ⟨w', hw, rw'⟩ := RelO.some_of (v := v) (o := valueAt vs k) (by rw [← l]; exact rel.val k)
  have hp : (keyPart u).isSome = true := by
    cases k with
    | inl i => obtain ⟨t, q⟩ := (show ∃ t, u = Value.int i t from ry); subst q; rfl
    | inr x => obtain ⟨t, q⟩ := (show ∃ t, u = Value.str x t from ry); subst q; rfl
  have ha : argsOk "dict.pop" ⟨.ref a :: u :: more, []⟩ := by
    rcases hm with q | ⟨x, q⟩
    · subst q; exact PySem.F.args_dict_pop_2 _ _
    · subst q; exact PySem.F.args_dict_pop_3 _ _ _
  refine call_meetsIn PySem.F.slot_dict_pop dd.typeIs PySem.F.entry_dict_pop ha (meets_dict_pop_there (mixKind X.prog X.w) a (kV_is ry) more hm hp)
    ⟨vs, w', dd, by rw [← rel.length]; exact z, hw, fun h' dd' hs => h w' _ ?_ rw'⟩
  have he : ∃ q, h'.get? a = some q := let ⟨q, _, _, hq, _⟩ := dd'; ⟨q, hq⟩
  exact d_write I (by rw [e]; exact True.intro) hs he (dk_new (Nat.le_trans (dropK_le kvs k) z) hd (rel.drop k) dd')
end


/-! ### readings and rules -/
section
variable {X : Cx} {o i e value : Expr} {pos pos' tpos : Pos} {td ty tv : TE}
end


/-! ### displays -/
theorem dk_empty {P : Program} {w : World} {H : Hp} (h : Heap) (hb : sysModules < h.objs.size) : ObjOk P w H (h.push { cls := .type "dict", data := .dict #[] }) h.objs.size (.dK []) :=
  ⟨Nat.zero_le _, beq_eq_false_iff_ne.mpr (Ne.symm (Nat.ne_of_lt hb)), [], .nil, Heap.DictOf.new h⟩
/-- {}, to be a dict of the kind that is wanted -/
def tDNewK : TE := fun _ H Q => ∀ p, H p = none → Q (.ref p) (upd H p (.dK []))
section
variable {X : Cx} {pos : Pos}
theorem pe_dnewK : PE X (.Dict [] [] pos) tDNewK := fun pins s σ H Q I h =>
  wpAny_Dict_empty ⟨.ref s.heap.objs.size, _, I.laid (a := s.heap.objs.size) (o := .dK []) (t' := s.toks) (fun _ _ q => Heap.get?_push_of_some _ q) (Nat.le_refl _) (dk_empty s.heap I.big), rfl, h _ (I.hok.fresh (Nat.le_refl _))⟩
end

/-! ### methods -/
/-- a method call o.m(e) of a built-in, with one argument: what must be seen of the text -/
structure M1 (X : Cx) (o : Expr) (m : Str) (apos : Pos) (e : Expr) (cpos : Pos) : Prop where
  base : attributeBase o m X.env (eval o X.env) = eval o X.env
  few : ((backTo cpos (starEach [e] X.env)).all (fun x => !x.1) && (backToKw cpos (keywordEach [] X.env)).all (fun x => x.1.isSome)
    && decide (([e] : List Expr).length + ([] : List Keyword).length + (if ([] : List Keyword).isEmpty then 0 else 1) < 30)) = true
  line : (apos.endLine == cpos.line) = true
  trees : backTo cpos (starEach [e] X.env) = [(false, eval e X.env)]
structure M2 (X : Cx) (o : Expr) (m : Str) (apos : Pos) (e f : Expr) (cpos : Pos) : Prop where
  base : attributeBase o m X.env (eval o X.env) = eval o X.env
  few : ((backTo cpos (starEach [e, f] X.env)).all (fun x => !x.1) && (backToKw cpos (keywordEach [] X.env)).all (fun x => x.1.isSome)
    && decide (([e, f] : List Expr).length + ([] : List Keyword).length + (if ([] : List Keyword).isEmpty then 0 else 1) < 30)) = true
  line : (apos.endLine == cpos.line) = true
  trees : backTo cpos (starEach [e, f] X.env) = [(false, eval e X.env), (false, eval f X.env)]

/-- a is a dict, whatever its keys -/
def IsD (H : Hp) (a : Addr) : Prop := (∃ kvs, Rd H a (.dK kvs)) ∨ ∃ kvs, Rd H a (.dT kvs)
theorem isD_at {X : Cx} {pins : List (Addr × Obj)} {σ : St} {H : Hp} {s : Shared} {a : Addr} (I : Inv X pins σ H s) (d : IsD H a) :
    s.TypeIs (.ref a) "dict" ∧ (∀ b, Value.ref a = .ref b → ∃ ob, s.heap.get? b = some ob ∧ ob.dict = none) ∧ (a == sysModules) = false := by
  rcases d with ⟨kvs, e⟩ | ⟨kvs, e⟩
  · obtain ⟨_, hd, vs, _, dd⟩ := dk_rd I.hok e
    refine ⟨dd.typeIs, fun b q => ?_, hd⟩
    cases q
    obtain ⟨ob, _, _, h1, h2, _⟩ := dd
    exact ⟨ob, h1, h2.2.1⟩
  · obtain ⟨_, hd, xs, _, dd⟩ := dt_rd I.hok e
    refine ⟨dd.typeIs, fun b q => ?_, hd⟩
    cases q
    obtain ⟨ob, _, _, h1, h2, _⟩ := dd
    exact ⟨ob, h1, h2.2.1⟩

section
variable {X : Cx} {pins : List (Addr × Obj)} {σ : St} {H : Hp} {s : Shared} {a : Addr} {y d : V} {u r : Value} {o : Option V} {A : Around} {E : Value → Shared → Prop}
end

section
variable {X : Cx} {o e f : Expr} {apos cpos : Pos} {td ty tx : TE}
end

/-! ### dict(d): a copy -/
section
variable {X : Cx} {pins : List (Addr × Obj)} {σ : St} {H : Hp} {s : Shared} {a : Addr} {kvs : List (Key × V)} {A : Around} {E : Value → Shared → Prop}
end


section
variable {X : Cx} {pins : List (Addr × Obj)} {σ : St} {H : Hp} {s : Shared} {a : Addr} {y : V} {u : Value} {A : Around} {E : Value → Shared → Prop}
end
end L2

namespace Att
open PySem PySem.W PySem.Calls PyProof.Rows

/-! ### the script -/
theorem ints_of_wellAll {P : Params} {h : Heap} : ∀ (ns : List Int) (vs : List Value), WellAll P h vs (ns.map WData.int) → IntsAre vs ns := by
  intro ns
  induction ns with
  | nil =>
    intro vs w
    rw [List.map_nil] at w
    cases w
    exact .nil
  | cons n ns ih =>
    intro vs w
    rw [List.map_cons] at w
    cases w with
    | cons a b =>
      cases a
      exact .cons _ _ (ih _ b)

theorem script_of {l : OpenLaw} {n : Nat} (hn : l.most = some n) {P : Params} {h : Heap} {args : List WData} {vals : List Value}
    (hpre : l.row.toRowW.claim.pre args = true) (hwl : WellAll P h vals args) :
    ∃ a vs ns, vals = [Value.ref a] ∧ args = [WData.list (ns.map WData.int)] ∧ h.get? a = some { cls := .type "list", data := .seq vs.toArray } ∧ IntsAre vs ns ∧ ns.length ≤ n := by
  have hsh : WShape.hasAll [] args [.list .int] = true := (pre_splitW hpre).1
  have hc : l.pre.holds [] { args := args } = true := (pre_splitW hpre).2
  obtain ⟨d, r, rfl, h1, h2⟩ := hasAllW_cons hsh
  obtain rfl := hasAllW_nil h2
  obtain ⟨xs, rfl, h3⟩ := hasW_list h1
  obtain ⟨ns, rfl⟩ := items_int h3
  have hlen : ns.length ≤ n := by
    unfold OpenLaw.pre at hc
    have h4 : (WTm.not (.lt (.lit (.int (n : Int))) (.len (.arg 0)))).holds [] { args := [.list (ns.map .int)] } = true := by
      have h4 := (holds_andW hc).1
      rw [hn] at h4
      exact h4
    have h5 := condW_of h4 (w_not (w_lt w_lit (w_len_list (w_arg rfl))))
    rw [List.length_map] at h5
    refine Nat.le_of_not_lt fun q => ?_
    have q' : (n : Int) < ((ns.length : Nat) : Int) := by omega
    first
      | (rw [decide_eq_true q'] at h5; exact absurd h5 (by decide))
      | (simp at h5; omega)
  cases hwl with
  | cons w1 w2 =>
    cases w2
    cases w1 with
    | list ho hall => exact ⟨_, _, ns, rfl, rfl, ho, ints_of_wellAll ns _ hall, hlen⟩

theorem post_true (l : OpenLaw) (args : List WData) : l.row.toRowW.claim.post args (.bool true) args = true :=
  postW_of (r := l.row.toRowW) (X := (true == true))
    (show WShape.has [] (.bool true) .bool = true by first | rfl | decide | simp [WShape.has, WShape.arms, WShape.armsAll])
    (show (WTm.eq .res (.lit (.bool true))).value [] { args := args, res := some (.bool true), after := args } = some (.bool (true == true)) from w_eq_bool (w_res rfl) w_lit) rfl

/-! ### the attachment: holds_open's last premise (the goal 'hc' behind k_head) from a wpAny of the law's body -/
/-- the same from a codeAny of the CALL (for a layer whose function contracts speak of calls) -/
theorem attach_call {l : OpenLaw} {n : Nat} {q : Program} {loose : List Str} {XP : (Str → Option Value) → Heap → Prop} {YP : World → Heap → Prop} {d : DefRec}
    (hn : l.most = some n) (hdf : d.params.defaults = [])
    (call : ∀ (w : World) (s₀ s₁ : Shared) (mg mb : Str → Option Value) (fa : Addr) (o : Obj) (pm cd doc : Value) (a : Addr) (vs : List Value) (ns : List Int),
      Ground q loose [] XP w s₀ mg mb s₁.heap → YP w s₁.heap →
      s₁.heap.get? fa = some o → o.data = .func (docDef d.name d.params d.body d.scope pm cd doc) → s₁.heap.CodeRec cd d.name → mg d.name = some (.ref fa) →
      s₁.heap.get? a = some { cls := .type "list", data := .seq vs.toArray } → IntsAre vs ns → ns.length ≤ n → s₁.gens = #[] →
      codeAny (model l.prog w) callerA (.call (.ref fa) ⟨[.ref a], []⟩) (fun r s' => r = .ok (.ret (.bool true)) ∧ OldK s₁.heap s'.heap ∧ s'.os = s₁.os ∧ AllBare s'.gens) s₁) :
    WalkO q loose XP YP l.row.toRowW d [] (fun f vs => PySem.call f vs) := by
  intro w s₀ s₁ mg mb G Y fa o pm cd doc dV kV ho hd hcd hD hmg hg args vals as hpre hlay hrd hwl hlo
  obtain rfl : dV = .none := Dflts.none hD hdf
  obtain rfl : kV = .none := Dflts.noKw hD
  obtain ⟨a, vs, ns, rfl, rfl, hobj, hints, hlen⟩ := script_of hn hpre hwl
  refine enter_call (codeAny_mono (call w s₀ s₁ mg mb fa o pm cd doc a vs ns G Y ho (fd_plain hd) hcd hmg hobj hints hlen hg) fun r s' hq => ?_)
  obtain ⟨rfl, h2, h3, h4⟩ := hq
  exact ⟨.inl ⟨.bool true, .bool true, [], rfl, fun _ => rfl, .bool true, post_true l _, fun _ => ⟨List.Pairwise.nil, fun _ hm => (nomatch hm)⟩⟩, h2, h3, h4⟩

/-! ### rules over ANY heap (no ledger) from facts about the written part K: the library's own take a ledger (News) for what they write -/
section
variable {prog : Program} {w : World} {A : Around} {E : Value → Shared → Prop} {s : Shared} {K : Frag}

/-! the whole heap as the ledger: makes every rule that writes through a ledger a rule over any heap -/
def ledger (h : Heap) (L d : Addr) : List (Addr × Obj) := (List.range h.objs.size).filterMap fun a => if a = L ∨ a = d then none else (h.get? a).map fun o => (a, o)
end
end Att

namespace L2
open PySem PySem.Spec PyProof.Rows

theorem vals_ints : ∀ {vs : List Value} {ns : List Int}, IntsAre vs ns → Vals (ns.map V.int) vs
  | _, _, .nil => .nil
  | _, _, .cons n t h => .cons ⟨t, rfl⟩ (vals_ints h)

/-- nothing is tracked but the script, known to the object (or it is an object of the module) -/
def Only (H : Hp) : Prop := ∀ b, H b = none ∨ ∃ o xs, H b = some (.frz o (.lst xs))

/-- THE HEAD: the law's promise, at the heap behind the top. F, the promise of the law's def, may use that base is part of the heap (so K.In base, base.Ns mainGlobals mg stand in Mod) -/
theorem law_call {P : Program} {w : World} {K : PySem.W.Frag} {mg mb : Str → Option Value} {CX : CXT} {ca : Bool} {k : Nat} {fa a : Addr} {fd : FuncData} {x : Str} {sp : Sp} {s₁ : Shared} {vs : List Value} {ns : List Int}
    (KX : K.In s₁.heap) (hns : s₁.heap.Ns mainGlobals mg) (hb : s₁.heap.Ns builtinsNs mb) (hbb : ∀ x : Str, x ≠ "__name__" → mb x = bootBuiltins x) (hlim : s₁.heap.NoLimit) (hg : s₁.gens = #[])
    (ha : s₁.heap.get? a = some { cls := .type "list", data := .seq vs.toArray }) (hi : IntsAre vs ns) (hl : ns.length ≤ sizeLine) (hr : Room ca k callerA)
    (F : ∀ base : Heap, K.In base → base.Ns mainGlobals mg → FnOk P w K mg base CX ca k fa fd [x] sp) (hbind : ∀ (s : Shared) (u : Value), BindsTo s fd ⟨[u], []⟩ [(x, u)])
    (hsp : ∀ H : Hp, Only H → SqL K H a (ns.map V.int) → sp [.ref a] H (fun v _ => v = .bl true) fun _ _ _ => False)
    (hCX : ∀ H e s', CX [] H s₁ (fun _ _ _ => False) e s' → False) :
    codeAny (model P w) callerA (.call (.ref fa) ⟨[.ref a], []⟩) (fun r s' => r = .ok (.ret (.bool true)) ∧ OldK s₁.heap s'.heap ∧ s'.os = s₁.os ∧ AllBare s'.gens) s₁ := by
  have rv := vals_ints hi
  have lenV := hi.length
  -- from an abstract heap in which nothing but the script may be tracked
  have core : ∀ H : Hp, Only H → SqL K H a (ns.map V.int) → HOk P w H s₁.heap → (∀ b, H b ≠ none → b = a) → (H a ≠ none → K.lookup a = none) →
      codeAny (model P w) callerA (.call (.ref fa) ⟨[.ref a], []⟩) (fun r s' => r = .ok (.ret (.bool true)) ∧ OldK s₁.heap s'.heap ∧ s'.os = s₁.os ∧ AllBare s'.gens) s₁ := by
    intro H hO hS hok hA hK
    have base_of : ∀ {b : Addr} {o : Obj}, s₁.heap.get? b = some o → H b = none → (hidT s₁.heap H).get? b = some o := fun e n => hidT_get e n
    have noA : ∀ {b : Addr} {o : Obj} {es : Array DictEntry} {ep : Nat}, s₁.heap.get? b = some o → o.data = .dict es ep → H b = none := fun {b o es ep} e d => by
      cases q : H b with
      | none => rfl
      | some u =>
        have e' : b = a := hA b (by rw [q]; simp)
        subst e'
        rw [ha] at e; cases e
        have d' : Data.seq vs.toArray _ = Data.dict es ep := d
        cases d'
    have nsK : ∀ {b : Addr} {m : Str → Option Value}, s₁.heap.Ns b m → (hidT s₁.heap H).Ns b m := fun {b m} ⟨o, es, ep, e, d, r⟩ => ⟨o, es, ep, base_of e (noA e d), d, r⟩
    have hKb : K.In (hidT s₁.heap H) := fun b o e => base_of (KX b o e) (by
      cases q : H b with
      | none => rfl
      | some u =>
        have e' : b = a := hA b (by rw [q]; simp)
        subst e'
        rw [hK (by rw [q]; simp)] at e; cases e)
    have hM : Mod K mg (hidT s₁.heap H) := ⟨hKb, nsK hns, ⟨mb, nsK hb, hbb⟩, let ⟨mc, h1, h2⟩ := hlim; ⟨mc, nsK h1, h2⟩⟩
    have e0 : Env0 P w K mg (hidT s₁.heap H) callerA [] s₁ H := ⟨rfl, hM, fun b o e => of_hidT e, Nat.le_of_eq (hidT_size _ _), trivial, fun b hb => absurd (show b ∈ ([] : List Addr) from hb) (by simp), hok, .of_eq hg⟩
    refine codeAny_mono ((F _ hKb (nsK hns)).run callerA [] s₁ H ⟨[.ref a], []⟩ [.ref a] [.ref a] _ _ hr e0 (hbind s₁ (.ref a)) (.cons rfl .nil) (hsp H hO hS)) fun r s' h => ?_
    cases r with
    | error e => exact (hCX H e s' h).elim
    | ok fl =>
      cases fl with
      | next => exact False.elim h
      | brk => exact False.elim h
      | cont => exact False.elim h
      | ret u =>
        obtain ⟨v, H', os, bare, un, hok', r', q⟩ := h
        have q' : v = .bl true := q
        subst q'
        obtain rfl : u = Value.bool true := r'
        refine ⟨rfl, OldK.of_keep fun b o e => ?_, os, bare⟩
        cases q : H b with
        | none => exact un.keep b o e q (by intro z; exact absurd (show b ∈ ([] : List Addr) from z) (by simp)) (by simp)
        | some u =>
          rcases hO b with z | ⟨ob, xs, z⟩
          · rw [q] at z; cases z
          · have z2 := un.frzs b ob _ z
            obtain ⟨e1, _⟩ := hok b _ z
            obtain ⟨e2, _⟩ := hok' b _ z2
            rw [e] at e1; cases e1
            exact e2
  cases hk : K.lookup a with
  | some o =>
    -- the script is one of the module's own objects
    have e := KX a o hk
    rw [ha] at e
    cases e
    refine core (fun _ => none) (fun _ => .inl rfl) (.inr ⟨_, vs.toArray, _, hk, rfl, rfl, rfl, by rw [List.size_toArray, lenV]; exact hl, by simpa using rv⟩) (fun b u z => by have z' : (none : Option HO) = some u := z; cases z') (fun b z => absurd rfl z) fun z => absurd rfl z
  | none =>
    refine core (fun b => if b = a then some (.frz { cls := .type "list", data := .seq vs.toArray } (.lst (ns.map V.int))) else none) (fun b => ?_) (.inl (.inr ⟨{ cls := .type "list", data := .seq vs.toArray }, if_pos rfl⟩)) (fun b u z => ?_) (fun b z => ?_) fun _ => hk
    · by_cases hb : b = a
      · exact .inr ⟨_, _, if_pos hb⟩
      · exact .inl (if_neg hb)
    · by_cases hb : b = a
      · have z' := (if_pos hb).symm.trans z
        cases z'
        subst hb
        exact ⟨ha, by rw [List.length_map]; exact hl, vs, _, rv, ha⟩
      · have z' := (if_neg hb).symm.trans z
        cases z'
    · by_cases hb : b = a
      · exact hb
      · exact absurd (if_neg hb) z
end L2

namespace L2
open PySem PySem.Spec PyProof.Rows

/-- the goal that k_head leaves (case hc), from the law's promise. F gives the function object fd (K's own) once, then the promise over every base -/
theorem walk_of {l : PySem.W.OpenLaw} {n k : Nat} {q : Program} {loose : List Str} {XP : (Str → Option Value) → Heap → Prop} {YP : World → Heap → Prop} {d : DefRec} {K : Params → PySem.W.Frag} {CX : World → CXT} {ca : Bool} {sp : World → Sp} {x : Str}
    (hn : l.most = some n) (hn2 : n ≤ sizeLine) (hdf : d.params.defaults = []) (hr : Room ca k callerA)
    (hY : ∀ (w : World) (h : Heap), YP w h → (K w.params).In h)
    (F : ∀ (w : World) (mg : Str → Option Value) (fa : Addr) (h : Heap), (K w.params).In h → h.Ns mainGlobals mg → mg d.name = some (.ref fa) →
      ∃ fd : FuncData, (∀ (s : Shared) (u : Value), BindsTo s fd ⟨[u], []⟩ [(x, u)]) ∧
        ∀ base : Heap, (K w.params).In base → base.Ns mainGlobals mg → FnOk l.prog w (K w.params) mg base (CX w) ca k fa fd [x] (sp w))
    (hsp : ∀ (w : World) (H : Hp) (a : Addr) (ns : List Int), ns.length ≤ n → Only H → SqL (K w.params) H a (ns.map V.int) → sp w [.ref a] H (fun v _ => v = .bl true) fun _ _ _ => False)
    (hCX : ∀ (w : World) (H : Hp) (s : Shared) (e : Value) (s' : Shared), CX w [] H s (fun _ _ _ => False) e s' → False) :
    PySem.W.WalkO q loose XP YP l.row.toRowW d [] (fun f vs => PySem.call f vs) := by
  refine Att.attach_call hn hdf fun w s₀ s₁ mg mb fa o pm cd doc a vs ns G Y ho hd hcd hmg hobj hints hlen hg => ?_
  have KX := hY w _ Y
  obtain ⟨fd, hb, hF⟩ := F w mg fa _ KX G.T.g hmg
  exact law_call KX G.T.g G.T.b G.T.builtins G.T.nolimit hg hobj hints (Nat.le_trans hlen hn2) hr hF hb (fun H hO hS => hsp w H a ns hlen hO hS) fun H e s' => hCX w H s₁ e s'
end L2



/-! SHORT WORDS over the layer: a def of the text, its body, what a loop and a test want. -/
namespace L2
open PySem PySem.Spec PyProof.Rows

/-! ### the text by places -/
/-- the j-th statement of a class's body -/
def inClass (s : Stmt) (j : Nat) : Stmt := match s with
  | .ClassDef _ _ _ body _ _ _ _ _ _ _ => body.getD j (.Pass ⟨0, 0, 0, 0⟩)
  | _ => .Pass ⟨0, 0, 0, 0⟩
def defArgs (s : Stmt) : Arguments := match s with
  | .FunctionDef _ a _ _ _ _ _ _ _ _ => a
  | _ => { posonlyargs := [], args := [], vararg := none, kwonlyargs := [], kw_defaults := [], kwarg := none, defaults := [] }
def defBody (s : Stmt) : List Stmt := match s with
  | .FunctionDef _ _ b _ _ _ _ _ _ _ => b
  | _ => []
def defScope (s : Stmt) : Scope := match s with
  | .FunctionDef _ _ _ _ _ _ sc _ _ _ => sc
  | _ => { kind := .function, names := [], isGenerator := false, isCoroutine := false }

/-! ### no exception leaves a def -/
abbrev CX0 : CXT := fun _ _ _ _ _ _ => False
abbrev E0 : XK := fun _ _ _ => False
/-! ### a def (or method) of the text as it stands behind the top -/
structure Fun (K : PySem.W.Frag) (x qual : Str) (st : Stmt) (f : Addr) (fd : FuncData) : Prop where
  ex : ∃ (oc : Value) (od : Option Addr) (kV doc pm : Value) (an : Option Addr) (cdv ct : Value) (osl : Array (Option Value)),
    fd = PySem.W.fnOf x qual (defArgs st) (defBody st) (defScope st) .none kV doc pm an cdv ct ∧ K.lookup f = some ⟨oc, od, .func fd, osl⟩ ∧ PySem.W.codeIn K cdv qual = true
  kp : PySem.W.keepIn K (.ref f) = true
section
variable {P : Program} {w : World} {K : PySem.W.Frag} {mg : Str → Option Value} {base : Heap}
/-- THE RULE for a def: its body as a term of rules, and the reading of that term -/
theorem Fun.ok {x qual : Str} {st : Stmt} {f : Addr} {fd : FuncData} {N ps : List Str} {ca : Bool} {k : Nat} {sp : Sp} (F : Fun K x qual st f fd) (S : FnScope N ps (defScope st)) (len : ∀ vs H Q E, sp vs H Q E → vs.length = ps.length)
    (hbody : ∀ (cdv : Value) (A : Around) (outer : List Env) (s : Shared) (H : Hp) (vs : List V) (Q : VK) (E : XK), Room ca k (A.deeper (envOfC qual (defScope st) s.heap.objs.size f cdv)) → sp vs H Q E →
      ∃ t, PSs (cxOf CX0 ca P w K mg base N qual (defScope st) f cdv A outer s H E).nox (defBody st) t ∧ t { nx := fun _ H' => Q .non H', rt := Q } (start N vs) H) : FnOk P w K mg base CX0 ca (k + 1) f fd ps sp := by
  obtain ⟨oc, od, kV, doc, pm, an, cdv, ct, osl, rfl, lk, hcd⟩ := F.ex
  refine fn_of lk hcd S len fun A outer s H vs Q E hr hsp => ?_
  obtain ⟨t, h, q⟩ := hbody cdv A outer s H vs Q E hr hsp
  exact ⟨t, h.nox, q⟩
/-- how its arguments bind (no defaults): h is «fun _ _ _ _ _ _ us hl => match us, hl with | [_, _], _ => rfl», one _ a parameter -/
theorem Fun.binds {x qual : Str} {st : Stmt} {f : Addr} {fd : FuncData} {ps : List Str} (F : Fun K x qual st f fd)
    (h : ∀ (kV doc pm : Value) (an : Option Addr) (cdv ct : Value) (us : List Value), us.length = ps.length → bindArgs (PySem.W.fnOf x qual (defArgs st) (defBody st) (defScope st) .none kV doc pm an cdv ct) ⟨us, []⟩ = pure (ps.zip us)) : Binds K fd ps [] := by
  obtain ⟨oc, od, kV, doc, pm, an, cdv, ct, osl, rfl, lk, hcd⟩ := F.ex
  exact .all (h kV doc pm an cdv ct)
theorem fun_mk {x qual : Str} {st : Stmt} {f : Addr} {oc : Value} {od an : Option Addr} {osl : Array (Option Value)} {kV doc pm cdv ct : Value} (l : K.lookup f = some ⟨oc, od, .func (PySem.W.fnOf x qual (defArgs st) (defBody st) (defScope st) .none kV doc pm an cdv ct), osl⟩)
    (c : PySem.W.codeIn K cdv qual = true) (k : PySem.W.keepIn K (.ref f) = true) : Fun K x qual st f (PySem.W.fnOf x qual (defArgs st) (defBody st) (defScope st) .none kV doc pm an cdv ct) := ⟨⟨oc, od, kV, doc, pm, an, cdv, ct, osl, rfl, l, c⟩, k⟩
end
theorem hu_of {ca : Bool} {A : Around} {k : Nat} (hr : Room ca k A) : A.units + 1 < cLine := Nat.lt_of_le_of_lt (Nat.add_le_add_left (by decide : 1 ≤ 64) _) hr.units
/-! ### expressions in short: the name that stands in the i-th slot -/
section
variable {X : Cx}
end

/-! ### tests -/
/-! ### heaps -/
/-- all that was tracked is as it was -/
def Same (H H' : Hp) : Prop := ∀ b o, H b = some o → H' b = some o
theorem Same.refl (H : Hp) : Same H H := fun _ _ h => h
theorem Same.trans {H H1 H2 : Hp} (a : Same H H1) (b : Same H1 H2) : Same H H2 := fun c o h => b c o (a c o h)
theorem Same.free {H H' : Hp} (e : Same H H') {l : Addr} (h : H' l = Option.none) : H l = Option.none := by
  cases q : H l with
  | none => rfl
  | some o =>
    rw [e l o q] at h
    cases h
theorem Same.seq {K : PySem.W.Frag} {H H' : Hp} {a : Addr} {xs : List V} (e : Same H H') (h : SqL K H a xs) : SqL K H' a xs := by
  rcases h with (h | ⟨o, h⟩) | h
  · exact .inl (.inl (e _ _ h))
  · exact .inl (.inr ⟨o, e _ _ h⟩)
  · exact .inr h

end L2

namespace L2
open PySem PySem.Spec PyProof.Rows
section
variable {X : Cx}
end
/-! ### a dict's pairs: keys that differ -/
section
variable {κ : Type} [DecidableEq κ]
end
end L2

/-! LX: own exceptions that are raised, pass through frames and are caught, over the hand layer. -/
namespace L2
open PySem PySem.Spec PyProof.Rows

/-! ### an exception on its way: B is the part of the heap that stays -/
structure XRel (fs : List Addr) (H H' : Hp) (h B : Heap) : Prop where
  keep : ∀ b o, h.get? b = some o → H b = none → b ∉ fs → B.get? b = some o ∧ H' b = none
  fr : ∀ b ∈ fs, H' b = none
  there : ∀ b o, h.get? b = some o → b ∈ fs ∨ ∃ o', B.get? b = some o'
  tups : ∀ b xs, H b = some (.tup xs) → H' b = some (.tup xs)
  frzs : ∀ b o u, H b = some (.frz o u) → H' b = some (.frz o u)
  tbls : ∀ b ps, H b = some (.tbl ps) → ∃ more, H' b = some (.tbl (ps ++ more))
/-- the frames at fs are kept but for their slots -/
def XSl (fs : List Addr) (h h' : Heap) : Prop := ∀ b o, h.get? b = some o → b ∈ fs → ∃ sl, h'.get? b = some { o with slots := sl }
structure XWay (B : Heap) (l : List Env) (a : Addr) (h : Heap) : Prop where
  stays : B.StaysIn h
  new : B.get? a = none
  funs : h.FunFrames B l
/-- new; on its way between frames; held by the frame at L -/
def XFresh (h : Heap) (a : Addr) (cls : Value) : Prop := ∃ oe vs a0, h.get? a = some oe ∧ oe.cls = cls ∧ oe.data = .fields vs ∧ vs[0]? = some a0 ∧ vs[1]? = some .none
abbrev PhT := Heap → Addr → Value → Heap → Prop
def phAt (fl : Value) : PhT := fun B a cls h => ∃ a0, Heap.TracedAtW h B a cls a0 fl
abbrev phFly : PhT := phAt .none
abbrev phHeld (L : Addr) : PhT := phAt (rawInt L)
def phAny (L : Addr) : PhT := fun B a cls h => XFresh h a cls ∨ phFly B a cls h ∨ phHeld L B a cls h

/-- how an exception lies behind a call -/
def CXE (P : Program) (w : World) : CXT := fun outer H s E e s' => ∃ (a : Addr) (cls : Value) (H' : Hp) (B : Heap), e = .ref a ∧ s'.os = s.os ∧ AllBare s'.gens ∧ XWay B outer a s'.heap ∧ phFly B a cls s'.heap ∧
  HOk P w H' B ∧ XRel (frs outer) H H' s.heap B ∧ XSl (frs outer) s.heap s'.heap ∧ E cls none H'

/-- an exception within the frame of X: the last state of X ahead of it, and what is wanted of it -/
inductive UpSt (X : Cx) (E : St → XK) (ph : PhT) (a : Addr) (cls : Value) (s' : Shared) : Prop
  | mk {pins : List (Addr × Obj)} {σ : St} {H H' : Hp} {B : Heap} {s : Shared} (I : Inv X pins σ H s) (os : s'.os = s.os) (bare : AllBare s'.gens) (way : XWay B X.stack a s'.heap) (p : ph B a cls s'.heap)
      (hok : HOk X.prog X.w H' B) (rel : XRel (frs X.stack) H H' s.heap B) (sl : XSl (frs X.stack) s.heap s'.heap) (e : E σ cls none H') : UpSt X E ph a cls s'
def UpW (X : Cx) (E : St → XK) (L : Addr) : Value → Shared → Prop := fun e s' => ∃ a cls, e = .ref a ∧ UpSt X E (phAny L) a cls s'

section
variable {l : List Env} {B h h1 h2 : Heap} {P : Program} {w : World} {H : Hp} {fs : List Addr}
theorem XSl.up (sl : XSl (frs l) h h1) (ff : h1.FunFrames B l) (k : h1.UpToSlots h2) : XSl (frs l) h h2 := fun b o e hb => by
  obtain ⟨s1, q⟩ := sl b o e hb
  obtain ⟨_, o1, q1, nf⟩ := ff.mem hb
  rw [q] at q1; cases q1
  obtain ⟨s2, q2⟩ := k b _ q nf
  exact ⟨s2, q2⟩
theorem HOk.hide (ok : HOk P w H h) (hf : ∀ b ∈ fs, H b = none) : HOk P w H (PySem.W.hideAll h fs) := fun a o e =>
  (ok a o e).stay (fun b u hb q => PySem.W.hideAll_get _ q fun hm => by
    have z := hf b hm
    rcases hb with rfl | hb
    · rw [e] at z; cases z
    · rw [hb] at z; cases z) (fun _ q => q) fun _ _ q => q
end

section
variable {X : Cx} {E : St → XK} {a L : Addr} {cls : Value} {s' : Shared} {M : Model} {A : Around} {Q : Unit → Shared → Prop} {E' : Value → Shared → Prop}
theorem UpSt.note (u : UpSt X E (phAny L) a cls s') (hA : A.frames = X.A.frames) (hst : X.stack = X.env :: X.outer) (hf : X.env.frame = some L)
    (hQ : ∀ h', UpSt X E (phHeld L) a cls { s' with heap := h' } → Q () { s' with heap := h' }) : wpAny M A (noteFrame (.ref a) X.env) Q E' s' := by
  obtain ⟨I, os, bare, ⟨w1, w2, w3⟩, p, hok, rel, sl, e⟩ := u
  rename_i B s
  have hfr : A.frames = some (X.env :: X.outer) := by rw [hA, I.ok.frames, hst]
  have go : ∀ h' a0, Heap.NotedW B (X.env :: X.outer) a cls a0 (rawInt L) s'.heap h' → Q () { s' with heap := h' } := fun h' a0 ⟨k1, k2, k3, k4⟩ =>
    hQ h' ⟨I, os, bare, ⟨k1, w2, hst ▸ k2⟩, ⟨a0, k3⟩, hok, rel, sl.up w3 k4, e⟩
  have w3' : s'.heap.FunFrames B (X.env :: X.outer) := hst ▸ w3
  rcases p with ⟨oe, vs, a0, he, hc, hd, h0, h1⟩ | ⟨a0, p⟩ | ⟨a0, p⟩
  · subst hc; unfold noteFrame; simp only [hf]; refine wpAny_bind (wpAny_field he hd h1 ?_); rw [if_neg (by decide)]
    exact wpAny_entryW hfr w3' hf he w1 w2 hd (Array.getElem?_eq_some_iff.mp h1).1 h0 fun h' N => go h' a0 N
  · exact wpAny_noteFrame_onW hfr w3' hf p w1 w2 fun h' N => go h' a0 N
  · exact wpAny_noteFrame_againW hf p (hQ s'.heap ⟨I, os, bare, ⟨w1, w2, w3⟩, ⟨a0, p⟩, hok, rel, sl, e⟩)
theorem UpSt.fly {fl : Value} (u : UpSt X E (phAt fl) a cls s') (hQ : ∀ h', UpSt X E phFly a cls { s' with heap := h' } → Q () { s' with heap := h' }) : wpAny M A (setFlight (.ref a) none) Q E' s' := by
  obtain ⟨I, os, bare, ⟨w1, w2, w3⟩, ⟨a0, p⟩, hok, rel, sl, e⟩ := u
  exact wpAny_setFlight_noneW w1 w3 p fun h' k1 k2 k3 k4 => hQ h' ⟨I, os, bare, ⟨k1, w2, k2⟩, ⟨a0, k3⟩, hok, rel, sl.up w3 fun b o hb hn => ⟨o.slots, k4 b o hb hn⟩, e⟩
/-- the frame takes it back: its mark is written once more -/
theorem UpSt.hold (u : UpSt X E (phHeld L) a cls s') (hQ : ∀ h', UpSt X E (phHeld L) a cls { s' with heap := h' } → Q () { s' with heap := h' }) :
    wpAny M A (do if (← field (.ref a) 1) == .none then unsupported "frame.own-activation:exception-without-traceback"
                  setFlight (.ref a) (some L)) Q E' s' := by
  obtain ⟨I, os, bare, ⟨w1, w2, w3⟩, ⟨a0, oe, vs, T, oT, ts, he, hcls, hd, h1, hnT, hTe, hT, hdT, h3⟩, hok, rel, sl, e⟩ := u
  rename_i B s
  have hsz : 3 < ts.size := (Array.getElem?_eq_some_iff.mp h3).1
  have oth : ∀ b, b ≠ T → (s'.heap.update T (Obj.mapFields (·.setIfInBounds 3 (rawInt L)))).get? b = s'.heap.get? b := fun b hb => Heap.get?_update_other _ _ (Ne.symm hb)
  have nr : ∀ b o, s'.heap.get? b = some o → (∀ vs, o.data ≠ .fields vs) → b ≠ T := fun b o hb hnf q => by
    subst q; rw [hT] at hb; cases hb; exact hnf ts hdT
  refine wpAny_bind (wpAny_field he hd h1 ?_)
  rw [if_neg (show ¬ ((Value.ref T == Value.none) = true) by simp)]
  unfold setFlight
  refine wpAny_bind (wpAny_field he hd h1 ?_)
  rw [if_pos (show (Value.ref T != Value.none) = true by simp)]
  refine wpAny_setField hT hdT hsz (hQ _ ⟨I, os, bare, ⟨fun b o hb => (oth b fun q => by subst q; rw [hnT] at hb; cases hb).trans (w1 b o hb), w2,
    w3.of_keeps fun b o hb hn => ⟨o, (oth b (nr b o hb hn)).trans hb, rfl⟩⟩, ⟨a0, oe, vs, T, _, _, (oth a (Ne.symm hTe)).trans he, hcls, hd, h1, hnT, hTe,
      Heap.get?_update_self _ hT (Obj.isFreed_of_fields (Obj.data_mapFields hdT _)), Obj.data_mapFields hdT _, by simp [hsz]⟩, hok, rel, sl.up w3 fun b o hb hn => ⟨o.slots, (oth b (nr b o hb hn)).trans hb⟩, e⟩)
end

section
variable {X : Cx} {E : St → XK} {a L : Addr} {cls : Value} {s s' : Shared} {pins : List (Addr × Obj)} {σ : St} {H H' : Hp} {B : Heap}
theorem un_of (way : XWay B X.stack a s'.heap) (rel : XRel (frs X.stack) H H' s.heap B) (sl : XSl (frs X.stack) s.heap s'.heap) : Un (frs X.stack) [] H H' s.heap s'.heap where
  keep := fun b o e n hb _ => way.stays b o (rel.keep b o e n hb).1
  slot := fun b o e _ hb _ => sl b o e hb
  free := fun b o e n _ => by
    by_cases hb : b ∈ frs X.stack
    · exact rel.fr b hb
    · exact (rel.keep b o e n hb).2
  there := fun b o e _ => by
    rcases rel.there b o e with hb | ⟨o', q⟩
    · obtain ⟨_, o1, q1, _⟩ := way.funs.mem hb
      exact ⟨o1, q1⟩
    · exact ⟨o', way.stays b o' q⟩
  tups := rel.tups
  frzs := rel.frzs
  tbls := rel.tbls
theorem inv_of (I : Inv X pins σ H s) (os : s'.os = s.os) (bare : AllBare s'.gens) (way : XWay B X.stack a s'.heap) (hok : HOk X.prog X.w H' B) (rel : XRel (frs X.stack) H H' s.heap B)
    (sl : XSl (frs X.stack) s.heap s'.heap) : Inv X pins σ H' s' :=
  I.call' (ch := []) os (un_of way rel sl) (hok.kept way.stays) bare fun b hb => absurd hb (by simp)

theorem Inv.adopt {o : HO} (I : Inv X pins σ H s) (hn : H a = none) (new : ObjOk X.prog X.w (upd H a o) s.heap a o) (h0 : X.s₀.heap.get? a = none) (hL : a ≠ X.env.locals)
    (hc : ∀ x c, X.env.cells.lookup x = some c → c ≠ a) (hp : ∀ p ∈ X.pn ++ pins, p.1 ≠ a) : Inv X pins σ (upd H a o) s where
  ok := I.ok
  os := I.os
  bare := I.bare
  base := {
    keep := I.base.keep
    slot := I.base.slot
    free := fun b ob e n hb => by
      rw [upd_ne fun z => by subst z; rw [h0] at e; cases e]
      exact I.base.free b ob e n hb
    there := I.base.there
    tups := fun b xs e => by
      have q := I.base.tups b xs e
      rw [upd_ne (ne_of_none q hn)]; exact q
    frzs := fun b ob u e => by
      have q := I.base.frzs b ob u e
      rw [upd_ne (ne_of_none q hn)]; exact q
    tbls := fun b ps e => by
      obtain ⟨m, q⟩ := I.base.tbls b ps e
      exact ⟨m, by rw [upd_ne (ne_of_none q hn)]; exact q⟩ }
  loc := I.loc
  cell := I.cell
  free := by rw [upd_ne (Ne.symm hL)]; exact I.free
  freeC := fun x c e => by rw [upd_ne (hc x c e)]; exact I.freeC x c e
  pin := fun p m => by
    obtain ⟨p1, p2, p3⟩ := I.pin p m
    exact ⟨p1, by rw [upd_ne (hp p m)]; exact p2, p3⟩
  hok := fun b u e => by
    by_cases hb : b = a
    · subst hb; rw [upd_same] at e; cases e; exact new
    · rw [upd_ne hb] at e
      exact (I.hok b u e).stay (fun _ _ _ q => q) (fun c q => by rw [upd_ne (ne_of_none q hn)]; exact q) fun c xs q => by rw [upd_ne (ne_of_none q hn)]; exact q
  len := I.len

theorem ph_there {fl : Value} {h : Heap} (p : phAt fl B a cls h) : ∃ o vs, h.get? a = some o ∧ o.cls = cls ∧ o.data = .fields vs := by
  obtain ⟨a0, oe, vs, T, oT, ts, he, hc, hd, _⟩ := p
  exact ⟨oe, vs, he, hc.1, hd⟩
/-- it has landed in X: the state again, the exception tracked -/
theorem UpSt.adopt {fl : Value} (u : UpSt X E (phAt fl) a cls s') (hex : X.ex = []) :
    ∃ pins σ H', Inv X pins σ (upd H' a (HO.exc cls)) s' ∧ Inv X pins σ H' s' ∧ E σ cls none H' ∧ H' a = none := by
  obtain ⟨I, os, bare, way, p, hok, rel, sl, e⟩ := u
  rename_i pins σ H H' B s
  have I' := inv_of I os bare way hok rel sl
  obtain ⟨o, vs, ho, hc, hd⟩ := ph_there p
  have hn : H' a = none := by
    cases q : H' a with
    | none => rfl
    | some u =>
      have z := hok.lt q
      obtain ⟨ob, hb⟩ : ∃ ob, B.get? a = some ob := by
        have t := (hok a u q)
        cases q2 : B.get? a with
        | some ob => exact ⟨ob, rfl⟩
        | none =>
          exfalso
          cases u with
          | lst xs => obtain ⟨_, _, _, _, e⟩ := t; rw [q2] at e; cases e
          | tup xs => obtain ⟨_, _, _, _, e, _⟩ := t; rw [q2] at e; cases e
          | dK kvs => obtain ⟨_, _, _, _, o, _, _, e, _⟩ := t; rw [q2] at e; cases e
          | dT kvs => obtain ⟨_, _, _, _, o, _, _, e, _⟩ := t; rw [q2] at e; cases e
          | set S n => obtain ⟨o, _, _, _, e, _⟩ := t; rw [q2] at e; cases e
          | ins C dx fs => obtain ⟨_, _, _, e, _⟩ := t; rw [q2] at e; cases e
          | own y => obtain ⟨_, e⟩ := t; rw [q2] at e; cases e
          | xd fs => obtain ⟨_, ⟨_, _, _, e, _⟩, _⟩ := t; rw [q2] at e; cases e
          | rng lo hi => obtain ⟨_, _, _, e⟩ := t; rw [q2] at e; cases e
          | frz ob u => obtain ⟨e, _⟩ := t; rw [q2] at e; cases e
          | tbl ps => have e : B.get? a = some _ := t; rw [q2] at e; cases e
          | met f y => have e : B.get? a = some _ := t; rw [q2] at e; cases e
          | ext φ => obtain ⟨_, ⟨_, e⟩, _⟩ := t; rw [q2] at e; cases e
          | exc c => obtain ⟨_, _, e, _⟩ := t; rw [q2] at e; cases e
      rw [way.new] at hb; cases hb
  have nfr : a ∉ frs X.stack := fun hm => by
    obtain ⟨_, o1, q1, nf⟩ := way.funs.mem hm
    rw [ho] at q1; cases q1; exact nf vs hd
  have h0 : X.s₀.heap.get? a = none := by
    cases q : X.s₀.heap.get? a with
    | none => rfl
    | some o1 =>
      obtain ⟨o2, q2⟩ := I.base.there a o1 q (by rw [hex]; simp)
      rcases rel.there a o2 q2 with z | ⟨o3, z⟩
      · exact absurd z nfr
      · rw [way.new] at z; cases z
  refine ⟨pins, σ, H', I'.adopt hn ⟨o, vs, ho, hc, hd⟩ h0 (fun z => ?_) (fun x c ec z => ?_) (fun p' hp z => ?_), I', e, hn⟩
  · obtain ⟨m, ⟨ob, es, ep, q, qd, _⟩, _⟩ := I'.loc
    rw [← z, ho] at q; cases q; rw [hd] at qd; cases qd
  · obtain ⟨v, ob, q, qd⟩ := I'.cell x c ec
    rw [z, ho] at q; cases q; rw [hd] at qd; cases qd
  · obtain ⟨p1, p2, p3, p4, _⟩ := I.pin p' hp
    have z2 := (rel.keep p'.1 p'.2 p1 p2 fun hm => by
      rcases List.mem_cons.mp (I.stkSub _ hm) with q | q
      · exact p3 q
      · exact p4 q).1
    rw [z, way.new] at z2; cases z2

/-- it leaves the frame of X -/
theorem UpSt.out {E0 : XK} (u : UpSt X (fun _ => E0) phFly a cls s') (hst : X.stack = X.env :: X.outer) (hf : X.env.frame = some X.env.locals) (hex : X.ex = []) :
    CXE X.prog X.w X.outer X.H₀ X.s₀ E0 (.ref a) s' := by
  obtain ⟨I, os, bare, way, p, hok, rel, sl, e⟩ := u
  rename_i pins σ H H' B s
  have noex : ∀ b, b ∉ X.ex := fun b => by rw [hex]; simp
  have hfs : ∀ b, b ∈ frs X.stack ↔ b = X.env.locals ∨ b ∈ X.fs := fun b => by
    rw [hst]; unfold frs; rw [List.filterMap_cons, hf]; exact List.mem_cons
  have nloc : ∀ b o, X.s₀.heap.get? b = some o → b ≠ X.env.locals := fun b o q z => by
    have := Heap.lt_size q
    have h2 := I.ok.above
    rw [z] at this
    exact absurd (Nat.lt_of_lt_of_le this h2) (Nat.lt_irrefl _)
  obtain ⟨w1, w2, w3⟩ := way
  have w3' : s'.heap.FunFrames B X.outer := by rw [hst] at w3; exact w3.2.2
  refine ⟨a, cls, H', B, rfl, os.trans I.os, bare, ⟨w1, w2, w3'⟩, p, hok, ⟨fun b o q n hb => ?_, fun b hb => rel.fr b ((hfs b).mpr (.inr hb)), fun b o q => ?_, fun b xs q => rel.tups b xs (I.base.tups b xs q),
    fun b o u q => rel.frzs b o u (I.base.frzs b o u q), fun b ps q => ?_⟩, fun b o q hb => ?_, e⟩
  · refine rel.keep b o (I.base.keep b o q n hb (noex b)) (I.base.free b o q n (noex b)) fun z => ?_
    rcases (hfs b).mp z with z | z
    · exact nloc b o q z
    · exact hb z
  · obtain ⟨o1, q1⟩ := I.base.there b o q (noex b)
    rcases rel.there b o1 q1 with z | z
    · rcases (hfs b).mp z with z | z
      · exact absurd z (nloc b o q)
      · exact .inl z
    · exact .inr z
  · obtain ⟨m1, q1⟩ := I.base.tbls b ps q
    obtain ⟨m2, q2⟩ := rel.tbls b _ q1
    exact ⟨m1 ++ m2, by rw [q2, Array.append_assoc]⟩
  · obtain ⟨s1, q1⟩ := I.base.slot b o q (I.ok.frf b hb) hb (noex b)
    obtain ⟨s2, q2⟩ := sl b _ q1 ((hfs b).mpr (.inr hb))
    exact ⟨s2, q2⟩
end

/-! ### what X wants of exceptions -/
structure Exc (X : Cx) (E : St → XK) : Prop where
  pass : ∀ (pins : List (Addr × Obj)) (σ : St) (H : Hp) (s : Shared) (e : Value) (s' : Shared), Inv X pins σ H s → CXE X.prog X.w X.stack H s (E σ) e s' → X.xe e s'
  rais : ∀ (pins : List (Addr × Obj)) (σ : St) (H : Hp) (s s' : Shared) (a C : Addr) (args : List Value), Inv X pins σ H s → Heap.MadeExcOf s.heap s'.heap a (.ref C) args → s'.os = s.os → s'.gens = s.gens →
    E σ (.ref C) none H → X.xe (.ref a) s'
  own : PassesOwn (model X.prog X.w) X.A X.env X.xe
theorem exc_up {X : Cx} {E : St → XK} (hst : X.stack = X.env :: X.outer) (hf : X.env.frame = some X.env.locals) : Exc (X.wish (UpW X E X.env.locals)) E where
  pass := fun pins σ H s e s' I ⟨a, cls, H', B, ee, os, bare, way, p, hok, rel, sl, q⟩ => ⟨a, cls, ee, ⟨I.unwish, os, bare, way, .inr (.inl p), hok, rel, sl, q⟩⟩
  rais := fun pins σ H s s' a C args I hm os hg q => by
    have I := I.unwish
    obtain ⟨t, he, htn, ht⟩ := hm.there
    have hB : (PySem.W.hideAll s.heap (frs X.stack)).get? a = none := by
      cases z : (PySem.W.hideAll s.heap (frs X.stack)).get? a with
      | none => rfl
      | some o => have := PySem.W.of_hideAll _ z; rw [hm.new] at this; cases this
    refine ⟨a, .ref C, rfl, ⟨I, os, by rw [hg]; exact I.bare, ⟨fun b o z => hm.keeps b o (PySem.W.of_hideAll _ z), hB, ?_⟩, .inl ⟨_, _, _, he, rfl, rfl, rfl, rfl⟩, I.hok.hide I.stkFree, ⟨fun b o z n hb => ⟨PySem.W.hideAll_get _ z hb, n⟩, I.stkFree,
      fun b o z => ?_, fun _ _ z => z, fun _ _ _ z => z, fun _ ps z => ⟨#[], by rw [Array.append_empty]; exact z⟩⟩, fun b o z _ => ⟨o.slots, hm.keeps b o z⟩, q⟩⟩
    · exact (PySem.W.funFrames_hide I.stack fun env he b hb => List.mem_filterMap.mpr ⟨env, he, hb⟩).of_keeps fun b o z _ => ⟨o, hm.keeps b o z, rfl⟩
    · by_cases hb : b ∈ frs X.stack
      · exact .inl hb
      · exact .inr ⟨o, PySem.W.hideAll_get _ z hb⟩
  own := fun e s' ⟨a, cls, ee, u⟩ => by
    subst ee
    refine u.note rfl hst hf fun h' u' => ?_
    unfold cameBackBy
    rw [show (X.wish (UpW X E X.env.locals)).env.frame = some X.env.locals from hf]
    refine u'.hold fun h2 u2 => ?_
    obtain ⟨I, os, bare, way, p, hok, rel, sl, q⟩ := u2
    exact ⟨a, cls, rfl, ⟨I, os, bare, way, .inr (.inr p), hok, rel, sl, q⟩⟩

theorem PSs.wish {X : Cx} {st : List Stmt} {t : TS} {E : Value → Shared → Prop} (h : PSs (X.wish E) st t) (he : ∀ e s, E e s → X.xe e s) : PSs X st t := fun pins s σ H D I hw =>
  wpAny_mono (h pins s σ H D (I.wish E) hw) (fun _ _ z => SP.unwish z) he

/-- the context of a def's body that may raise -/
abbrev cxE (ca : Bool) (P : Program) (w : World) (K : PySem.W.Frag) (mg : Str → Option Value) (base : Heap) (N : List Str) (qual : Str) (scope : Scope) (f : Addr) (cd : Value) (A : Around) (outer : List Env) (s : Shared) (H : Hp) (E : XK) : Cx :=
  (cxOf (CXE P w) ca P w K mg base N qual scope f cd A outer s H E).wish (UpW (cxOf (CXE P w) ca P w K mg base N qual scope f cd A outer s H E) (fun _ => E) s.heap.objs.size)

section
variable {P : Program} {w : World} {K : PySem.W.Frag} {mg : Str → Option Value} {base : Heap}
theorem Fun.okE {x qual : Str} {st : Stmt} {f : Addr} {fd : FuncData} {N ps : List Str} {ca : Bool} {k : Nat} {sp : Sp} (F : Fun K x qual st f fd) (S : FnScope N ps (defScope st)) (len : ∀ vs H Q E, sp vs H Q E → vs.length = ps.length)
    (hbody : ∀ (cdv : Value) (A : Around) (outer : List Env) (s : Shared) (H : Hp) (vs : List V) (Q : VK) (E : XK), Room ca k (A.deeper (envOfC qual (defScope st) s.heap.objs.size f cdv)) →
      Exc (cxE ca P w K mg base N qual (defScope st) f cdv A outer s H E) (fun _ => E) → sp vs H Q E →
      ∃ t, PSs (cxE ca P w K mg base N qual (defScope st) f cdv A outer s H E) (defBody st) t ∧ t { nx := fun _ H' => Q .non H', rt := Q } (start N vs) H) : FnOk P w K mg base (CXE P w) ca (k + 1) f fd ps sp := by
  obtain ⟨oc, od, kV, doc, pm, an, cdv, ct, osl, rfl, lk, hcd⟩ := F.ex
  refine fn_of (CX := CXE P w) lk hcd S len fun A outer s H vs Q E hr hsp => ?_
  obtain ⟨t, h, q⟩ := hbody cdv A outer s H vs Q E hr (exc_up rfl rfl) hsp
  refine ⟨t, h.wish fun e s2 ⟨a, cls, ee, u⟩ => ?_, q⟩
  subst ee
  show wpAny _ _ (leaving _ _) _ _ _
  unfold leaving
  exact wpAny_bind (u.note rfl rfl rfl fun h' u' => u'.fly fun h'' u'' => u''.out rfl rfl rfl)
end
/-! ### an object of ours that nobody asks for any more -/
def rm (H : Hp) (p : Addr) : Hp := fun b => if b = p then none else H b
theorem rm_same {H : Hp} {p : Addr} : rm H p p = none := by unfold rm; rw [if_pos rfl]
theorem rm_ne {H : Hp} {p b : Addr} (h : b ≠ p) : rm H p b = H b := by unfold rm; rw [if_neg h]
theorem rm_upd {H : Hp} {p : Addr} {o : HO} (h : H p = none) : rm (upd H p o) p = H := by
  funext b
  by_cases hb : b = p
  · subst hb; rw [rm_same, h]
  · rw [rm_ne hb, upd_ne hb]
/-- what may be forgotten: nothing else leans on it -/
def Loose : Option HO → Prop
  | some (.lst _) => True
  | some (.exc _) => True
  | some (.rng _ _) => True
  | _ => False
theorem Inv.rm {X : Cx} {pins : List (Addr × Obj)} {σ : St} {H : Hp} {s : Shared} {p : Addr} (I : Inv X pins σ H s) (hp : Loose (H p)) : Inv X pins σ (rm H p) s := by
  have no : ∀ {b : Addr}, H b = none → L2.rm H p b = none := fun {b} e => by
    unfold L2.rm; split
    · rfl
    · exact e
  have yes : ∀ {b : Addr} {o : HO}, H b = some o → ¬ Loose (some o) → L2.rm H p b = some o := fun {b o} e n => by
    rw [rm_ne fun z => by subst z; rw [e] at hp; exact n hp]; exact e
  refine ⟨I.ok, I.os, I.bare, ⟨I.base.keep, I.base.slot, fun b o e n hb => no (I.base.free b o e n hb), I.base.there, fun b xs e => yes (I.base.tups b xs e) (fun z => z), fun b o u e => yes (I.base.frzs b o u e) (fun z => z), fun b ps e => ?_⟩, I.loc, I.cell,
    no I.free, fun x c e => no (I.freeC x c e), fun q m => ?_, fun b u e => ?_, I.len⟩
  · obtain ⟨m, q⟩ := I.base.tbls b ps e
    exact ⟨m, yes q fun z => z⟩
  · obtain ⟨p1, p2, p3⟩ := I.pin q m
    exact ⟨p1, no p2, p3⟩
  · by_cases hb : b = p
    · subst hb; rw [rm_same] at e; cases e
    · rw [rm_ne hb] at e
      exact (I.hok b u e).stay (fun _ _ _ q => q) (fun c q => yes q fun z => z) fun c xs q => yes q fun z => z

end L2

/-! LY: rules over LX: calls that may raise, raise, try, isinstance; readings that compute. -/
namespace L2
open PySem PySem.Spec PyProof.Rows

/-! ### a name goes behind an except suite -/
section
variable {X : Cx} {pins : List (Addr × Obj)} {σ : St} {H : Hp} {s : Shared}
theorem goes_ok {M : Model} {A : Around} {E : Value → Shared → Prop} {i : Nat} {x : Str} {pos : Pos} {Q : Unit → Shared → Prop} (I : Inv X pins σ H s) (hN : X.N.Nodup) (hi : X.N[i]? = some x) (hk : X.env.scope.names.lookup x = some .local)
    (h : ∀ s', Inv X pins (σ.set i none) H s' → Q () s') : wpAny M A (do bindName X.env x .none; unbindBehindTheSuite X.env x pos) Q E s := by
  obtain ⟨m, hn, hl⟩ := id I.loc
  have hcls : (X.env.scope.kind == .class || (X.env.scope.kind == .module && X.env.locals != X.env.globals)) = false := by rw [I.ok.kind]; rfl
  have nl : ∀ b o, X.s₀.heap.get? b = some o → b ≠ X.env.locals := fun b o e => Nat.ne_of_lt (Nat.lt_of_lt_of_le (Heap.lt_size e) I.ok.above)
  refine wpAny_nameGoes_keeps hk hn hcls fun h' v hn' hs => h _ ⟨I.ok, I.os, I.bare, ⟨fun b o e n hb hx => (hs.2 b (nl b o e)).trans (I.base.keep b o e n hb hx), fun b o e n hb hx => ?_, I.base.free, fun b o e hx => ?_,
    I.base.tups, I.base.frzs, I.base.tbls⟩, ⟨_, hn', fun j y v' e1 e2 e3 => ?_⟩, fun y c e => ?_, I.free, I.freeC, fun p hp => ?_, fun b ob e => ?_, by simpa using I.len⟩
  · obtain ⟨sl, e1⟩ := I.base.slot b o e n hb hx
    exact ⟨sl, (hs.2 b (nl b o e)).trans e1⟩
  · obtain ⟨o', e1⟩ := I.base.there b o e hx
    exact ⟨o', (hs.2 b (nl b o e)).trans e1⟩
  · by_cases hj : j = i
    · subst hj
      have z : (σ.set j none)[j]? = some none ∨ (σ.set j none)[j]? = none := by
        rw [List.getElem?_set]
        simp only [if_true]
        split <;> simp
      rcases z with z | z <;> (rw [z] at e2; cases e2)
    · rw [List.getElem?_set_ne (Ne.symm hj)] at e2
      obtain ⟨u', r', q⟩ := hl j y v' e1 e2 e3
      refine ⟨u', r', ?_⟩
      rcases q with ⟨k, e⟩ | ⟨k, c, e, z⟩
      · have ny : y ≠ x := fun e => hj (nodup_ix hN e1 (e ▸ hi))
        exact .inl ⟨k, by simp [ny, e]⟩
      · exact .inr ⟨k, c, e, z.sameBut hs (I.cne y c e)⟩
  · obtain ⟨w', z⟩ := I.cell y c e
    exact ⟨w', z.sameBut hs (I.cne y c e)⟩
  · obtain ⟨e, n, ne, nf, d⟩ := I.pin p hp
    exact ⟨(hs.2 p.1 ne).trans e, n, ne, nf, d⟩
  · refine (I.hok b ob e).stay (fun c w' hc q => (hs.2 c ?_).trans q) (fun _ q => q) fun _ _ q => q
    rintro rfl
    rcases hc with rfl | hc
    · have := I.free; rw [e] at this; cases this
    · have := I.free; rw [hc] at this; cases this
end

/-! ### calls -/
def tCallE (sp : Sp) (E : St → XK) (t : TA) : TE := fun σ H Q => t σ H fun vs H1 => sp vs H1 Q (E σ)
def tMakeE (C : Addr) (sp : Sp) (E : St → XK) (t : TA) : TE := fun σ H Q => t σ H fun vs H1 => ∀ x dx, H1 x = none → H1 dx = none → dx ≠ x →
  sp (.ref x :: vs) (upd (upd H1 dx (.own x)) x (.ins C dx [])) (fun v H2 => v = .non ∧ Q (.ref x) H2) (E σ)
section
variable {X : Cx} {ca : Bool} {k : Nat} {f C : Addr} {fd : FuncData} {ps : List Str} {sp : Sp} {E : St → XK} {x m : Str} {p pos apos : Pos} {e o : Expr} {es : List Expr} {ta : TE} {t : TA}
theorem run_fnE {pins : List (Addr × Obj)} {σ : St} {H : Hp} {s : Shared} {Q : VK} {us : List Value} {vs : List V} (F : FnOk X.prog X.w X.K X.mg X.base (CXE X.prog X.w) ca k f fd ps sp) (hr : Room ca k X.A) (hb : Binds X.K fd ps []) (hx : Exc X E)
    (I : Inv X pins σ H s) (r : Vals vs us) (h : sp vs H Q (E σ)) : wpAny (model X.prog X.w) X.A (call (.ref f) us) (EP X pins σ Q) X.xe s := by
  have hl : (us ++ []).length = ps.length := by rw [List.append_nil, ← r.length]; exact F.len _ _ _ _ h
  have hb' := hb s us I.kIn hl
  rw [List.append_nil] at hb'
  refine wpAny_call (codeAny_mono (F.run X.A X.stack s H ⟨us, []⟩ us vs Q (E σ) hr I.env0 hb' r h) fun r s' hq => ?_)
  cases r with
  | error e => exact hx.pass pins σ H s e s' I hq
  | ok fl =>
    cases fl with
    | ret u => exact I.after hq
    | next => exact False.elim hq
    | brk => exact False.elim hq
    | cont => exact False.elim hq
theorem pe_callE (F : FnOk X.prog X.w X.K X.mg X.base (CXE X.prog X.w) ca k f fd ps sp) (hr : Room ca k X.A) (hg : Gl X x) (hm : X.mg x = some (.ref f)) (hk : PySem.W.keepIn X.K (.ref f) = true) (hb : Binds X.K fd ps []) (hx : Exc X E)
    (ha : PA X (e :: es) t) (hdb : (x == ("__debug__" : Str)) = false := by decide) (he : starEach (e :: es) X.env = (false, eval e X.env) :: starEach es X.env := by rfl) (hpl : (backTo pos (starEach es X.env)).any (·.1) = false := by rfl) :
    PE X (.Call (.Name x p) (e :: es) [] pos) (tCallE sp E t) := by
  intro pins s σ H Q I h
  refine wpAny_Call_Name_kw (ld_glob I hg hm ?_ hdb)
  refine PySem.W.callWith_K (h₀ := X.base) I.ok.mod.kin hk (thn (ha pos pins s σ H _ I h) fun us s1 ⟨vs, H1, I1, r, q⟩ => ⟨I1.kIn, ?_⟩) he hpl
  exact run_fnE F hr hb hx I1 r q
theorem run_makeE {pins : List (Addr × Obj)} {σ : St} {H : Hp} {s : Shared} {Q : VK} {us : List Value} {vs : List V} (M : Mk X.K C f) (F : FnOk X.prog X.w X.K X.mg X.base (CXE X.prog X.w) ca k f fd ps sp) (hr : Room ca (k + 1) X.A) (hb : Binds X.K fd ps [])
    (hx : Exc X E) (I : Inv X pins σ H s) (r : Vals vs us)
    (h : ∀ x dx, H x = none → H dx = none → dx ≠ x → sp (.ref x :: vs) (upd (upd H dx (.own x)) x (.ins C dx [])) (fun v H2 => v = .non ∧ Q (.ref x) H2) (E σ)) :
    wpAny (model X.prog X.w) X.A (call (.ref C) us) (EP X pins σ Q) X.xe s := by
  have hq := h (s.heap.objs.size + 1) s.heap.objs.size (I.hok.fresh (Nat.le_succ _)) (I.hok.fresh (Nat.le_refl _)) (Nat.ne_of_lt (Nat.lt_succ_self _))
  have I2 := Inv.made (C := C) I
  have r2 : Vals (V.ref (s.heap.objs.size + 1) :: vs) (Value.ref (s.heap.objs.size + 1) :: us) := .cons rfl r
  have hl : (Value.ref (s.heap.objs.size + 1) :: us ++ []).length = ps.length := by rw [List.append_nil, ← r2.length]; exact F.len _ _ _ _ hq
  have hb' := hb { s with heap := (s.heap.push PySem.W.emptyDict).push (PySem.W.instObj C s.heap.objs.size) } (Value.ref (s.heap.objs.size + 1) :: us) I2.kIn hl
  rw [List.append_nil] at hb'
  refine wpAny_call (make_map (f := f) I.kIn M.makes M.init (beq_iff_eq.mp M.fn) (codeAny_mono (F.run _ X.stack _ _ ⟨Value.ref (s.heap.objs.size + 1) :: us, []⟩ (Value.ref (s.heap.objs.size + 1) :: us) _ _ (E σ) (hr.make C us [])
    (I2.env0.make C us []) hb' r2 hq) fun r s' hq' => ?_))
  cases r with
  | error e => exact hx.pass pins σ _ _ e s' I2 hq'
  | ok fl =>
    cases fl with
    | ret u =>
      obtain ⟨v, H', I3, rv, ev, q3⟩ := I2.after hq'
      subst ev
      exact ⟨rv, ⟨V.ref (s.heap.objs.size + 1), H', I3, rfl, q3⟩⟩
    | next => exact False.elim hq'
    | brk => exact False.elim hq'
    | cont => exact False.elim hq'
theorem pe_makeE (M : Mk X.K C f) (F : FnOk X.prog X.w X.K X.mg X.base (CXE X.prog X.w) ca k f fd ps sp) (hr : Room ca (k + 1) X.A) (hg : Gl X x) (hm : X.mg x = some (.ref C)) (hb : Binds X.K fd ps []) (hx : Exc X E)
    (ha : PA X (e :: es) t) (hdb : (x == ("__debug__" : Str)) = false := by decide) (he : starEach (e :: es) X.env = (false, eval e X.env) :: starEach es X.env := by rfl) (hpl : (backTo pos (starEach es X.env)).any (·.1) = false := by rfl) :
    PE X (.Call (.Name x p) (e :: es) [] pos) (tMakeE C sp E t) := by
  intro pins s σ H Q I h
  refine wpAny_Call_Name_kw (ld_glob I hg hm ?_ hdb)
  refine PySem.W.callWith_K (h₀ := X.base) I.ok.mod.kin M.kp (thn (ha pos pins s σ H _ I h) fun us s1 ⟨vs, H1, I1, r, q⟩ => ⟨I1.kIn, ?_⟩) he hpl
  exact run_makeE M F hr hb hx I1 r q
theorem pe_make0E (M : Mk X.K C f) (F : FnOk X.prog X.w X.K X.mg X.base (CXE X.prog X.w) ca k f fd ps sp) (hr : Room ca (k + 1) X.A) (hg : Gl X x) (hm : X.mg x = some (.ref C)) (hb : Binds X.K fd ps []) (hx : Exc X E)
    (hdb : (x == ("__debug__" : Str)) = false := by decide) : PE X (.Call (.Name x p) [] [] pos) (tMakeE C sp E tNil) := by
  intro pins s σ H Q I h
  refine wpAny_Call_Name_kw (ld_glob I hg hm ?_ hdb)
  exact PySem.W.callWith_K0 I.kIn M.kp (run_makeE (us := []) M F hr hb hx I .nil h)
end

/-! ### raise C(..), C an own class above which ValueError stands -/
abbrev bmV : List Value := [.type "ValueError", .type "Exception", .type "BaseException", .type "object"]
def ExcC (K : PySem.W.Frag) (C : Addr) : Prop := PySem.W.excIn K C bmV "ValueError.__new__" = true
theorem ExcC.obj {K : PySem.W.Frag} {h : Heap} {C : Addr} (X : K.In h) (q : ExcC K C) : ∃ bm N nm qn bs hd sn sub ab col dd k0 k1 k2 k3 k5 mN, h.get? C = some (excClassObj nm qn C N bs bm hd sn sub ab col dd k0 k1 k2 k3 k5 "ValueError.__new__") ∧
    h.Ns N mN ∧ mN "__init__" = none ∧ OwnTail h bmV bm := by
  unfold ExcC PySem.W.excIn at q
  split at q
  · rename_i dd cd sl ho
    split at q
    · rename_i C' bm k0 k1 k2 k3 n k5 hm hs
      rw [Bool.and_eq_true, Bool.and_eq_true, Bool.and_eq_true, Bool.and_eq_true, Bool.and_eq_true, beq_iff_eq, beq_iff_eq, beq_iff_eq, Bool.not_eq_true'] at q
      obtain ⟨⟨⟨⟨⟨q1, q2⟩, q3⟩, q4⟩, q5⟩, q6⟩ := q
      subst q1 q2
      obtain ⟨nm, bs, mro, ns, qn, hd, sn, sub, ab, col, del⟩ := cd
      have q3 : del = false := q3
      have hm : mro = _ := hm
      subst q3 hm
      obtain ⟨l⟩ := sl
      have hs : l = _ := hs
      subst hs
      exact ⟨bm, ns, nm, qn, bs, hd, sn, sub, ab, col, dd, k0, k1, k2, k3, k5, _, X _ _ ho, .of_isNs (PySem.W.isNs_of_in X q5), PySem.W.nsMap_none_of_in X q5 q6, PySem.W.tail_of_in X q4⟩
    · cases q
  · cases q
def tRaise (C : Addr) (E : St → XK) (t : TA) : TS := fun _ σ H => t σ H fun vs H1 => vs.length ≤ sizeLine ∧ E σ (.ref C) none H1
section
variable {X : Cx} {C : Addr} {E : St → XK} {x : Str} {np cpos pos : Pos} {e : Expr} {es : List Expr} {t : TA}
theorem ps_raise (hx : Exc X E) (hg : Gl X x) (hm : X.mg x = some (.ref C)) (hq : ExcC X.K C) (hc : X.calm = true) (ha : PA X (e :: es) t)
    (he : starEach (e :: es) X.env = (false, eval e X.env) :: starEach es X.env := by rfl) (hpl : (backTo cpos (starEach es X.env)).any (·.1) = false := by rfl) (hdb : (x == ("__debug__" : Str)) = false := by decide) :
    PS X (.Raise (some (.Call (.Name x np) (e :: es) [] cpos)) none pos) (tRaise C E t) := by
  intro pins s σ H D I h
  obtain ⟨bm, N, nm, qn, bs, hd, sn, sub, ab, col, dd, k0, k1, k2, k3, k5, mN, hC, hN, hni, T⟩ := hq.obj I.mod.kin
  refine wpAny_Raise_call_subT (C := C) (nm := nm) (q := qn) (N := N) (bs := bs) (bm := bm) (hdct := hd) (sn := sn) (sub := sub) (ab := ab) (col := col) (dd := dd) (k0 := k0) (k1 := k1) (k2 := k2) (k3 := k3) (k5 := k5)
    PySem.F.excBase_ValueError (mN := mN) (T.hasType PySem.F.excBase_ValueError.hasBase) (I.ok.hd hc) (by rw [he]; show (false || (backTo cpos (starEach es X.env)).any fun x => x.1) = false; rw [hpl]; rfl) hni (ld_glob I hg hm ⟨rfl, ?_⟩ hdb)
  have h2 := ha cpos pins s σ H _ I h
  rw [he] at h2 ⊢
  exact Calls.evalArgs_plain (wpAny_mono h2 (fun us s2 ⟨vs, H1, I1, r, hl, q⟩ => ⟨rfl, by rw [← r.length]; exact hl, I1.bk _ _ hC, hN.keeps I1.bk, T.keeps I1.bk,
    fun h' e hm' => hx.rais pins σ H1 s2 { s2 with heap := h' } e C us I1 hm' rfl rfl q⟩) fun _ _ y => y)
end

/-! ### try .. except -/
/-- the context of an except suite -/
abbrev Cx.hnd (X : Cx) (a : Addr) : Cx := { X with A := X.A.mark (some (.ref a)), calm := false, xe := fun _ _ => False }
abbrev Cx.pinned (X : Cx) (pins : List (Addr × Obj)) : Cx := { X with pn := X.pn ++ pins }
section
variable {X : Cx} {pins pins' : List (Addr × Obj)} {σ : St} {H : Hp} {s : Shared} {a : Addr} {E : Value → Shared → Prop}
theorem Cx.Ok.hnd (ok : X.Ok) : (X.hnd a).Ok := ⟨ok.mod, ok.kind, ok.glob, ok.blt, ok.above, ok.inj, ok.has, ok.cab, (fun z => Bool.noConfusion z), ok.frames, ok.stk, ok.exf, ok.bs, ok.bsz, ok.noex, ok.exfs, ok.funs, ok.frf⟩
theorem Cx.Ok.pinned (ok : X.Ok) (pins : List (Addr × Obj)) : (X.pinned pins).Ok := ⟨ok.mod, ok.kind, ok.glob, ok.blt, ok.above, ok.inj, ok.has, ok.cab, ok.hd, ok.frames, ok.stk, ok.exf, ok.bs, ok.bsz, ok.noex, ok.exfs, ok.funs, ok.frf⟩
theorem Inv.hnd (I : Inv X pins σ H s) : Inv (X.hnd a) pins σ H s := ⟨I.ok.hnd, I.os, I.bare, I.base, I.loc, I.cell, I.free, I.freeC, I.pin, I.hok, I.len⟩
theorem Inv.unhnd (ok : X.Ok) (I : Inv (X.hnd a) pins σ H s) : Inv X pins σ H s := ⟨ok, I.os, I.bare, I.base, I.loc, I.cell, I.free, I.freeC, I.pin, I.hok, I.len⟩
theorem Inv.pinnedX (I : Inv X pins σ H s) : Inv (X.pinned pins) [] σ H s := ⟨I.ok.pinned pins, I.os, I.bare, I.base, I.loc, I.cell, I.free, I.freeC, fun p hp => I.pin p (by simpa using hp), I.hok, I.len⟩
theorem Inv.unpinnedX (ok : X.Ok) (I : Inv (X.pinned pins) pins' σ H s) : Inv X pins σ H s := ⟨ok, I.os, I.bare, I.base, I.loc, I.cell, I.free, I.freeC, fun p hp => I.pin p (List.mem_append_left _ hp), I.hok, I.len⟩
end
/-- a row of handlers, at an exception that lies in the frame -/
abbrev TH := Ends → St → Hp → Value → Prop
def PH (X : Cx) (hs : List ExceptHandler) (t : TH) : Prop :=
  ∀ (pins : List (Addr × Obj)) (D : Ends) (a : Addr) (cls : Value) (s : Shared), X.Ok → UpSt (X.pinned pins) (fun σ cls _ H => t D σ H cls) phFly a cls s →
    wpAny (model X.prog X.w) X.A (handleBy (.ref a) X.env hs) (SP X pins D) X.xe s
def hNil : TH := fun _ _ _ _ => False
/-- what is wanted behind a suite whose name goes -/
abbrev Ends.gone (D : Ends) (i : Nat) (a : Addr) (cls : Value) : Ends := { nx := fun σ H => H a = some (.exc cls) ∧ D.nx (σ.set i none) (rm H a), rt := fun v H => H a = some (.exc cls) ∧ D.rt v (rm H a), bk := fun σ H => H a = some (.exc cls) ∧ D.bk (σ.set i none) (rm H a), ct := fun σ H => H a = some (.exc cls) ∧ D.ct (σ.set i none) (rm H a) }
def hAs (K : PySem.W.Frag) (c : Value) (i : Nat) (th : TS) (tr : TH) : TH := fun D σ H cls => match PySem.W.exmOne K cls c with
  | some true => ∀ a, H a = none → th (D.gone i a cls) (σ.set i (some (.ref a))) (upd H a (HO.exc cls))
  | some false => tr D σ H cls
  | none => False
section
variable {X : Cx} {c : Value} {i : Nat} {x n : Str} {np pos : Pos} {b₀ : Stmt} {suite : List Stmt} {th : TS} {tr : TH} {rest : List ExceptHandler}
theorem ty_looks {M : Model} {h : Heap} {a : Addr} {cls : Value} (e : ∃ o vs, h.get? a = some o ∧ o.cls = cls ∧ o.data = .fields vs) : PySem.W.Looks M h (typeOf (.ref a)) cls := by
  obtain ⟨o, _, ho, hc, _⟩ := e
  subst hc
  exact (PySem.W.Looks.ld ho).andThen .now
theorem ph_nil : PH X [] hNil := fun pins D a cls s ok u => by
  obtain ⟨_, _, _, _, _, _, _, _, h⟩ := u
  exact False.elim h
theorem ph_as (hex : X.ex = []) (hg : Gl X x) (hm : X.mg x = some c) (hN : X.N.Nodup) (hi : X.N[i]? = some n) (hn : X.env.scope.names.lookup n = some .local) (hs : ∀ a, PSs (X.hnd a) (b₀ :: suite) th) (hr : PH X rest tr)
    (hdb : (x == ("__debug__" : Str)) = false := by decide) : PH X (.ExceptHandler (some (.Name x np)) (some n) (b₀ :: suite) pos :: rest) (hAs X.K c i th tr) := by
  intro pins D a cls s ok u
  refine wpAny_handleBy_cons (codeAny_handlers_test ?_) (by intro q; cases q)
  obtain ⟨pins', σ, H', _, I, e, hna⟩ := u.adopt hex
  have LT : PySem.W.Looks (model X.prog X.w) s.heap (typeOf (.ref a)) cls := by obtain ⟨_, _, _, _, p, _, _, _, _⟩ := u; exact ty_looks (ph_there p)
  have I1 : Inv (X.hnd a) pins σ H' s := (I.unpinnedX ok).hnd
  refine ld_glob (X := X.hnd a) I1 hg hm ?_ hdb
  have e : hAs X.K c i th tr D σ H' cls := e
  unfold hAs at e
  cases q : PySem.W.exmOne X.K cls c with
  | none => rw [q] at e; exact False.elim e
  | some b =>
    refine (PySem.W.exm_one I.kIn LT q).here ?_
    cases b with
    | false =>
      refine hr pins D a cls s ok ?_
      obtain ⟨I, os, bare, way, p, hok, rel, sl, e⟩ := u
      refine ⟨I, os, bare, way, p, hok, rel, sl, ?_⟩
      have e : hAs X.K c i th tr D _ _ cls := e
      unfold hAs at e
      rw [q] at e
      exact e
    | true =>
      refine codeAny_handlers_suite_as (u.fly fun h' u' => ?_)
      obtain ⟨pins2, σ2, H2, Ia, _, e2, hn2⟩ := u'.adopt hex
      have e2 : hAs X.K c i th tr D σ2 H2 cls := e2
      unfold hAs at e2
      rw [q] at e2
      have Ia1 : Inv (X.hnd a) pins σ2 (upd H2 a (HO.exc cls)) { s with heap := h' } := (Ia.unpinnedX ok).hnd
      refine store_ok (X := X.hnd a) (v := .ref a) Ia1 hN hi (Or.inl hn) rfl (fun s3 I3 => ?_) (Or.inr hn)
      refine wpAny_mono (hs a pins s3 _ _ (D.gone i a cls) I3 (e2 a hn2)) (fun f s4 z => ?_) fun _ _ z => False.elim z
      cases f with
      | next => obtain ⟨σ4, H4, I4, e4, q4⟩ := z; exact goes_ok ((I4.unhnd ok).rm (p := a) (by rw [e4]; exact True.intro)) hN hi hn fun s5 I5 => ⟨_, _, I5, q4⟩
      | brk => obtain ⟨σ4, H4, I4, e4, q4⟩ := z; exact goes_ok ((I4.unhnd ok).rm (p := a) (by rw [e4]; exact True.intro)) hN hi hn fun s5 I5 => ⟨_, _, I5, q4⟩
      | cont => obtain ⟨σ4, H4, I4, e4, q4⟩ := z; exact goes_ok ((I4.unhnd ok).rm (p := a) (by rw [e4]; exact True.intro)) hN hi hn fun s5 I5 => ⟨_, _, I5, q4⟩
      | ret v => obtain ⟨v', σ4, H4, I4, rv, e4, q4⟩ := z; exact goes_ok ((I4.unhnd ok).rm (p := a) (by rw [e4]; exact True.intro)) hN hi hn fun s5 I5 => ⟨v', _, _, I5, rv, q4⟩
/-- try: body except ..: (no else, no finally) -/
def tTry (tb : (St → XK) → TS) (t : TH) : TS := fun D σ H => tb (fun σ cls _ H => t D σ H cls) D σ H
theorem ps_try {body : List Stmt} {h₀ : ExceptHandler} {hs : List ExceptHandler} {tb : (St → XK) → TS} {t : TH} (hst : X.stack = X.env :: X.outer) (hf : X.env.frame = some X.env.locals)
    (hb : ∀ (E : St → XK) (W : Value → Shared → Prop) (pins : List (Addr × Obj)), Exc ((X.pinned pins).wish W) E → PSs ((X.pinned pins).wish W) body (tb E)) (hh : PH X (h₀ :: hs) t) :
    PS X (.Try body (h₀ :: hs) [] [] pos) (tTry tb t) := by
  intro pins s σ H D I h
  have ex : Exc ((X.pinned pins).wish (UpW (X.pinned pins) (fun σ cls _ H => t D σ H cls) X.env.locals)) (fun σ cls _ H => t D σ H cls) := exc_up hst hf
  refine wpAny_Try_except (wpAny_mono (hb _ _ pins ex [] s σ H D (I.pinnedX.wish _) h) (fun f s1 z => ?_) fun e s1 ⟨a, cls, ee, u⟩ => ?_)
  · cases f with
    | next => obtain ⟨σ4, H4, I4, q4⟩ := z; exact wpAny_execs_nil ⟨_, _, (I4.unwish).unpinnedX I.ok, q4⟩
    | brk => obtain ⟨σ4, H4, I4, q4⟩ := z; exact ⟨_, _, (I4.unwish).unpinnedX I.ok, q4⟩
    | cont => obtain ⟨σ4, H4, I4, q4⟩ := z; exact ⟨_, _, (I4.unwish).unpinnedX I.ok, q4⟩
    | ret v => obtain ⟨v', σ4, H4, I4, rv, q4⟩ := z; exact ⟨v', _, _, (I4.unwish).unpinnedX I.ok, rv, q4⟩
  · subst ee
    exact u.note rfl hst hf fun h' u' => u'.fly fun h'' u'' => hh pins D a cls _ I.ok u''
end
end L2

/-! LZ: readings that compute. -/
namespace L2
open PySem PySem.Spec PyProof.Rows

section
variable {X : Cx}
theorem PE.mono {e : Expr} {t t' : TE} (h : PE X e t) (k : ∀ σ H Q, t' σ H Q → t σ H Q) : PE X e t' := fun pins s σ H Q I q => h pins s σ H Q I (k _ _ _ q)
theorem PT.mono {e : Expr} {t t' : TT} (h : PT X e t) (k : ∀ σ H Q, t' σ H Q → t σ H Q) : PT X e t' := fun pins s σ H Q I q => h pins s σ H Q I (k _ _ _ q)
theorem PS.mono {e : Stmt} {t t' : TS} (h : PS X e t) (k : ∀ D σ H, t' D σ H → t D σ H) : PS X e t' := fun pins s σ H D I q => h pins s σ H D I (k _ _ _ q)
theorem OpR.mono {f : Value → Value → Sem Value} {r r' : R2} (h : OpR X f r) (k : ∀ x y H Q, r' x y H Q → r x y H Q) : OpR X f r' := fun pins s σ H x y v u Q I rx ry q => h pins s σ H x y v u Q I rx ry (k _ _ _ _ q)
theorem CallR.mono {f : Value} {r r' : List V → Hp → VK → Prop} (h : CallR X f r) (k : ∀ xs H Q, r' xs H Q → r xs H Q) : CallR X f r' := fun pins s σ H xs us Q I rx q => h pins s σ H xs us Q I rx (k _ _ _ q)
theorem IxR.mono {r r' : R2} (h : IxR X r) (k : ∀ x y H Q, r' x y H Q → r x y H Q) : IxR X r' := fun value slice pins s σ H x y v u Q I rx ry q => h value slice pins s σ H x y v u Q I rx ry (k _ _ _ _ q)
end

/-! ### names -/
def cVar (i : Nat) : TE := fun σ H Q => match σ[i]? with
  | some (some v) => Q v H
  | _ => False
section
variable {X : Cx}
theorem cv (i : Nat) {x : Str} {pos : Pos} (hN : X.N[i]? = some x := by rfl) (hv : Vis X.env.scope x := by first | exact Or.inl rfl | exact Or.inr (Or.inl rfl) | exact Or.inr (Or.inr rfl)) (hd : (x == ("__debug__" : Str)) = false := by decide)
    (hcd : (x == ("__classdict__" : Str)) = false := by decide) : PE X (.Name x pos) (cVar i) := (pe_var hN hv hd hcd).mono fun σ H Q h => by
  unfold cVar at h
  split at h
  · rename_i v e; exact ⟨v, e, h⟩
  · exact h.elim
/-- a global's value -/
def Gv (mg : Str → Option Value) (x : Str) (v : V) : Prop := ∃ u, mg x = some u ∧ RelV v u
theorem pe_gv {x : Str} {v : V} {pos : Pos} (h : Gv X.mg x v) (hg : Gl X x := by rfl) (hd : (x == ("__debug__" : Str)) = false := by decide) : PE X (.Name x pos) (tC v) := by
  obtain ⟨u, hm, r⟩ := h
  exact pe_glob hg hm r hd
/-- a built-in type's name as a value -/
theorem pe_ty {x : Str} {T : String} {pos : Pos} (hm : X.mg x = none) (hv : bootBuiltins x = some (.type T)) (hg : Gl X x := by rfl) (hn : x ≠ "__name__" := by decide) (hd : (x == ("__debug__" : Str)) = false := by decide) :
    PE X (.Name x pos) (tC (.ty T)) := pe_bltn hg hm hv rfl hn hd
end

/-! ### operations -/
def cAdd : R2 := fun x y H Q => match x, y with
  | .int i, .int j => Q (.int (i + j)) H
  | .str i, .str j => i.length + j.length ≤ sizeLine ∧ Q (.str (i ++ j)) H
  | _, _ => False
def cSub : R2 := fun x y H Q => match x, y with
  | .int i, .int j => Q (.int (i - j)) H
  | _, _ => False
def cMul : R2 := fun x y H Q => match x, y with
  | .int i, .int j => CMul i j ∧ Q (.int (i * j)) H
  | .str z, .int n => z.length ≤ 1000 ∧ (n = 0 ∨ n = 1) ∧ Q (.str (if n = 1 then z else Str.empty)) H
  | _, _ => False
def cFdiv : R2 := fun x y H Q => match x, y with
  | .int i, .int j => CDiv i j ∧ Q (.int (i / j)) H
  | _, _ => False
def cMod : R2 := fun x y H Q => match x, y with
  | .int i, .int j => 0 < j ∧ Q (.int (i % j)) H
  | _, _ => False
def cPow : R2 := fun x y H Q => match x, y with
  | .int i, .int j => CPow i j ∧ Q (.int (i ^ j.toNat)) H
  | _, _ => False
def cCmp (p : Int → Int → Bool) : R2 := fun x y H Q => match x, y with
  | .int i, .int j => Q (.bl (p i j)) H
  | _, _ => False
abbrev cLt : R2 := cCmp fun i j => decide (i < j)
abbrev cLe : R2 := cCmp fun i j => decide (i ≤ j)
abbrev cGt : R2 := cCmp fun i j => decide (j < i)
/-- == of two scalars -/
def eqv : V → V → Option Bool
  | .int i, .int j => some (decide (i = j))
  | .str i, .str j => some (decide (i = j))
  | .bl i, .bl j => some (decide (i = j))
  | .non, .non => some true
  | .non, .int _ => some false | .int _, .non => some false | .non, .bl _ => some false | .bl _, .non => some false | .non, .str _ => some false | .str _, .non => some false
  | .int _, .str _ => some false | .str _, .int _ => some false | .bl _, .str _ => some false | .str _, .bl _ => some false
  | _, _ => none
def cEq : R2 := fun x y H Q => match eqv x y with
  | some b => Q (.bl b) H
  | none => False
def cNe : R2 := fun x y H Q => match eqv x y with
  | some b => Q (.bl (!b)) H
  | none => False
def cNeg : V → Hp → VK → Prop := fun x H Q => match x with
  | .int i => Q (.int (-i)) H
  | _ => False
theorem eqv_scal {x y : V} {b : Bool} (h : eqv x y = some b) : scal x y = true ∧ decide (x = y) = b := by
  cases x <;> cases y <;> simp only [eqv, Option.some.injEq, reduceCtorEq] at h <;> subst h <;> simp [scal]
section
variable {X : Cx}
theorem c_add : OpR X (binaryOp .Add) cAdd := by
  intro pins s σ H x y v u Q I rx ry h
  unfold cAdd at h
  split at h
  · exact op_add pins s σ H _ _ v u Q I rx ry ⟨_, _, rfl, rfl, h⟩
  · exact op_add_str pins s σ H _ _ v u Q I rx ry ⟨_, _, rfl, rfl, h.1, h.2⟩
  · exact h.elim
theorem c_sub : OpR X (binaryOp .Sub) cSub := op_sub.mono fun x y H Q h => by
  unfold cSub at h
  split at h
  · exact ⟨_, _, rfl, rfl, h⟩
  · exact h.elim
theorem c_mul : OpR X (binaryOp .Mult) cMul := by
  intro pins s σ H x y v u Q I rx ry h
  unfold cMul at h
  split at h
  · exact op_mul pins s σ H _ _ v u Q I rx ry ⟨_, _, rfl, rfl, h.1, h.2⟩
  · rename_i z n
    obtain ⟨t, rfl⟩ := (show ∃ t, v = Value.str z t from rx)
    obtain ⟨t', rfl⟩ := (show ∃ t, u = Value.int n t from ry)
    obtain ⟨hz, hn, h⟩ := h
    refine SB.mul (mulOk_of 1000 16 hz (by omega) (by omega) (by decide) (by decide)) fun t2 k => ?_
    rcases hn with rfl | rfl
    · exact ⟨.str Str.empty, H, I.tok _, ⟨t2, rfl⟩, h⟩
    · exact ⟨.str z, H, I.tok _, ⟨t2, rfl⟩, h⟩
  · exact h.elim
theorem c_fdiv : OpR X (binaryOp .FloorDiv) cFdiv := op_fdiv.mono fun x y H Q h => by
  unfold cFdiv at h
  split at h
  · exact ⟨_, _, rfl, rfl, h.1, h.2⟩
  · exact h.elim
theorem c_mod : OpR X (binaryOp .Mod) cMod := op_mod.mono fun x y H Q h => by
  unfold cMod at h
  split at h
  · exact ⟨_, _, rfl, rfl, h.1, h.2⟩
  · exact h.elim
theorem c_pow : OpR X (binaryOp .Pow) cPow := op_pow.mono fun x y H Q h => by
  unfold cPow at h
  split at h
  · exact ⟨_, _, rfl, rfl, h.1, h.2⟩
  · exact h.elim
theorem c_cmp {op : CmpOp} {p : Int → Int → Bool} (h : OpR X (compareOp op) (rI0 fun i j => .bl (p i j))) : OpR X (compareOp op) (cCmp p) := h.mono fun x y H Q h => by
  unfold cCmp at h
  split at h
  · exact ⟨_, _, rfl, rfl, h⟩
  · exact h.elim
theorem c_lt : OpR X (compareOp .Lt) cLt := c_cmp op_lt
theorem c_le : OpR X (compareOp .LtE) cLe := c_cmp op_le
theorem c_gt : OpR X (compareOp .Gt) cGt := c_cmp op_gt
theorem c_eq : OpR X (compareOp .Eq) cEq := op_eq.mono fun x y H Q h => by
  unfold cEq at h
  split at h
  · rename_i b e
    obtain ⟨e1, e2⟩ := eqv_scal e
    exact ⟨e1, by rw [e2]; exact h⟩
  · exact h.elim
theorem c_ne : OpR X (compareOp .NotEq) cNe := op_ne.mono fun x y H Q h => by
  unfold cNe at h
  split at h
  · rename_i b e
    obtain ⟨e1, e2⟩ := eqv_scal e
    exact ⟨e1, by rw [e2]; exact h⟩
  · exact h.elim
theorem c_neg : UnR X (unaryOp .USub) cNeg := fun pins s σ H x v Q I rx h => by
  unfold cNeg at h
  split at h
  · exact un_neg pins s σ H _ v Q I rx ⟨_, rfl, h⟩
  · exact h.elim
end

end L2

namespace L2
open PySem PySem.Spec PyProof.Rows
/-! ### [a, b, ..][i]: the list is forgotten -/
def rIxM : R2 := fun x y H Q => match x, y with
  | .ref p, .int i => (match H p with
    | some (.lst xs) => (match atI xs i with
      | some v => Q v (rm H p)
      | none => False)
    | _ => False)
  | _, _ => False
section
variable {X : Cx} {es : List Expr} {e : Expr} {t : TA} {ti : TE} {pos p2 : Pos}
theorem ix_menu : IxR X rIxM := by
  intro value slice pins s σ H x y v u Q I rx ry h hsub
  unfold rIxM at h
  split at h
  case h_2 => exact h.elim
  rename_i p i
  split at h
  case h_2 => exact h.elim
  rename_i xs hp
  split at h
  case h_2 => exact h.elim
  rename_i v' ha
  have q := h
  refine thn (ix_list value slice pins s σ H _ _ v u (fun z H' => z = v' ∧ H' = H) I rx ry ⟨p, xs, i, v', rfl, rfl, SqL.of hp, ha, rfl, rfl⟩ hsub) fun u s' ⟨z, H', I', r, e1, e2⟩ => ?_
  subst e1 e2
  exact ⟨z, rm H' p, I'.rm (by rw [hp]; exact True.intro), r, q⟩
theorem pe_menu (ha : PA X es t) (hi : PE X e ti) (hs : PlainIx e) : PE X (.Subscript (.List es p2) e pos) (tOp rIxM (tLst t) ti) := pe_ix ix_menu (pe_lst ha) hi hs
end

/-! ### items, lengths, small built-ins -/
def cIx : R2 := fun x y H Q => match x, y with
  | .ref p, .int i => (match H p with
    | some (.lst xs) => (match atI xs i with
      | some v => Q v H
      | none => False)
    | some (.tup xs) => (match atI xs i with
      | some v => Q v H
      | none => False)
    | _ => False)
  | _, _ => False
def cLen : List V → Hp → VK → Prop := fun xs H Q => match xs with
  | [.ref p] => (match H p with
    | some (.lst ys) => Q (.int ys.length) H
    | some (.tup ys) => Q (.int ys.length) H
    | _ => False)
  | _ => False
/-- of a list that is read only (the script) -/
def cIxS (K : PySem.W.Frag) : R2 := fun x y H Q => match x, y with
  | .ref p, .int i => ∃ xs, SqL K H p xs ∧ (match atI xs i with
      | some v => Q v H
      | none => False)
  | _, _ => False
def cLenS (K : PySem.W.Frag) : List V → Hp → VK → Prop := fun xs H Q => match xs with
  | [.ref p] => ∃ ys, SqL K H p ys ∧ Q (.int ys.length) H
  | _ => False
def cInt : List V → Hp → VK → Prop := fun xs H Q => match xs with
  | [.int i] => Q (.int i) H
  | [.bl k] => Q (.int (if k then 1 else 0)) H
  | _ => False
section
variable {X : Cx}
theorem c_ix : IxR X cIx := by
  intro value slice pins s σ H x y v u Q I rx ry h hsub
  unfold cIx at h
  split at h
  case h_2 => exact h.elim
  split at h
  · rename_i xs hp
    split at h
    case h_2 => exact h.elim
    rename_i v' ha
    exact ix_list value slice pins s σ H _ _ v u Q I rx ry ⟨_, xs, _, v', rfl, rfl, SqL.of hp, ha, h⟩ hsub
  · rename_i xs hp
    split at h
    case h_2 => exact h.elim
    rename_i v' ha
    exact ix_tup value slice pins s σ H _ _ v u Q I rx ry ⟨_, xs, _, v', rfl, rfl, SqT.of hp, ha, h⟩ hsub
  · exact h.elim
theorem c_ixS : IxR X (cIxS X.K) := by
  intro value slice pins s σ H x y v u Q I rx ry h hsub
  unfold cIxS at h
  split at h
  case h_2 => exact h.elim
  obtain ⟨xs, hp, h⟩ := h
  split at h
  case h_2 => exact h.elim
  rename_i v' ha
  exact ix_list value slice pins s σ H _ _ v u Q I rx ry ⟨_, xs, _, v', rfl, rfl, hp, ha, h⟩ hsub
theorem c_len : CallR X (.builtin "len") cLen := call_len_seq.mono fun xs H Q h => by
  unfold cLen at h
  split at h
  case h_2 => exact h.elim
  split at h
  · rename_i ys hp; exact ⟨_, ys, rfl, .inl (SqL.of hp), h⟩
  · rename_i ys hp; exact ⟨_, ys, rfl, .inr (SqT.of hp), h⟩
  · exact h.elim
theorem c_lenS : CallR X (.builtin "len") (cLenS X.K) := call_len_seq.mono fun xs H Q h => by
  unfold cLenS at h
  split at h
  case h_2 => exact h.elim
  obtain ⟨ys, hp, h⟩ := h
  exact ⟨_, ys, rfl, .inl hp, h⟩
theorem c_int : CallR X (.type "int") cInt := call_int1.mono fun xs H Q h => by
  unfold cInt at h
  split at h
  · exact .inl ⟨_, rfl, h⟩
  · exact .inr ⟨_, rfl, h⟩
  · exact h.elim
end
theorem cxOf_K {CX : CXT} {ca : Bool} {P : Program} {w : World} {K : PySem.W.Frag} {mg : Str → Option Value} {base : Heap} {N : List Str} {qual : Str} {scope : Scope} {f : Addr} {cd : Value} {A : Around} {outer : List Env} {s : Shared} {H : Hp} {E : XK} :
    (cxOf CX ca P w K mg base N qual scope f cd A outer s H E).K = K := rfl

/-! ### within an except suite -/
theorem exc_hnd {X : Cx} {a : Addr} : Exc (X.hnd a) (fun _ _ _ _ => False) := ⟨fun _ _ _ _ _ _ _ ⟨_, _, _, _, _, _, _, _, _, _, _, _, h⟩ => h, fun _ _ _ _ _ _ _ _ _ _ _ _ h => h, PassesOwn.never⟩
theorem Room.hnd {ca : Bool} {k : Nat} {A : Around} {v : Value} (r : Room ca k A) : Room false k (A.mark (some v)) := ⟨fun z => Bool.noConfusion z, r.dp, r.un⟩
end L2

/-! LI: isinstance, of caught own exceptions too. -/
namespace L2
open PySem PySem.Spec PyProof.Rows

/-- what isinstance wants of an own exception's class -/
structure KiE (K : PySem.W.Frag) (C : Addr) : Prop where
  ga : PySem.W.findIn K (.ref C) "__getattribute__" = some (some (.builtin "BaseException.__getattribute__"))
  gt : PySem.W.findIn K (.ref C) "__getattr__" = some none
  cl : PySem.W.findIn K (.ref C) "__class__" = some (some (.builtin "object.__class__"))
  hn : PySem.W.specialIn K (.builtin "object.__class__") "__get__" = some (some (.builtin "getset_descriptor.__get__"))
  tk : PySem.W.takesIn K (.builtin "object.__class__") = some true
  mb : PySem.W.mroIn K C (.type "BaseException") = some true
  mo : PySem.W.mroIn K C (.type "object") = some true
section
open Builtin Builtin.ObjectAttr Builtin.Getset_descriptor
variable {prog : Program} {w : World} {A : Around} {E : Value → Shared → Prop} {s : Shared} {K : PySem.W.Frag} {a C : Addr}
theorem KiE.cls (ki : KiE K C) : ∃ cd, PySem.W.clsIn K C = some cd := by
  have h := ki.mo
  unfold PySem.W.mroIn at h
  cases q : PySem.W.clsIn K C with
  | none => rw [q] at h; cases h
  | some cd => exact ⟨cd, rfl⟩
theorem xc_get {R : Result → Shared → Prop} {tp : Value} (X : K.In s.heap) (I : PySem.W.Looks (model prog w) s.heap (typeOf (.ref a)) (.ref C)) (ki : KiE K C) (h : R (.ok (.ret (.ref C))) s) :
    codeAny (model prog w) A (.call (.builtin "getset_descriptor.__get__") ⟨[.builtin "object.__class__", .ref a, tp], []⟩) R s := by
  obtain ⟨hh, g, dr, t, os⟩ := s
  have L1 := PySem.W.looks_mroIn (M := model prog w) X ki.mo
  refine codeAny_call_builtin PySem.W.KF.slot_gs.plain PySem.W.KF.entry_gs (PySem.W.KF.slot_gs.check _ _ _ _ _ _ _ _ PySem.W.KF.type_class (PySem.W.KF.args_gs _ _ _) ?_)
  unfold Builtin.«getset_descriptor.__get__» descrGet; rw [PySem.W.dga_obj]; refine wpAny_bind (wpAny_pure ?_)
  unfold descrGetter descrCheckInstance descrNameAndClass isInstance; simp only [PySem.W.KF.owner_class]; repeat lk
  refine ⟨Code.quiet_builtin _ (by decide +kernel), codeAny_builtin PySem.W.KF.entry_class ?_⟩; unfold Builtin.«object.__class__» shownTypeOf; repeat lk
  exact h
theorem xc_entry {tk : Tok} {Q : Fin → Shared → Prop} (X : K.In s.heap) (I : PySem.W.Looks (model prog w) s.heap (typeOf (.ref a)) (.ref C)) (ki : KiE K C) (h : Q (.done (.ret (.ref C))) s) :
    wpAny (model prog w) A (Builtin.«object.__getattribute__» ⟨[.ref a, .str "__class__" tk], []⟩) Q E s := by
  obtain ⟨hh, g, d, t, os⟩ := s
  have L1 : PySem.W.Looks (model prog w) hh (find (.ref a) (.ref C) "__class__") (.bind (.builtin "getset_descriptor.__get__") (.builtin "object.__class__")) := by
    have LA := PySem.W.looks_findIn (M := model prog w) X ki.cl
    have LB : PySem.W.Looks (model prog w) hh (getOf (some (.builtin "object.__class__"))) (some (.builtin "getset_descriptor.__get__")) := PySem.W.looks_specialIn X ki.hn
    have LC := PySem.W.looks_takesIn (M := model prog w) X ki.tk
    refine LA.andThen (LB.andThen ?_)
    exact (show PySem.W.Looks (model prog w) hh (dataDescriptor? (some (.builtin "object.__class__")) (some (.builtin "getset_descriptor.__get__"))) (some (.builtin "getset_descriptor.__get__", .builtin "object.__class__")) from LC.andThen .now).andThen (PySem.W.Looks.tag .now)
  unfold Builtin.«object.__getattribute__»
  refine wpAny_bind (m := slotArgs _ _ _) (wpAny_pure ?_)
  refine wpAny_bind (m := attrName _) (wpAny_pure ?_)
  refine wpAny_bind (I.at (wpAny_bind (L1.at ?_)))
  show wpAny _ _ (bindTo _ _ _ _) _ _ _
  show wpAny _ _ (holding [_] (call _ [_, .ref a, .ref C]) >>= ret) _ _ _
  exact wpAny_bind (wpAny_holding (wpAny_call (xc_get X I ki (wpAny_pure h))))
theorem xc_call {tk : Tok} {R : Result → Shared → Prop} (X : K.In s.heap) (I : PySem.W.Looks (model prog w) s.heap (typeOf (.ref a)) (.ref C)) (ki : KiE K C) (h : R (.ok (.ret (.ref C))) s) :
    codeAny (model prog w) A (.call (.builtin "BaseException.__getattribute__") ⟨[.ref a, .str "__class__" tk], []⟩) R s := by
  obtain ⟨hh, g, d, t, os⟩ := s
  have L1 := PySem.W.looks_mroIn (M := model prog w) X ki.mb
  refine codeAny_call_builtin PySem.F.attr_ValueError.ga.plain PySem.F.entry_bexc_ga ?_
  have hk : builtinKind "BaseException.__getattribute__" = some .slot := by decide +kernel
  have hsplit : splitId "BaseException.__getattribute__" = some ("BaseException", "__getattribute__") := by decide +kernel
  have ha := PySem.F.args_bexc_ga (.ref a) (.str "__class__" tk)
  simp only [checkBuiltinCall, hk, hsplit]
  refine wpAny_bind (wpAny_bind (I.at (L1.at ?_)))
  rw [if_neg (by decide)]
  unfold argsOk at ha
  exact wpAny_of_eq (a := ()) ha (xc_entry X I ki h)
theorem xc_attr {Q : Option Value → Shared → Prop} (X : K.In s.heap) (I : PySem.W.Looks (model prog w) s.heap (typeOf (.ref a)) (.ref C)) (ki : KiE K C) (h : Q (some (.ref C)) { s with toks := s.toks + 1 }) :
    wpAny (model prog w) A (getAttr? (.ref a) "__class__") Q E s := by
  obtain ⟨hh, g, d, t, os⟩ := s
  have L1 := PySem.W.looks_findIn (M := model prog w) X ki.ga
  have L2 := PySem.W.looks_findIn (M := model prog w) X ki.gt
  unfold getAttr? getAttrBy? getAttrBy
  refine wpAny_bind (wpAny_mkText (wpAny_bind (wpAny_attempt (wpAny_holding (wpAny_bind (I.at (wpAny_bind (L1.at ?_))))))))
  show wpAny _ _ (getAttrByItsOwn _ _ _ _ _ _) _ _ _
  unfold getAttrByItsOwn
  refine wpAny_bind (m := hookBefore _) ?_
  show wpAny _ _ (typeLookup (.ref C) "__getattr__") _ _ _
  refine L2.at (wpAny_bind (wpAny_attempt (wpAny_holding ?_)))
  show wpAny _ _ (boundAndCalled _ _ _) _ _ _
  unfold boundAndCalled
  refine wpAny_bind (wpAny_of_eq (PySem.F.attr_ValueError.ga.bind _) ?_)
  refine wpAny_call (xc_call X I ki ?_)
  exact PySem.W.handed_on rfl (wpAny_pure h)
theorem kitx_exc (ki : KiE K C) : PySem.W.KitX K (.ref a) (.ref C) (fun h => ∃ o vs, h.get? a = some o ∧ o.cls = .ref C ∧ o.data = .fields vs) where
  ty := fun M h _ p => ty_looks p
  it := fun _ _ X _ => by
    obtain ⟨cd, hc⟩ := ki.cls
    unfold PySem.W.clsIn at hc
    split at hc
    · rename_i c' d' cd' sl' ho
      intro A' Q' E' s' k q; unfold isType loadHead; exact wpAny_bind (wpAny_loadPart (k _ _ (X _ _ ho)) (wpAny_pure q))
    · cases hc
  ne := fun h tp dd its n sl X htp => by
    obtain ⟨cd, hc⟩ := ki.cls
    refine Bool.eq_false_iff.mpr fun q => ?_
    have e : C = tp := Value.ref.inj (beq_iff_eq.mp q)
    subst e
    unfold PySem.W.clsIn at hc
    split at hc
    · rename_i c' d' cd' sl' ho; have z := (X _ _ ho).symm.trans htp; cases z
    · cases hc
  ca := fun X p k => xc_attr X (ty_looks p) ki k
end

/-- what isinstance wants of an own class -/
structure KiI (K : PySem.W.Frag) (C : Addr) : Prop where
  cl : Cls K C
  ha : PySem.W.findIn K (.ref C) "__class__" = some (some (.builtin "object.__class__"))
  hn : PySem.W.specialIn K (.builtin "object.__class__") "__get__" = some (some (.builtin "getset_descriptor.__get__"))
  tk : PySem.W.takesIn K (.builtin "object.__class__") = some true
  hm : PySem.W.mroIn K C (.type "object") = some true
/-- the type of a value -/
def tyo (H : Hp) : V → Option Value
  | .non => some (.type "NoneType")
  | .bl _ => some (.type "bool")
  | .int _ => some (.type "int")
  | .str _ => some (.type "str")
  | .ref a => match H a with
    | some (.lst _) => some (.type "list")
    | some (.frz _ (.lst _)) => some (.type "list")
    | some (.tup _) => some (.type "tuple")
    | some (.dK _) => some (.type "dict")
    | some (.ins C _ _) => some (.ref C)
    | some (.exc c) => some c
    | _ => none
  | _ => none
def OkTy (K : PySem.W.Frag) (H : Hp) : V → Prop
  | .ref a => match H a with
    | some (.ins C _ _) => KiI K C
    | some (.exc c) => ∃ C, c = .ref C ∧ KiE K C
    | _ => True
  | _ => True
def kitV (K : PySem.W.Frag) (t : Value) : V → Option Bool
  | .ty n => PySem.W.kitOne K t (.type n)
  | .ref C => PySem.W.kitOne K t (.ref C)
  | _ => none
def rIsi (K : PySem.W.Frag) : List V → Hp → VK → Prop := fun xs H Q => match xs with
  | [x, c] => (match tyo H x with
    | some t => OkTy K H x ∧ (match kitV K t c with
      | some b => Q (.bl b) H
      | none => False)
    | none => False)
  | _ => False
theorem call_isi {X : Cx} : CallR X (.builtin "isinstance") (rIsi X.K) := by
  intro pins s σ H xs us Q I r h
  unfold rIsi at h
  split at h
  case h_2 => exact h.elim
  rename_i x c
  obtain ⟨u, w', rfl, rx, rc⟩ := vals2 r
  split at h
  case h_2 => exact h.elim
  rename_i t ht
  obtain ⟨ok, h⟩ := h
  split at h
  case h_2 => exact h.elim
  rename_i b hk
  have q := h
  have hc : PySem.W.kitOne X.K t w' = some b := by
    cases c <;> first | (cases (show w' = Value.type _ from rc); exact hk) | (cases (show w' = Value.ref _ from rc); exact hk) | cases hk
  have fin : ∀ tk, EP X pins σ Q (.bool b) { s with toks := tk } := fun tk => ⟨.bl b, H, I.tok tk, rfl, q⟩
  cases x with
  | non => cases ht; exact isinst_ok I rx .non hc fin
  | bl y => cases ht; exact isinst_ok I rx (.bl y) hc fin
  | int i => cases ht; exact isinst_ok I rx (.int i) hc fin
  | str y => cases ht; exact isinst_ok I rx (.str y) hc fin
  | byt y => cases ht
  | flt y => cases ht
  | ty n => cases ht
  | ref a =>
    unfold tyo at ht
    unfold OkTy at ok
    dsimp only at ht ok
    cases e : H a with
    | none => rw [e] at ht; cases ht
    | some o =>
      rw [e] at ht ok
      cases o with
      | lst xs => cases ht; exact isinst_ok I rx (.lst e) hc fin
      | tup xs => cases ht; exact isinst_ok I rx (.tup e) hc fin
      | dK kvs => cases ht; exact isinst_ok I rx (.dK e) hc fin
      | ins C dx fs => cases ht; exact isinst_ok I rx (.ins e ok.cl ok.ha ok.hn ok.tk ok.hm) hc fin
      | frz ob u =>
        cases u with
        | lst xs => cases ht; exact isinst_ok I rx (.frz e) hc fin
        | _ => cases ht
      | exc c =>
        cases ht
        obtain ⟨C, rfl, ki⟩ := ok
        cases (show u = Value.ref a from rx)
        exact PySem.W.kia_one (kitx_exc ki) I.kIn (show ObjOk X.prog X.w H s.heap a (.exc (.ref C)) from I.hok a _ e) hc (fun z => nomatch z) fin
      | _ => cases ht
theorem sz0 : (0 ≤ sizeLine) = True := eq_true (by decide)
theorem sz1 : (1 ≤ sizeLine) = True := eq_true (by decide)
theorem sz2 : (2 ≤ sizeLine) = True := eq_true (by decide)
theorem sz3 : (3 ≤ sizeLine) = True := eq_true (by decide)
theorem sz4 : (4 ≤ sizeLine) = True := eq_true (by decide)
theorem sz5 : (5 ≤ sizeLine) = True := eq_true (by decide)
theorem sz7 : (7 ≤ sizeLine) = True := eq_true (by decide)
theorem sz8 : (8 ≤ sizeLine) = True := eq_true (by decide)
theorem sz9 : (9 ≤ sizeLine) = True := eq_true (by decide)
theorem sz11 : (11 ≤ sizeLine) = True := eq_true (by decide)
theorem sz13 : (13 ≤ sizeLine) = True := eq_true (by decide)
theorem ofs_inj {a b : String} : (Str.ofString a = Str.ofString b) = (a = b) := by
  refine propext ⟨fun h => ?_, fun h => by rw [h]⟩
  rw [Str.ofString_eq_toList, Str.ofString_eq_toList] at h
  have h1 : (a.toList.map Char.toNat).toArray = (b.toList.map Char.toNat).toArray := congrArg Str.cps h
  have h2 : a.toList.map Char.toNat = b.toList.map Char.toNat := congrArg Array.toList h1
  have h3 : a.toList = b.toList := by
    refine (List.map_inj_right fun x y e => ?_).mp h2
    exact Char.ext (UInt32.toNat_inj.mp e)
  exact String.toList_inj.mp h3
theorem ofs_app (a b : String) : Str.ofString a ++ Str.ofString b = Str.ofString (a ++ b) := by
  rw [Str.ofString_eq_toList, Str.ofString_eq_toList, Str.ofString_eq_toList]
  refine congrArg Str.mk ?_
  simp
theorem emp_ofs : Str.empty = Str.ofString "" := by decide +kernel
end L2

/-! LW: argument lists without stars, looked at once and for all. -/
namespace L2
open PySem PySem.Spec PyProof.Rows
def notStar : Expr → Bool
  | .Starred _ _ => false
  | _ => true
theorem star_ns {e : Expr} {rest : List Expr} {env : Env} (h : notStar e = true) : starEach (e :: rest) env = (false, eval e env) :: starEach rest env := by
  cases e <;> first | rfl | cases h
theorem star_any {env : Env} {pos : Pos} : ∀ {es : List Expr}, es.all notStar = true → (backTo pos (starEach es env)).any (·.1) = false
  | [], _ => rfl
  | e :: es, h => by
    rw [List.all_cons, Bool.and_eq_true] at h
    rw [star_ns h.1]
    show (false || (backTo pos (starEach es env)).any (·.1)) = false
    rw [star_any h.2]; rfl
section
variable {X : Cx} {ca : Bool} {k : Nat} {f C : Addr} {fd : FuncData} {ps : List Str} {sp : Sp} {E : St → XK} {x m : Str} {p pos apos np cpos : Pos} {e o : Expr} {es : List Expr} {te ta : TE} {t : TA} {id T : String} {r : List V → Hp → VK → Prop}
theorem pa_c (ha : PE X e te) (hr : PA X es t) (h : notStar e = true := by rfl) : PA X (e :: es) (tCons te t) := pa_cons ha hr (star_ns h)
theorem pe_callF (F : FnOk X.prog X.w X.K X.mg X.base (CXE X.prog X.w) ca k f fd ps sp) (hr : Room ca k X.A) (hg : Gl X x) (hm : X.mg x = some (.ref f)) (hk : PySem.W.keepIn X.K (.ref f) = true) (hb : Binds X.K fd ps []) (hx : Exc X E)
    (ha : PA X (e :: es) t) (hdb : (x == ("__debug__" : Str)) = false := by decide) (h : (e :: es).all notStar = true := by rfl) : PE X (.Call (.Name x p) (e :: es) [] pos) (tCallE sp E t) :=
  pe_callE F hr hg hm hk hb hx ha hdb (star_ns (by rw [List.all_cons, Bool.and_eq_true] at h; exact h.1)) (star_any (by rw [List.all_cons, Bool.and_eq_true] at h; exact h.2))
theorem pe_makeF (M : Mk X.K C f) (F : FnOk X.prog X.w X.K X.mg X.base (CXE X.prog X.w) ca k f fd ps sp) (hr : Room ca (k + 1) X.A) (hg : Gl X x) (hm : X.mg x = some (.ref C)) (hb : Binds X.K fd ps []) (hx : Exc X E)
    (ha : PA X (e :: es) t) (hdb : (x == ("__debug__" : Str)) = false := by decide) (h : (e :: es).all notStar = true := by rfl) : PE X (.Call (.Name x p) (e :: es) [] pos) (tMakeE C sp E t) :=
  pe_makeE M F hr hg hm hb hx ha hdb (star_ns (by rw [List.all_cons, Bool.and_eq_true] at h; exact h.1)) (star_any (by rw [List.all_cons, Bool.and_eq_true] at h; exact h.2))
theorem ps_raiseF (hx : Exc X E) (hg : Gl X x) (hm : X.mg x = some (.ref C)) (hq : ExcC X.K C) (hc : X.calm = true) (ha : PA X (e :: es) t) (h : (e :: es).all notStar = true := by rfl) (hdb : (x == ("__debug__" : Str)) = false := by decide) :
    PS X (.Raise (some (.Call (.Name x np) (e :: es) [] cpos)) none pos) (tRaise C E t) :=
  ps_raise hx hg hm hq hc ha (star_ns (by rw [List.all_cons, Bool.and_eq_true] at h; exact h.1)) (star_any (by rw [List.all_cons, Bool.and_eq_true] at h; exact h.2)) hdb
theorem pe_callBF (hc : CallR X (.builtin id) r) (hg : Gl X x) (hm : X.mg x = none) (hv : bootBuiltins x = some (.builtin id)) (ha : PA X (e :: es) t) (hn : x ≠ "__name__" := by decide) (hdb : (x == ("__debug__" : Str)) = false := by decide)
    (h : (e :: es).all notStar = true := by rfl) : PE X (.Call (.Name x p) (e :: es) [] pos) (tCB r t) :=
  pe_callB hc hg hm hv ha hn hdb (star_ns (by rw [List.all_cons, Bool.and_eq_true] at h; exact h.1)) (star_any (by rw [List.all_cons, Bool.and_eq_true] at h; exact h.2))
theorem pe_callTyF (hc : CallR X (.type T) r) (hg : Gl X x) (hm : X.mg x = none) (hv : bootBuiltins x = some (.type T)) (ha : PA X (e :: es) t) (hn : x ≠ "__name__" := by decide) (hdb : (x == ("__debug__" : Str)) = false := by decide)
    (h : (e :: es).all notStar = true := by rfl) : PE X (.Call (.Name x p) (e :: es) [] pos) (tCB r t) :=
  pe_callTy hc hg hm hv ha hn hdb (star_ns (by rw [List.all_cons, Bool.and_eq_true] at h; exact h.1)) (star_any (by rw [List.all_cons, Bool.and_eq_true] at h; exact h.2))
end
end L2

/-! LV: loops, fields, methods, lists and dicts: readings that compute. -/
namespace L2
open PySem PySem.Spec PyProof.Rows

/-! ### loops -/
/-- what a loop wants, behind its iterable -/
def LoopW (J : It) (g : TG) (tb : TS) (D : Ends) (σ : St) (H1 : Hp) : Prop := ∃ W : Nat → Nat → St → Hp → Prop, (∃ m, W 0 m σ H1) ∧ ∀ i m σ H, W i m σ H →
  (J.stop i H ∧ D.nx σ H) ∨ (J.go i H ∧ ∃ N : St → Hp → Prop, (∀ σ' H', N σ' H' → ∃ m', m' < m ∧ W (i + 1) m' σ' H') ∧ ∀ x H', J.yld i H x H' → g x σ H' fun σ2 H2 => tb { D with nx := N, ct := N, bk := D.nx } σ2 H2)
theorem tFor_eq {wi : TI} {g : TG} {tb : TS} : tFor wi g tb = fun D σ H => wi σ H fun J H1 => LoopW J g tb D σ H1 := rfl
theorem LoopW.range {lo : Int} {n : Nat} {g : TG} {tb : TS} {D : Ends} {σ : St} {H : Hp} (Pv : Nat → St → Hp → Prop) (h0 : Pv 0 σ H)
    (hs : ∀ i σ H, i < n → Pv i σ H → g (.int (lo + i)) σ H fun σ2 H2 => tb { D with nx := Pv (i + 1), ct := Pv (i + 1), bk := D.nx } σ2 H2) (hd : ∀ σ H, Pv n σ H → D.nx σ H) : LoopW (Itr lo n) g tb D σ H :=
  for_range Pv h0 hs hd
theorem LoopW.list {K : PySem.W.Frag} {a : Addr} {xs : List V} {g : TG} {tb : TS} {D : Ends} {σ : St} {H : Hp} (Pv : Nat → St → Hp → Prop) (h0 : Pv 0 σ H) (hl : ∀ i σ H, i ≤ xs.length → Pv i σ H → SqL K H a xs)
    (hs : ∀ i x σ H, xs[i]? = some x → Pv i σ H → g x σ H fun σ2 H2 => tb { D with nx := Pv (i + 1), ct := Pv (i + 1), bk := D.nx } σ2 H2) (hd : ∀ σ H, Pv xs.length σ H → D.nx σ H) : LoopW (Itl K a) g tb D σ H :=
  for_list Pv h0 hl hs hd
theorem LoopW.tup {K : PySem.W.Frag} {a : Addr} {xs : List V} {g : TG} {tb : TS} {D : Ends} {σ : St} {H : Hp} (Pv : Nat → St → Hp → Prop) (h0 : Pv 0 σ H) (hl : ∀ i σ H, i ≤ xs.length → Pv i σ H → SqT K H a xs)
    (hs : ∀ i x σ H, xs[i]? = some x → Pv i σ H → g x σ H fun σ2 H2 => tb { D with nx := Pv (i + 1), ct := Pv (i + 1), bk := D.nx } σ2 H2) (hd : ∀ σ H, Pv xs.length σ H → D.nx σ H) : LoopW (Itt K a) g tb D σ H :=
  for_tup Pv h0 hl hs hd

/-! ### a part of a list by a written index -/
theorem ixN_in {n : Nat} {i : Int} (h0 : 0 ≤ i) (h1 : i < n) : ixN n i = some i.toNat := by
  unfold ixN
  rw [if_pos h0, if_pos h1]
theorem atI_in {α : Type} {xs : List α} {i : Int} (h0 : 0 ≤ i) (h1 : i < xs.length) : atI xs i = xs[i.toNat]? := by
  unfold atI
  rw [ixN_in h0 h1]; rfl

/-! ### fields and methods -/
def cFld (K : PySem.W.Frag) (ta : TE) (f : Str) : TE := fun σ H Q => ta σ H fun x H1 => match x with
  | .ref a => (match H1 a with
    | some (.ins C _ fs) => Cls K C ∧ NoAttr K C f ∧ (match fs.lookup f with
      | some v => Q v H1
      | none => False)
    | _ => False)
  | _ => False
def cSFld (K : PySem.W.Frag) (ta tv : TE) (f : Str) : TS := fun D σ H => tv σ H fun y H1 => ta σ H1 fun x H2 => match x with
  | .ref a => (match H2 a with
    | some (.ins C dx fs) => Cls K C ∧ NoAttr K C f ∧ fs.length < 1000 ∧ D.nx σ (upd H2 a (.ins C dx (putF f y fs)))
    | _ => False)
  | _ => False
def cMethE (C : Addr) (m : Str) (sp : Sp) (E : St → XK) (ta : TE) (t : TA) : TE := fun σ H Q => ta σ H fun x H1 => match x with
  | .ref a => (match H1 a with
    | some (.ins C' _ fs) => C' = C ∧ fs.lookup m = none ∧ t σ H1 fun vs H2 => sp (x :: vs) H2 Q (E σ)
    | _ => False)
  | _ => False
/-! ### lists -/
def cSetL : TSet := fun o i v H Q => match o, i with
  | .ref p, .int k => (match H p with
    | some (.lst xs) => (match ixN xs.length k with
      | some j => Q (upd H p (.lst (xs.set j v)))
      | none => False)
    | _ => False)
  | _, _ => False
def cRep : R2 := fun x y H Q => match x, y with
  | .ref l, .int k => (match H l with
    | some (.lst xs) => -(2 ^ 63) ≤ k ∧ k < 2 ^ 63 ∧ xs.length * k.toNat ≤ sizeLine ∧ ∀ p, H p = none → Q (.ref p) (upd H p (.lst (List.replicate k.toNat xs).flatten))
    | _ => False)
  | _, _ => False
/-! ### dicts by whole numbers and texts -/
def keyV : V → Option Key
  | .int n => some (.inl n)
  | .str x => some (.inr x)
  | _ => none
def cDPut (td ty tv : TE) : TS := fun D σ H => tv σ H fun v H1 => td σ H1 fun x H2 => ty σ H2 fun y H3 => match x with
  | .ref a => (match H3 a, keyV y with
    | some (.dK kvs), some k => kvs.length < sizeLine ∧ D.nx σ (upd H3 a (.dK (putK kvs k v)))
    | _, _ => False)
  | _ => False
theorem keyV_is {y : V} {k : Key} (h : keyV y = some k) : y = kV k := by
  cases y <;> cases h <;> rfl
section
variable {X : Cx} {e o i f' value : Expr} {f m : Str} {pos pos' apos cpos p2 : Pos} {ta tv td ty tx te : TE} {t : TA} {lo hi : Option Expr} {tl th : TO}
theorem PO.mono {e : Option Expr} {t t' : TO} (h : PO X e t) (k : ∀ σ H Q, t' σ H Q → t σ H Q) : PO X e t' := fun pins s σ H Q I q => h pins s σ H Q I (k _ _ _ q)
theorem SlR.mono {r r' : V → Option Int → Option Int → Hp → VK → Prop} (h : SlR X r) (k : ∀ x lo hi H Q, r' x lo hi H Q → r x lo hi H Q) : SlR X r' := fun pins s σ H x v vl vu lo hi sl Q I rx hs pl pu q => h pins s σ H x v vl vu lo hi sl Q I rx hs pl pu (k _ _ _ _ _ q)
theorem c_fld (he : PE X e ta) (hb : attributeBase e f X.env (eval e X.env) = eval e X.env) : PE X (.Attribute e f pos) (cFld X.K ta f) := by
  intro pins s σ H Q I h
  refine attr_of hb (thn (he pins s σ H _ I h) fun u s1 ⟨x, H1, I1, rx, q⟩ => ?_)
  try dsimp only at q
  split at q
  case h_2 => exact q.elim
  rename_i a
  split at q
  case h_2 => exact q.elim
  rename_i C dx fs ea
  obtain ⟨c, n, q⟩ := q
  try dsimp only at q
  split at q
  case h_2 => exact q.elim
  rename_i v l
  obtain rfl : u = Value.ref a := rx
  exact getattr_ok I1 ea c n l fun u' s2 I2 ru => ⟨v, H1, I2, ru, q⟩
theorem c_sfld (ha : PE X o ta) (hv : PE X value tv) (hs : swapsWith value (some (.Attribute o f pos')) pos.line X.env = pure false) : PS X (.Assign [.Attribute o f pos'] value pos) (cSFld X.K ta tv f) := by
  intro pins s σ H D I h
  refine plainObj_wpAny_Assign_Attribute (thn (hv pins s σ H _ I h) fun u s1 ⟨y, H1, I1, ry, q⟩ => thn (ha pins s1 σ H1 _ I1 q) fun ov s2 ⟨x, H2, I2, rx, q2⟩ => ?_) hs
  try dsimp only at q2
  split at q2
  case h_2 => exact q2.elim
  rename_i a
  split at q2
  case h_2 => exact q2.elim
  rename_i C dx fs ea
  obtain ⟨c, n, l, q2⟩ := q2
  obtain rfl : ov = Value.ref a := rx
  exact setattr_ok I2 ea c n l ry fun s3 I3 => ⟨σ, _, I3, q2⟩
theorem c_set : PSet X cSetL := by
  intro pins s σ H o i v ov iv u Q I ro ri rv h
  unfold cSetL at h
  split at h
  case h_2 => exact h.elim
  split at h
  case h_2 => exact h.elim
  rename_i xs hp
  split at h
  case h_2 => exact h.elim
  rename_i j hj
  exact set_list pins s σ H _ _ v ov iv u Q I ro ri rv ⟨_, xs, _, j, rfl, rfl, hp, hj, h⟩
theorem c_rep : OpR X (binaryOp .Mult) cRep := op_rep.mono fun x y H Q h => by
  unfold cRep at h
  split at h
  case h_2 => exact h.elim
  split at h
  case h_2 => exact h.elim
  rename_i xs hp
  exact ⟨_, _, xs, rfl, rfl, hp, h.1, h.2.1, h.2.2.1, h.2.2.2⟩
theorem isD_of {H : Hp} {a : Addr} {kvs : List (Key × V)} (e : H a = some (.dK kvs)) : IsD H a := .inl ⟨kvs, .inl e⟩
theorem c_dput (hu : X.A.units + 1 < cLine) (ho : PE X o td) (hi : PE X i ty) (hv : PE X value tv) (hs : swapsWith value (some (.Subscript o i pos')) pos.line X.env = pure false) :
    PS X (.Assign [.Subscript o i pos'] value pos) (cDPut td ty tv) := by
  intro pins s σ H D I h
  refine wpAny_Assign_Subscript (thn (hv pins s σ H _ I h) fun r s1 ⟨v, H1, I1, rv, q1⟩ => thn (ho pins s1 σ H1 _ I1 q1) fun u s2 ⟨x, H2, I2, rx, q2⟩ => thn (hi pins s2 σ H2 _ I2 q2) fun iv s3 ⟨y, H3, I3, ry, q3⟩ => ?_) hs
  try dsimp only at q3
  split at q3
  case h_2 => exact q3.elim
  rename_i a _
  split at q3
  case h_2 => exact q3.elim
  rename_i kvs k ea ek
  have ey := keyV_is ek
  subst ey
  obtain rfl : u = Value.ref a := rx
  exact d_setItem hu I3 (DPut.k ea q3.1) ry rv fun s4 I4 => ⟨σ, _, I4, q3.2⟩
end
section
variable {X : Cx} {e o : Expr} {es : List Expr} {to : TE} {t : TA} {apos cpos : Pos} {r : V → List V → Hp → VK → Prop}
end
section
variable {X : Cx} {ca : Bool} {k : Nat} {f C : Addr} {fd : FuncData} {ps : List Str} {sp : Sp} {E : St → XK} {m : Str} {pos apos : Pos} {e o : Expr} {es : List Expr} {ta : TE} {t : TA}
theorem c_meth {pl : Sem Bool} (he : PE X o ta) (c : Cls X.K C) (hm : Meth X.K C m f) (F : FnOk X.prog X.w X.K X.mg X.base (CXE X.prog X.w) ca k f fd ps sp) (hr : Room ca k X.A) (hb : Binds X.K fd ps []) (hx : Exc X E) (ha : PA X (e :: es) t)
    (hns : (e :: es).all notStar = true := by rfl)
    (ht : eval (.Call (.Attribute o m apos) (e :: es) [] pos) X.env = (do
      let ov ← eval o X.env
      standAt apos.atName
      let (f, first) ← holding [ov] (getMethod ov m pl)
      callWith pos f first (backTo pos (starEach (e :: es) X.env)) (backToKw pos (keywordEach [] X.env))) := by rfl) :
    PE X (.Call (.Attribute o m apos) (e :: es) [] pos) (cMethE C m sp E ta t) := by
  intro pins s σ H Q I h
  have hst : starEach (e :: es) X.env = (false, eval e X.env) :: starEach es X.env := star_ns (by rw [List.all_cons, Bool.and_eq_true] at hns; exact hns.1)
  have hpl : (backTo pos (starEach es X.env)).any (·.1) = false := star_any (by rw [List.all_cons, Bool.and_eq_true] at hns; exact hns.2)
  refine PySem.W.methodCall_KW (pl := pl) (thn (he pins s σ H _ I h) fun u s1 ⟨x, H1, I1, rx, q⟩ => ?_) ht
  try dsimp only at q
  split at q
  case h_2 => exact q.elim
  rename_i a
  split at q
  case h_2 => exact q.elim
  rename_i C' dx fs ea
  obtain ⟨rfl, l, q⟩ := q
  obtain rfl : u = Value.ref a := rx
  refine getmeth_ok I1 ea c hm l ?_
  refine PySem.W.callWith_K (first := [.ref a]) (h₀ := X.base) I.ok.mod.kin hm.kp (thn (ha pos pins s1 σ H1 _ I1 q) fun us s2 ⟨vs, H2, I2, r, q2⟩ => ⟨I2.kIn, ?_⟩) hst hpl
  exact run_fnE (us := .ref a :: us) (vs := .ref a :: vs) F hr hb hx I2 (.cons rfl r) q2
theorem c_meth0 {pl : Sem Bool} (he : PE X o ta) (c : Cls X.K C) (hm : Meth X.K C m f) (F : FnOk X.prog X.w X.K X.mg X.base (CXE X.prog X.w) ca k f fd ps sp) (hr : Room ca k X.A) (hb : Binds X.K fd ps []) (hx : Exc X E)
    (ht : eval (.Call (.Attribute o m apos) [] [] pos) X.env = (do
      let ov ← eval o X.env
      standAt apos.atName
      let (f, first) ← holding [ov] (getMethod ov m pl)
      callWith pos f first (backTo pos (starEach [] X.env)) (backToKw pos (keywordEach [] X.env))) := by rfl) :
    PE X (.Call (.Attribute o m apos) [] [] pos) (cMethE C m sp E ta tNil) := by
  intro pins s σ H Q I h
  refine PySem.W.methodCall_KW (pl := pl) (thn (he pins s σ H _ I h) fun u s1 ⟨x, H1, I1, rx, q⟩ => ?_) ht
  try dsimp only at q
  split at q
  case h_2 => exact q.elim
  rename_i a
  split at q
  case h_2 => exact q.elim
  rename_i C' dx fs ea
  obtain ⟨rfl, l, q⟩ := q
  obtain rfl : u = Value.ref a := rx
  refine getmeth_ok I1 ea c hm l ?_
  exact PySem.W.callWith_K0 (first := [.ref a]) I1.kIn hm.kp (run_fnE (us := [.ref a]) (vs := [.ref a]) F hr hb hx I1 (.cons rfl .nil) q)
end

/-! ### written lists by a drawn index -/
theorem at_in {α : Type} {xs : List α} {i : Int} {v : α} (h : atI xs i = some v) : v ∈ xs := by
  unfold atI at h
  cases e : ixN xs.length i with
  | none => rw [e] at h; cases h
  | some j => rw [e] at h; exact List.mem_of_getElem? h
theorem at_ne {α : Type} {xs : List α} {i : Int} (h0 : 0 ≤ i) (h1 : i < xs.length) (h : atI xs i = none) : False := by
  rw [atI_in h0 h1, List.getElem?_eq_getElem (by omega)] at h
  cases h
theorem Same.upd {H : Hp} {p : Addr} {o : HO} (h : H p = none) : Same H (L2.upd H p o) := fun b u e => by rw [upd_ne (ne_of_none e h)]; exact e
theorem Same.own {H : Hp} {p dx : Addr} {o u : HO} (h1 : H p = none) (h2 : H dx = none) : Same H (L2.upd (L2.upd H dx u) p o) := fun b w e => by rw [upd_ne (ne_of_none e h1), upd_ne (ne_of_none e h2)]; exact e
theorem upd_none {H : Hp} {p b : Addr} {o : HO} (h : L2.upd H p o b = none) : b ≠ p ∧ H b = none := by
  by_cases z : b = p
  · subst z; rw [upd_same] at h; cases h
  · exact ⟨z, by rw [upd_ne z] at h; exact h⟩
theorem flat_rep (n : Nat) (x : V) : (List.replicate n [x]).flatten = List.replicate n x := by
  induction n with
  | zero => rfl
  | succ n ih => rw [List.replicate_succ, List.flatten_cons, ih, List.replicate_succ]; rfl
theorem Same.put {H H' : Hp} {q : Addr} {o : HO} (s : Same H H') (h : H q = none) : Same H (L2.upd H' q o) := fun b u e => by rw [upd_ne (ne_of_none e h)]; exact s b u e
end L2

/-! LC: [elt for x in iter if c]: a comprehension's block over the layer; no exception leaves it. -/
namespace L2
open PySem PySem.Spec PyProof.Rows

section
variable {prog : Program} {w : World} {A : Around} {R : Result → Shared → Prop} {s : Shared}
theorem codeAny_compLoop_any {elt target iter : Expr} {ifs : List Expr} {scope : Scope} {pos : Pos} {it acc : Value} {env : Env} (I : Nat → Shared → Prop)
    (turn : ∀ n s, I n s → wpAny (model prog w) A (pyNext it) (fun r s₁ => match r with
      | none => R (.ok .next) s₁
      | some v => wpAny (model prog w) A (letOwnedTupleGo target it v) (fun _ s₁' => wpAny (model prog w) A (assign target env v) (fun _ s₂ =>
          wpAny (model prog w) A (forIn ifs true fun c r => if r = true then do let ok ← isTrue c env (eval c env); pure (ForInStep.yield ok) else pure (ForInStep.yield r)) (fun ok s₃ =>
            if ok = true then wpAny (model prog w) A (eval elt env) (fun x s₄ =>
              wpAny (model prog w) A (call (.builtin "list.append") [acc, x]) (fun _ s₅ => ∃ m, m < n ∧ I m s₅) (fun _ _ => False) s₄) (fun _ _ => False) s₃
            else ∃ m, m < n ∧ I m s₃) (fun _ _ => False) s₂) (fun _ _ => False) s₁') (fun _ _ => False) s₁) (fun _ _ => False) s)
    (n : Nat) (h : I n s) :
    codeAny (model prog w) A (.compLoop (.ListComp elt [⟨target, iter, ifs, 0⟩] scope pos) 0 it acc env) R s := by
  refine codeAny_loop rfl I (fun n s hI => ?_) n h
  show wpAny _ A ((compTurn (.ListComp elt [⟨target, iter, ifs, 0⟩] scope pos) 0 it acc env).onRaise (fun x => do noteFrame x env; theTreesLotGoes x)) _ _ s
  refine wpAny_noted ?_
  rw [compTurn_list]
  refine wpAny_bind (wpAny_standAt (wpAny_bind (wpAny_mono (turn n s hI) (fun r s₁ h₁ => ?_) fun _ _ h' => h'.elim)))
  cases r with
  | none => exact wpAny_pure h₁
  | some v =>
    refine wpAny_bind (wpAny_mono h₁ (fun _ s₁' h₁' => ?_) fun _ _ h' => h'.elim)
    refine wpAny_bind (wpAny_mono h₁' (fun _ s₂ h₂ => wpAny_bind (wpAny_mono h₂ (fun ok s₃ h₃ => ?_) fun _ _ h' => h'.elim)) fun _ _ h' => h'.elim)
    cases ok with
    | false => exact wpAny_pure ⟨rfl, h₃⟩
    | true =>
      exact wpAny_bind (wpAny_bind (wpAny_mono h₃ (fun x s₄ h₄ => wpAny_bind (wpAny_mono h₄ (fun _ s₅ h₅ => wpAny_pure (wpAny_pure ⟨rfl, h₅⟩)) fun _ _ h' => h'.elim)) fun _ _ h' => h'.elim))
end

/-! ### the closure -/
def clAcc (env : Env) (cs : List (Str × Addr)) : List (Str × NameKind) → List (Str × Addr)
  | [] => cs
  | (n, k) :: r => clAcc env (if k == .free then (n, (env.cells.lookup n).getD 0) :: cs else cs) r
abbrev clOf (scope : Scope) (env : Env) : List (Str × Addr) := clAcc env [] scope.names
theorem closure_of {scope : Scope} {env : Env} (h : ∀ y ∈ scope.names, y.2 = .free → ∃ c, env.cells.lookup y.1 = some c) : closureFor scope env = pure (clOf scope env) := by
  have go : ∀ (l : List (Str × NameKind)) (cs : List (Str × Addr)), (∀ y ∈ l, y.2 = .free → ∃ c, env.cells.lookup y.1 = some c) →
      (forIn l cs fun (x : Str × NameKind) (r : List (Str × Addr)) => match x with
        | (name, kind) => if (kind == .free) = true then do let c ← cellOf env name; pure (ForInStep.yield ((name, c) :: r)) else pure (ForInStep.yield r) : Sem (List (Str × Addr))) = pure (clAcc env cs l) := by
    intro l
    induction l with
    | nil => intro cs _; rfl
    | cons y l ih =>
      intro cs hy
      obtain ⟨n, k⟩ := y
      rw [List.forIn_cons]
      cases hk : (k == NameKind.free) with
      | true =>
        obtain ⟨c, hc⟩ := hy (n, k) List.mem_cons_self (by simpa using hk)
        have e : cellOf env n = pure c := by unfold cellOf; rw [show env.cells.lookup n = some c from hc]
        simp only [if_true, e, pure_bind, clAcc, hk, show env.cells.lookup n = some c from hc, Option.getD_some]
        exact ih _ fun z hz => hy z (List.mem_cons_of_mem _ hz)
      | false =>
        simp only [if_false, Bool.false_eq_true, pure_bind, clAcc, hk]
        exact ih _ fun z hz => hy z (List.mem_cons_of_mem _ hz)
  unfold closureFor
  have := go scope.names [] h
  simp only [bind_pure_comp, pure_bind] at this ⊢
  first | exact this | (rw [this]; rfl) | (simpa using this)
theorem clAcc_look {env : Env} {y : Str} {c : Addr} : ∀ {l : List (Str × NameKind)} {cs : List (Str × Addr)}, (clAcc env cs l).lookup y = some c → cs.lookup y = some c ∨ ((y, NameKind.free) ∈ l ∧ c = (env.cells.lookup y).getD 0)
  | [], cs, h => .inl h
  | (n, k) :: r, cs, h => by
    rcases clAcc_look (l := r) h with h1 | ⟨h1, e⟩
    · cases hk : (k == NameKind.free) with
      | true =>
        rw [hk, if_pos rfl, List.lookup_cons] at h1
        cases hy : y == n with
        | true =>
          rw [hy] at h1
          have e1 : y = n := by simpa using hy
          have e2 : k = .free := by simpa using hk
          subst e1 e2
          exact .inr ⟨List.mem_cons_self, (Option.some.inj h1).symm⟩
        | false => rw [hy] at h1; exact .inl h1
      | false => rw [hk] at h1; exact .inl (by simpa using h1)
    · exact .inr ⟨List.mem_cons_of_mem _ h1, e⟩
theorem clAcc_has {env : Env} {y : Str} : ∀ {l : List (Str × NameKind)} {cs : List (Str × Addr)}, ((y, NameKind.free) ∈ l ∨ ∃ c, cs.lookup y = some c) → ∃ c, (clAcc env cs l).lookup y = some c
  | [], cs, h => h.elim (fun z => by cases z) id
  | (n, k) :: r, cs, h => by
    refine clAcc_has (l := r) ?_
    rcases h with h | ⟨c, h⟩
    · rcases List.mem_cons.mp h with e | h
      · cases e
        exact .inr ⟨(env.cells.lookup y).getD 0, by rw [if_pos (by decide), List.lookup_cons]; simp⟩
      · exact .inl h
    · refine .inr ?_
      cases hk : (k == NameKind.free) with
      | false => exact ⟨c, by simpa using h⟩
      | true =>
        rw [if_pos rfl, List.lookup_cons]
        cases hy : y == n with
        | true => exact ⟨_, rfl⟩
        | false => exact ⟨c, h⟩

theorem lookup_mem {y : Str} {k : NameKind} : ∀ {l : List (Str × NameKind)}, l.lookup y = some k → (y, k) ∈ l
  | [], h => by cases h
  | (n, k') :: r, h => by
    rw [List.lookup_cons] at h
    cases hy : y == n with
    | true =>
      rw [hy] at h
      have e1 : y = n := by simpa using hy
      subst e1
      cases h
      exact List.mem_cons_self
    | false => rw [hy] at h; exact List.mem_cons_of_mem _ (lookup_mem h)
/-- a comprehension's scope within a def's: x its own names, those of N2 the def's -/
structure CompIn (fsc scope : Scope) (x : List Str) (N2 : List Str) : Prop where
  kind : scope.kind = .function
  fkind : fsc.kind = .function
  own : ∀ z ∈ x, scope.names.lookup z = some .local
  nocell : ∀ y ∈ scope.names, y.2 ≠ .cell
  locs : ∀ y ∈ scope.names, y.2 = .local → scope.names.lookup y.1 = some .local
  xfree : ∀ y ∈ scope.names, y.2 = .free → ¬ y.1 ∈ x
  cells : ∀ y ∈ scope.names, y.2 = .free → fsc.names.lookup y.1 = some .cell
  nd : (x ++ N2).Nodup
  cap : ∀ y ∈ N2, scope.names.lookup y = some .free
theorem relabel_free {env : Env} (hk : env.scope.kind = .function) : ∀ {names : List (Str × NameKind)} {y : Str}, names.lookup y = some .free → env.kindOf y = some .cell →
    (names.map fun (n, k) => if (k == NameKind.free && env.scope.kind == .function && env.kindOf n == some .cell) then (n, NameKind.cell) else (n, k)).lookup y = some .cell
  | [], _, h, _ => by simp at h
  | (n, k) :: r, y, h, hc => by
    have ih := @relabel_free env hk r y
    show List.lookup y ((if (k == NameKind.free && env.scope.kind == .function && env.kindOf n == some .cell) = true then (n, NameKind.cell) else (n, k)) :: _) = _
    cases hy : y == n with
    | true =>
      have e1 : y = n := by simpa using hy
      subst e1
      simp only [List.lookup_cons, hy] at h
      cases h
      simp [hk, hc]
    | false =>
      simp only [List.lookup_cons, hy] at h
      by_cases hq : (k == NameKind.free && env.scope.kind == .function && env.kindOf n == some .cell) = true
      · rw [if_pos hq]; simp only [List.lookup_cons, hy]; exact ih h hc
      · rw [if_neg hq]; simp only [List.lookup_cons, hy]; exact ih h hc
theorem relabel_has {scope : Scope} {env : Env} {y : Str} (hn : ∀ z ∈ scope.names, z.2 ≠ .cell) (h : (relabel scope env).names.lookup y = some .cell ∨ (relabel scope env).names.lookup y = some .free) : (y, NameKind.free) ∈ scope.names := by
  have go : ∀ {k : NameKind}, (y, k) ∈ (relabel scope env).names → k = .cell ∨ k = .free → (y, NameKind.free) ∈ scope.names := fun {k} hm hk => by
    obtain ⟨⟨n, k0⟩, hz, e⟩ := List.mem_map.mp hm
    dsimp only at e
    split at e
    · rename_i hq
      have e1 : n = y := congrArg Prod.fst e
      rw [Bool.and_eq_true, Bool.and_eq_true] at hq
      have e2 : k0 = .free := by simpa using hq.1.1
      rw [← e1, ← e2]; exact hz
    · have e1 : n = y := congrArg Prod.fst e
      have e2 : k0 = k := congrArg Prod.snd e
      rcases hk with rfl | rfl
      · exact absurd e2 (hn _ hz)
      · rw [← e1, ← e2]; exact hz
  rcases h with h | h
  · exact go (lookup_mem h) (.inl rfl)
  · exact go (lookup_mem h) (.inr rfl)

/-- the values of the names at js -/
def capt (σ : St) (js : List Nat) : St := js.map fun j => (σ[j]?).join
/-- the context of a comprehension's block -/
abbrev Cx.blk (X : Cx) (scope : Scope) (N : List Str) (x : List Str) (s : Shared) (H : Hp) (C : Addr) (ex : List Addr) : Cx :=
  { X with N := N, s₀ := s, H₀ := H, env := compEnvC scope (clOf scope X.env) C X.env, outer := X.stack, ex := ex, fn := fun y => x.contains y, pn := [], xe := fun _ _ => False }
/-- what a comprehension wants, behind its iterable; W: by the turn, a measure, the items so far -/
def CompW (J : It) (cap : St) (tt : TT) (te : TE) (H1 : Hp) (Q : VK) : Prop :=
  ∃ W : Nat → Nat → List V → Hp → Prop, (∃ m, W 0 m [] H1) ∧ ∀ i m ys H, W i m ys H → ys.length ≤ sizeLine ∧
    ((J.stop i H ∧ ∀ p, H p = none → Q (.ref p) (upd H p (.lst ys))) ∨
     (J.go i H ∧ ∀ x H', J.yld i H x H' → tt (some x :: cap) H' fun b H2 => if b = true then te (some x :: cap) H2 fun y H3 => ∃ m', m' < m ∧ W (i + 1) m' (ys ++ [y]) H3 else ∃ m', m' < m ∧ W (i + 1) m' ys H2))
def tComp (js : List Nat) (wi : TI) (tt : TT) (te : TE) : TE := fun σ H Q => wi σ H fun J H1 => CompW J (capt σ js) tt te H1 Q
/-- the tests of a comprehension -/
def PIfs (X : Cx) (ifs : List Expr) (tt : TT) : Prop :=
  ∀ (pins : List (Addr × Obj)) (s : Shared) (σ : St) (H : Hp) (Q : Bool → Hp → Prop), Inv X pins σ H s → tt σ H Q →
    wpAny (model X.prog X.w) X.A (forIn ifs true fun c r => if r = true then do let ok ← isTrue c X.env (eval c X.env); pure (ForInStep.yield ok) else pure (ForInStep.yield r)) (TP X pins σ Q) X.xe s
def tYes : TT := fun _ H Q => Q true H
theorem pifs_nil {X : Cx} : PIfs X [] tYes := fun pins s σ H Q I h => wpAny_tests_nil ⟨H, I, h⟩
section
variable {X : Cx} {pins : List (Addr × Obj)} {σ : St} {H : Hp} {s : Shared} {scope fsc : Scope} {x : List Str} {N2 : List Str} {js : List Nat} {fp : List Addr} {C : Addr}
theorem cl_sub (S : CompIn fsc scope x N2) (hf : X.env.scope = fsc) (ok : X.Ok) {y : Str} {c : Addr} (e : (clOf scope X.env).lookup y = some c) : X.env.cells.lookup y = some c := by
  rcases clAcc_look e with z | ⟨z, e2⟩
  · cases z
  · obtain ⟨c', hc⟩ := ok.has y (.inl (show X.env.scope.names.lookup y = some .cell by rw [hf]; exact S.cells _ z rfl))
    rw [hc] at e2
    rw [hc, e2]; rfl
theorem blk_ok (S : CompIn fsc scope x N2) (hf : X.env.scope = fsc) (I : Inv X pins σ H s) (hC : s.heap.objs.size ≤ C) (f : ∀ b ∈ fp, FpOk X pins H b) (ho : ∀ b ∈ fp, ∃ o, s.heap.get? b = some o) : (X.blk scope (x ++ N2) x s H C fp).Ok where
  mod := I.ok.mod
  kind := S.kind
  glob := I.ok.glob
  blt := I.ok.blt
  above := hC
  inj := fun y z c e1 e2 => I.ok.inj y z c (cl_sub S hf I.ok e1) (cl_sub S hf I.ok e2)
  has := fun y h => clAcc_has (.inl (relabel_has S.nocell h))
  cab := fun y c h e => by
    have ey : y ∈ x := by simpa using h
    rcases clAcc_look e with z | ⟨z, _⟩
    · cases z
    · exact absurd ey (S.xfree _ z rfl)
  hd := I.ok.hd
  frames := I.ok.frames
  stk := .inl rfl
  exf := fun b hb => by
    obtain ⟨o, e⟩ := ho b hb
    exact ⟨Nat.ne_of_lt (Nat.lt_of_lt_of_le (Heap.lt_size e) hC), fun y c ec => (f b hb).2.2.2.2.1 y c (cl_sub S hf I.ok ec)⟩
  bs := I.bs
  bsz := Nat.le_trans I.ok.bsz I.sz
  noex := fun b o e hb => by
    rcases (f b hb).2.2.2.1 with z | z
    · exact I.ok.noex b o e z
    · exact absurd (Nat.lt_of_lt_of_le (Heap.lt_size e) (Nat.le_trans I.ok.bsz z)) (Nat.lt_irrefl _)
  exfs := fun b hb hm => by
    rcases List.mem_cons.mp (I.stkSub b hm) with z | z
    · exact (f b hb).2.1 z
    · exact (f b hb).2.2.1 z
  funs := I.stack
  frf := I.stkFree
theorem blk_inv (S : CompIn fsc scope x N2) (hf : X.env.scope = fsc) (hjs : js.map (fun j => X.N[j]?) = N2.map some) (I : Inv X pins σ H s) (hC : s.heap.objs.size ≤ C) (f : ∀ b ∈ fp, FpOk X pins H b) (ho : ∀ b ∈ fp, ∃ o, s.heap.get? b = some o)
    {h' : Heap} {t' : Nat} {m : Str → Option Value} (hm : h'.Ns C m) (k : ∀ b o, s.heap.get? b = some o → h'.get? b = some o) : Inv (X.blk scope (x ++ N2) x s H C fp) [] (List.replicate x.length none ++ capt σ js) H { s with heap := h', toks := t' } where
  ok := blk_ok S hf I hC f ho
  os := rfl
  bare := I.bare
  base := Un.kept k
  loc := ⟨m, hm, fun i y v e1 e2 e3 => by
    by_cases hi : i < x.length
    · have e2 : (List.replicate x.length none ++ capt σ js)[i]? = some (some v) := e2
      rw [List.getElem?_append_left (by rw [List.length_replicate]; exact hi), List.getElem?_replicate, if_pos hi] at e2
      cases e2
    · have e1 : (x ++ N2)[i]? = some y := e1
      have e2 : (List.replicate x.length none ++ capt σ js)[i]? = some (some v) := e2
      rw [List.getElem?_append_right (by omega)] at e1
      rw [List.getElem?_append_right (by rw [List.length_replicate]; omega), List.length_replicate] at e2
      generalize i - x.length = i at e1 e2
      unfold capt at e2
      rw [List.getElem?_map] at e2
      obtain ⟨j, hj, e2⟩ := Option.map_eq_some_iff.mp e2
      have e4 : X.N[j]? = some y := by
        have q := congrArg (fun l => l[i]?) hjs
        simp only [List.getElem?_map, hj, e1, Option.map_some] at q
        exact Option.some.inj q
      have hy : y ∈ N2 := List.mem_of_getElem? e1
      have hfree := S.cap y hy
      have hcell : X.env.scope.names.lookup y = some .cell := by rw [hf]; exact S.cells _ (lookup_mem hfree) rfl
      have e5 : σ[j]? = some (some v) := by
        cases q : σ[j]? with
        | none => rw [q] at e2; cases e2
        | some o => rw [q] at e2; have : o = some v := e2; rw [this]
      obtain ⟨m0, _, hl⟩ := I.loc
      obtain ⟨u, r, l⟩ := hl j y v e4 e5 (.inr (.inl hcell))
      refine ⟨u, r, .inr ⟨.inl (relabel_free (by rw [hf]; exact S.fkind) hfree hcell), ?_⟩⟩
      rcases l with ⟨z, _⟩ | ⟨_, c, ec, o, eo, ed⟩
      · have z' : X.env.scope.names.lookup y = some .local := z
        rw [hcell] at z'; cases z'
      · obtain ⟨c', hc'⟩ := clAcc_has (env := X.env) (cs := []) (.inl (lookup_mem hfree))
        have e6 := cl_sub S hf I.ok hc'
        rw [ec] at e6; cases e6
        exact ⟨c, hc', o, k _ _ eo, ed⟩⟩
  cell := fun y c e => by
    obtain ⟨v, o, eo, ed⟩ := I.cell y c (cl_sub S hf I.ok e)
    exact ⟨v, o, k _ _ eo, ed⟩
  free := I.hok.fresh hC
  freeC := fun y c e => I.freeC y c (cl_sub S hf I.ok e)
  pin := fun p hp => by simp at hp
  hok := I.hok.kept k
  len := by
    have q := congrArg List.length hjs
    simp only [List.length_map] at q
    simp [capt, q]

/-- what a comprehension wants, behind its iterable; k names of its own, laid by g -/
def CompWG (J : It) (k : Nat) (g : TG) (cap : St) (tt : TT) (te : TE) (H1 : Hp) (Q : VK) : Prop :=
  ∃ W : Nat → Nat → List V → Hp → Prop, (∃ m, W 0 m [] H1) ∧ ∀ i m ys H, W i m ys H → ys.length ≤ sizeLine ∧
    ((J.stop i H ∧ ∀ p, H p = none → Q (.ref p) (upd H p (.lst ys))) ∨
     (J.go i H ∧ ∀ x H', J.yld i H x H' → ∀ os : St, os.length = k → g x (os ++ cap) H' fun σ2 H2 => (∃ os' : St, os'.length = k ∧ σ2 = os' ++ cap) ∧
       tt σ2 H2 fun b H3 => if b = true then te σ2 H3 fun y H4 => ∃ m', m' < m ∧ W (i + 1) m' (ys ++ [y]) H4 else ∃ m', m' < m ∧ W (i + 1) m' ys H3))
theorem compW_G {J : It} {cap : St} {tt : TT} {te : TE} {H1 : Hp} {Q : VK} (h : CompW J cap tt te H1 Q) : CompWG J 1 (gName 0) cap tt te H1 Q := by
  obtain ⟨W, w0, turn⟩ := h
  refine ⟨W, w0, fun i m ys H hw => ?_⟩
  obtain ⟨hz, alt⟩ := turn i m ys H hw
  refine ⟨hz, alt.imp id fun ⟨go, step⟩ => ⟨go, fun x H' hy os ho => ?_⟩⟩
  match os, ho with
  | [o], _ => exact ⟨⟨[some x], rfl, rfl⟩, step x H' hy⟩
abbrev g2 (K : PySem.W.Frag) : TG := gTup K 2 (gCons (gName 0) (gCons (gName 1) gNil))
theorem same_get {C : Addr} {h h' : Heap} (hs : Heap.SameBut C h h') {b : Addr} {o : Obj} (hb : b ≠ C) (e : h.get? b = some o) : h'.get? b = some o := (hs.2 b hb).trans e
/-- behind the block: the list at D is ours -/
theorem blk_end {Y : Cx} {pl : List (Addr × Obj)} {σ' : St} {H3 : Hp} {s4 : Shared} {h' : Heap} {D : Addr} {ys : List V} {its : List Value} {n : Nat} (I : Inv X pins σ H s) (f : ∀ b ∈ fp, FpOk X pins H b)
    (hY : Y = X.blk scope (x ++ N2) x s H C fp) (hC : s.heap.objs.size ≤ C) (hD : s.heap.objs.size ≤ D) (hDC : D ≠ C) (I4 : Inv Y pl σ' H3 s4) (hs : Heap.SameBut C s4.heap h') (hD3 : H3 D = none)
    (eD : s4.heap.get? D = some { cls := .type "list", data := .seq its.toArray n }) (rv : Vals ys its) (hz : ys.length ≤ sizeLine) : Inv X pins σ (upd H3 D (.lst ys)) { s4 with heap := h' } := by
  subst hY
  have ne : ∀ b o, s.heap.get? b = some o → b ≠ C := fun b o e => Nat.ne_of_lt (Nat.lt_of_lt_of_le (Heap.lt_size e) hC)
  have neD : ∀ b o, s.heap.get? b = some o → b ≠ D := fun b o e => Nat.ne_of_lt (Nat.lt_of_lt_of_le (Heap.lt_size e) hD)
  have fC : H3 C = none := I4.free
  have un : Un (frs X.stack) fp H H3 s.heap h' := ⟨fun b o e n hb hx => same_get hs (ne b o e) (I4.base.keep b o e n hb hx), fun b o e n hb hx => by
      obtain ⟨sl, e1⟩ := I4.base.slot b o e n hb hx
      exact ⟨sl, same_get hs (ne b o e) e1⟩, I4.base.free, fun b o e hx => by
      obtain ⟨o', e1⟩ := I4.base.there b o e hx
      exact ⟨o', same_get hs (ne b o e) e1⟩, I4.base.tups, I4.base.frzs, I4.base.tbls⟩
  have hok : HOk X.prog X.w H3 h' := fun b ob e => (I4.hok b ob e).stay (fun c w' hc q => by
    refine (hs.2 c ?_).trans q
    rintro rfl
    rcases hc with rfl | hc
    · rw [fC] at e; cases e
    · rw [fC] at hc; cases hc) (fun _ q => q) fun _ _ q => q
  have I6 : Inv X pins σ H3 { s4 with heap := h' } := I.call' (ch := fp) I4.os un hok I4.bare fun b hb => ⟨(f b hb).2.2.2.1, (f b hb).2.1, (f b hb).2.2.2.2.1, (f b hb).2.2.2.2.2⟩
  have h0 : X.s₀.heap.get? D = none := by
    cases z : X.s₀.heap.get? D with
    | none => rfl
    | some o => exact absurd (Nat.lt_of_lt_of_le (Heap.lt_size z) (Nat.le_trans I.sz hD)) (Nat.lt_irrefl _)
  exact I6.adopt (a := D) (o := .lst ys) hD3 ⟨hz, its, n, rv, same_get hs hDC eD⟩ h0 (Ne.symm (Nat.ne_of_lt (Nat.lt_of_lt_of_le I.lt hD))) (fun y c ec z => by
    obtain ⟨v, o, eo, _⟩ := I.cell y c ec
    exact neD c o eo z) fun p hp z => neD p.1 p.2 (I.pin p hp).1 z
theorem comp_core {elt iter tg : Expr} {pos p0 : Pos} {g : TG} {CW : It → Hp → Prop} {ifs : List Expr} {wi : TI} {tt : TT} {te : TE} {use : Option (Value → Sem Unit)} {R : Value → Shared → Prop} {Q : VK} (S : CompIn fsc scope x N2) (hf : X.env.scope = fsc) (hjs : js.map (fun j => X.N[j]?) = N2.map some) (hc : X.calm = true) (hi : PI X tg iter wi) (hg : ∀ s H C ex, PG (X.blk scope (x ++ N2) x s H C ex) tg g)
    (ht : ∀ s H C ex, PIfs (X.blk scope (x ++ N2) x s H C ex) ifs tt) (he : ∀ s H C ex, PE (X.blk scope (x ++ N2) x s H C ex) elt te) (hs : ∀ v, foldedSetIterable iter X.env v = pure v) (I : Inv X pins σ H s) (hCW : ∀ J H1, CW J H1 → CompWG J x.length g (capt σ js) tt te H1 Q) (h : wi σ H CW)
    (fin : ∀ (fp : List Addr) (s2 s4 : Shared) (H2 H3 : Hp) (C D : Addr) (Y : Cx) (pl : List (Addr × Obj)) (σ' : St) (ys : List V) (its : List Value) (n : Nat), Inv X pins σ H2 s2 → (∀ b ∈ fp, FpOk X pins H2 b) → Y = X.blk scope (x ++ N2) x s2 H2 C fp → s2.heap.objs.size ≤ C → s2.heap.objs.size ≤ D → D ≠ C →
      Inv Y pl σ' H3 s4 → H3 D = none → s4.heap.get? D = some { cls := .type "list", data := .seq its.toArray n } → Vals ys its → ys.length ≤ sizeLine → Q (.ref D) (upd H3 D (.lst ys)) → compPost (model X.prog X.w) X.A X.xe use R (.ref D) C (.ok .next) s4) :
    wpAny (model X.prog X.w) X.A (comprehension (.ListComp elt [⟨tg, iter, ifs, 0⟩] scope pos) scope X.env p0 (newList []) false (eval iter X.env) use) R X.xe s := by
  refine wpAny_comprehension_free (use := use) (cl := clOf scope X.env) rfl hs (closure_of fun y hy e => I.ok.has y.1 (.inl (show X.env.scope.names.lookup y.1 = some .cell by rw [hf]; exact S.cells y hy e))) S.kind S.locs ?_
  refine wpAny_mono (hi pins s σ H _ I h) (fun v s1 h1 => wpAny_mono h1 (fun itv s2 h2 => ?_) fun _ _ z => z) fun _ _ z => z
  obtain ⟨it, fp, tn, J, H2, e, I2, T, st2, f2, hcw⟩ := h2
  obtain ⟨W, ⟨m0, w0⟩, turn⟩ := hCW _ _ hcw
  subst e
  have ho2 : ∀ b ∈ fp, ∃ o, s2.heap.get? b = some o := fun b hb => let ⟨o, e, _⟩ := T.obj _ _ st2 b hb; ⟨o, e⟩
  refine wpAny_newObj_type (wpAny_newFunctionEnv S.nocell (by intro y hy; simp at hy) (fun h₁ hns₁ hsb₁ => ?_) S.kind)
  dsimp only at hns₁ hsb₁ ⊢
  generalize hH2 : s2.heap.push { cls := .type "list", dict := none, data := .seq ([] : List Value).toArray } = G at hns₁ hsb₁ ⊢
  have hGs : G.objs.size = s2.heap.objs.size + 1 := by rw [← hH2, Heap.size_push]
  generalize hCe : G.objs.size = C at hns₁ hsb₁ ⊢
  have hCs : C = s2.heap.objs.size + 1 := hCe.symm.trans hGs
  generalize hDe : s2.heap.objs.size = D at *
  have hC : s2.heap.objs.size ≤ C := by omega
  have hDC : D ≠ C := by omega
  have leDC : D ≤ C := by omega
  have old : ∀ b o, s2.heap.get? b = some o → h₁.get? b = some o := fun b o e => by
    have hb : b < D := hDe ▸ Heap.lt_size e
    exact hsb₁.extBut b o (Nat.ne_of_lt (Nat.lt_of_lt_of_le hb leDC)) (Heap.get?_push_of_some _ (hH2 ▸ Heap.get?_push_of_some _ e))
  have eD1 : h₁.get? D = some { cls := .type "list", data := .seq ([] : List Value).toArray } := by
    refine hsb₁.extBut _ _ hDC (Heap.get?_push_of_some _ ?_)
    rw [← hH2, ← hDe]
    exact Heap.get?_push_size _ rfl
  have I4 := blk_inv (C := C) (h' := h₁) (t' := s2.toks + ([] : List (Str × Value)).length) S hf hjs I2 hC f2 ho2 hns₁ old
  generalize hY : X.blk scope (x ++ N2) x s2 H2 C fp = Y at I4
  have hYA : Y.A = X.A := by rw [← hY]
  have hYp : Y.prog = X.prog := by rw [← hY]
  have hYw : Y.w = X.w := by rw [← hY]
  have hYK : Y.K = X.K := by rw [← hY]
  have hYc : Y.calm = true := by rw [← hY]; exact hc
  have hYL : Y.env.locals = C := hY ▸ rfl
  have hYx : Y.xe = fun _ _ => False := by rw [← hY]
  have hYe : Y.env = compEnvC scope (clOf scope X.env) C X.env := by rw [← hY]
  have hYs : Y.s₀.heap.objs.size = D := by rw [← hY]; exact hDe
  have hYpn : Y.pn = [] := by rw [← hY]
  have fpD : ∀ b ∈ fp, b < D := fun b hb => by
    obtain ⟨o, e⟩ := ho2 b hb
    exact hDe ▸ Heap.lt_size e
  have cel : ∀ y c, Y.env.cells.lookup y = some c → X.env.cells.lookup y = some c := fun y c e => by
    rw [hYe] at e
    exact cl_sub S hf I2.ok e
  have celD : ∀ y c, Y.env.cells.lookup y = some c → c ≠ D := fun y c e z => by
    obtain ⟨v, o, eo, _⟩ := I2.cell y c (cel y c e)
    have q := Heap.lt_size eo
    rw [hDe, z] at q
    exact Nat.lt_irrefl _ q
  have Dfs : D ∉ Y.fs := by
    rw [← hY]
    intro hm
    obtain ⟨_, o, eo, _⟩ := I2.stack.mem hm
    have q := Heap.lt_size eo
    rw [hDe] at q
    exact Nat.lt_irrefl _ q
  -- the iterator's objects
  have stat : ∀ {H' : Hp} {pl : List (Addr × Obj)}, (∀ b ∈ fp, H' b = none) → (∀ p ∈ pl, p.1 = D) → ∀ b ∈ fp, FpOk Y pl H' b := fun {H' pl} hn hp b hb => by
    refine ⟨hn b hb, by rw [hYL]; exact Nat.ne_of_lt (Nat.lt_of_lt_of_le (fpD b hb) leDC), ?_, .inl (by rw [← hY]; exact hb), fun y c e => (f2 b hb).2.2.2.2.1 y c (cel y c e), fun p hm => ?_⟩
    · rw [← hY]
      intro hm
      rcases List.mem_cons.mp (I2.stkSub b hm) with z | z
      · exact (f2 b hb).2.1 z
      · exact (f2 b hb).2.2.1 z
    · rw [hYpn, List.nil_append] at hm
      rw [hp p hm]
      exact (Nat.ne_of_lt (fpD b hb)).symm
  have pinD : ∀ {σ' : St} {H' : Hp} {s' : Shared} {o : Obj}, Inv Y [] σ' H' s' → s'.heap.get? D = some o → (∀ v, o.data ≠ .cell v) → H' D = none → Inv Y [(D, o)] σ' H' s' := fun {σ' H' s' o} Iy e d n =>
    Iy.pins_of fun p hp => by
      rw [List.mem_singleton] at hp
      subst hp
      exact ⟨e, n, by rw [hYL]; exact hDC, Dfs, d⟩
  have pg : PG Y tg g := by rw [← hY]; exact hg _ _ _ _
  have ht' : PIfs Y ifs tt := by rw [← hY]; exact ht _ _ _ _
  have he' : PE Y elt te := by rw [← hY]; exact he _ _ _ _
  have loop : ∀ s₃ : Shared, s₃ = { s2 with heap := h₁, toks := s2.toks + ([] : List (Str × Value)).length } →
      codeAny (model X.prog X.w) X.A (.compLoop (.ListComp elt [⟨tg, iter, ifs, 0⟩] scope pos) 0 (.ref it) (.ref D) (compEnvC scope (clOf scope X.env) C X.env))
        (compPost (model X.prog X.w) X.A X.xe use R (.ref D) C) s₃ := by
    rintro s₃ rfl
    refine codeAny_compLoop_any (fun n s' => ∃ i ys os its k H', List.length os = x.length ∧ Inv Y [] (os ++ capt σ js) H' s' ∧ tn i s'.heap ∧ (∀ b ∈ fp, H' b = none) ∧ H' D = none ∧ s'.heap.get? D = some { cls := .type "list", data := .seq (its : List Value).toArray k } ∧ Vals ys its ∧ W i n ys H') ?_ m0
      ⟨0, [], List.replicate x.length none, [], 0, H2, List.length_replicate, I4, T.keep _ _ _ st2 fun b _ o e => old b o e, fun b hb => (f2 b hb).1, I2.hok.fresh (by omega), eD1, .nil, w0⟩
    rintro n s3 ⟨i, ys, os, its, k, H3, hos, I3, st3, fr3, hD3, eD3, rv3, w3⟩
    obtain ⟨hz, alt⟩ := turn i n ys H3 w3
    have I3p := pinD I3 eD3 (fun v z => by cases z) hD3
    rcases alt with ⟨stop, q⟩ | ⟨go, step⟩
    · have h4 := T.done Y hYp hYw hYK hYc i _ s3 _ H3 (fun _ _ => False) I3p (stat fr3 fun p hp => by rw [List.mem_singleton] at hp; subst hp; rfl) st3 stop
      rw [hYA] at h4
      refine wpAny_mono h4 (fun r s4 ⟨hr, I4'⟩ => ?_) fun _ _ z => z
      subst hr
      have pD := I4'.pin (D, { cls := .type "list", data := .seq its.toArray k }) (List.mem_append_right _ (List.mem_singleton.mpr rfl))
      exact fin fp s2 s4 H2 H3 C D Y _ _ ys its k I2 f2 hY.symm hC (by omega) hDC I4' pD.2.1 pD.1 rv3 hz (q D pD.2.1)
    · have h4 := T.item Y hYp hYw hYK hYc i _ s3 _ H3 (fun _ _ => False) I3p (stat fr3 fun p hp => by rw [List.mem_singleton] at hp; subst hp; rfl) st3 go
      rw [hYA] at h4
      refine wpAny_mono h4 (fun r s4 ⟨u, hr, h4'⟩ => ?_) fun _ _ z => z
      subst hr
      refine wpAny_mono h4' (fun _ s5 ⟨xv, H5, I5, r5, y5, st5, fr5⟩ => ?_) fun _ _ z => z
      have I5' := I5.pinned (stat fr5 fun p hp => by rw [List.mem_singleton] at hp; subst hp; rfl) (T.obj _ _ st5)
      have keepT : ∀ {σ7 : St} {H7 : Hp} {s7 : Shared}, Inv Y ([(D, { cls := .type "list", data := .seq its.toArray k })] ++ pinsAt fp s5.heap) σ7 H7 s7 → tn (i + 1) s7.heap ∧ (∀ b ∈ fp, H7 b = none) ∧ H7 D = none ∧
          s7.heap.get? D = some { cls := .type "list", data := .seq its.toArray k } := fun {σ7 H7 s7} I7 => by
        have pD := I7.pin (D, { cls := .type "list", data := .seq its.toArray k }) (List.mem_append_right _ (List.mem_append_left _ (List.mem_singleton.mpr rfl)))
        refine ⟨T.keep _ _ _ st5 fun b hb o e => (I7.pin (b, o) (List.mem_append_right _ (List.mem_append_right _ (mem_pinsAt hb e)))).1, fun b hb => ?_, pD.2.1, pD.1⟩
        obtain ⟨o, e, d⟩ := T.obj _ _ st5 b hb
        exact (I7.pin (b, o) (List.mem_append_right _ (List.mem_append_right _ (mem_pinsAt hb e)))).2.1
      have h6 := pg _ s5 _ H5 xv u _ I5' r5 (step xv H5 y5 os hos)
      rw [hYA, hYe, hYp, hYw, hYx] at h6
      refine wpAny_mono h6 (fun _ s6 ⟨σ6, H6, I6, ⟨os', hos', e6⟩, q6⟩ => ?_) fun _ _ z => z
      subst e6
      have h7 := ht' _ s6 _ H6 _ I6 q6
      rw [hYA, hYe, hYp, hYw, hYx] at h7
      refine wpAny_mono h7 (fun b s7 ⟨H7, I7, q7⟩ => ?_) fun _ _ z => z
      cases b with
      | false =>
        rw [if_neg Bool.false_ne_true] at q7 ⊢
        obtain ⟨m', hm, w7⟩ := q7
        obtain ⟨k1, k2, k3, k4⟩ := keepT I7
        exact ⟨m', hm, i + 1, ys, os', its, k, H7, hos', I7.pins_of fun p hp => by simp at hp, k1, k2, k3, k4, rv3, w7⟩
      | true =>
        rw [if_pos rfl] at q7 ⊢
        have h8 := he' _ s7 _ H7 _ I7 q7
        rw [hYA, hYe, hYp, hYw, hYx] at h8
        refine wpAny_mono h8 (fun y s8 ⟨yv, H8, I8, r8, m', hm, w8⟩ => ?_) fun _ _ z => z
        obtain ⟨k1, k2, k3, k4⟩ := keepT I8
        refine wpAny_list_append_plain (l := D) (items := its.toArray) ⟨k, k4⟩ (fun h9 pl9 sb9 => ?_) (by rw [List.size_toArray, ← rv3.length]; exact hz)
        obtain ⟨k9, e9⟩ := pl9
        have I9 : Inv Y [] (os' ++ capt σ js) H8 { s8 with heap := h9 } := (I8.pins_of (pins' := []) fun p hp => by simp at hp).turned (it := D) (t' := s8.toks) (fun b o hb e => (sb9.2 b hb).trans e) k3 (by rw [hYL]; exact hDC)
          (.inr (by rw [hYs]; exact Nat.le_refl _)) celD (by rw [hYpn]; intro p hp; simp at hp)
        exact ⟨m', hm, i + 1, ys ++ [yv], os', its ++ [y], k9, H8, hos', I9, T.keep _ _ _ k1 fun b hb o e => (sb9.2 b (Nat.ne_of_lt (fpD b hb))).trans e, k2, k3, by rw [e9, List.push_toArray], rv3.snoc r8, w8⟩
  exact codeAny_compStart_list (loop _ rfl) (T.self _ 0 _ _ _ (T.keep _ _ _ st2 fun b _ o e => old b o e) (loop _ rfl))
theorem pg_own {x : Str} {px : Pos} (S : CompIn fsc scope [x] N2) {s : Shared} {H : Hp} {C : Addr} {ex : List Addr} : PG (X.blk scope (x :: N2) [x] s H C ex) (.Name x px) (gName 0) :=
  pg_name (i := 0) S.nd rfl (.inl (lookup_relabel_local (S.own x List.mem_cons_self))) (.inl (by show [x].contains x = true; simp))
theorem pe_comp {x : Str} {elt iter : Expr} {px pos : Pos} {ifs : List Expr} {wi : TI} {tt : TT} {te : TE} (S : CompIn fsc scope [x] N2) (hf : X.env.scope = fsc) (hjs : js.map (fun j => X.N[j]?) = N2.map some) (hc : X.calm = true) (hi : PI X (.Name x px) iter wi)
    (ht : ∀ s H C ex, PIfs (X.blk scope (x :: N2) [x] s H C ex) ifs tt) (he : ∀ s H C ex, PE (X.blk scope (x :: N2) [x] s H C ex) elt te) (hs : ∀ v, foldedSetIterable iter X.env v = pure v := by intro _; rfl) :
    PE X (.ListComp elt [⟨.Name x px, iter, ifs, 0⟩] scope pos) (tComp js wi tt te) := by
  intro pins s σ H Q I h
  rw [eval_ListComp]
  refine comp_core (x := [x]) (g := gName 0) (use := none) S hf hjs hc hi (fun _ _ _ _ => pg_own S) ht he hs I (fun _ _ => compW_G) h fun fp s2 s4 H2 H3 C D Y pl σ' ys its n I2 f2 hY hC hD hDC I4 hD3 eD rv hz q => ?_
  obtain ⟨m, hn, _⟩ := I4.loc
  rw [show Y.env.locals = C from hY ▸ rfl] at hn
  exact ⟨m, hn, fun h' hs' => ⟨.ref D, _, blk_end (scope := scope) (x := [x]) (N2 := N2) I2 f2 hY hC hD hDC I4 hs' hD3 eD rv hz, rfl, q⟩⟩
end
end L2

/-! LR: range with a step; a list unpacked into names; a tuple written out and walked. -/
namespace L2
open PySem PySem.Spec PyProof.Rows

/-! ### range(a, b, c), c > 0 -/
section
variable {X : Cx} {tg : Expr}
/-! ### a, b, c = a list -/
end
end L2

/-! LE: == of lists and tuples, deep; isinstance by a tuple of classes; forms of comprehensions. -/
namespace L2
open PySem PySem.Spec PyProof.Rows

/-! ### equality -/
/-- the answers of pairs, one behind the other -/
def allO : List (Option Bool) → Option Bool
  | [] => some true
  | none :: _ => none
  | some b :: r => (allO r).map fun c => b && c
/-- == of two values, so deep; lists beside lists, tuples beside tuples, flat values else -/
def deq (H : Hp) : Nat → V → V → Option Bool
  | 0, x, y => if flatV x = true ∧ flatV y = true then some (eqV x y) else none
  | d + 1, x, y => match x, y with
    | .ref a, .ref b => (match H a, H b with
      | some (.lst xs), some (.lst ys) => if xs.length = ys.length then allO (List.zipWith (deq H d) xs ys) else some false
      | some (.tup xs), some (.tup ys) => if xs.length = ys.length then allO (List.zipWith (deq H d) xs ys) else none
      | _, _ => none)
    | x, y => if flatV x = true ∧ flatV y = true then some (eqV x y) else none
theorem allO_at {l : List (Option Bool)} {b : Bool} : allO l = some b → ∃ e : Nat → Bool, (∀ j o, l[j]? = some o → o = some (e j)) ∧ (List.range l.length).all e = b := by
  induction l generalizing b with
  | nil => intro h; cases h; exact ⟨fun _ => true, fun j o z => by simp at z, rfl⟩
  | cons o r ih =>
    intro h
    cases o with
    | none => cases h
    | some b0 =>
      obtain ⟨c, hc, rfl⟩ := Option.map_eq_some_iff.mp h
      obtain ⟨e, h1, h2⟩ := ih hc
      refine ⟨fun j => match j with | 0 => b0 | j + 1 => e j, fun j o z => ?_, ?_⟩
      · cases j with
        | zero => simp at z; exact z.symm
        | succ j => exact h1 j o (by simpa using z)
      · rw [List.length_cons, List.range_succ_eq_map, List.all_cons, List.all_map, ← h2]
        rfl
theorem eqV_refl {x : V} (h : flatV x = true) : eqV x x = true := by
  cases x <;> simp [eqV, flatV] at h ⊢
theorem deq_refl {H : Hp} : ∀ (d : Nat) {x : V} {b : Bool}, deq H d x x = some b → b = true
  | 0, x, b, h => by
    unfold deq at h
    split at h
    · rename_i z; cases h; exact eqV_refl z.1
    · cases h
  | d + 1, x, b, h => by
    unfold deq at h
    split at h
    · split at h
      · rename_i xs ys e1 e2
        rw [e1] at e2
        cases e2
        rw [if_pos rfl] at h
        obtain ⟨e, h1, h2⟩ := allO_at h
        rw [← h2, List.all_eq_true]
        intro j hj
        rw [List.mem_range, List.length_zipWith, Nat.min_self] at hj
        have z := h1 j (deq H d xs[j] xs[j]) (by rw [List.getElem?_zipWith, List.getElem?_eq_getElem hj])
        exact deq_refl d z
      · rename_i xs ys e1 e2
        rw [e1] at e2
        cases e2
        rw [if_pos rfl] at h
        obtain ⟨e, h1, h2⟩ := allO_at h
        rw [← h2, List.all_eq_true]
        intro j hj
        rw [List.mem_range, List.length_zipWith, Nat.min_self] at hj
        have z := h1 j (deq H d xs[j] xs[j]) (by rw [List.getElem?_zipWith, List.getElem?_eq_getElem hj])
        exact deq_refl d z
      · cases h
    · split at h
      · rename_i z; cases h; exact eqV_refl z.1
      · cases h
section
variable {X : Cx}
theorem eqAt_deq {pins : List (Addr × Obj)} {σ : St} {H : Hp} {s : Shared} (I : Inv X pins σ H s) : ∀ (d : Nat) (A : Around) {x y : V} {u v : Value} {b : Bool}, A.units + d < cLine → RelV x u → RelV y v → deq H d x y = some b → SeqAt.EqAt A s u v b
  | 0, A, x, y, u, v, b, hu, rx, ry, h => by
    unfold deq at h
    split at h
    · rename_i z; cases h; exact eqAt_V rx ry z.1 z.2
    · cases h
  | d + 1, A, x, y, u, v, b, hu, rx, ry, h => by
    by_cases hs : ∃ a, x = .ref a ∧ y = .ref a
    · obtain ⟨a, rfl, rfl⟩ := hs
      cases (show u = Value.ref a from rx)
      cases (show v = Value.ref a from ry)
      rw [deq_refl (d + 1) h]
      exact SeqAt.EqAt.same _
    · unfold deq at h
      split at h
      · rename_i a c
        split at h
        · rename_i xs ys e1 e2
          cases (show u = Value.ref a from rx)
          cases (show v = Value.ref c from ry)
          have hne : a ≠ c := fun z => hs ⟨a, rfl, by rw [z]⟩
          obtain ⟨i1, r1, p1, _⟩ := I.list (SqL.of e1)
          obtain ⟨i2, r2, p2, _⟩ := I.list (SqL.of e2)
          refine SeqAt.EqAt.of_refs hne ?_
          have l1 := r1.length
          have l2 := r2.length
          split at h
          · rename_i hl
            obtain ⟨e, h1, h2⟩ := allO_at h
            rw [List.length_zipWith, ← hl, Nat.min_self] at h2
            have z := SeqAt.RcAt.lists (A := A) (s := s) (e := e) p1.isList p2.isList (by simp; omega) (by omega) fun j j1 j2 => ?_
            · have e3 : i1.toArray.size = xs.length := by simp [l1]
              rw [e3, h2] at z
              exact z
            · simp only [List.size_toArray] at j1 j2
              have k1 : j < xs.length := by omega
              have k2 : j < ys.length := by omega
              obtain ⟨w1, g1, q1⟩ := r1.get (List.getElem?_eq_getElem k1)
              obtain ⟨w2, g2, q2⟩ := r2.get (List.getElem?_eq_getElem k2)
              have z := h1 j (deq H d xs[j] ys[j]) (by rw [List.getElem?_zipWith, List.getElem?_eq_getElem k1, List.getElem?_eq_getElem k2])
              have e4 : i1.toArray[j] = w1 := by simpa [j1] using g1
              have e5 : i2.toArray[j] = w2 := by simpa [j2] using g2
              rw [e4, e5]
              exact eqAt_deq I d A.in1 (by rw [Around.in1_units]; omega) q1 q2 z
          · rename_i hl
            cases h
            exact SeqAt.RcAt.lists_lengths p1.isList p2.isList (by simp; omega) (by omega)
        · rename_i xs ys e1 e2
          cases (show u = Value.ref a from rx)
          cases (show v = Value.ref c from ry)
          have hne : a ≠ c := fun z => hs ⟨a, rfl, by rw [z]⟩
          obtain ⟨i1, r1, p1, _⟩ := I.tuple (.inl (.inl e1))
          obtain ⟨i2, r2, p2, _⟩ := I.tuple (.inl (.inl e2))
          refine SeqAt.EqAt.of_refs hne ?_
          have l1 := r1.length
          have l2 := r2.length
          split at h
          · rename_i hl
            obtain ⟨e, h1, h2⟩ := allO_at h
            rw [List.length_zipWith, ← hl, Nat.min_self] at h2
            have z := SeqAt.RcAt.tuples (A := A) (s := s) (e := e) p1 p2 (by omega) fun j j1 j2 => ?_
            · have e3 : i1.toArray.size = xs.length := by simp [l1]
              have e4 : i2.toArray.size = xs.length := by simp [← l2, hl]
              rw [e3, e4, Nat.min_self, h2, beq_self_eq_true, Bool.and_true] at z
              exact z
            · simp only [List.size_toArray] at j1 j2
              have k1 : j < xs.length := by omega
              have k2 : j < ys.length := by omega
              obtain ⟨w1, g1, q1⟩ := r1.get (List.getElem?_eq_getElem k1)
              obtain ⟨w2, g2, q2⟩ := r2.get (List.getElem?_eq_getElem k2)
              have z := h1 j (deq H d xs[j] ys[j]) (by rw [List.getElem?_zipWith, List.getElem?_eq_getElem k1, List.getElem?_eq_getElem k2])
              have e4 : i1.toArray[j] = w1 := by simpa [j1] using g1
              have e5 : i2.toArray[j] = w2 := by simpa [j2] using g2
              rw [e4, e5]
              exact eqAt_deq I d A.in1 (by rw [Around.in1_units]; omega) q1 q2 z
          · cases h
        · cases h
      · split at h
        · rename_i z; cases h; exact eqAt_V rx ry z.1 z.2
        · cases h
/-- lists, three deep at most -/
def cEqL : R2 := fun x y H Q => match x, y with
  | .ref a, .ref b => (match H a, H b with
    | some (.lst xs), some (.lst ys) => if xs.length = ys.length then (match allO (List.zipWith (deq H 2) xs ys) with
        | some k => Q (.bl k) H
        | none => False) else Q (.bl false) H
    | _, _ => False)
  | _, _ => False
def cNeL : R2 := fun x y H Q => match x, y with
  | .ref a, .ref b => (match H a, H b with
    | some (.lst xs), some (.lst ys) => if xs.length = ys.length then (match allO (List.zipWith (deq H 2) xs ys) with
        | some k => Q (.bl (!k)) H
        | none => False) else Q (.bl true) H
    | _, _ => False)
  | _, _ => False
theorem c_eqL (hu : X.A.units + 8 < cLine) : OpR X (compareOp .Eq) cEqL := by
  intro pins s σ H x y v u Q I rx ry h
  unfold cEqL at h
  split at h
  case h_2 => exact h.elim
  rename_i a b
  split at h
  case h_2 => exact h.elim
  rename_i xs ys e1 e2
  cases (show v = Value.ref a from rx)
  cases (show u = Value.ref b from ry)
  obtain ⟨i1, r1, p1, _⟩ := I.list (SqL.of e1)
  obtain ⟨i2, r2, p2, _⟩ := I.list (SqL.of e2)
  have l1 := r1.length
  have l2 := r2.length
  split at h
  · rename_i hl
    split at h
    case h_2 => exact h.elim
    rename_i k hk
    obtain ⟨e, h1, h2⟩ := allO_at hk
    rw [List.length_zipWith, ← hl, Nat.min_self] at h2
    refine SeqAt.eq_listAt (e := e) p1.isList p2.isList (by simp; omega) (by omega) (fun j j1 j2 => ?_) ⟨.bl k, H, I, ?_, h⟩
    · simp only [List.size_toArray] at j1 j2
      have k1 : j < xs.length := by omega
      have k2 : j < ys.length := by omega
      obtain ⟨w1, g1, q1⟩ := r1.get (List.getElem?_eq_getElem k1)
      obtain ⟨w2, g2, q2⟩ := r2.get (List.getElem?_eq_getElem k2)
      have z := h1 j (deq H 2 xs[j] ys[j]) (by rw [List.getElem?_zipWith, List.getElem?_eq_getElem k1, List.getElem?_eq_getElem k2])
      have e4 : i1.toArray[j] = w1 := by simpa [j1] using g1
      have e5 : i2.toArray[j] = w2 := by simpa [j2] using g2
      rw [e4, e5]
      exact eqAt_deq I 2 X.A.in1 (by rw [Around.in1_units]; omega) q1 q2 z
    · have e3 : i1.toArray.size = xs.length := by simp [l1]
      rw [e3, h2]
      exact rfl
  · exact SeqAt.eq_list_lengthsAt p1.isList p2.isList (by simp; omega) (by omega) ⟨.bl false, H, I, rfl, h⟩
end
section
variable {X : Cx}
theorem c_neL (hu : X.A.units + 8 < cLine) : OpR X (compareOp .NotEq) cNeL := by
  intro pins s σ H x y v u Q I rx ry h
  unfold cNeL at h
  split at h
  case h_2 => exact h.elim
  rename_i a b
  split at h
  case h_2 => exact h.elim
  rename_i xs ys e1 e2
  cases (show v = Value.ref a from rx)
  cases (show u = Value.ref b from ry)
  obtain ⟨i1, r1, p1, _⟩ := I.list (SqL.of e1)
  obtain ⟨i2, r2, p2, _⟩ := I.list (SqL.of e2)
  have l1 := r1.length
  have l2 := r2.length
  split at h
  · rename_i hl
    split at h
    case h_2 => exact h.elim
    rename_i k hk
    obtain ⟨e, h1, h2⟩ := allO_at hk
    rw [List.length_zipWith, ← hl, Nat.min_self] at h2
    refine SeqAt.RcNeAt.lists (e := e) p1.isList p2.isList (by simp; omega) (by omega) (fun j j1 j2 => ?_) X.prog X.w X.xe _ ⟨.bl (!k), H, I, ?_, h⟩
    · simp only [List.size_toArray] at j1 j2
      have k1 : j < xs.length := by omega
      have k2 : j < ys.length := by omega
      obtain ⟨w1, g1, q1⟩ := r1.get (List.getElem?_eq_getElem k1)
      obtain ⟨w2, g2, q2⟩ := r2.get (List.getElem?_eq_getElem k2)
      have z := h1 j (deq H 2 xs[j] ys[j]) (by rw [List.getElem?_zipWith, List.getElem?_eq_getElem k1, List.getElem?_eq_getElem k2])
      have e4 : i1.toArray[j] = w1 := by simpa [j1] using g1
      have e5 : i2.toArray[j] = w2 := by simpa [j2] using g2
      rw [e4, e5]
      exact eqAt_deq I 2 X.A.in1 (by rw [Around.in1_units]; omega) q1 q2 z
    · have e3 : i1.toArray.size = xs.length := by simp [l1]
      rw [e3, h2]
      exact rfl
  · exact SeqAt.RcNeAt.lists_lengths p1.isList p2.isList (by simp; omega) (by omega) X.prog X.w X.xe _ ⟨.bl true, H, I, rfl, h⟩
end
/-! ### isinstance(x, (A, B, ..)) -/
def kitVs (K : PySem.W.Frag) (t : Value) : List V → Option Bool
  | [] => some false
  | c :: r => match kitV K t c with
    | some true => some true
    | some false => kitVs K t r
    | none => none
theorem kitVs_any {K : PySem.W.Frag} {t : Value} {b : Bool} : ∀ {cs : List V} {us : List Value}, Vals cs us → kitVs K t cs = some b → PySem.W.kitAny K t us = some b
  | _, _, .nil, h => h
  | c :: cs, u :: us, .cons r rs, h => by
    have e : ∀ k, kitV K t c = some k → PySem.W.kitOne K t u = some k := fun k hk => by
      cases c <;> first | (cases (show u = Value.type _ from r); exact hk) | (cases (show u = Value.ref _ from r); exact hk) | cases hk
    unfold kitVs at h
    unfold PySem.W.kitAny
    split at h
    · rename_i z; rw [e _ z]; exact h
    · rename_i z; rw [e _ z]; exact kitVs_any rs h
    · cases h
def rIsT (K : PySem.W.Frag) : List V → Hp → VK → Prop := fun xs H Q => match xs with
  | [.ref a, .ref p] => (match H a, H p with
    | some (.exc (.ref C)), some (.tup cs) => KiE K C ∧ (match kitVs K (.ref C) cs with
      | some b => Q (.bl b) H
      | none => False)
    | _, _ => False)
  | _ => False
theorem call_ist {X : Cx} : CallR X (.builtin "isinstance") (rIsT X.K) := by
  intro pins s σ H xs us Q I r h
  unfold rIsT at h
  split at h
  case h_2 => exact h.elim
  rename_i a p
  obtain ⟨u, w', rfl, rx, rc⟩ := vals2 r
  split at h
  case h_2 => exact h.elim
  rename_i C cs ea ep
  obtain ⟨ki, h⟩ := h
  split at h
  case h_2 => exact h.elim
  rename_i b hk
  cases (show u = Value.ref a from rx)
  cases (show w' = Value.ref p from rc)
  obtain ⟨_, its, rv, tp⟩ := (show ObjOk X.prog X.w H s.heap p (.tup cs) from I.hok p _ ep)
  obtain ⟨o, h1, h2, n, h3⟩ := tp
  obtain ⟨oc, od, dt, sl⟩ := o
  have h2 : oc = .type "tuple" := h2
  have h3 : dt = .seq its.toArray n := h3
  subst h2 h3
  exact PySem.W.kia_tup (kitx_exc ki) I.kIn (show ObjOk X.prog X.w H s.heap a (.exc (.ref C)) from I.hok a _ ea) h1 (kitVs_any rv hk) (fun z => nomatch z) fun tk => ⟨.bl b, H, I.tok tk, rfl, h⟩

/-! ### comprehensions that leave the heap -/
theorem CompW.mapR {lo : Int} {n : Nat} {cap : St} {te : TE} {H : Hp} {Q : VK} (f : Nat → V) (hn : n ≤ sizeLine) (h : ∀ i, i < n → ∀ K' : VK, K' (f i) H → te (some (.int (lo + i)) :: cap) H K')
    (q : ∀ p, H p = none → Q (.ref p) (upd H p (.lst ((List.range n).map f)))) : CompW (Itr lo n) cap tYes te H Q := by
  refine ⟨fun i m ys H' => H' = H ∧ i ≤ n ∧ m = n - i ∧ ys = (List.range i).map f, ⟨n, rfl, Nat.zero_le _, rfl, rfl⟩, fun i m ys H' ⟨e1, hi, em, ey⟩ => ?_⟩
  subst e1 ey
  refine ⟨by rw [List.length_map, List.length_range]; omega, ?_⟩
  by_cases z : i < n
  · refine .inr ⟨z, fun x H2 ⟨e2, e3⟩ => ?_⟩
    rw [e2, e3]
    unfold tYes
    dsimp only
    rw [if_pos rfl]
    refine h i z _ ⟨n - (i + 1), by omega, rfl, z, rfl, ?_⟩
    rw [List.range_succ, List.map_append]; rfl
  · have e : i = n := by omega
    subst e
    exact .inl ⟨Nat.le_refl _, q⟩
theorem exc_blk {X : Cx} {scope : Scope} {N : List Str} {x : List Str} {s : Shared} {H : Hp} {C : Addr} {ex : List Addr} : Exc (X.blk scope N x s H C ex) (fun _ _ _ _ => False) :=
  ⟨fun _ _ _ _ _ _ _ ⟨_, _, _, _, _, _, _, _, _, _, _, _, h⟩ => h, fun _ _ _ _ _ _ _ _ _ _ _ _ h => h, PassesOwn.never⟩

/-! ### all(a list of bools), list(a list), == of what may be lists -/
def bools : List V → Option (List Bool)
  | [] => some []
  | .bl b :: r => (bools r).map fun bs => b :: bs
  | _ :: _ => none
def cEqA : R2 := fun x y H Q => match eqv x y with
  | some b => Q (.bl b) H
  | none => cEqL x y H Q
def cNeA : R2 := fun x y H Q => match eqv x y with
  | some b => Q (.bl (!b)) H
  | none => cNeL x y H Q
section
variable {X : Cx}
theorem c_eqA (hu : X.A.units + 8 < cLine) : OpR X (compareOp .Eq) cEqA := by
  intro pins s σ H x y v u Q I rx ry h
  unfold cEqA at h
  split at h
  · rename_i b e
    exact c_eq pins s σ H x y v u Q I rx ry (by unfold cEq; rw [e]; exact h)
  · exact c_eqL hu pins s σ H x y v u Q I rx ry h
theorem c_neA (hu : X.A.units + 8 < cLine) : OpR X (compareOp .NotEq) cNeA := by
  intro pins s σ H x y v u Q I rx ry h
  unfold cNeA at h
  split at h
  · rename_i b e
    exact c_ne pins s σ H x y v u Q I rx ry (by unfold cNe; rw [e]; exact h)
  · exact c_neL hu pins s σ H x y v u Q I rx ry h
theorem hu8 {ca : Bool} {k : Nat} {A : Around} (hr : Room ca k A) : A.units + 8 < cLine := Nat.lt_of_le_of_lt (Nat.add_le_add_left (by decide : 8 ≤ 64) _) hr.units
end
theorem deq_ints1 {H : Hp} (xs : List Int) : allO (List.zipWith (deq H 1) (xs.map V.int) (xs.map V.int)) = some true := by
  induction xs with
  | nil => rfl
  | cons x r ih =>
    simp only [List.map_cons, List.zipWith_cons_cons]
    have e : deq H 1 (.int x) (.int x) = some true := by simp [deq, flatV, eqV]
    rw [e]
    simp only [allO, ih]
    rfl
end L2

/-! LK: while, sums, list + list, dicts asked and popped, is True. -/
namespace L2
open PySem PySem.Spec PyProof.Rows

theorem sort_uniq : ∀ {l1 l2 : List Int}, l1.Perm l2 → l1.Pairwise (· ≤ ·) → l2.Pairwise (· ≤ ·) → l1 = l2
  | [], l2, p, _, _ => (List.Perm.nil_eq p)
  | a :: r, [], p, _, _ => absurd p.length_eq (by simp)
  | a :: r, b :: r2, p, h1, h2 => by
    have ha : a ∈ b :: r2 := p.mem_iff.mp List.mem_cons_self
    have hb : b ∈ a :: r := p.mem_iff.mpr List.mem_cons_self
    rw [List.pairwise_cons] at h1 h2
    have e : a = b := by
      rcases List.mem_cons.mp ha with e | ha
      · exact e
      · rcases List.mem_cons.mp hb with e | hb
        · exact e.symm
        · have := h2.1 a ha
          have := h1.1 b hb
          omega
    subst e
    rw [sort_uniq ((List.perm_cons a).mp p) h1.2 h2.2]
def isort (ns : List Int) : List Int := ns.mergeSort (fun a b => decide (a ≤ b))
theorem isort_perm (ns : List Int) : (isort ns).Perm ns := List.mergeSort_perm ns _
theorem isort_sorted (ns : List Int) : (isort ns).Pairwise (· ≤ ·) := by
  have h := List.pairwise_mergeSort (le := fun (a b : Int) => decide (a ≤ b)) (fun a b c => by simp; omega) (fun a b => by simp; omega) ns
  exact h.imp (by simp)
theorem isort_is {ns ns' : List Int} (p : ns'.Perm ns) (h : ns'.Pairwise (· ≤ ·)) : ns' = isort ns := sort_uniq (p.trans (isort_perm ns).symm) h (isort_sorted ns)
/-! ### numbers of a list -/
/-! ### sum(a list of numbers) -/
section
variable {X : Cx}
/-! ### sorted -/
/-! ### sorted(a dict whose keys are numbers) -/
def intKs : List (Key × V) → Option (List Int)
  | [] => some []
  | (.inl i, _) :: r => (intKs r).map fun ns => i :: ns
  | _ :: _ => none
theorem intKs_at : ∀ {kvs : List (Key × V)} {ns : List Int}, intKs kvs = some ns → kvs.map (·.1) = ns.map Sum.inl
  | [], ns, h => by cases h; rfl
  | (k, v) :: r, ns, h => by
    cases k with
    | inl i =>
      obtain ⟨cs, hc, rfl⟩ := Option.map_eq_some_iff.mp h
      rw [List.map_cons, List.map_cons, ← intKs_at hc]
    | inr x => cases h
def cSortedD : List V → Hp → VK → Prop := fun xs H Q => match xs with
  | [.ref a] => (match H a with
    | some (.dK kvs) => (match intKs kvs with
      | some ns => ns.length < 64 ∧ ∀ l, H l = none → Q (.ref l) (upd H l (.lst ((isort ns).map V.int)))
      | none => False)
    | _ => False)
  | _ => False
theorem ints_items : ∀ {l : List Value} {ns : List Int}, l.length = ns.length → (∀ (j : Nat) (v : Value), l[j]? = some v → ∃ t, v = .int (ns.getD j 0) t) → IntsAre l ns
  | [], [], _, _ => .nil
  | v :: r, n :: m, hl, h => by
    obtain ⟨t, e⟩ := h 0 v rfl
    rw [e]
    exact .cons n t (ints_items (by simpa using hl) fun j w hw => h (j + 1) w (by simpa using hw))
theorem keyIs_inl {i : Int} {v : Value} (h : keyIs (.inl i) v = true) : ∃ t, v = .int i t := by
  rcases keyIs_shape h with ⟨k, t, e, rfl⟩ | ⟨x, t, e, _⟩
  · cases e; exact ⟨t, rfl⟩
  · cases e
theorem c_sortedD (hc : X.calm = true) : CallR X (.builtin "sorted") cSortedD := by
  intro pins s σ H xs us Q I r h
  unfold cSortedD at h
  split at h
  case h_2 => exact h.elim
  rename_i a
  obtain ⟨u, rfl, rx⟩ := vals1 r
  cases (show u = Value.ref a from rx)
  split at h
  case h_2 => exact h.elim
  rename_i kvs ea
  split at h
  case h_2 => exact h.elim
  rename_i ns hb
  obtain ⟨hl, h⟩ := h
  obtain ⟨z, hd, vs, rel, o, es, ep, hat⟩ := dk_of I.hok ea
  have da : Heap.DictAt (mixKind X.prog X.w) s.heap a vs ep := ⟨o, es, hat⟩
  have hk1 := intKs_at hb
  have hk2 := rel.keys
  have hlen : vs.length = ns.length := by
    have := congrArg List.length (hk2.symm.trans hk1)
    simpa using this
  have h64 : 64 ≤ sizeLine := by decide
  refine Calls.call_function_entry kind_sorted plain_sorted entry_sorted (args_sorted1 _) ?_
  refine wpAny_bind (wpAny_pure ?_)
  refine wpAny_bind (PySem.W.kdu_collect (PySem.W.kdl_dict hd) (by show X.A.handled = none; exact I.ok.hd hc) da (by omega) fun h' tk acc hk hi => ?_)
  have hal : acc.toList.length = ns.length := by rw [← hlen]; simpa using hi.1
  have hints : IntsAre acc.toList ns := ints_items hal fun j v hv => by
    obtain ⟨k, x, e1, e2⟩ := hi.2 j v (by simpa using hv)
    have e3 : (vs.map (·.1))[j]? = some k := by rw [List.getElem?_map, e1]; rfl
    rw [← hk2, hk1, List.getElem?_map] at e3
    obtain ⟨n, e4, rfl⟩ := Option.map_eq_some_iff.mp e3
    obtain ⟨t, rfl⟩ := keyIs_inl (show keyIs (.inl n) v = true from e2)
    exact ⟨t, by rw [List.getD_eq_getElem?_getD, e4]; rfl⟩
  refine wpAny_bind (wpAny_newList ?_ (by omega))
  have hgt : (h'.push { cls := .type "list", data := .seq acc.toList.toArray }).get? h'.objs.size = some (seqObj "list" acc.toList.toArray 0) := Heap.get?_push_size _ rfl
  refine wpAny_bind (wpAny_holding (wpAny_call_entry slot_list_sort ⟨_, hgt, rfl⟩ entry_list_sort (list_sort_tree hgt hints (by omega) fun out ns' h1 h2 h3 => ?_) (args_list_sort _)))
  refine ⟨_, rfl, wpAny_pure ⟨_, rfl, ?_⟩⟩
  have e := isort_is h2 h3
  subst e
  have hln := h2.length_eq
  have I2 : Inv X pins σ H { s with heap := h', toks := tk } := I.kept fun b o e => hk b o e
  have hf : H h'.objs.size = none := I2.hok.fresh (Nat.le_refl _)
  obtain ⟨en, he⟩ := sortedHeap_at (h := h'.push { cls := .type "list", data := .seq acc.toList.toArray }) (a := h'.objs.size) (vs := acc.toList) (out := out) hgt
  refine ⟨.ref h'.objs.size, _, I2.laid (t' := tk) (fun b o e => (sortedHeap_old (Nat.ne_of_lt (Heap.lt_size e)) (Heap.lt_size (Heap.get?_push_of_some _ e))).trans (Heap.get?_push_of_some _ e)) (Nat.le_refl _) (show ObjOk X.prog X.w _ _ _ (.lst ((isort ns).map V.int)) from ?_), rfl, h _ hf⟩
  exact ⟨by rw [List.length_map, hln]; exact Nat.le_trans (Nat.le_of_lt hl) (by decide), out.toList, en, vals_ints h1, by simpa using he⟩
/-! ### list + list -/
/-! ### is True, is False -/
def isBl : V → Bool → Option Bool
  | .bl c, b => some (decide (c = b))
  | .int _, _ => some false
  | .non, _ => some false
  | .str _, _ => some false
  | .ref _, _ => some false
  | _, _ => none
def cIsA : R2 := fun x y H Q => match y with
  | .bl b => (match isBl x b with
    | some k => Q (.bl k) H
    | none => False)
  | _ => False
theorem same_bl {x : V} {v : Value} {b k : Bool} (r : RelV x v) (h : isBl x b = some k) : isSame v (.bool b) = pure k := by
  cases x with
  | bl c =>
    cases (show v = Value.bool c from r)
    have e : decide (c = b) = k := Option.some.inj h
    rw [← e]
    cases c <;> cases b <;> rfl
  | int i => obtain ⟨t, rfl⟩ := r; cases h; rfl
  | non => cases (show v = Value.none from r); cases h; rfl
  | str i => obtain ⟨t, rfl⟩ := r; cases h; rfl
  | ref a => cases (show v = Value.ref a from r); cases h; rfl
  | _ => cases h
theorem c_isA : OpR X (compareOp .Is) cIsA := by
  intro pins s σ H x y v u Q I rx ry h
  unfold cIsA at h
  split at h
  case h_2 => exact h.elim
  rename_i b
  split at h
  case h_2 => exact h.elim
  rename_i k hk
  cases (show u = Value.bool b from ry)
  show wpAny _ _ (do let r ← isSame v (.bool b); pure (Value.bool r)) _ _ s
  rw [same_bl rx hk]
  exact wpAny_bind (wpAny_pure (wpAny_pure ⟨.bl k, H, I, rfl, h⟩))
/-! ### dicts -/
def cInD : R2 := fun x y H Q => match y with
  | .ref a => (match H a, keyV x with
    | some (.dK kvs), some k => Q (.bl (valV kvs k).isSome) H
    | _, _ => False)
  | _ => False
theorem c_inD (hu : X.A.units + 1 < cLine) : OpR X (compareOp .In) cInD := by
  intro pins s σ H x y v u Q I rx ry h
  unfold cInD at h
  split at h
  case h_2 => exact h.elim
  rename_i a
  split at h
  case h_2 => exact h.elim
  rename_i kvs k ea ek
  have ey := keyV_is ek
  subst ey
  cases (show u = Value.ref a from ry)
  exact d_in hu I (DGet.k ea) rx fun s' I' => ⟨.bl _, H, I', rfl, h⟩
end
def cDPop (td ty : TE) : TE := fun σ H Q => td σ H fun x H1 => match x with
  | .ref a => (match H1 a with
    | some (.dK _) => ty σ H1 fun y H2 => (match H2 a, keyV y with
      | some (.dK kvs), some k => (match valV kvs k with
        | some v => Q v (upd H2 a (.dK (dropK kvs k)))
        | none => False)
      | _, _ => False)
    | _ => False)
  | _ => False
section
variable {X : Cx} {o e : Expr} {td ty : TE} {apos cpos : Pos}
theorem c_dpop (ho : PE X o td) (he : PE X e ty) (m : M1 X o "pop" apos e cpos) : PE X (.Call (.Attribute o "pop" apos) [e] [] cpos) (cDPop td ty) := by
  intro pins s σ H Q I h
  refine wpAny_Call_method m.base m.few m.line PySem.F.plainAttrs_dict PySem.F.slot_dict_pop PySem.F.type_dict_pop (thn (ho pins s σ H _ I h) fun u s1 ⟨x, H1, I1, rx, q1⟩ => ?_)
  try dsimp only at q1
  split at q1
  case h_2 => exact q1.elim
  rename_i a
  split at q1
  case h_2 => exact q1.elim
  rename_i kvs0 ea0
  obtain rfl : u = Value.ref a := rx
  obtain ⟨t1, t2, _⟩ := isD_at I1 (isD_of ea0)
  refine ⟨t1, t2, ?_⟩
  rw [m.trees]
  refine Calls.callWith_builtin rfl (Calls.evalArgs_plain (Calls.spliced_cons (thn (he pins s1 σ H1 _ I1 q1) fun iv s2 ⟨y, H2, I2, ry, q2⟩ => Calls.spliced_nil ?_)))
  try dsimp only at q2
  split at q2
  case h_2 => exact q2.elim
  rename_i kvs k ea ek
  split at q2
  case h_2 => exact q2.elim
  rename_i v l
  have ey := keyV_is ek
  subst ey
  exact d_pop I2 ea ry l (.inl rfl) fun w' s3 I3 rw' => ⟨v, _, I3, rw', q2⟩
end
/-! ### list(range(a, b)) -/
section
variable {X : Cx} {a b : Expr} {ta : TA} {p pos p2 pos2 : Pos}
end
end L2

/-! LN: enumerate over a list. -/
namespace L2
open PySem PySem.Spec PyProof.Rows

section
variable {X : Cx} {pins : List (Addr × Obj)} {σ : St} {H : Hp} {s : Shared} {h' : Heap}
end
section
variable {X : Cx}
end
/-! ### tuple + tuple -/
section
variable {X : Cx}
end
end L2

/-! LJ: the judgements as structures, and the rules over them. -/
namespace L2
open PySem PySem.Spec PyProof.Rows
structure JE (X : Cx) (e : Expr) (t : TE) : Prop where
  run : PE X e t
structure JT (X : Cx) (e : Expr) (t : TT) : Prop where
  run : PT X e t
structure JW (X : Cx) (e : Expr) (t : TT) : Prop where
  run : PW X e t
structure JA (X : Cx) (e : List Expr) (t : TA) : Prop where
  run : PA X e t
structure JS (X : Cx) (e : Stmt) (t : TS) : Prop where
  run : PS X e t
structure JSs (X : Cx) (e : List Stmt) (t : TS) : Prop where
  run : PSs X e t
structure JG (X : Cx) (e : Expr) (t : TG) : Prop where
  run : PG X e t
structure JGs (X : Cx) (e : List Expr) (t : TGs) : Prop where
  run : PGs X e t
structure JI (X : Cx) (tg e : Expr) (t : TI) : Prop where
  run : PI X tg e t
structure JO (X : Cx) (e : Option Expr) (t : TO) : Prop where
  run : PO X e t
structure JH (X : Cx) (e : List ExceptHandler) (t : TH) : Prop where
  run : PH X e t
structure JIfs (X : Cx) (e : List Expr) (t : TT) : Prop where
  run : PIfs X e t
structure JOp (X : Cx) (f : Value → Value → Sem Value) (r : R2) : Prop where
  run : OpR X f r
structure JUn (X : Cx) (f : Value → Sem Value) (r : V → Hp → VK → Prop) : Prop where
  run : UnR X f r
structure JCall (X : Cx) (f : Value) (r : List V → Hp → VK → Prop) : Prop where
  run : CallR X f r
structure JIx (X : Cx) (r : R2) : Prop where
  run : IxR X r
structure JSl (X : Cx) (r : V → Option Int → Option Int → Hp → VK → Prop) : Prop where
  run : SlR X r
structure JSet (X : Cx) (t : TSet) : Prop where
  run : PSet X t
structure JMt (X : Cx) (id : String) (r : V → List V → Hp → VK → Prop) : Prop where
  run : MtR X id r

section
variable {X : Cx} {rest : List Expr} {lo hi : Option Expr} {id T : String} {op : Operator} {st : Stmt} {srest : List Stmt} {hrest : List ExceptHandler}
theorem j_cv (i : Nat) {x : Str} {pos : Pos} (hN : X.N[i]? = some x := by rfl) (hv : Vis X.env.scope x := by first | exact Or.inl rfl | exact Or.inr (Or.inl rfl) | exact Or.inr (Or.inr rfl)) (hd : (x == ("__debug__" : Str)) = false := by decide) (hcd : (x == ("__classdict__" : Str)) = false := by decide) : JE X (.Name x pos) (cVar i) := ⟨cv i hN hv hd hcd⟩
theorem j_pe_gv {x : Str} {v : V} {pos : Pos} (h : Gv X.mg x v) (hg : Gl X x := by rfl) (hd : (x == ("__debug__" : Str)) = false := by decide) : JE X (.Name x pos) (tC v) := ⟨pe_gv h hg hd⟩
theorem j_pe_ty {x : Str} {T : String} {pos : Pos} (hm : X.mg x = none) (hv : bootBuiltins x = some (.type T)) (hg : Gl X x := by rfl) (hn : x ≠ "__name__" := by decide) (hd : (x == ("__debug__" : Str)) = false := by decide) : JE X (.Name x pos) (tC (.ty T)) := ⟨pe_ty hm hv hg hn hd⟩
theorem j_pe_non {j pos} : JE X (.Constant .none j pos) (tC .non) := ⟨pe_non ⟩
theorem j_pe_bl {b j pos} : JE X (.Constant (.bool b) j pos) (tC (.bl b)) := ⟨pe_bl ⟩
theorem j_pe_int {i j pos} : JE X (.Constant (.int i) j pos) (tC (.int i)) := ⟨pe_int ⟩
theorem j_pe_str {x j pos} : JE X (.Constant (.str x) j pos) (tC (.str x)) := ⟨pe_str ⟩
theorem j_pe_op {op : Operator} {r : R2} (ho : JOp X (binaryOp op) r) (ha : JE X a ta) (hb : JE X b tb) : JE X (.BinOp a op b pos) (tOp r ta tb) := ⟨pe_op ho.run ha.run hb.run⟩
theorem j_pe_un {op : UnaryOp} {r : V → Hp → VK → Prop} (ho : JUn X (unaryOp op) r) (ha : JE X a ta) : JE X (.UnaryOp op a pos) (tUn r ta) := ⟨pe_un ho.run ha.run⟩
theorem j_pe_not (ha : JE X a ta) : JE X (.UnaryOp .Not a pos) (tNotV ta) := ⟨pe_not ha.run⟩
theorem j_pe_and (ha : JE X a ta) (hb : JE X (.BoolOp .And (b :: rest) pos) tb) : JE X (.BoolOp .And (a :: b :: rest) pos) (tAndV ta tb) := ⟨pe_and ha.run hb.run⟩
theorem j_pe_or (ha : JE X a ta) (hb : JE X (.BoolOp .Or (b :: rest) pos) tb) : JE X (.BoolOp .Or (a :: b :: rest) pos) (tOrV ta tb) := ⟨pe_or ha.run hb.run⟩
theorem j_pe_one {op} {t : TE} (h : JE X a t) : JE X (.BoolOp op [a] pos) t := ⟨pe_one h.run⟩
theorem j_pe_cmpR {op : CmpOp} {r : R2} (ho : JOp X (compareOp op) r) (ha : JE X a ta) (hb : JE X b tb) (hm : behindInMarks op b = false) : JE X (.Compare a [op] [b] pos) (tOp r ta tb) := ⟨pe_cmpR ho.run ha.run hb.run hm⟩
theorem j_pe_chain {op op' : CmpOp} {r r' : R2} (ho : JOp X (compareOp op) r) (ho' : JOp X (compareOp op') r') (ha : JE X a ta) (hb : JE X b tb) (hc : JE X c tc) (hm : lastMarks [op, op'] [b, c] = false := by with_unfolding_all rfl) : JE X (.Compare a [op, op'] [b, c] pos) (tChain r r' ta tb tc) := ⟨pe_chain ho.run ho'.run ha.run hb.run hc.run hm⟩
theorem j_pe_ifExp {c : Expr} (hc : JT X c tA) (ha : JE X a ta) (hb : JE X b tb) : JE X (.IfExp c a b pos) (tIf tA ta tb) := ⟨pe_ifExp hc.run ha.run hb.run⟩
theorem j_pe_lst (h : JA X es t) : JE X (.List es pos) (tLst t) := ⟨pe_lst h.run⟩
theorem j_pe_tup {x1} (h : JA X es t) : JE X (.Tuple es x1 pos) (tTup t) := ⟨pe_tup h.run⟩
theorem j_pe_dnewK  : JE X (.Dict [] [] pos) tDNewK := ⟨pe_dnewK ⟩
theorem j_pe_menu (ha : JA X es t) (hi : JE X e ti) (hs : PlainIx e) : JE X (.Subscript (.List es p2) e pos) (tOp rIxM (tLst t) ti) := ⟨pe_menu ha.run hi.run hs⟩
theorem j_pe_ix {r : R2} (hr : JIx X r) (ha : JE X a ta) (hb : JE X b tb) (hs : PlainIx b) : JE X (.Subscript a b pos) (tOp r ta tb) := ⟨pe_ix hr.run ha.run hb.run hs⟩
theorem j_pe_callF (F : FnOk X.prog X.w X.K X.mg X.base (CXE X.prog X.w) ca k f fd ps sp) (hr : Room ca k X.A) (hg : Gl X x) (hm : X.mg x = some (.ref f)) (hk : PySem.W.keepIn X.K (.ref f) = true) (hb : Binds X.K fd ps []) (hx : Exc X E) (ha : JA X (e :: es) t) (hdb : (x == ("__debug__" : Str)) = false := by decide) (h : (e :: es).all notStar = true := by rfl) : JE X (.Call (.Name x p) (e :: es) [] pos) (tCallE sp E t) := ⟨pe_callF F hr hg hm hk hb hx ha.run hdb h⟩
theorem j_pe_makeF (M : Mk X.K C f) (F : FnOk X.prog X.w X.K X.mg X.base (CXE X.prog X.w) ca k f fd ps sp) (hr : Room ca (k + 1) X.A) (hg : Gl X x) (hm : X.mg x = some (.ref C)) (hb : Binds X.K fd ps []) (hx : Exc X E) (ha : JA X (e :: es) t) (hdb : (x == ("__debug__" : Str)) = false := by decide) (h : (e :: es).all notStar = true := by rfl) : JE X (.Call (.Name x p) (e :: es) [] pos) (tMakeE C sp E t) := ⟨pe_makeF M F hr hg hm hb hx ha.run hdb h⟩
theorem j_pe_make0E (M : Mk X.K C f) (F : FnOk X.prog X.w X.K X.mg X.base (CXE X.prog X.w) ca k f fd ps sp) (hr : Room ca (k + 1) X.A) (hg : Gl X x) (hm : X.mg x = some (.ref C)) (hb : Binds X.K fd ps []) (hx : Exc X E) (hdb : (x == ("__debug__" : Str)) = false := by decide) : JE X (.Call (.Name x p) [] [] pos) (tMakeE C sp E tNil) := ⟨pe_make0E M F hr hg hm hb hx hdb⟩
theorem j_pe_callBF (hc : JCall X (.builtin id) r) (hg : Gl X x) (hm : X.mg x = none) (hv : bootBuiltins x = some (.builtin id)) (ha : JA X (e :: es) t) (hn : x ≠ "__name__" := by decide) (hdb : (x == ("__debug__" : Str)) = false := by decide) (h : (e :: es).all notStar = true := by rfl) : JE X (.Call (.Name x p) (e :: es) [] pos) (tCB r t) := ⟨pe_callBF hc.run hg hm hv ha.run hn hdb h⟩
theorem j_pe_callTyF (hc : JCall X (.type T) r) (hg : Gl X x) (hm : X.mg x = none) (hv : bootBuiltins x = some (.type T)) (ha : JA X (e :: es) t) (hn : x ≠ "__name__" := by decide) (hdb : (x == ("__debug__" : Str)) = false := by decide) (h : (e :: es).all notStar = true := by rfl) : JE X (.Call (.Name x p) (e :: es) [] pos) (tCB r t) := ⟨pe_callTyF hc.run hg hm hv ha.run hn hdb h⟩
theorem j_c_meth {pl : Sem Bool} (he : JE X o ta) (c : Cls X.K C) (hm : Meth X.K C m f) (F : FnOk X.prog X.w X.K X.mg X.base (CXE X.prog X.w) ca k f fd ps sp) (hr : Room ca k X.A) (hb : Binds X.K fd ps []) (hx : Exc X E) (ha : JA X (e :: es) t) (hns : (e :: es).all notStar = true := by rfl) (ht : eval (.Call (.Attribute o m apos) (e :: es) [] pos) X.env = (do
      let ov ← eval o X.env
      standAt apos.atName
      let (f, first) ← holding [ov] (getMethod ov m pl)
      callWith pos f first (backTo pos (starEach (e :: es) X.env)) (backToKw pos (keywordEach [] X.env))) := by rfl) : JE X (.Call (.Attribute o m apos) (e :: es) [] pos) (cMethE C m sp E ta t) := ⟨c_meth he.run c hm F hr hb hx ha.run hns ht⟩
theorem j_c_meth0 {pl : Sem Bool} (he : JE X o ta) (c : Cls X.K C) (hm : Meth X.K C m f) (F : FnOk X.prog X.w X.K X.mg X.base (CXE X.prog X.w) ca k f fd ps sp) (hr : Room ca k X.A) (hb : Binds X.K fd ps []) (hx : Exc X E) (ht : eval (.Call (.Attribute o m apos) [] [] pos) X.env = (do
      let ov ← eval o X.env
      standAt apos.atName
      let (f, first) ← holding [ov] (getMethod ov m pl)
      callWith pos f first (backTo pos (starEach [] X.env)) (backToKw pos (keywordEach [] X.env))) := by rfl) : JE X (.Call (.Attribute o m apos) [] [] pos) (cMethE C m sp E ta tNil) := ⟨c_meth0 he.run c hm F hr hb hx ht⟩
theorem j_c_fld (he : JE X e ta) (hb : attributeBase e f X.env (eval e X.env) = eval e X.env) : JE X (.Attribute e f pos) (cFld X.K ta f) := ⟨c_fld he.run hb⟩
theorem j_pa_nil  : JA X [] tNil := ⟨pa_nil ⟩
theorem j_pa_c (ha : JE X e te) (hr : JA X es t) (h : notStar e = true := by rfl) : JA X (e :: es) (tCons te t) := ⟨pa_c ha.run hr.run h⟩
theorem j_pt_not (ha : JT X a tA) : JT X (.UnaryOp .Not a pos) (tNot tA) := ⟨pt_not ha.run⟩
theorem j_PW_pt {X : Cx} {e : Expr} {t : TT} (h : JW X e t) : JT X e t := ⟨PW.pt h.run⟩
theorem j_pt_cmpR {op : CmpOp} {r : R2} (ho : JOp X (compareOp op) r) (ha : JE X a ta) (hb : JE X b tb) (hm : behindInMarks op b = false) : JT X (.Compare a [op] [b] pos) (tTest (tOp r ta tb)) := ⟨pt_cmpR ho.run ha.run hb.run hm⟩
theorem j_pt_truth (ha : JE X a ta) (he : ∀ whole, isTrue a X.env whole = (do let v ← whole; standAt a.pos; holding [v] (truthy v))) : JT X a (fun σ H Q => ta σ H fun x H' => ∃ k, TruV X.K x H' k ∧ Q k H') := ⟨pt_truth ha.run he⟩
theorem j_pw_and1 (ha : JT X a tA) : JW X (.BoolOp .And [a] pos) tA := ⟨pw_and1 ha.run⟩
theorem j_pw_or1 (ha : JT X a tA) : JW X (.BoolOp .Or [a] pos) tA := ⟨pw_or1 ha.run⟩
theorem j_pw_and (ha : JT X a tA) (hb : JW X (.BoolOp .And (b :: rest) pos) tB') : JW X (.BoolOp .And (a :: b :: rest) pos) (tAnd tA tB') := ⟨pw_and ha.run hb.run⟩
theorem j_pw_or (ha : JT X a tA) (hb : JW X (.BoolOp .Or (b :: rest) pos) tB') : JW X (.BoolOp .Or (a :: b :: rest) pos) (tOr tA tB') := ⟨pw_or ha.run hb.run⟩
theorem j_pss_nil  : JSs X [] tNext := ⟨pss_nil ⟩
theorem j_pss_one (h1 : JS X st t) : JSs X [st] t := ⟨pss_one h1.run⟩
theorem j_pss_cons (h1 : JS X st t) (h2 : JSs X srest u) : JSs X (st :: srest) (tSeq t u) := ⟨pss_cons h1.run h2.run⟩
theorem j_pg_name {i : Nat} {x : Str} (hN : X.N.Nodup) (hi : X.N[i]? = some x) (hx : Loc X.env.scope x) (hf : X.fn x = true ∨ X.env.scope.names.lookup x = some .local := by first | exact .inl rfl | exact .inr rfl | assumption) : JG X (.Name x pos) (gName i) := ⟨pg_name hN hi hx hf⟩
theorem j_ps_ret (he : JE X e te) : JS X (.Return (some e) pos) (tRet te) := ⟨ps_ret he.run⟩
theorem j_ps_expr (he : JE X e te) (hs : swapsWith e none pos.line X.env = pure false := by rfl) : JS X (.Expr e pos) (tDrop te) := ⟨ps_expr he.run hs⟩
theorem j_ps_if {c : Expr} {a b : List Stmt} {tc : TT} (hc : JT X c tc) (ha : JSs X a t) (hb : JSs X b u) : JS X (.If c a b pos) (tIfS tc t u) := ⟨ps_if hc.run ha.run hb.run⟩
theorem j_ps_set {i : Nat} {x : Str} {e : Expr} {te : TE} {pos' : Pos} (hN : X.N.Nodup) (hi : X.N[i]? = some x) (hx : Loc X.env.scope x) (he : JE X e te) (hs : swapsWith e (some (.Name x pos')) pos.line X.env = pure false := by rfl) (hf : X.fn x = true ∨ X.env.scope.names.lookup x = some .local := by first | exact .inl rfl | exact .inr rfl | assumption) : JS X (.Assign [.Name x pos'] e pos) (tAsg te (gName i)) := ⟨ps_set hN hi hx he.run hs hf⟩
theorem j_c_sfld (ha : JE X o ta) (hv : JE X value tv) (hs : swapsWith value (some (.Attribute o f pos')) pos.line X.env = pure false) : JS X (.Assign [.Attribute o f pos'] value pos) (cSFld X.K ta tv f) := ⟨c_sfld ha.run hv.run hs⟩
theorem j_c_dput (hu : X.A.units + 1 < cLine) (ho : JE X o td) (hi : JE X i ty) (hv : JE X value tv) (hs : swapsWith value (some (.Subscript o i pos')) pos.line X.env = pure false) : JS X (.Assign [.Subscript o i pos'] value pos) (cDPut td ty tv) := ⟨c_dput hu ho.run hi.run hv.run hs⟩
theorem j_ps_asg {tg e : Expr} {te : TE} {g : TG} (he : JE X e te) (hg : JG X tg g) (hs : swapsWithSole [tg] e pos.line X.env = pure false := by rfl) (hw : swappedStores [tg] e X.env = pure none := by rfl) (h1 : (assignEach [tg] X.env).map (·.2) = [assign tg X.env] := by rfl) : JS X (.Assign [tg] e pos) (tAsg te g) := ⟨ps_asg he.run hg.run hs hw h1⟩
theorem j_pg_sub {o i : Expr} {to ti : TE} {t : TSet} (ho : JE X o to) (hi : JE X i ti) (hs : JSet X t) (ha : ∀ v, assign (.Subscript o i pos) X.env v = (do
      let ov ← holding [v] (eval o X.env)
      let iv ← holding [v, ov] (eval i X.env)
      standAt pos
      holding [v, ov, iv] (setItem ov iv v)
      release [v, ov, iv] []) := by intro _; rfl) : JG X (.Subscript o i pos) (gSub to ti t) := ⟨pg_sub ho.run hi.run hs.run ha⟩
theorem j_ps_raiseF (hx : Exc X E) (hg : Gl X x) (hm : X.mg x = some (.ref C)) (hq : ExcC X.K C) (hc : X.calm = true) (ha : JA X (e :: es) t) (h : (e :: es).all notStar = true := by rfl) (hdb : (x == ("__debug__" : Str)) = false := by decide) : JS X (.Raise (some (.Call (.Name x np) (e :: es) [] cpos)) none pos) (tRaise C E t) := ⟨ps_raiseF hx hg hm hq hc ha.run h hdb⟩
theorem j_ps_try {body : List Stmt} {h₀ : ExceptHandler} {hs : List ExceptHandler} {tb : (St → XK) → TS} {t : TH} (hst : X.stack = X.env :: X.outer) (hf : X.env.frame = some X.env.locals) (hb : ∀ (E : St → XK) (W : Value → Shared → Prop) (pins : List (Addr × Obj)), Exc ((X.pinned pins).wish W) E → JSs ((X.pinned pins).wish W) body (tb E)) (hh : JH X (h₀ :: hs) t) : JS X (.Try body (h₀ :: hs) [] [] pos) (tTry tb t) := ⟨ps_try hst hf (fun E W pins h_0 => (hb E W pins h_0).run) hh.run⟩
theorem j_ph_as (hex : X.ex = []) (hg : Gl X x) (hm : X.mg x = some c) (hN : X.N.Nodup) (hi : X.N[i]? = some n) (hn : X.env.scope.names.lookup n = some .local) (hs : ∀ a, JSs (X.hnd a) (b₀ :: suite) th) (hr : JH X hrest tr) (hdb : (x == ("__debug__" : Str)) = false := by decide) : JH X (.ExceptHandler (some (.Name x np)) (some n) (b₀ :: suite) pos :: hrest) (hAs X.K c i th tr) := ⟨ph_as hex hg hm hN hi hn (fun a => (hs a).run) hr.run hdb⟩
theorem j_ph_nil  : JH X [] hNil := ⟨ph_nil ⟩
theorem j_pi_range1 {a : Expr} {ta : TA} {p pos : Pos} (hg : Gl X "range") (hm : X.mg "range" = none) (ha : JA X [a] ta) (hs : starEach [a] X.env = [(false, eval a X.env)] := by rfl) : JI X tg (.Call (.Name "range" p) [a] [] pos) (iRng1 ta) := ⟨pi_range1 hg hm ha.run hs⟩
theorem j_pi_range2 {a b : Expr} {ta : TA} {p pos : Pos} (hg : Gl X "range") (hm : X.mg "range" = none) (ha : JA X [a, b] ta) (hs : starEach [a, b] X.env = [(false, eval a X.env), (false, eval b X.env)] := by rfl) (hs2 : starEach [b] X.env = [(false, eval b X.env)] := by rfl) : JI X tg (.Call (.Name "range" p) [a, b] [] pos) (iRng2 ta) := ⟨pi_range2 hg hm ha.run hs hs2⟩
theorem j_ps_for {iter : Expr} {body : List Stmt} {wi : TI} {g : TG} {tb : TS} {pos : Pos} (hp : PassesOwn (model X.prog X.w) X.A X.env X.xe) (hc : X.calm = true) (hi : JI X tg iter wi) (hg : JG X tg g) (hb : JSs X body tb) (hs : ∀ x, foldedSetIterable iter X.env x = pure x := by intro _; rfl) : JS X (.For tg iter body [] pos) (tFor wi g tb) := ⟨ps_for hp hc hi.run hg.run hb.run hs⟩
theorem j_pe_comp {x : Str} {elt iter : Expr} {px pos : Pos} {ifs : List Expr} {wi : TI} {tt : TT} {te : TE} (S : CompIn fsc scope [x] N2) (hf : X.env.scope = fsc) (hjs : js.map (fun j => X.N[j]?) = N2.map some) (hc : X.calm = true) (hi : JI X (.Name x px) iter wi) (ht : ∀ s H C ex, JIfs (X.blk scope (x :: N2) [x] s H C ex) ifs tt) (he : ∀ s H C ex, JE (X.blk scope (x :: N2) [x] s H C ex) elt te) (hs : ∀ v, foldedSetIterable iter X.env v = pure v := by intro _; rfl) : JE X (.ListComp elt [⟨.Name x px, iter, ifs, 0⟩] scope pos) (tComp js wi tt te) := ⟨pe_comp S hf hjs hc hi.run (fun s H C ex => (ht s H C ex).run) (fun s H C ex => (he s H C ex).run) hs⟩
theorem j_pifs_nil {X : Cx} : JIfs X [] tYes := ⟨pifs_nil ⟩
theorem j_c_add  : JOp X (binaryOp .Add) cAdd := ⟨c_add ⟩
theorem j_c_sub  : JOp X (binaryOp .Sub) cSub := ⟨c_sub ⟩
theorem j_c_mul  : JOp X (binaryOp .Mult) cMul := ⟨c_mul ⟩
theorem j_c_fdiv  : JOp X (binaryOp .FloorDiv) cFdiv := ⟨c_fdiv ⟩
theorem j_c_mod  : JOp X (binaryOp .Mod) cMod := ⟨c_mod ⟩
theorem j_c_pow  : JOp X (binaryOp .Pow) cPow := ⟨c_pow ⟩
theorem j_c_lt  : JOp X (compareOp .Lt) cLt := ⟨c_lt ⟩
theorem j_c_le  : JOp X (compareOp .LtE) cLe := ⟨c_le ⟩
theorem j_c_gt  : JOp X (compareOp .Gt) cGt := ⟨c_gt ⟩
theorem j_c_eq  : JOp X (compareOp .Eq) cEq := ⟨c_eq ⟩
theorem j_c_ne  : JOp X (compareOp .NotEq) cNe := ⟨c_ne ⟩
theorem j_c_neg  : JUn X (unaryOp .USub) cNeg := ⟨c_neg ⟩
theorem j_c_rep  : JOp X (binaryOp .Mult) cRep := ⟨c_rep ⟩
theorem j_op_in_seq  : JOp X (compareOp .In) (rIn X.K false) := ⟨op_in_seq ⟩
theorem j_c_ix  : JIx X cIx := ⟨c_ix ⟩
theorem j_c_ixS  : JIx X (cIxS X.K) := ⟨c_ixS ⟩
theorem j_c_len  : JCall X (.builtin "len") cLen := ⟨c_len ⟩
theorem j_c_lenS  : JCall X (.builtin "len") (cLenS X.K) := ⟨c_lenS ⟩
theorem j_call_isi {X : Cx} : JCall X (.builtin "isinstance") (rIsi X.K) := ⟨call_isi ⟩
theorem j_c_int  : JCall X (.type "int") cInt := ⟨c_int ⟩
theorem j_c_set  : JSet X cSetL := ⟨c_set ⟩
theorem j_c_eqA (hu : X.A.units + 8 < cLine) : JOp X (compareOp .Eq) cEqA := ⟨c_eqA hu⟩
theorem j_c_neA (hu : X.A.units + 8 < cLine) : JOp X (compareOp .NotEq) cNeA := ⟨c_neA hu⟩
theorem j_call_ist {X : Cx} : JCall X (.builtin "isinstance") (rIsT X.K) := ⟨call_ist ⟩
theorem j_c_inD (hu : X.A.units + 1 < cLine) : JOp X (compareOp .In) cInD := ⟨c_inD hu⟩
theorem j_c_dpop (ho : JE X o td) (he : JE X e ty) (m : M1 X o "pop" apos e cpos) : JE X (.Call (.Attribute o "pop" apos) [e] [] cpos) (cDPop td ty) := ⟨c_dpop ho.run he.run m⟩
theorem j_c_isA  : JOp X (compareOp .Is) cIsA := ⟨c_isA ⟩
theorem j_c_sortedD (hc : X.calm = true) : JCall X (.builtin "sorted") cSortedD := ⟨c_sortedD hc⟩
end
section
variable {X : Cx} {scope : Scope} {N2 : List Str} {x : List Str} {s : Shared} {Hb : Hp} {C : Addr} {ex : List Addr}
end
end L2

/-! LO: list(d), dict(d), d.get(k), list.pop(i), == of dicts that have the same numbers. -/
namespace L2
open PySem PySem.Spec PyProof.Rows
variable {X : Cx}
end L2

/-! LP: for a, b in zip(x, y), of lists; d == {} -/
namespace L2
open PySem PySem.Spec PyProof.Rows
section
variable {X : Cx} {pins : List (Addr × Obj)} {σ : St} {H : Hp} {s : Shared} {h' : Heap}
end
/-- pairs of items, each a new tuple -/
def Itz (K : PySem.W.Frag) (a b : Addr) : It :=
  ⟨fun i H => ∃ xs x ys y, SqL K H a xs ∧ xs[i]? = some x ∧ SqL K H b ys ∧ ys[i]? = some y, fun i H x H' => ∃ p u v, H p = none ∧ x = .ref p ∧ H' = upd H p (.tup [u, v]) ∧ (∀ xs, SqL K H a xs → xs[i]? = some u) ∧ ∀ ys, SqL K H b ys → ys[i]? = some v,
   fun i H => ∃ xs ys, SqL K H a xs ∧ SqL K H b ys ∧ (xs.length ≤ i ∨ ys.length ≤ i)⟩
section
variable {X : Cx}
end
theorem LoopW.zip {K : PySem.W.Frag} {a b : Addr} {xs ys : List V} {g : TG} {tb : TS} {D : Ends} {σ : St} {H : Hp} (Pv : Nat → St → Hp → Prop) (hlen : xs.length = ys.length) (h0 : Pv 0 σ H) (hl : ∀ i σ H, i ≤ xs.length → Pv i σ H → SqL K H a xs ∧ SqL K H b ys)
    (hs : ∀ i x y σ H p, xs[i]? = some x → ys[i]? = some y → Pv i σ H → H p = none → g (.ref p) σ (upd H p (.tup [x, y])) fun σ2 H2 => tb { D with nx := Pv (i + 1), ct := Pv (i + 1), bk := D.nx } σ2 H2) (hd : ∀ σ H, Pv xs.length σ H → D.nx σ H) : LoopW (Itz K a b) g tb D σ H := by
  refine ⟨fun i m σ H => Pv i σ H ∧ i ≤ xs.length ∧ m = xs.length - i, ⟨_, h0, Nat.zero_le _, rfl⟩, fun i m σ H ⟨hP, hi, hm⟩ => ?_⟩
  obtain ⟨sa, sb⟩ := hl i σ H hi hP
  by_cases z : i < xs.length
  · have ex : xs[i]? = some xs[i] := List.getElem?_eq_getElem z
    have ey : ys[i]? = some (ys[i]'(by omega)) := List.getElem?_eq_getElem (by omega)
    refine .inr ⟨⟨xs, _, ys, _, sa, ex, sb, ey⟩, Pv (i + 1), fun σ' H' hN => ⟨xs.length - (i + 1), by omega, hN, z, rfl⟩, ?_⟩
    rintro x H' ⟨p, u, v, hp, rfl, rfl, hu, hv⟩
    exact hs i u v σ H p (hu xs sa) (hv ys sb) hP hp
  · have e : i = xs.length := by omega
    subst e
    exact .inl ⟨⟨xs, ys, sa, sb, .inl (Nat.le_refl _)⟩, hd σ H hP⟩
end L2

/-! the law's own text -/
namespace K19
open PySem L2
def top (i : Nat) : Stmt := PySem.Challenge.pw_cellkeep_k19_deeds_refused.main.body.getD i (.Pass ⟨0, 0, 0, 0⟩)
abbrev s_is_whole : Stmt := top 17
abbrev s_Space_init : Stmt := inClass (top 47) 0
abbrev s_Space_room : Stmt := inClass (top 47) 1
abbrev s_Space_extent : Stmt := inClass (top 47) 3
abbrev s_Book_init : Stmt := inClass (top 55) 0
abbrev s_Book_places : Stmt := inClass (top 55) 4
abbrev s_Lasts_init : Stmt := inClass (top 60) 0
abbrev s_Weak_init : Stmt := inClass (top 62) 0
abbrev s__law_draw : Stmt := top 70
abbrev s__law_alone : Stmt := top 71
abbrev s__law_size : Stmt := top 73
abbrev s__law_fits : Stmt := top 74
abbrev s_is_within : Stmt := top 18
abbrev s_Space_take : Stmt := inClass (top 47) 5
abbrev s_Heap_is_for_young : Stmt := inClass (top 68) 12
abbrev s__law_due : Stmt := top 76
abbrev s_is_number : Stmt := top 23
abbrev s_is_place : Stmt := top 24
abbrev s_want_slots : Stmt := top 34
abbrev s_is_head : Stmt := top 41
abbrev s_fits : Stmt := top 42
abbrev s_Memory_init : Stmt := inClass (top 45) 0
abbrev s_Memory_want_place : Stmt := inClass (top 45) 4
abbrev s_Space_has : Stmt := inClass (top 47) 4
abbrev s_Hands_init : Stmt := inClass (top 58) 0
abbrev s_Hands_want_hand : Stmt := inClass (top 58) 4
abbrev s_want_number : Stmt := top 25
abbrev s_want_place : Stmt := top 26
abbrev s_kind : Stmt := top 29
abbrev s_Memory_read : Stmt := inClass (top 45) 1
abbrev s_Hands_get : Stmt := inClass (top 58) 1
abbrev s_Heap_want_hand : Stmt := inClass (top 68) 10
abbrev s_number_word : Stmt := top 27
abbrev s_place_word : Stmt := top 28
abbrev s_worth : Stmt := top 30
abbrev s_Memory_write : Stmt := inClass (top 45) 2
abbrev s_Areas_init : Stmt := inClass (top 53) 0
abbrev s_Book_write : Stmt := inClass (top 55) 1
abbrev s_Book_has : Stmt := inClass (top 55) 3
abbrev s_Hands_put : Stmt := inClass (top 58) 2
abbrev s_Roots_init : Stmt := inClass (top 64) 0
abbrev s_Heap_held : Stmt := inClass (top 68) 2
abbrev s_Heap_want_make : Stmt := inClass (top 68) 11
abbrev s_head_word : Stmt := top 39
abbrev s_head_number : Stmt := top 40
abbrev s_Book_rub : Stmt := inClass (top 55) 2
abbrev s_is_of_young : Stmt := top 66
abbrev s_Heap_hold : Stmt := inClass (top 68) 3
abbrev s_Heap_cell_of : Stmt := inClass (top 68) 5
abbrev s_lay : Stmt := top 35
abbrev s_slots_of : Stmt := top 36
abbrev s_Heap_init : Stmt := inClass (top 68) 0
abbrev s_Heap_drop : Stmt := inClass (top 68) 4
abbrev s_Heap_note : Stmt := inClass (top 68) 9
abbrev s_aged : Stmt := top 37
abbrev s_slot_place : Stmt := top 38
abbrev s_Areas_lay_into : Stmt := inClass (top 53) 5
abbrev s_Heap_place_of : Stmt := inClass (top 68) 8
abbrev s__law_is_heap : Stmt := top 72
abbrev s_Areas_lay_young : Stmt := inClass (top 53) 3
abbrev s_Areas_lay_old : Stmt := inClass (top 53) 4
abbrev s_Heap_get : Stmt := inClass (top 68) 6
abbrev s_Heap_put : Stmt := inClass (top 68) 7
abbrev s_Heap_make : Stmt := inClass (top 68) 1
abbrev s__law_state : Stmt := top 77
abbrev s__law_call : Stmt := top 75
abbrev s_law : Stmt := top 78
theorem ln_0 : (Str.ofString "").length = 0 := by decide +kernel
theorem ln_21 : (Str.ofString "count").length = 5 := by decide +kernel
theorem ln_22 : (Str.ofString "else").length = 4 := by decide +kernel
theorem ln_23 : (Str.ofString "hand").length = 4 := by decide +kernel
theorem ln_38 : (Str.ofString "nothing").length = 7 := by decide +kernel
theorem ln_40 : (Str.ofString "odd").length = 3 := by decide +kernel
theorem ln_42 : (Str.ofString "slot").length = 4 := by decide +kernel
theorem ln_48 : (Str.ofString "word").length = 4 := by decide +kernel
def isI : V → Bool
  | .int _ => true
  | _ => false
def isB : V → Bool
  | .bl _ => true
  | _ => false
/-- a thing of a known kind -/
def Kn (H : Hp) : V → Prop
  | .non => True
  | .bl _ => True
  | .int _ => True
  | .str _ => True
  | .ref a => (∃ xs, H a = some (.lst xs)) ∨ (∃ xs, H a = some (.tup xs)) ∨ ∃ kvs, H a = some (.dK kvs)
  | _ => False
theorem Kn.same {H H' : Hp} {v : V} (s : Same H H') (h : Kn H v) : Kn H' v := by
  cases v with
  | ref a =>
    rcases h with ⟨xs, e⟩ | ⟨xs, e⟩ | ⟨xs, e⟩
    · exact .inl ⟨xs, s _ _ e⟩
    · exact .inr (.inl ⟨xs, s _ _ e⟩)
    · exact .inr (.inr ⟨xs, s _ _ e⟩)
  | _ => exact h
def wi (v : V) (a b : Int) : Bool := match v with
  | .int i => decide (a ≤ i) && decide (i ≤ b)
  | _ => false
def iv : V → Int
  | .int i => i
  | _ => 0
def kd (v : V) : Option Str := match v with
  | .int w => if w = -1 then some "nothing" else if w % 2 = 0 ∧ wi (.int (w / 2)) (-1000000000000) 1000000000000 = true then some "number" else if w % 2 = 1 ∧ wi (.int (w / 2)) 0 9999 = true then some "place" else none
  | _ => none
def wo (v : V) : V := match v with
  | .int w => if w = -1 then .non else .int (w / 2)
  | _ => .non
theorem kd_is {i : Int} : kd (.int i) = if i = -1 then some (Str.ofString "nothing") else if i % 2 = 0 ∧ -2000000000000 ≤ i ∧ i ≤ 2000000000000 then some (Str.ofString "number") else if i % 2 = 1 ∧ 1 ≤ i ∧ i ≤ 19999 then some (Str.ofString "place") else none := by
  have e1 : (i % 2 = 0 ∧ wi (.int (i / 2)) (-1000000000000) 1000000000000 = true) ↔ (i % 2 = 0 ∧ -2000000000000 ≤ i ∧ i ≤ 2000000000000) := by
    simp only [wi, Bool.and_eq_true, decide_eq_true_eq]; constructor <;> intro h <;> omega
  have e2 : (i % 2 = 1 ∧ wi (.int (i / 2)) 0 9999 = true) ↔ (i % 2 = 1 ∧ 1 ≤ i ∧ i ≤ 19999) := by
    simp only [wi, Bool.and_eq_true, decide_eq_true_eq]; constructor <;> intro h <;> omega
  simp only [kd, e1, e2]
theorem isIi {i : Int} : isI (.int i) = true := rfl
theorem knI {H : Hp} {i : Int} : Kn H (.int i) = True := rfl
theorem isI_int {v : V} (h : isI v = true) : ∃ i, v = .int i := by cases v <;> first | exact ⟨_, rfl⟩ | cases h
theorem at_ints {ws : List Int} {i : Int} (h0 : 0 ≤ i) (h1 : i ≤ ws.length - 1) : atI (ws.map V.int) i = some (.int (ws.getD i.toNat 0)) := by
  rw [atI_in h0 (by rw [List.length_map]; omega), List.getElem?_map, List.getElem?_eq_getElem (by omega), List.getD_eq_getElem?_getD, List.getElem?_eq_getElem (show i.toNat < ws.length by omega)]
  rfl
theorem ix_ints {ws : List Int} {i : Int} (h0 : 0 ≤ i) (h1 : i ≤ ws.length - 1) : ixN (ws.map V.int).length i = some i.toNat := ixN_in h0 (by rw [List.length_map]; omega)
theorem wi_int {v : V} {a b : Int} (h : wi v a b = true) : ∃ i, v = .int i ∧ a ≤ i ∧ i ≤ b := by
  cases v with
  | int i => simp [wi] at h; exact ⟨i, rfl, h.1, h.2⟩
  | _ => cases h
theorem kd_int {v : V} {x : Str} (h : kd v = some x) : ∃ i, v = .int i := by
  cases v with
  | int i => exact ⟨i, rfl⟩
  | _ => cases h
theorem set_ints {ws : List Int} {i : Nat} {x : Int} : (ws.map V.int).set i (.int x) = (ws.set i x).map V.int := by rw [List.map_set]
theorem s_sw : ¬ (("size" : Str) = "words") := by decide +kernel
/-- the fields of a memory -/
def mfl (n : Int) (q : Addr) : List (Str × V) := [("size", V.int n), ("words", V.ref q)]
theorem mfl_size {n : Int} {q : Addr} : (mfl n q).lookup ("size" : Str) = some (.int n) := by
  simp [mfl, List.lookup]
theorem mfl_words {n : Int} {q : Addr} : (mfl n q).lookup ("words" : Str) = some (.ref q) := by
  simp [mfl, List.lookup, show (("words" : Str) == "size") = false by decide +kernel]
theorem mfl_no {n : Int} {q : Addr} {m : Str} (h1 : (m == ("size" : Str)) = false) (h2 : (m == ("words" : Str)) = false) : (mfl n q).lookup m = none := by
  simp [mfl, List.lookup, h1, h2]
theorem mfl_wp {n : Int} {q : Addr} : (mfl n q).lookup ("want_place" : Str) = none := mfl_no (by decide +kernel) (by decide +kernel)
theorem mfl_rd {n : Int} {q : Addr} : (mfl n q).lookup ("read" : Str) = none := mfl_no (by decide +kernel) (by decide +kernel)
theorem mfl_wr {n : Int} {q : Addr} : (mfl n q).lookup ("write" : Str) = none := mfl_no (by decide +kernel) (by decide +kernel)
theorem mfl_mk {n : Int} {q : Addr} : putF "words" (.ref q) (putF "size" (.int n) []) = mfl n q := by
  simp [putF, s_sw, mfl]
/-- a memory stands at p, its words, the numbers ws, at q -/
structure MemAt (c : Addr) (H : Hp) (p q : Addr) (ws : List Int) : Prop where
  ob : ∃ dx, H p = some (.ins c dx (mfl ws.length q))
  ls : H q = some (.lst (ws.map V.int))
section
variable {c p q : Addr} {H H' : Hp} {ws : List Int}
theorem MemAt.ne (m : MemAt c H p q ws) : p ≠ q := by
  obtain ⟨⟨dx, e⟩, l⟩ := m
  intro z; subst z; rw [e] at l; cases l
theorem MemAt.keep (m : MemAt c H p q ws) (h : ∀ b o, H b = some o → b = p ∨ b = q → H' b = some o) : MemAt c H' p q ws :=
  ⟨let ⟨dx, e⟩ := m.ob; ⟨dx, h _ _ e (.inl rfl)⟩, h _ _ m.ls (.inr rfl)⟩
theorem MemAt.same (m : MemAt c H p q ws) (s : Same H H') : MemAt c H' p q ws := m.keep fun b o e _ => s b o e
theorem MemAt.put (m : MemAt c H p q ws) (i : Nat) (x : Int) : MemAt c (upd H q (.lst ((ws.set i x).map V.int))) p q (ws.set i x) := by
  refine ⟨?_, upd_same⟩
  obtain ⟨dx, e⟩ := m.ob
  refine ⟨dx, ?_⟩
  rw [upd_ne m.ne, List.length_set]; exact e
end
/-- all that stands in a memory is a word -/
def WordsOk (ws : List Int) : Prop := ∀ w ∈ ws, (kd (.int w)).isSome = true
/-- the number of a head -/
def hd (w : Int) : Option Int := if w % 2 = 0 ∧ 0 ≤ w ∧ w ≤ 68 ∧ w / 2 % 4 ≤ 2 then some (w / 2) else none
/-- the head's number of the cell at i -/
def cellN (ws : List Int) (i : Nat) : Option Int := match hd (ws.getD i 0) with
  | some n => if (i : Int) + n / 4 ≤ ws.length - 1 then some n else none
  | none => none
theorem hd_is {w n : Int} (h : hd w = some n) : w = 2 * n ∧ 0 ≤ n ∧ n ≤ 34 ∧ n % 4 ≤ 2 := by
  unfold hd at h
  split at h
  · cases h; omega
  · cases h
theorem kd_word {ws : List Int} (h : WordsOk ws) {i : Nat} (hi : i < ws.length) : ∃ x, kd (.int (ws.getD i 0)) = some x := by
  have : ws.getD i 0 ∈ ws := by rw [List.getD_eq_getElem?_getD, List.getElem?_eq_getElem hi]; exact List.getElem_mem hi
  exact Option.isSome_iff_exists.mp (h _ this)
theorem cellN_is {ws : List Int} {i : Nat} {n : Int} (h : cellN ws i = some n) : ws.getD i 0 = 2 * n ∧ 0 ≤ n ∧ n ≤ 34 ∧ n % 4 ≤ 2 ∧ (i : Int) + n / 4 ≤ ws.length - 1 := by
  unfold cellN at h
  split at h
  · rename_i m e
    split at h
    · cases h
      obtain ⟨a, b, c, d⟩ := hd_is e
      exact ⟨a, b, c, d, by assumption⟩
    · cases h
  · cases h
theorem kd_cases {i : Int} {x : Str} (h : kd (.int i) = some x) : (x = Str.ofString "nothing" ∧ i = -1) ∨ (x = Str.ofString "number" ∧ i % 2 = 0 ∧ -2000000000000 ≤ i ∧ i ≤ 2000000000000) ∨ (x = Str.ofString "place" ∧ i % 2 = 1 ∧ 1 ≤ i ∧ i ≤ 19999) := by
  rw [kd_is] at h
  split at h
  · cases h; exact .inl ⟨rfl, by assumption⟩
  · split at h
    · cases h; exact .inr (.inl ⟨rfl, by assumption⟩)
    · split at h
      · cases h; exact .inr (.inr ⟨rfl, by assumption⟩)
      · cases h
theorem n_nn : ¬ (Str.ofString "nothing" = Str.ofString "number") := by decide +kernel
theorem n_pn : ¬ (Str.ofString "place" = Str.ofString "number") := by decide +kernel
theorem n_np : ¬ (Str.ofString "number" = Str.ofString "place") := by decide +kernel
theorem n_op : ¬ (Str.ofString "nothing" = Str.ofString "place") := by decide +kernel
theorem wo_int {w : Int} (h : w ≠ -1) : wo (.int w) = .int (w / 2) := by simp [wo, h]
theorem cellN_eq {ws : List Int} {i : Nat} : cellN ws i = if ws.getD i 0 % 2 = 0 ∧ 0 ≤ ws.getD i 0 ∧ ws.getD i 0 ≤ 68 ∧ ws.getD i 0 / 2 % 4 ≤ 2 ∧ (i : Int) + ws.getD i 0 / 2 / 4 ≤ ws.length - 1 then some (ws.getD i 0 / 2) else none := by
  unfold cellN hd
  generalize ws.getD i 0 = W
  by_cases c : W % 2 = 0 ∧ 0 ≤ W ∧ W ≤ 68 ∧ W / 2 % 4 ≤ 2
  · rw [if_pos c]
    by_cases d : (i : Int) + W / 2 / 4 ≤ ws.length - 1
    · rw [if_pos ⟨c.1, c.2.1, c.2.2.1, c.2.2.2, d⟩]; exact if_pos d
    · rw [if_neg fun z => d z.2.2.2.2]; exact if_neg d
  · rw [if_neg c, if_neg fun z => c ⟨z.1, z.2.1, z.2.2.1, z.2.2.2.1⟩]
def isPl (w : Int) : Bool := decide (w % 2 = 1 ∧ 0 < w)
/-- nothing in k places from i on -/
def blank (ws : List Int) (i : Nat) : Nat → List Int
  | 0 => ws
  | k + 1 => (blank ws i k).set (i + k) (-1)
theorem blank_len {ws : List Int} {i : Nat} : ∀ k, (blank ws i k).length = ws.length
  | 0 => rfl
  | k + 1 => by rw [blank, List.length_set, blank_len k]
theorem blank_at {ws : List Int} {i j : Nat} : ∀ k, (blank ws i k)[j]? = if i ≤ j ∧ j < i + k then ws[j]?.map (fun _ => -1) else ws[j]?
  | 0 => by rw [if_neg (by omega)]; rfl
  | k + 1 => by
    rw [blank, List.getElem?_set, blank_len]
    by_cases z : i + k = j
    · subst z
      have c : i ≤ i + k ∧ i + k < i + (k + 1) := by omega
      rw [if_pos rfl, if_pos c]
      by_cases y : i + k < ws.length
      · rw [if_pos y, List.getElem?_eq_getElem y]; rfl
      · rw [if_neg y, List.getElem?_eq_none (by omega)]; rfl
    · rw [if_neg z, blank_at k]
      by_cases y : i ≤ j ∧ j < i + k
      · rw [if_pos y, if_pos (by omega)]
      · rw [if_neg y, if_neg (by omega)]
/-- a cell of s slots laid at i -/
def laid (ws : List Int) (i s : Nat) : List Int := (blank ws i (s + 1)).set i (8 * s)
theorem laid_len {ws : List Int} {i s : Nat} : (laid ws i s).length = ws.length := by rw [laid, List.length_set, blank_len]
theorem laid_is {ws : List Int} {i s : Nat} : blank (ws.set i (8 * s)) (i + 1) s = laid ws i s := by
  refine List.ext_getElem? fun j => ?_
  rw [blank_at, laid, List.getElem?_set, List.getElem?_set, blank_at, blank_len]
  by_cases z : i = j
  · subst z
    rw [if_neg (by omega), if_pos rfl, if_pos rfl]
  · rw [if_neg z, if_neg z]
    by_cases y : i + 1 ≤ j ∧ j < i + 1 + s
    · rw [if_pos y, if_pos (by omega)]
    · rw [if_neg y, if_neg (by omega)]
theorem WordsOk.set {ws : List Int} {i : Nat} {x : Int} (h : WordsOk ws) (hx : (kd (.int x)).isSome = true) : WordsOk (ws.set i x) := fun w hw => by
  rcases List.mem_or_eq_of_mem_set hw with z | rfl
  · exact h w z
  · exact hx
theorem WordsOk.blank {ws : List Int} {i : Nat} (h : WordsOk ws) : ∀ k, WordsOk (blank ws i k)
  | 0 => h
  | k + 1 => (WordsOk.blank h k).set (by rw [kd_is, if_pos rfl]; rfl)
theorem laid_ne {ws : List Int} {i s j : Nat} (h : j < i ∨ i + s < j) : (laid ws i s).getD j 0 = ws.getD j 0 := by
  rw [laid, List.getD_eq_getElem?_getD, List.getElem?_set, if_neg (by omega), blank_at, if_neg (by omega), ← List.getD_eq_getElem?_getD]
theorem laid_eq {ws : List Int} {i s : Nat} (h : i < ws.length) : (laid ws i s).getD i 0 = 8 * s := by
  rw [laid, List.getD_eq_getElem?_getD, List.getElem?_set, if_pos rfl, if_pos (by rw [blank_len]; exact h)]; rfl
theorem cellN_laid {ws : List Int} {i s : Nat} (hs : s ≤ 8) (h : i + s < ws.length) : cellN (laid ws i s) i = some (4 * s) := by
  rw [cellN_eq, laid_eq (by omega), laid_len, if_pos (by omega)]
  congr 1; omega
theorem WordsOk.laid {ws : List Int} {i s : Nat} (h : WordsOk ws) (hs : s ≤ 8) : WordsOk (laid ws i s) :=
  (h.blank _).set (by rw [kd_is, if_neg (by omega), if_pos (by omega)]; rfl)
theorem n_bt : ¬ (("begin" : Str) = "top") := by decide +kernel
theorem n_et : ¬ (("end" : Str) = "top") := by decide +kernel
/-- the fields of a space -/
def sfl (b e t : Int) : List (Str × V) := [("begin", V.int b), ("end", V.int e), ("top", V.int t)]
section
variable {b e t x : Int} {m : Str}
theorem sfl_b : (sfl b e t).lookup ("begin" : Str) = some (.int b) := by simp [sfl, List.lookup]
theorem sfl_e : (sfl b e t).lookup ("end" : Str) = some (.int e) := by
  simp [sfl, List.lookup, show (("end" : Str) == "begin") = false by decide +kernel]
theorem sfl_t : (sfl b e t).lookup ("top" : Str) = some (.int t) := by
  simp [sfl, List.lookup, show (("top" : Str) == "begin") = false by decide +kernel, show (("top" : Str) == "end") = false by decide +kernel]
theorem sfl_no (h1 : (m == ("begin" : Str)) = false) (h2 : (m == ("end" : Str)) = false) (h3 : (m == ("top" : Str)) = false) : (sfl b e t).lookup m = none := by
  simp [sfl, List.lookup, h1, h2, h3]
theorem sfl_room : (sfl b e t).lookup ("room" : Str) = none := sfl_no (by decide +kernel) (by decide +kernel) (by decide +kernel)
theorem sfl_has : (sfl b e t).lookup ("has" : Str) = none := sfl_no (by decide +kernel) (by decide +kernel) (by decide +kernel)
theorem sfl_take : (sfl b e t).lookup ("take" : Str) = none := sfl_no (by decide +kernel) (by decide +kernel) (by decide +kernel)
theorem sfl_put : putF "top" (.int x) (sfl b e t) = sfl b e x := by simp [putF, sfl, n_bt, n_et]
theorem sfl_len : (sfl b e t).length = 3 := rfl
end
/-- cells of these sizes, one behind the other, from a place to a place -/
def walks (ws : List Int) : Int → List Int → Int → Prop
  | a, [], t => a = t
  | a, s :: r, t => (0 ≤ a ∧ a < ws.length ∧ ∃ n, cellN ws a.toNat = some n ∧ n / 4 + 1 = s) ∧ walks ws (a + s) r t
theorem n_mo : ¬ (("memory" : Str) = "old") := by decide +kernel
theorem n_my : ¬ (("memory" : Str) = "young") := by decide +kernel
theorem n_ms : ¬ (("memory" : Str) = "spare") := by decide +kernel
theorem n_oy : ¬ (("old" : Str) = "young") := by decide +kernel
theorem n_os : ¬ (("old" : Str) = "spare") := by decide +kernel
theorem n_ys : ¬ (("young" : Str) = "spare") := by decide +kernel
/-- the fields of areas -/
def afl (m o y s : Addr) : List (Str × V) := [("memory", V.ref m), ("old", V.ref o), ("young", V.ref y), ("spare", V.ref s)]
section
variable {m o y s x : Addr} {f : Str}
theorem afl_m : (afl m o y s).lookup ("memory" : Str) = some (.ref m) := by simp [afl, List.lookup]
theorem afl_o : (afl m o y s).lookup ("old" : Str) = some (.ref o) := by
  simp [afl, List.lookup, show (("old" : Str) == "memory") = false by decide +kernel]
theorem afl_y : (afl m o y s).lookup ("young" : Str) = some (.ref y) := by
  simp [afl, List.lookup, show (("young" : Str) == "memory") = false by decide +kernel, show (("young" : Str) == "old") = false by decide +kernel]
theorem afl_no (h1 : (f == ("memory" : Str)) = false) (h2 : (f == ("old" : Str)) = false) (h3 : (f == ("young" : Str)) = false) (h4 : (f == ("spare" : Str)) = false) : (afl m o y s).lookup f = none := by
  simp [afl, List.lookup, h1, h2, h3, h4]
theorem afl_ly : (afl m o y s).lookup ("lay_young" : Str) = none := afl_no (by decide +kernel) (by decide +kernel) (by decide +kernel) (by decide +kernel)
theorem afl_lo : (afl m o y s).lookup ("lay_old" : Str) = none := afl_no (by decide +kernel) (by decide +kernel) (by decide +kernel) (by decide +kernel)
theorem afl_li : (afl m o y s).lookup ("lay_into" : Str) = none := afl_no (by decide +kernel) (by decide +kernel) (by decide +kernel) (by decide +kernel)
theorem afl_mk : putF "spare" (.ref s) (putF "young" (.ref y) (putF "old" (.ref o) (putF "memory" (.ref m) []))) = afl m o y s := by simp [putF, afl, n_mo, n_my, n_ms, n_oy, n_os, n_ys]
end
/-- begin, end and top of a space -/
structure S3 where
  b : Int
  e : Int
  t : Int
def SpIs (c : Addr) (H : Hp) (p : Addr) (x : S3) : Prop := ∃ dx, H p = some (.ins c dx (sfl x.b x.e x.t))
/-- areas stand at p; cA, cM, cS: the classes -/
structure ArAt (cA cM cS : Addr) (H : Hp) (p m q o y s : Addr) (ws : List Int) (so sy ss : S3) : Prop where
  ob : ∃ dx, H p = some (.ins cA dx (afl m o y s))
  mem : MemAt cM H m q ws
  old : SpIs cS H o so
  yng : SpIs cS H y sy
  spr : SpIs cS H s ss
  oy : o ≠ y
  os : o ≠ s
  ys : y ≠ s
  pd : p ≠ m ∧ p ≠ o ∧ p ≠ y ∧ p ≠ s
  md : m ≠ o ∧ m ≠ y ∧ m ≠ s
section
variable {cA cM cS : Addr} {H H' : Hp} {p m q o y s : Addr} {ws ws' : List Int} {so sy ss : S3}
theorem SpIs.ne {c x q' : Addr} {xs : List V} {z : S3} (h : SpIs c H x z) (hq : H q' = some (.lst xs)) : x ≠ q' := by
  obtain ⟨dx, e⟩ := h
  intro w; subst w; rw [e] at hq; cases hq
theorem SpIs.same {c x : Addr} {z : S3} (h : SpIs c H x z) (k : Same H H') : SpIs c H' x z := let ⟨dx, e⟩ := h; ⟨dx, k _ _ e⟩
theorem ArAt.same (a : ArAt cA cM cS H p m q o y s ws so sy ss) (h : Same H H') : ArAt cA cM cS H' p m q o y s ws so sy ss :=
  { a with ob := let ⟨dx, e⟩ := a.ob; ⟨dx, h _ _ e⟩, mem := a.mem.same h, old := a.old.same h, yng := a.yng.same h, spr := a.spr.same h }
/-- the memory's words are others, and one space's top is -/
theorem ArAt.old' (a : ArAt cA cM cS H p m q o y s ws so sy ss) {z : S3} (mem : MemAt cM H' m q ws') (e : SpIs cS H' o z) (k : ∀ b x, H b = some x → b ≠ q → b ≠ o → H' b = some x) : ArAt cA cM cS H' p m q o y s ws' z sy ss :=
  { a with
    ob := let ⟨dx, e⟩ := a.ob; ⟨dx, k _ _ e (fun z => by rw [z, a.mem.ls] at e; cases e) a.pd.2.1⟩
    mem := mem
    old := e
    yng := let ⟨dx, e⟩ := a.yng; ⟨dx, k _ _ e (SpIs.ne ⟨dx, e⟩ a.mem.ls) (Ne.symm a.oy)⟩
    spr := let ⟨dx, e⟩ := a.spr; ⟨dx, k _ _ e (SpIs.ne ⟨dx, e⟩ a.mem.ls) (Ne.symm a.os)⟩ }
theorem ArAt.yng' (a : ArAt cA cM cS H p m q o y s ws so sy ss) {z : S3} (mem : MemAt cM H' m q ws') (e : SpIs cS H' y z) (k : ∀ b x, H b = some x → b ≠ q → b ≠ y → H' b = some x) : ArAt cA cM cS H' p m q o y s ws' so z ss :=
  { a with
    ob := let ⟨dx, e⟩ := a.ob; ⟨dx, k _ _ e (fun z => by rw [z, a.mem.ls] at e; cases e) a.pd.2.2.1⟩
    mem := mem
    old := let ⟨dx, e⟩ := a.old; ⟨dx, k _ _ e (SpIs.ne ⟨dx, e⟩ a.mem.ls) a.oy⟩
    yng := e
    spr := let ⟨dx, e⟩ := a.spr; ⟨dx, k _ _ e (SpIs.ne ⟨dx, e⟩ a.mem.ls) (Ne.symm a.ys)⟩ }
end
/-- a cell of s slots, aged g, laid at i -/
def laidA (ws : List Int) (i s : Nat) (g : Int) : List Int := (laid ws i s).set i (2 * (4 * s + g))
theorem laidA_len {ws : List Int} {i s : Nat} {g : Int} : (laidA ws i s g).length = ws.length := by rw [laidA, List.length_set, laid_len]
theorem WordsOk.laidA {ws : List Int} {i s : Nat} {g : Int} (h : WordsOk ws) (hs : s ≤ 8) (g0 : 0 ≤ g) (g2 : g ≤ 2) : WordsOk (laidA ws i s g) :=
  (h.laid hs).set (by rw [kd_is, if_neg (by omega), if_pos (by omega)]; rfl)
theorem laidA_ne {ws : List Int} {i s j : Nat} {g : Int} (h : j < i ∨ i + s < j) : (laidA ws i s g).getD j 0 = ws.getD j 0 := by
  rw [laidA, List.getD_eq_getElem?_getD, List.getElem?_set, if_neg (by omega), ← List.getD_eq_getElem?_getD, laid_ne h]
theorem laidA_eq {ws : List Int} {i s : Nat} {g : Int} (h : i < ws.length) : (laidA ws i s g).getD i 0 = 2 * (4 * s + g) := by
  rw [laidA, List.getD_eq_getElem?_getD, List.getElem?_set, if_pos rfl, if_pos (by rw [laid_len]; exact h)]; rfl
theorem laidA_slot {ws : List Int} {i s j : Nat} {g : Int} (h : i < j) (h1 : j ≤ i + s) (h2 : j < ws.length) : (laidA ws i s g).getD j 0 = -1 := by
  rw [laidA, List.getD_eq_getElem?_getD, List.getElem?_set, if_neg (by omega), laid, List.getElem?_set, if_neg (by omega), blank_at, if_pos (by omega), List.getElem?_eq_getElem h2]; rfl
/-- the fields of a book -/
def bfl (d : Addr) : List (Str × V) := [("written", V.ref d)]
section
variable {d d' : Addr} {f : Str}
theorem bfl_w : (bfl d).lookup ("written" : Str) = some (.ref d) := by simp [bfl, List.lookup]
theorem bfl_no (h : (f == ("written" : Str)) = false) : (bfl d).lookup f = none := by simp [bfl, List.lookup, h]
theorem bfl_write : (bfl d).lookup ("write" : Str) = none := bfl_no (by decide +kernel)
theorem bfl_rub : (bfl d).lookup ("rub" : Str) = none := bfl_no (by decide +kernel)
theorem bfl_has : (bfl d).lookup ("has" : Str) = none := bfl_no (by decide +kernel)
theorem bfl_places : (bfl d).lookup ("places" : Str) = none := bfl_no (by decide +kernel)
theorem bfl_mk : putF "written" (.ref d) [] = bfl d := rfl
end
/-- a book's dict -/
def bkv (ks : List Int) : List (Key × V) := ks.map fun k => (Sum.inl k, V.bl true)
theorem bkv_len {ks : List Int} : (bkv ks).length = ks.length := List.length_map ..
theorem bkv_val {k : Int} : ∀ {ks : List Int}, valV (bkv ks) (Sum.inl k) = if k ∈ ks then some (.bl true) else none
  | [] => rfl
  | x :: r => by
    by_cases e : x = k
    · subst e
      rw [if_pos List.mem_cons_self]
      exact valV_pos rfl
    · have e' : ¬ ((Sum.inl x : Key) = Sum.inl k) := fun z => e (Sum.inl.inj z)
      show valV ((Sum.inl x, V.bl true) :: bkv r) (Sum.inl k) = _
      rw [valV_neg e', bkv_val]
      by_cases m : k ∈ r
      · rw [if_pos m, if_pos (List.mem_cons_of_mem _ m)]
      · rw [if_neg m, if_neg (by simp; exact ⟨fun z => e z.symm, m⟩)]
theorem bkv_put {k : Int} {ks : List Int} : putK (bkv ks) (Sum.inl k) (.bl true) = bkv (if k ∈ ks then ks else ks ++ [k]) := by
  have ha : ((bkv ks).any fun kv => decide (kv.1 = (Sum.inl k : Key))) = decide (k ∈ ks) := by
    induction ks with
    | nil => rfl
    | cons x r ih =>
      show (decide ((Sum.inl x : Key) = Sum.inl k) || (bkv r).any _) = _
      rw [ih]
      by_cases e : x = k
      · subst e; simp
      · have e' : ¬ ((Sum.inl x : Key) = Sum.inl k) := fun z => e (Sum.inl.inj z)
        simp [e']
        intro z; exact absurd z.symm e
  unfold putK
  rw [ha]
  by_cases m : k ∈ ks
  · rw [if_pos (by simpa using m), if_pos m]
    unfold bkv
    rw [List.map_map]
    refine List.map_congr_left fun x _ => ?_
    show (if (Sum.inl x : Key) = Sum.inl k then (Sum.inl x, V.bl true) else (Sum.inl x, V.bl true)) = _
    split <;> rfl
  · rw [if_neg (by simpa using m), if_neg m]
    unfold bkv
    rw [List.map_append]; rfl
theorem bkv_drop {k : Int} {ks : List Int} : dropK (bkv ks) (Sum.inl k) = bkv (ks.filter fun x => decide (x ≠ k)) := by
  unfold dropK bkv
  rw [List.filter_map]
  congr 1
  refine List.filter_congr fun x _ => ?_
  show decide ((Sum.inl x : Key) ≠ Sum.inl k) = decide (x ≠ k)
  by_cases e : x = k
  · subst e; simp
  · simp [e, show ¬ ((Sum.inl x : Key) = Sum.inl k) from fun z => e (Sum.inl.inj z)]
/-- a book stands at p, its dict at d -/
structure BkAt (c : Addr) (H : Hp) (p d : Addr) (ks : List Int) : Prop where
  ob : ∃ dx, H p = some (.ins c dx (bfl d))
  dc : H d = some (.dK (bkv ks))
def inK (ks : List Int) (k : Int) : List Int := if k ∈ ks then ks else ks ++ [k]
def rubK (ks : List Int) (k : Int) : List Int := ks.filter fun x => decide (x ≠ k)
section
variable {c p d : Addr} {H H' : Hp} {ks ks' : List Int}
theorem BkAt.ne (m : BkAt c H p d ks) : p ≠ d := by
  obtain ⟨⟨dx, e⟩, l⟩ := m
  intro z; subst z; rw [e] at l; cases l
theorem BkAt.keep (m : BkAt c H p d ks) (h : ∀ b o, H b = some o → b = p ∨ b = d → H' b = some o) : BkAt c H' p d ks :=
  ⟨let ⟨dx, e⟩ := m.ob; ⟨dx, h _ _ e (.inl rfl)⟩, h _ _ m.dc (.inr rfl)⟩
theorem BkAt.same (m : BkAt c H p d ks) (s : Same H H') : BkAt c H' p d ks := m.keep fun b o e _ => s b o e
theorem BkAt.put (m : BkAt c H p d ks) : BkAt c (upd H d (.dK (bkv ks'))) p d ks' := by
  refine ⟨?_, upd_same⟩
  obtain ⟨dx, e⟩ := m.ob
  exact ⟨dx, by rw [upd_ne m.ne]; exact e⟩
end
/-- the fields of hands -/
def hfl (q : Addr) : List (Str × V) := [("words", V.ref q)]
section
variable {q : Addr} {f : Str}
theorem hfl_w : (hfl q).lookup ("words" : Str) = some (.ref q) := by simp [hfl, List.lookup]
theorem hfl_no (h : (f == ("words" : Str)) = false) : (hfl q).lookup f = none := by simp [hfl, List.lookup, h]
theorem hfl_get : (hfl q).lookup ("get" : Str) = none := hfl_no (by decide +kernel)
theorem hfl_put : (hfl q).lookup ("put" : Str) = none := hfl_no (by decide +kernel)
theorem hfl_want : (hfl q).lookup ("want_hand" : Str) = none := hfl_no (by decide +kernel)
end
/-- hands stand at p, their words, the numbers ws, at q -/
structure HdAt (c : Addr) (H : Hp) (p q : Addr) (ws : List Int) : Prop where
  ob : ∃ dx, H p = some (.ins c dx (hfl q))
  ls : H q = some (.lst (ws.map V.int))
section
variable {c p q : Addr} {H H' : Hp} {ws : List Int}
theorem HdAt.ne (m : HdAt c H p q ws) : p ≠ q := by
  obtain ⟨⟨dx, e⟩, l⟩ := m
  intro z; subst z; rw [e] at l; cases l
theorem HdAt.keep (m : HdAt c H p q ws) (h : ∀ b o, H b = some o → b = p ∨ b = q → H' b = some o) : HdAt c H' p q ws :=
  ⟨let ⟨dx, e⟩ := m.ob; ⟨dx, h _ _ e (.inl rfl)⟩, h _ _ m.ls (.inr rfl)⟩
theorem HdAt.same (m : HdAt c H p q ws) (s : Same H H') : HdAt c H' p q ws := m.keep fun b o e _ => s b o e
theorem HdAt.put (m : HdAt c H p q ws) (i : Nat) (x : Int) : HdAt c (upd H q (.lst ((ws.set i x).map V.int))) p q (ws.set i x) := by
  refine ⟨?_, upd_same⟩
  obtain ⟨dx, e⟩ := m.ob
  exact ⟨dx, by rw [upd_ne m.ne]; exact e⟩
end
theorem n_hb : ¬ (("hands" : Str) = "book") := by decide +kernel
theorem n_hw : ¬ (("hands" : Str) = "weaks") := by decide +kernel
theorem n_hl : ¬ (("hands" : Str) = "lasts") := by decide +kernel
theorem n_bw : ¬ (("book" : Str) = "weaks") := by decide +kernel
theorem n_bl : ¬ (("book" : Str) = "lasts") := by decide +kernel
theorem n_wl : ¬ (("weaks" : Str) = "lasts") := by decide +kernel
/-- the fields of roots -/
def rofl (h b w l : Addr) : List (Str × V) := [("hands", V.ref h), ("book", V.ref b), ("weaks", V.ref w), ("lasts", V.ref l)]
section
variable {h b w l : Addr} {f : Str}
theorem rofl_h : (rofl h b w l).lookup ("hands" : Str) = some (.ref h) := by simp [rofl, List.lookup]
theorem rofl_b : (rofl h b w l).lookup ("book" : Str) = some (.ref b) := by simp [rofl, List.lookup, show (("book" : Str) == "hands") = false by decide +kernel]
theorem rofl_mk : putF "lasts" (.ref l) (putF "weaks" (.ref w) (putF "book" (.ref b) (putF "hands" (.ref h) []))) = rofl h b w l := by simp [putF, rofl, n_hb, n_hw, n_hl, n_bw, n_bl, n_wl]
end
/-- roots stand at r, their hands at h, these hands' words at q, the book at b, its dict at d -/
structure RtAt (cR cH cB : Addr) (H : Hp) (r h q b d : Addr) (ws ks : List Int) : Prop where
  ob : ∃ dx w l, H r = some (.ins cR dx (rofl h b w l))
  hd : HdAt cH H h q ws
  bk : BkAt cB H b d ks
section
variable {cR cH cB r h q b d : Addr} {H H' : Hp} {ws ks : List Int}
theorem RtAt.same (m : RtAt cR cH cB H r h q b d ws ks) (s : Same H H') : RtAt cR cH cB H' r h q b d ws ks :=
  ⟨let ⟨dx, w, l, e⟩ := m.ob; ⟨dx, w, l, s _ _ e⟩, m.hd.same s, m.bk.same s⟩
end
theorem seq_mid {s t : TS} {D : Ends} {σ : St} {H : Hp} (P : St → Hp → Prop) (h1 : ∀ R : St → Hp → Prop, (∀ σ' H', P σ' H' → R σ' H') → s { D with nx := R } σ H) (h2 : ∀ σ' H', P σ' H' → t D σ' H') : tSeq s t D σ H := h1 (t D) h2
theorem n_ra : ¬ (("roots" : Str) = "areas") := by decide +kernel
/-- the fields of a heap -/
def gfl (r a : Addr) : List (Str × V) := [("roots", V.ref r), ("areas", V.ref a)]
section
variable {r a : Addr} {f : Str}
theorem gfl_r : (gfl r a).lookup ("roots" : Str) = some (.ref r) := by simp [gfl, List.lookup]
theorem gfl_a : (gfl r a).lookup ("areas" : Str) = some (.ref a) := by simp [gfl, List.lookup, show (("areas" : Str) == "roots") = false by decide +kernel]
theorem gfl_no (h1 : (f == ("roots" : Str)) = false) (h2 : (f == ("areas" : Str)) = false) : (gfl r a).lookup f = none := by simp [gfl, List.lookup, h1, h2]
theorem gfl_mk : putF "areas" (.ref a) (putF "roots" (.ref r) []) = gfl r a := by simp [putF, gfl, n_ra]
theorem gfl_make : (gfl r a).lookup ("make" : Str) = none := gfl_no (by decide +kernel) (by decide +kernel)
theorem gfl_held : (gfl r a).lookup ("held" : Str) = none := gfl_no (by decide +kernel) (by decide +kernel)
theorem gfl_hold : (gfl r a).lookup ("hold" : Str) = none := gfl_no (by decide +kernel) (by decide +kernel)
theorem gfl_drop : (gfl r a).lookup ("drop" : Str) = none := gfl_no (by decide +kernel) (by decide +kernel)
theorem gfl_cell_of : (gfl r a).lookup ("cell_of" : Str) = none := gfl_no (by decide +kernel) (by decide +kernel)
theorem gfl_get : (gfl r a).lookup ("get" : Str) = none := gfl_no (by decide +kernel) (by decide +kernel)
theorem gfl_put : (gfl r a).lookup ("put" : Str) = none := gfl_no (by decide +kernel) (by decide +kernel)
theorem gfl_place_of : (gfl r a).lookup ("place_of" : Str) = none := gfl_no (by decide +kernel) (by decide +kernel)
theorem gfl_note : (gfl r a).lookup ("note" : Str) = none := gfl_no (by decide +kernel) (by decide +kernel)
theorem gfl_want_hand : (gfl r a).lookup ("want_hand" : Str) = none := gfl_no (by decide +kernel) (by decide +kernel)
theorem gfl_want_make : (gfl r a).lookup ("want_make" : Str) = none := gfl_no (by decide +kernel) (by decide +kernel)
theorem gfl_is_for_young : (gfl r a).lookup ("is_for_young" : Str) = none := gfl_no (by decide +kernel) (by decide +kernel)
end
theorem sfl_ext {b e t : Int} : (sfl b e t).lookup ("extent" : Str) = none := sfl_no (by decide +kernel) (by decide +kernel) (by decide +kernel)
/-- where a heap's parts stand -/
structure HA where
  p : Addr
  r : Addr
  a : Addr
  h : Addr
  qh : Addr
  b : Addr
  d : Addr
  m : Addr
  q : Addr
  o : Addr
  y : Addr
  s : Addr
/-- what stands there -/
structure HS where
  hw : List Int
  ks : List Int
  ws : List Int
  so : S3
  sy : S3
  ss : S3
structure HeAt (cP cR cH cB cA cM cS : Addr) (H : Hp) (X : HA) (S : HS) : Prop where
  ob : ∃ dx, H X.p = some (.ins cP dx (gfl X.r X.a))
  rt : RtAt cR cH cB H X.r X.h X.qh X.b X.d S.hw S.ks
  ar : ArAt cA cM cS H X.a X.m X.q X.o X.y X.s S.ws S.so S.sy S.ss
  qq : X.qh ≠ X.q
  po : X.p ≠ X.o ∧ X.p ≠ X.y
  ro : X.r ≠ X.o ∧ X.r ≠ X.y
  ho : X.h ≠ X.o ∧ X.h ≠ X.y
  bo : X.b ≠ X.o ∧ X.b ≠ X.y
section
variable {cP cR cH cB cA cM cS : Addr} {H H' : Hp} {X : HA} {S : HS}
theorem HeAt.same (g : HeAt cP cR cH cB cA cM cS H X S) (s : Same H H') : HeAt cP cR cH cB cA cM cS H' X S :=
  { g with ob := let ⟨dx, e⟩ := g.ob; ⟨dx, s _ _ e⟩, rt := g.rt.same s, ar := g.ar.same s }
/-- a heap's parts are changed at one place that isn't one of its other parts -/
theorem ins_ne {a b c dx : Addr} {f : List (Str × V)} {xs : List V} {H : Hp} (h : H a = some (.ins c dx f)) (k : H b = some (.lst xs)) : a ≠ b := fun z => by rw [z, k] at h; cases h
theorem ins_nd {a b c dx : Addr} {f : List (Str × V)} {xs : List (Key × V)} {H : Hp} (h : H a = some (.ins c dx f)) (k : H b = some (.dK xs)) : a ≠ b := fun z => by rw [z, k] at h; cases h
theorem lst_nd {a b : Addr} {ys : List V} {xs : List (Key × V)} {H : Hp} (h : H a = some (.lst ys)) (k : H b = some (.dK xs)) : a ≠ b := fun z => by rw [z, k] at h; cases h
theorem ArAt.keep {p m q o y s : Addr} {ws : List Int} {so sy ss : S3} (a : ArAt cA cM cS H p m q o y s ws so sy ss) (k : ∀ b x, H b = some x → b = p ∨ b = m ∨ b = q ∨ b = o ∨ b = y ∨ b = s → H' b = some x) : ArAt cA cM cS H' p m q o y s ws so sy ss :=
  { a with
    ob := let ⟨dx, e⟩ := a.ob; ⟨dx, k _ _ e (.inl rfl)⟩
    mem := a.mem.keep fun b x e hb => k b x e (by rcases hb with rfl | rfl; exact .inr (.inl rfl); exact .inr (.inr (.inl rfl)))
    old := let ⟨dx, e⟩ := a.old; ⟨dx, k _ _ e (.inr (.inr (.inr (.inl rfl))))⟩
    yng := let ⟨dx, e⟩ := a.yng; ⟨dx, k _ _ e (.inr (.inr (.inr (.inr (.inl rfl)))))⟩
    spr := let ⟨dx, e⟩ := a.spr; ⟨dx, k _ _ e (.inr (.inr (.inr (.inr (.inr rfl)))))⟩ }
theorem ArAt.nl {p m q o y s : Addr} {ws : List Int} {so sy ss : S3} (a : ArAt cA cM cS H p m q o y s ws so sy ss) {l : Addr} {xs : List V} (e : H l = some (.lst xs)) (n : l ≠ q) {b : Addr} (hb : b = p ∨ b = m ∨ b = q ∨ b = o ∨ b = y ∨ b = s) : b ≠ l := by
  obtain ⟨d0, e0⟩ := a.ob
  obtain ⟨d1, e1⟩ := a.mem.ob
  obtain ⟨d2, e2⟩ := a.old
  obtain ⟨d3, e3⟩ := a.yng
  obtain ⟨d4, e4⟩ := a.spr
  rcases hb with rfl | rfl | rfl | rfl | rfl | rfl
  · exact ins_ne e0 e
  · exact ins_ne e1 e
  · exact Ne.symm n
  · exact ins_ne e2 e
  · exact ins_ne e3 e
  · exact ins_ne e4 e
theorem ArAt.nd {p m q o y s : Addr} {ws : List Int} {so sy ss : S3} (a : ArAt cA cM cS H p m q o y s ws so sy ss) {l : Addr} {xs : List (Key × V)} (e : H l = some (.dK xs)) {b : Addr} (hb : b = p ∨ b = m ∨ b = q ∨ b = o ∨ b = y ∨ b = s) : b ≠ l := by
  obtain ⟨d0, e0⟩ := a.ob
  obtain ⟨d1, e1⟩ := a.mem.ob
  obtain ⟨d2, e2⟩ := a.old
  obtain ⟨d3, e3⟩ := a.yng
  obtain ⟨d4, e4⟩ := a.spr
  rcases hb with rfl | rfl | rfl | rfl | rfl | rfl
  · exact ins_nd e0 e
  · exact ins_nd e1 e
  · exact lst_nd a.mem.ls e
  · exact ins_nd e2 e
  · exact ins_nd e3 e
  · exact ins_nd e4 e
theorem ArAt.mem' {p m q o y s : Addr} {ws ws' : List Int} {so sy ss : S3} (a : ArAt cA cM cS H p m q o y s ws so sy ss) (mem : MemAt cM H' m q ws') (k : ∀ b x, H b = some x → b ≠ q → H' b = some x) : ArAt cA cM cS H' p m q o y s ws' so sy ss :=
  a.old' mem (let ⟨dx, e⟩ := a.old; ⟨dx, k _ _ e (SpIs.ne ⟨dx, e⟩ a.mem.ls)⟩) (fun b x eb nb _ => k b x eb nb)
theorem Kn.frame {c dx p : Addr} {f : List (Str × V)} {v : V} (h : Kn H v) (e : H p = some (.ins c dx f)) (k : ∀ b o, H b = some o → b ≠ p → H' b = some o) : Kn H' v := by
  cases v with
  | ref a =>
    have ne : ∀ o, H a = some o → (∀ c dx f, o ≠ .ins c dx f) → a ≠ p := fun o ho n z => by rw [z, e] at ho; exact n _ _ _ (Option.some.inj ho).symm
    rcases h with ⟨xs, z⟩ | ⟨xs, z⟩ | ⟨xs, z⟩
    · exact .inl ⟨xs, k _ _ z (ne _ z fun _ _ _ y => by cases y)⟩
    · exact .inr (.inl ⟨xs, k _ _ z (ne _ z fun _ _ _ y => by cases y)⟩)
    · exact .inr (.inr ⟨xs, k _ _ z (ne _ z fun _ _ _ y => by cases y)⟩)
  | _ => exact h
/-- the hands' words are others -/
theorem HeAt.hands (g : HeAt cP cR cH cB cA cM cS H X S) {w : List Int} (e : H' X.qh = some (.lst (w.map V.int))) (k : ∀ b x, H b = some x → b ≠ X.qh → H' b = some x) : HeAt cP cR cH cB cA cM cS H' X { S with hw := w } := by
  obtain ⟨d0, e0⟩ := g.ob
  obtain ⟨d1, w1, l1, e1⟩ := g.rt.ob
  obtain ⟨d2, e2⟩ := g.rt.hd.ob
  exact { g with
    ob := ⟨d0, k _ _ e0 (ins_ne e0 g.rt.hd.ls)⟩
    rt := ⟨⟨d1, w1, l1, k _ _ e1 (ins_ne e1 g.rt.hd.ls)⟩, ⟨⟨d2, k _ _ e2 (ins_ne e2 g.rt.hd.ls)⟩, e⟩, g.rt.bk.keep fun b x eb hb => k b x eb (by
      rcases hb with rfl | rfl
      · obtain ⟨d3, e3⟩ := g.rt.bk.ob; exact ins_ne e3 g.rt.hd.ls
      · exact Ne.symm (lst_nd g.rt.hd.ls g.rt.bk.dc))⟩
    ar := g.ar.keep fun b x eb hb => k b x eb (g.ar.nl g.rt.hd.ls g.qq hb) }
/-- the book is another -/
theorem HeAt.book (g : HeAt cP cR cH cB cA cM cS H X S) {w : List Int} (e : BkAt cB H' X.b X.d w) (k : ∀ b x, H b = some x → b ≠ X.d → H' b = some x) : HeAt cP cR cH cB cA cM cS H' X { S with ks := w } := by
  obtain ⟨d0, e0⟩ := g.ob
  obtain ⟨d1, w1, l1, e1⟩ := g.rt.ob
  exact { g with
    ob := ⟨d0, k _ _ e0 (ins_nd e0 g.rt.bk.dc)⟩
    rt := ⟨⟨d1, w1, l1, k _ _ e1 (ins_nd e1 g.rt.bk.dc)⟩, g.rt.hd.keep fun b x eb hb => k b x eb (by
      rcases hb with rfl | rfl
      · obtain ⟨d3, e3⟩ := g.rt.hd.ob; exact ins_nd e3 g.rt.bk.dc
      · exact lst_nd g.rt.hd.ls g.rt.bk.dc), e⟩
    ar := g.ar.keep fun b x eb hb => k b x eb (g.ar.nd g.rt.bk.dc hb) }
/-- the areas are others -/
theorem HeAt.areas (g : HeAt cP cR cH cB cA cM cS H X S) {ws : List Int} {so sy : S3} (e : ArAt cA cM cS H' X.a X.m X.q X.o X.y X.s ws so sy S.ss) (k : ∀ b x, H b = some x → b ≠ X.q → b ≠ X.o → b ≠ X.y → H' b = some x) : HeAt cP cR cH cB cA cM cS H' X { S with ws := ws, so := so, sy := sy } := by
  obtain ⟨d0, e0⟩ := g.ob
  obtain ⟨d1, w1, l1, e1⟩ := g.rt.ob
  obtain ⟨d2, e2⟩ := g.rt.hd.ob
  obtain ⟨d3, e3⟩ := g.rt.bk.ob
  obtain ⟨d4, e4⟩ := g.ar.old
  obtain ⟨d5, e5⟩ := g.ar.yng
  exact { g with
    ob := ⟨d0, k _ _ e0 (ins_ne e0 g.ar.mem.ls) g.po.1 g.po.2⟩
    rt := ⟨⟨d1, w1, l1, k _ _ e1 (ins_ne e1 g.ar.mem.ls) g.ro.1 g.ro.2⟩,
      ⟨⟨d2, k _ _ e2 (ins_ne e2 g.ar.mem.ls) g.ho.1 g.ho.2⟩, k _ _ g.rt.hd.ls g.qq (Ne.symm (ins_ne e4 g.rt.hd.ls)) (Ne.symm (ins_ne e5 g.rt.hd.ls))⟩,
      ⟨⟨d3, k _ _ e3 (ins_ne e3 g.ar.mem.ls) g.bo.1 g.bo.2⟩, k _ _ g.rt.bk.dc (Ne.symm (lst_nd g.ar.mem.ls g.rt.bk.dc)) (Ne.symm (ins_nd e4 g.rt.bk.dc)) (Ne.symm (ins_nd e5 g.rt.bk.dc))⟩⟩
    ar := e }
end
/-- the word in a hand -/
def HS.w (S : HS) (i : Int) : Int := S.hw.getD i.toNat 0
/-- places in hands are cells' -/
def HS.Ok (S : HS) : Prop := WordsOk S.hw ∧ WordsOk S.ws ∧ S.ws.length ≤ 4000 ∧ S.ks.length < 1000 ∧ ∀ w ∈ S.hw, isPl w = true → w / 2 < S.ws.length ∧ ∃ n, cellN S.ws (w / 2).toNat = some n
def HS.isY (S : HS) (w : Int) : Bool := isPl w && wi (.int (w / 2)) S.sy.b (S.sy.t - 1)
/-- a word is written at a place -/
def HS.put (S : HS) (i w : Int) : HS := { S with ws := S.ws.set i.toNat w, ks := if wi (.int i) S.so.b (S.so.t - 1) = true ∧ S.isY w = true then inK S.ks i else rubK S.ks i }
/-- a cell of n slots is made -/
def HS.forY (S : HS) (n : Int) : Bool := decide (n + 1 ≤ S.sy.e - S.sy.b)
def HS.at (S : HS) (n : Int) : Int := if S.forY n = true then S.sy.t else S.so.t
def HS.fits (S : HS) (n : Int) : Bool := if S.forY n = true then decide (n + 1 ≤ S.sy.e - S.sy.t) else decide (n + 1 ≤ S.so.e - S.so.t)
def HS.made (S : HS) (i n : Int) : HS := if S.forY n = true
  then { S with hw := S.hw.set i.toNat (2 * S.sy.t + 1), ws := laidA S.ws S.sy.t.toNat n.toNat 0, sy := ⟨S.sy.b, S.sy.e, S.sy.t + (n + 1)⟩ }
  else { S with hw := S.hw.set i.toNat (2 * S.so.t + 1), ws := laidA S.ws S.so.t.toNat n.toNat 2, so := ⟨S.so.b, S.so.e, S.so.t + (n + 1)⟩ }
theorem hw_mem {S : HS} {i : Int} (h0 : 0 ≤ i) (h1 : i ≤ S.hw.length - 1) : S.w i ∈ S.hw := by
  unfold HS.w
  rw [List.getD_eq_getElem?_getD, List.getElem?_eq_getElem (show i.toNat < S.hw.length by omega)]
  exact List.getElem_mem _
theorem pl_kd {w : Int} (h : (kd (.int w)).isSome = true) : (isPl w = true ∧ kd (.int w) = some (Str.ofString "place") ∧ w % 2 = 1 ∧ 1 ≤ w ∧ w ≤ 19999) ∨ (isPl w = false ∧ ∃ x, kd (.int w) = some x ∧ ¬ (x = Str.ofString "place")) := by
  obtain ⟨x, hx⟩ := Option.isSome_iff_exists.mp h
  rcases kd_cases hx with ⟨rfl, c⟩ | ⟨rfl, c⟩ | ⟨rfl, c⟩
  · exact .inr ⟨decide_eq_false (by omega), _, hx, n_op⟩
  · exact .inr ⟨decide_eq_false (by omega), _, hx, n_np⟩
  · exact .inl ⟨decide_eq_true (by omega), hx, c⟩
/-- a row of the law's own: the cell's place, the row's address, its words -/
structure Rw where
  p : Int
  a : Addr
  r : List Int
def apart (u v : Int × Int) : Prop := u.1 + u.2 < v.1 ∨ v.1 + v.2 < u.1
def spans (rs : List Rw) : List (Int × Int) := rs.map fun x => (x.p, (x.r.length : Int))
def plc (rs : List Rw) : List Int := rs.map Rw.p
def kvs (rs : List Rw) : List (Key × V) := rs.map fun x => (Sum.inl (2 * x.p + 1), V.ref x.a)
/-- a word, and if it is a place, one of these -/
def WOk (ps : List Int) (w : Int) : Prop := (kd (.int w)).isSome = true ∧ (isPl w = true → w / 2 ∈ ps)
def CellAt (ws : List Int) (x : Rw) : Prop := x.r.length ≤ 8 ∧ ∃ g, 0 ≤ g ∧ g ≤ 2 ∧ ws.getD x.p.toNat 0 = 2 * (4 * (x.r.length : Int) + g) ∧ ∀ j, j < x.r.length → ws.getD (x.p.toNat + 1 + j) 0 = x.r.getD j 0
structure RowsOk (rs : List Rw) (S : HS) : Prop where
  b0 : S.so.b = 0
  b1 : 0 ≤ S.so.t
  b2 : S.so.t ≤ S.so.e
  b3 : S.so.e = S.sy.b
  b4 : S.sy.b ≤ S.sy.t
  b5 : S.sy.t ≤ S.sy.e
  b6 : S.sy.e ≤ S.ws.length
  b7 : S.ws.length ≤ 4000
  wso : WordsOk S.ws
  cel : ∀ x ∈ rs, CellAt S.ws x
  reg : ∀ x ∈ rs, (0 ≤ x.p ∧ x.p + x.r.length < S.so.t) ∨ (S.sy.b ≤ x.p ∧ x.p + x.r.length < S.sy.t)
  dis : (spans rs).Pairwise apart
  hwo : ∀ w ∈ S.hw, WOk (plc rs) w
  rwo : ∀ x ∈ rs, ∀ w ∈ x.r, WOk (plc rs) w
theorem WOk.neg {ps : List Int} : WOk ps (-1) := ⟨by rw [kd_is, if_pos rfl]; rfl, fun z => by simp [isPl] at z⟩
theorem WOk.num {ps : List Int} {n : Int} (h0 : -1000000000000 ≤ n) (h1 : n ≤ 1000000000000) : WOk ps (2 * n) :=
  ⟨by rw [kd_is, if_neg (by omega), if_pos (by omega)]; rfl, fun z => by have := of_decide_eq_true z; omega⟩
theorem WOk.pl {ps : List Int} {p : Int} (h : p ∈ ps) (h0 : 0 ≤ p) (h1 : p ≤ 9999) : WOk ps (2 * p + 1) :=
  ⟨by rw [kd_is, if_neg (by omega), if_neg (by omega), if_pos (by omega)]; rfl, fun _ => by rw [show (2 * p + 1) / 2 = p by omega]; exact h⟩
theorem WOk.mono {ps ps' : List Int} {w : Int} (h : WOk ps w) (k : ∀ p ∈ ps, p ∈ ps') : WOk ps' w := ⟨h.1, fun z => k _ (h.2 z)⟩
theorem plc_mem {rs : List Rw} {p : Int} (h : p ∈ plc rs) : ∃ x ∈ rs, x.p = p := List.mem_map.mp h
section
variable {rs r1 r2 : List Rw} {S : HS} {x : Rw} {n i : Int} {a : Addr}
theorem RowsOk.bd (h : RowsOk rs S) (hx : x ∈ rs) : 0 ≤ x.p ∧ x.p + x.r.length < S.ws.length := by
  have := h.reg x hx
  have := h.b0; have := h.b1; have := h.b2; have := h.b3; have := h.b4; have := h.b5; have := h.b6
  omega
theorem RowsOk.cell (h : RowsOk rs S) (hx : x ∈ rs) : ∃ n, cellN S.ws x.p.toNat = some n ∧ n / 4 = x.r.length := by
  obtain ⟨l8, g, g0, g2, e, _⟩ := h.cel x hx
  have := h.bd hx
  refine ⟨4 * x.r.length + g, ?_, by omega⟩
  rw [cellN_eq, e, if_pos (by omega)]
  congr 1; omega
theorem RowsOk.Ok (h : RowsOk rs S) (k : S.ks.length < 1000) : S.Ok := by
  refine ⟨fun w hw => (h.hwo w hw).1, h.wso, h.b7, k, fun w hw c => ?_⟩
  obtain ⟨x, hx, e⟩ := plc_mem ((h.hwo w hw).2 c)
  obtain ⟨n, hn, _⟩ := h.cell hx
  have := h.bd hx
  rw [← e]
  exact ⟨by omega, n, hn⟩
theorem RowsOk.hold (h : RowsOk rs S) {i : Nat} {w : Int} (hw : WOk (plc rs) w) : RowsOk rs { S with hw := S.hw.set i w } :=
  { h with hwo := fun z hz => by rcases List.mem_or_eq_of_mem_set hz with y | rfl; exact h.hwo z y; exact hw }
theorem ap_symm {u v : Int × Int} (h : apart u v) : apart v u := h.symm
theorem RowsOk.away (h : RowsOk (r1 ++ x :: r2) S) {y : Rw} (hy : y ∈ r1 ∨ y ∈ r2) : apart (x.p, (x.r.length : Int)) (y.p, (y.r.length : Int)) := by
  have d := h.dis
  unfold spans at d
  rw [List.map_append, List.map_cons, List.pairwise_append, List.pairwise_cons] at d
  rcases hy with hy | hy
  · exact ap_symm (d.2.2 _ (List.mem_map_of_mem hy) _ List.mem_cons_self)
  · exact d.2.1.1 _ (List.mem_map_of_mem hy)
theorem getD_set_ne {ws : List Int} {i j : Nat} {w : Int} (h : i ≠ j) : (ws.set i w).getD j 0 = ws.getD j 0 := by
  rw [List.getD_eq_getElem?_getD, List.getElem?_set, if_neg h, ← List.getD_eq_getElem?_getD]
theorem getD_set_eq {ws : List Int} {i : Nat} {w : Int} (h : i < ws.length) : (ws.set i w).getD i 0 = w := by
  rw [List.getD_eq_getElem?_getD, List.getElem?_set, if_pos rfl, if_pos h]; rfl
theorem mem3 {x y : Rw} : y ∈ r1 ++ x :: r2 ↔ y ∈ r1 ∨ y = x ∨ y ∈ r2 := by simp
theorem RowsOk.put (h : RowsOk (r1 ++ x :: r2) S) {j : Nat} (hj : j < x.r.length) {w : Int} (hw : WOk (plc (r1 ++ x :: r2)) w) : RowsOk (r1 ++ { x with r := x.r.set j w } :: r2) (S.put (x.p + 1 + j) w) := by
  have hx : x ∈ r1 ++ x :: r2 := mem3.mpr (.inr (.inl rfl))
  have bx := h.bd hx
  have ep : plc (r1 ++ { x with r := x.r.set j w } :: r2) = plc (r1 ++ x :: r2) := by simp [plc]
  have es : spans (r1 ++ { x with r := x.r.set j w } :: r2) = spans (r1 ++ x :: r2) := by simp [spans]
  have en : (x.p + 1 + (j : Int)).toNat = x.p.toNat + 1 + j := by omega
  have el : (S.ws.set (x.p + 1 + (j : Int)).toNat w).length = S.ws.length := List.length_set ..
  refine ⟨h.b0, h.b1, h.b2, h.b3, h.b4, h.b5, ?_, ?_, h.wso.set hw.1, fun y hy => ?_, fun y hy => ?_, by rw [es]; exact h.dis, fun z hz => by rw [ep]; exact h.hwo z hz, fun y hy z hz => ?_⟩
  · show S.sy.e ≤ (S.ws.set _ w).length; rw [el]; exact h.b6
  · show (S.ws.set _ w).length ≤ 4000; rw [el]; exact h.b7
  · show CellAt (S.ws.set _ w) y
    rw [en]
    rcases mem3.mp hy with hy | rfl | hy
    · obtain ⟨l8, g, g0, g2, e, sl⟩ := h.cel y (mem3.mpr (.inl hy))
      have by' := h.bd (mem3.mpr (.inl hy))
      have ap := h.away (.inl hy)
      simp only [apart] at ap
      refine ⟨l8, g, g0, g2, by rw [getD_set_ne (by omega)]; exact e, fun t ht => by rw [getD_set_ne (by omega)]; exact sl t ht⟩
    · obtain ⟨l8, g, g0, g2, e, sl⟩ := h.cel x hx
      refine ⟨by show (x.r.set j w).length ≤ 8; rw [List.length_set]; exact l8, g, g0, g2, ?_, fun t ht => ?_⟩
      · show (S.ws.set _ w).getD x.p.toNat 0 = 2 * (4 * ((x.r.set j w).length : Int) + g)
        rw [getD_set_ne (by omega), List.length_set]; exact e
      · show (S.ws.set _ w).getD (x.p.toNat + 1 + t) 0 = (x.r.set j w).getD t 0
        have ht' : t < x.r.length := by have : t < (x.r.set j w).length := ht; rw [List.length_set] at this; exact this
        by_cases z : t = j
        · subst z
          rw [getD_set_eq (by omega), getD_set_eq ht']
        · rw [getD_set_ne (by omega), getD_set_ne (Ne.symm z)]; exact sl t ht'
    · obtain ⟨l8, g, g0, g2, e, sl⟩ := h.cel y (mem3.mpr (.inr (.inr hy)))
      have by' := h.bd (mem3.mpr (.inr (.inr hy)))
      have ap := h.away (.inr hy)
      simp only [apart] at ap
      refine ⟨l8, g, g0, g2, by rw [getD_set_ne (by omega)]; exact e, fun t ht => by rw [getD_set_ne (by omega)]; exact sl t ht⟩
  · rcases mem3.mp hy with hy | rfl | hy
    · exact h.reg y (mem3.mpr (.inl hy))
    · have := h.reg x hx
      show (0 ≤ x.p ∧ x.p + ((x.r.set j w).length : Int) < S.so.t) ∨ (S.sy.b ≤ x.p ∧ x.p + ((x.r.set j w).length : Int) < S.sy.t)
      rw [List.length_set]; exact this
    · exact h.reg y (mem3.mpr (.inr (.inr hy)))
  · rw [ep]
    rcases mem3.mp hy with hy | rfl | hy
    · exact h.rwo y (mem3.mpr (.inl hy)) z hz
    · rcases List.mem_or_eq_of_mem_set hz with q | rfl
      · exact h.rwo x hx z q
      · exact hw
    · exact h.rwo y (mem3.mpr (.inr (.inr hy))) z hz
theorem RowsOk.lay (h : RowsOk rs S) {t g : Int} {n : Nat} {so sy : S3} (n8 : n ≤ 8) (g0 : 0 ≤ g) (g2 : g ≤ 2) (t0 : 0 ≤ t) (te : t + n < S.ws.length) (hb : so.b = S.so.b) (he : so.e = S.so.e) (yb : sy.b = S.sy.b) (ye : sy.e = S.sy.e) (hso : S.so.t ≤ so.t ∧ so.t ≤ so.e) (hsy : S.sy.t ≤ sy.t ∧ sy.t ≤ sy.e)
    (hr : (0 ≤ t ∧ t + n < so.t) ∨ (sy.b ≤ t ∧ t + n < sy.t)) (ap : ∀ x ∈ rs, apart (x.p, (x.r.length : Int)) (t, (n : Int))) :
    RowsOk (rs ++ [⟨t, a, List.replicate n (-1)⟩]) { S with hw := S.hw.set i.toNat (2 * t + 1), ws := laidA S.ws t.toNat n g, so := so, sy := sy } := by
  have b0 := h.b0; have b1 := h.b1; have b2 := h.b2; have b3 := h.b3; have b4 := h.b4; have b5 := h.b5; have b6 := h.b6; have b7 := h.b7
  have sub : ∀ p ∈ plc rs, p ∈ plc (rs ++ [⟨t, a, List.replicate n (-1)⟩]) := fun p hp => by unfold plc at hp ⊢; rw [List.map_append]; exact List.mem_append_left _ hp
  have new : t ∈ plc (rs ++ [⟨t, a, List.replicate n (-1)⟩]) := by simp [plc]
  refine ⟨by show so.b = 0; omega, by show 0 ≤ so.t; omega, hso.2, by show so.e = sy.b; omega, by show sy.b ≤ sy.t; omega, hsy.2, ?_, ?_, h.wso.laidA n8 g0 g2, fun y hy => ?_, fun y hy => ?_, ?_, fun z hz => ?_, fun y hy z hz => ?_⟩
  · show sy.e ≤ ((laidA S.ws t.toNat n g).length : Int); rw [laidA_len]; omega
  · show (laidA S.ws t.toNat n g).length ≤ 4000; rw [laidA_len]; exact b7
  · show CellAt (laidA S.ws t.toNat n g) y
    rcases List.mem_append.mp hy with hy | hy
    · obtain ⟨l8, g', g0', g2', e, sl⟩ := h.cel y hy
      have by' := h.bd hy
      have ap' := ap y hy
      simp only [apart] at ap'
      exact ⟨l8, g', g0', g2', by rw [laidA_ne (by omega)]; exact e, fun j hj => by rw [laidA_ne (by omega)]; exact sl j hj⟩
    · rw [List.mem_singleton] at hy
      subst hy
      refine ⟨by show (List.replicate n (-1)).length ≤ 8; rw [List.length_replicate]; exact n8, g, g0, g2, ?_, fun j hj => ?_⟩
      · show (laidA S.ws t.toNat n g).getD t.toNat 0 = 2 * (4 * ((List.replicate n (-1)).length : Int) + g)
        rw [List.length_replicate, laidA_eq (by omega)]
      · have hj' : j < n := by have : j < (List.replicate n (-1)).length := hj; rw [List.length_replicate] at this; exact this
        show (laidA S.ws t.toNat n g).getD (t.toNat + 1 + j) 0 = (List.replicate n (-1)).getD j 0
        rw [laidA_slot (by omega) (by omega) (by omega), List.getD_eq_getElem?_getD, List.getElem?_replicate, if_pos hj']; rfl
  · rcases List.mem_append.mp hy with hy | hy
    · have := h.reg y hy
      show (0 ≤ y.p ∧ y.p + y.r.length < so.t) ∨ (sy.b ≤ y.p ∧ y.p + y.r.length < sy.t)
      omega
    · rw [List.mem_singleton] at hy
      subst hy
      show (0 ≤ t ∧ t + ((List.replicate n (-1)).length : Int) < so.t) ∨ (sy.b ≤ t ∧ t + ((List.replicate n (-1)).length : Int) < sy.t)
      rw [List.length_replicate]; exact hr
  · unfold spans
    rw [List.map_append, List.pairwise_append]
    refine ⟨h.dis, by simp, fun u hu v hv => ?_⟩
    obtain ⟨y, hy, rfl⟩ := List.mem_map.mp hu
    simp only [List.map_cons, List.map_nil, List.mem_singleton, List.length_replicate] at hv
    subst hv
    exact ap y hy
  · rcases List.mem_or_eq_of_mem_set hz with y | rfl
    · exact (h.hwo z y).mono sub
    · exact WOk.pl new t0 (by omega)
  · rcases List.mem_append.mp hy with hy | hy
    · exact (h.rwo y hy z hz).mono sub
    · rw [List.mem_singleton] at hy
      subst hy
      have : z = -1 := List.eq_of_mem_replicate hz
      subst this
      exact WOk.neg
theorem RowsOk.made (h : RowsOk rs S) (n0 : 0 ≤ n) (n8 : n ≤ 8) (hf : S.fits n = true) : RowsOk (rs ++ [⟨S.at n, a, List.replicate n.toNat (-1)⟩]) (S.made i n) := by
  have b0 := h.b0; have b1 := h.b1; have b2 := h.b2; have b3 := h.b3; have b4 := h.b4; have b5 := h.b5; have b6 := h.b6; have b7 := h.b7
  unfold HS.fits at hf
  unfold HS.made HS.at
  have en : ((n.toNat : Nat) : Int) = n := Int.toNat_of_nonneg n0
  cases hY : S.forY n with
  | true =>
    rw [hY, if_pos rfl, decide_eq_true_eq] at hf
    rw [if_pos rfl, if_pos rfl]
    exact h.lay (by omega) (by omega) (by omega) (by omega) (by omega) rfl rfl rfl rfl ⟨Int.le_refl _, b2⟩ ⟨by show S.sy.t ≤ S.sy.t + (n + 1); omega, by show S.sy.t + (n + 1) ≤ S.sy.e; omega⟩ (.inr ⟨b4, by show S.sy.t + ((n.toNat : Nat) : Int) < S.sy.t + (n + 1); omega⟩) fun y hy => by
      have := h.reg y hy
      simp only [apart]; omega
  | false =>
    rw [hY, if_neg (by intro z; cases z), decide_eq_true_eq] at hf
    rw [if_neg (by intro z; cases z), if_neg (by intro z; cases z)]
    exact h.lay (by omega) (by omega) (by omega) (by omega) (by omega) rfl rfl rfl rfl ⟨by show S.so.t ≤ S.so.t + (n + 1); omega, by show S.so.t + (n + 1) ≤ S.so.e; omega⟩ ⟨Int.le_refl _, b5⟩ (.inl ⟨b1, by show S.so.t + ((n.toNat : Nat) : Int) < S.so.t + (n + 1); omega⟩) fun y hy => by
      have := h.reg y hy
      simp only [apart]; omega
theorem kvs_val (hx : x ∈ rs) : (spans rs).Pairwise apart → valV (kvs rs) (Sum.inl (2 * x.p + 1)) = some (.ref x.a) := by
  induction rs with
  | nil => cases hx
  | cons y r ih =>
    intro d
    have d' := List.pairwise_cons.mp d
    rcases List.mem_cons.mp hx with rfl | hx
    · exact valV_pos rfl
    · have ap := d'.1 (x.p, (x.r.length : Int)) (List.mem_map_of_mem hx)
      simp only [apart] at ap
      have ne : ¬ ((Sum.inl (2 * y.p + 1) : Key) = Sum.inl (2 * x.p + 1)) := fun z => by have := Sum.inl.inj z; omega
      show valV ((Sum.inl (2 * y.p + 1), V.ref y.a) :: kvs r) _ = _
      rw [valV_neg ne]
      exact ih hx d'.2
theorem kvs_none {w : Int} (h : ∀ x ∈ rs, w ≠ 2 * x.p + 1) : valV (kvs rs) (Sum.inl w) = none := by
  induction rs with
  | nil => rfl
  | cons y r ih =>
    have ne : ¬ ((Sum.inl (2 * y.p + 1) : Key) = Sum.inl w) := fun z => h y List.mem_cons_self (Sum.inl.inj z).symm
    show valV ((Sum.inl (2 * y.p + 1), V.ref y.a) :: kvs r) _ = _
    rw [valV_neg ne]
    exact ih fun x hx => h x (List.mem_cons_of_mem _ hx)
/-- a word of the hands is a row's, or none's -/
theorem RowsOk.row (h : RowsOk rs S) {w : Int} (hw : WOk (plc rs) w) : (isPl w = true ∧ ∃ x ∈ rs, w = 2 * x.p + 1 ∧ valV (kvs rs) (Sum.inl w) = some (.ref x.a)) ∨ (isPl w = false ∧ valV (kvs rs) (Sum.inl w) = none) := by
  cases c : isPl w with
  | true =>
    obtain ⟨x, hx, e⟩ := plc_mem (hw.2 c)
    have cp : w % 2 = 1 ∧ 0 < w := of_decide_eq_true c
    have ew : w = 2 * x.p + 1 := by omega
    exact .inl ⟨rfl, x, hx, ew, by rw [ew]; exact kvs_val hx h.dis⟩
  | false =>
    refine .inr ⟨rfl, kvs_none fun x hx z => ?_⟩
    have := h.bd hx
    have : isPl w = true := decide_eq_true (by omega)
    rw [c] at this; cases this
theorem RowsOk.fresh (h : RowsOk rs S) (n0 : 0 ≤ n) (hf : S.fits n = true) : ∀ x ∈ rs, S.at n ≠ x.p := by
  have b0 := h.b0; have b1 := h.b1; have b2 := h.b2; have b3 := h.b3; have b4 := h.b4; have b5 := h.b5
  unfold HS.fits at hf
  unfold HS.at
  intro x hx
  have := h.reg x hx
  cases hY : S.forY n with
  | true =>
    rw [hY, if_pos rfl, decide_eq_true_eq] at hf
    rw [if_pos rfl]
    omega
  | false =>
    rw [hY, if_neg (by intro z; cases z), decide_eq_true_eq] at hf
    rw [if_neg (by intro z; cases z)]
    omega
end
/-- the law's own lists -/
structure Ls (H : Hp) (X : HA) (L : List (Addr × List Int)) : Prop where
  at_ : ∀ e ∈ L, H e.1 = some (.lst (e.2.map V.int))
  nd : (X.qh :: X.q :: L.map Prod.fst).Nodup
section
variable {cP cR cH cB cA cM cS : Addr} {H H' : Hp} {X : HA} {S : HS} {L L1 L2 : List (Addr × List Int)} {a : Addr} {xs ys : List Int}
theorem Ls.same (m : Ls H X L) (k : Same H H') : Ls H' X L := ⟨fun e he => k _ _ (m.at_ e he), m.nd⟩
theorem Ls.ne (m : Ls H X L) {e : Addr × List Int} (he : e ∈ L) : e.1 ≠ X.qh ∧ e.1 ≠ X.q := by
  have nd := m.nd
  rw [List.nodup_cons, List.nodup_cons] at nd
  have hm : e.1 ∈ L.map Prod.fst := List.mem_map_of_mem he
  exact ⟨fun z => nd.1 (by rw [← z]; exact List.mem_cons_of_mem _ hm), fun z => nd.2.1 (by rw [← z]; exact hm)⟩
theorem Ls.put (m : Ls H X (L1 ++ (a, xs) :: L2)) : Ls (upd H a (.lst (ys.map V.int))) X (L1 ++ (a, ys) :: L2) := by
  have nd := m.nd
  have hd : (L1.map Prod.fst ++ a :: L2.map Prod.fst).Nodup := by
    rw [List.nodup_cons, List.nodup_cons] at nd
    have := nd.2.2
    rwa [List.map_append, List.map_cons] at this
  have hn : ∀ e ∈ L1 ++ L2, e.1 ≠ a := fun e he z => by
    rw [List.nodup_append] at hd
    rcases List.mem_append.mp he with he | he
    · exact hd.2.2 e.1 (List.mem_map_of_mem he) a List.mem_cons_self z
    · have := (List.nodup_cons.mp hd.2.1).1
      exact this (by rw [← z]; exact List.mem_map_of_mem he)
  refine ⟨fun e he => ?_, by simpa using nd⟩
  rcases List.mem_append.mp he with he | he
  · rw [upd_ne (hn e (List.mem_append_left _ he))]; exact m.at_ e (List.mem_append_left _ he)
  · rcases List.mem_cons.mp he with rfl | he
    · exact upd_same
    · rw [upd_ne (hn e (List.mem_append_right _ he))]; exact m.at_ e (List.mem_append_right _ (List.mem_cons_of_mem _ he))
/-- the law's own lists stay where a heap's parts are changed -/
theorem Ls.heap (m : Ls H X L) (g : HeAt cP cR cH cB cA cM cS H X S) (k : ∀ b o, H b = some o → b ≠ X.q → b ≠ X.qh → b ≠ X.o → b ≠ X.y → b ≠ X.d → H' b = some o) : Ls H' X L := by
  obtain ⟨d4, e4⟩ := g.ar.old
  obtain ⟨d5, e5⟩ := g.ar.yng
  refine ⟨fun e he => ?_, m.nd⟩
  have h1 := m.at_ e he
  have h2 := m.ne he
  exact k _ _ h1 h2.2 h2.1 (Ne.symm (ins_ne e4 h1)) (Ne.symm (ins_ne e5 h1)) (lst_nd h1 g.rt.bk.dc)
theorem HeAt.dict (g : HeAt cP cR cH cB cA cM cS H X S) {l : Addr} {zs : List (Key × V)} (e : H l = some (.dK zs)) (n1 : l ≠ X.d) (k : ∀ b o, H b = some o → b ≠ X.q → b ≠ X.qh → b ≠ X.o → b ≠ X.y → b ≠ X.d → H' b = some o) : H' l = some (.dK zs) := by
  obtain ⟨d4, e4⟩ := g.ar.old
  obtain ⟨d5, e5⟩ := g.ar.yng
  exact k _ _ e (Ne.symm (lst_nd g.ar.mem.ls e)) (Ne.symm (lst_nd g.rt.hd.ls e)) (Ne.symm (ins_nd e4 e)) (Ne.symm (ins_nd e5 e)) n1
theorem Ls.keep (m : Ls H X L) (k : ∀ b zs, H b = some (.lst zs) → H' b = some (.lst zs)) : Ls H' X L := ⟨fun e he => k _ _ (m.at_ e he), m.nd⟩
theorem Ls.snoc (m : Ls H X L) (g : HeAt cP cR cH cB cA cM cS H X S) (ha : H a = none) : Ls (upd H a (.lst (xs.map V.int))) X (L ++ [(a, xs)]) := by
  have m' : Ls (upd H a (.lst (xs.map V.int))) X L := m.same (Same.upd ha)
  refine ⟨fun e he => ?_, ?_⟩
  · rcases List.mem_append.mp he with he | he
    · exact m'.at_ e he
    · rw [List.mem_singleton] at he
      subst he
      exact upd_same
  · rw [List.map_append, List.map_cons, List.map_nil, ← List.cons_append, ← List.cons_append, List.nodup_append]
    refine ⟨m.nd, by simp, fun u hu v hv z => ?_⟩
    rw [List.mem_singleton] at hv
    subst hv
    subst z
    rcases List.mem_cons.mp hu with rfl | hu
    · have := g.rt.hd.ls; rw [ha] at this; cases this
    · rcases List.mem_cons.mp hu with rfl | hu
      · have := g.ar.mem.ls; rw [ha] at this; cases this
      · obtain ⟨e, he, rfl⟩ := List.mem_map.mp hu
        have := m.at_ e he; rw [ha] at this; cases this
end
theorem menu_at {xs : List V} {k : Int} (h0 : 0 ≤ k) (h1 : k < xs.length) : ∃ v, v ∈ xs ∧ atI xs k = some v := by
  cases hv : atI xs k with
  | none => exact (at_ne h0 h1 hv).elim
  | some v => exact ⟨v, at_in hv, rfl⟩
theorem exc_end {H H' : Hp} {a : Addr} {c : Value} {x : V} {Q : VK} (ha : H a = none) (s1 : Same (upd H a (.exc c)) H') (q : ∀ H', Same H H' → Q x H') : H' a = some (.exc c) ∧ Q x (rm H' a) := by
  refine ⟨s1 a _ upd_same, q _ fun b o eb => ?_⟩
  rw [rm_ne (ne_of_none eb ha)]
  exact ((Same.upd ha).trans s1) b o eb
/-- what is due: refused by which word, or done -/
def due19 (w : Int) (v u : V) (g : Bool) : Str :=
  if wi v 0 2 = true then (if w = 0 then (if wi u 0 8 = true then Str.ofString "" else Str.ofString "count")
    else if w = 3 then (if g = true then Str.ofString "" else Str.ofString "word")
    else if w = 1 ∨ w = 2 ∨ w = 5 then (if iv v = 0 then (if w = 5 then Str.ofString "" else if wi u 0 1 = true then (if w = 2 ∧ g = false then Str.ofString "word" else Str.ofString "") else Str.ofString "slot") else Str.ofString "nothing")
    else Str.ofString "") else Str.ofString "hand"
set_option genInjectivity false in
structure Ad where
  f_is_whole : Addr
  d_is_whole : FuncData
  f_Space_init : Addr
  d_Space_init : FuncData
  f_Space_room : Addr
  d_Space_room : FuncData
  f_Space_extent : Addr
  d_Space_extent : FuncData
  f_Book_init : Addr
  d_Book_init : FuncData
  f_Book_places : Addr
  d_Book_places : FuncData
  f_Lasts_init : Addr
  d_Lasts_init : FuncData
  f_Weak_init : Addr
  d_Weak_init : FuncData
  f__law_draw : Addr
  d__law_draw : FuncData
  f__law_alone : Addr
  d__law_alone : FuncData
  f__law_size : Addr
  d__law_size : FuncData
  f__law_fits : Addr
  d__law_fits : FuncData
  f_is_within : Addr
  d_is_within : FuncData
  f_Space_take : Addr
  d_Space_take : FuncData
  f_Heap_is_for_young : Addr
  d_Heap_is_for_young : FuncData
  f__law_due : Addr
  d__law_due : FuncData
  f_is_number : Addr
  d_is_number : FuncData
  f_is_place : Addr
  d_is_place : FuncData
  f_want_slots : Addr
  d_want_slots : FuncData
  f_is_head : Addr
  d_is_head : FuncData
  f_fits : Addr
  d_fits : FuncData
  f_Memory_init : Addr
  d_Memory_init : FuncData
  f_Memory_want_place : Addr
  d_Memory_want_place : FuncData
  f_Space_has : Addr
  d_Space_has : FuncData
  f_Hands_init : Addr
  d_Hands_init : FuncData
  f_Hands_want_hand : Addr
  d_Hands_want_hand : FuncData
  f_want_number : Addr
  d_want_number : FuncData
  f_want_place : Addr
  d_want_place : FuncData
  f_kind : Addr
  d_kind : FuncData
  f_Memory_read : Addr
  d_Memory_read : FuncData
  f_Hands_get : Addr
  d_Hands_get : FuncData
  f_Heap_want_hand : Addr
  d_Heap_want_hand : FuncData
  f_number_word : Addr
  d_number_word : FuncData
  f_place_word : Addr
  d_place_word : FuncData
  f_worth : Addr
  d_worth : FuncData
  f_Memory_write : Addr
  d_Memory_write : FuncData
  f_Areas_init : Addr
  d_Areas_init : FuncData
  f_Book_write : Addr
  d_Book_write : FuncData
  f_Book_has : Addr
  d_Book_has : FuncData
  f_Hands_put : Addr
  d_Hands_put : FuncData
  f_Roots_init : Addr
  d_Roots_init : FuncData
  f_Heap_held : Addr
  d_Heap_held : FuncData
  f_Heap_want_make : Addr
  d_Heap_want_make : FuncData
  f_head_word : Addr
  d_head_word : FuncData
  f_head_number : Addr
  d_head_number : FuncData
  f_Book_rub : Addr
  d_Book_rub : FuncData
  f_is_of_young : Addr
  d_is_of_young : FuncData
  f_Heap_hold : Addr
  d_Heap_hold : FuncData
  f_Heap_cell_of : Addr
  d_Heap_cell_of : FuncData
  f_lay : Addr
  d_lay : FuncData
  f_slots_of : Addr
  d_slots_of : FuncData
  f_Heap_init : Addr
  d_Heap_init : FuncData
  f_Heap_drop : Addr
  d_Heap_drop : FuncData
  f_Heap_note : Addr
  d_Heap_note : FuncData
  f_aged : Addr
  d_aged : FuncData
  f_slot_place : Addr
  d_slot_place : FuncData
  f_Areas_lay_into : Addr
  d_Areas_lay_into : FuncData
  f_Heap_place_of : Addr
  d_Heap_place_of : FuncData
  f__law_is_heap : Addr
  d__law_is_heap : FuncData
  f_Areas_lay_young : Addr
  d_Areas_lay_young : FuncData
  f_Areas_lay_old : Addr
  d_Areas_lay_old : FuncData
  f_Heap_get : Addr
  d_Heap_get : FuncData
  f_Heap_put : Addr
  d_Heap_put : FuncData
  f_Heap_make : Addr
  d_Heap_make : FuncData
  f__law_state : Addr
  d__law_state : FuncData
  f__law_call : Addr
  d__law_call : FuncData
  f_law : Addr
  d_law : FuncData
  c_KeepError : Addr
  c_BadNumber : Addr
  c_BadWord : Addr
  c_BadCount : Addr
  c_NoPlace : Addr
  c_NoRoom : Addr
  c_NoSlot : Addr
  c_NoCell : Addr
  c_NoHand : Addr
  c_NothingHeld : Addr
  c_NoName : Addr
  c_NoDeed : Addr
  c_NoImage : Addr
  c_NoProgram : Addr
  c_Memory : Addr
  c_Space : Addr
  c_Areas : Addr
  c_Book : Addr
  c_Hands : Addr
  c_Lasts : Addr
  c_Weak : Addr
  c_Roots : Addr
  c_Heap : Addr
structure Txt (K : PySem.W.Frag) (mg : Str → Option Value) (A : Ad) : Prop where
  fn_is_whole : Fun K "is_whole" "is_whole" s_is_whole A.f_is_whole A.d_is_whole
  b_is_whole : Binds K A.d_is_whole ["thing"] []
  g_is_whole : mg "is_whole" = some (.ref A.f_is_whole)
  fn_Space_init : Fun K "__init__" "Space.__init__" s_Space_init A.f_Space_init A.d_Space_init
  b_Space_init : Binds K A.d_Space_init ["self", "begin", "end"] []
  fn_Space_room : Fun K "room" "Space.room" s_Space_room A.f_Space_room A.d_Space_room
  b_Space_room : Binds K A.d_Space_room ["self"] []
  m_Space_room : Meth K A.c_Space "room" A.f_Space_room
  fn_Space_extent : Fun K "extent" "Space.extent" s_Space_extent A.f_Space_extent A.d_Space_extent
  b_Space_extent : Binds K A.d_Space_extent ["self"] []
  m_Space_extent : Meth K A.c_Space "extent" A.f_Space_extent
  fn_Book_init : Fun K "__init__" "Book.__init__" s_Book_init A.f_Book_init A.d_Book_init
  b_Book_init : Binds K A.d_Book_init ["self"] []
  fn_Book_places : Fun K "places" "Book.places" s_Book_places A.f_Book_places A.d_Book_places
  b_Book_places : Binds K A.d_Book_places ["self"] []
  m_Book_places : Meth K A.c_Book "places" A.f_Book_places
  fn_Lasts_init : Fun K "__init__" "Lasts.__init__" s_Lasts_init A.f_Lasts_init A.d_Lasts_init
  b_Lasts_init : Binds K A.d_Lasts_init ["self"] []
  fn_Weak_init : Fun K "__init__" "Weak.__init__" s_Weak_init A.f_Weak_init A.d_Weak_init
  b_Weak_init : Binds K A.d_Weak_init ["self"] []
  fn__law_draw : Fun K "_law_draw" "_law_draw" s__law_draw A.f__law_draw A.d__law_draw
  b__law_draw : Binds K A.d__law_draw ["_law_script", "_law_k"] []
  g__law_draw : mg "_law_draw" = some (.ref A.f__law_draw)
  fn__law_alone : Fun K "_law_alone" "_law_alone" s__law_alone A.f__law_alone A.d__law_alone
  b__law_alone : Binds K A.d__law_alone ["_law_e"] []
  g__law_alone : mg "_law_alone" = some (.ref A.f__law_alone)
  fn__law_size : Fun K "_law_size" "_law_size" s__law_size A.f__law_size A.d__law_size
  b__law_size : Binds K A.d__law_size ["_law_cell", "_law_least", "_law_most"] []
  g__law_size : mg "_law_size" = some (.ref A.f__law_size)
  fn__law_fits : Fun K "_law_fits" "_law_fits" s__law_fits A.f__law_fits A.d__law_fits
  b__law_fits : Binds K A.d__law_fits ["_law_size_here", "_law_least", "_law_most"] []
  g__law_fits : mg "_law_fits" = some (.ref A.f__law_fits)
  fn_is_within : Fun K "is_within" "is_within" s_is_within A.f_is_within A.d_is_within
  b_is_within : Binds K A.d_is_within ["thing", "least", "most"] []
  g_is_within : mg "is_within" = some (.ref A.f_is_within)
  fn_Space_take : Fun K "take" "Space.take" s_Space_take A.f_Space_take A.d_Space_take
  b_Space_take : Binds K A.d_Space_take ["self", "many"] []
  m_Space_take : Meth K A.c_Space "take" A.f_Space_take
  fn_Heap_is_for_young : Fun K "is_for_young" "Heap.is_for_young" s_Heap_is_for_young A.f_Heap_is_for_young A.d_Heap_is_for_young
  b_Heap_is_for_young : Binds K A.d_Heap_is_for_young ["self", "slots"] []
  m_Heap_is_for_young : Meth K A.c_Heap "is_for_young" A.f_Heap_is_for_young
  fn__law_due : Fun K "_law_due" "_law_due" s__law_due A.f__law_due A.d__law_due
  b__law_due : Binds K A.d__law_due ["_law_way", "_law_hand", "_law_thing", "_law_is_word"] []
  g__law_due : mg "_law_due" = some (.ref A.f__law_due)
  fn_is_number : Fun K "is_number" "is_number" s_is_number A.f_is_number A.d_is_number
  b_is_number : Binds K A.d_is_number ["thing"] []
  g_is_number : mg "is_number" = some (.ref A.f_is_number)
  fn_is_place : Fun K "is_place" "is_place" s_is_place A.f_is_place A.d_is_place
  b_is_place : Binds K A.d_is_place ["thing"] []
  g_is_place : mg "is_place" = some (.ref A.f_is_place)
  fn_want_slots : Fun K "want_slots" "want_slots" s_want_slots A.f_want_slots A.d_want_slots
  b_want_slots : Binds K A.d_want_slots ["slots"] []
  g_want_slots : mg "want_slots" = some (.ref A.f_want_slots)
  fn_is_head : Fun K "is_head" "is_head" s_is_head A.f_is_head A.d_is_head
  b_is_head : Binds K A.d_is_head ["number"] []
  g_is_head : mg "is_head" = some (.ref A.f_is_head)
  fn_fits : Fun K "fits" "fits" s_fits A.f_fits A.d_fits
  b_fits : Binds K A.d_fits ["memory", "at", "slots"] []
  g_fits : mg "fits" = some (.ref A.f_fits)
  fn_Memory_init : Fun K "__init__" "Memory.__init__" s_Memory_init A.f_Memory_init A.d_Memory_init
  b_Memory_init : Binds K A.d_Memory_init ["self", "size"] []
  fn_Memory_want_place : Fun K "want_place" "Memory.want_place" s_Memory_want_place A.f_Memory_want_place A.d_Memory_want_place
  b_Memory_want_place : Binds K A.d_Memory_want_place ["self", "at"] []
  m_Memory_want_place : Meth K A.c_Memory "want_place" A.f_Memory_want_place
  fn_Space_has : Fun K "has" "Space.has" s_Space_has A.f_Space_has A.d_Space_has
  b_Space_has : Binds K A.d_Space_has ["self", "at"] []
  m_Space_has : Meth K A.c_Space "has" A.f_Space_has
  fn_Hands_init : Fun K "__init__" "Hands.__init__" s_Hands_init A.f_Hands_init A.d_Hands_init
  b_Hands_init : Binds K A.d_Hands_init ["self", "many"] []
  fn_Hands_want_hand : Fun K "want_hand" "Hands.want_hand" s_Hands_want_hand A.f_Hands_want_hand A.d_Hands_want_hand
  b_Hands_want_hand : Binds K A.d_Hands_want_hand ["self", "hand"] []
  m_Hands_want_hand : Meth K A.c_Hands "want_hand" A.f_Hands_want_hand
  fn_want_number : Fun K "want_number" "want_number" s_want_number A.f_want_number A.d_want_number
  b_want_number : Binds K A.d_want_number ["thing"] []
  g_want_number : mg "want_number" = some (.ref A.f_want_number)
  fn_want_place : Fun K "want_place" "want_place" s_want_place A.f_want_place A.d_want_place
  b_want_place : Binds K A.d_want_place ["thing"] []
  g_want_place : mg "want_place" = some (.ref A.f_want_place)
  fn_kind : Fun K "kind" "kind" s_kind A.f_kind A.d_kind
  b_kind : Binds K A.d_kind ["word"] []
  g_kind : mg "kind" = some (.ref A.f_kind)
  fn_Memory_read : Fun K "read" "Memory.read" s_Memory_read A.f_Memory_read A.d_Memory_read
  b_Memory_read : Binds K A.d_Memory_read ["self", "at"] []
  m_Memory_read : Meth K A.c_Memory "read" A.f_Memory_read
  fn_Hands_get : Fun K "get" "Hands.get" s_Hands_get A.f_Hands_get A.d_Hands_get
  b_Hands_get : Binds K A.d_Hands_get ["self", "hand"] []
  m_Hands_get : Meth K A.c_Hands "get" A.f_Hands_get
  fn_Heap_want_hand : Fun K "want_hand" "Heap.want_hand" s_Heap_want_hand A.f_Heap_want_hand A.d_Heap_want_hand
  b_Heap_want_hand : Binds K A.d_Heap_want_hand ["self", "hand"] []
  m_Heap_want_hand : Meth K A.c_Heap "want_hand" A.f_Heap_want_hand
  fn_number_word : Fun K "number_word" "number_word" s_number_word A.f_number_word A.d_number_word
  b_number_word : Binds K A.d_number_word ["n"] []
  g_number_word : mg "number_word" = some (.ref A.f_number_word)
  fn_place_word : Fun K "place_word" "place_word" s_place_word A.f_place_word A.d_place_word
  b_place_word : Binds K A.d_place_word ["at"] []
  g_place_word : mg "place_word" = some (.ref A.f_place_word)
  fn_worth : Fun K "worth" "worth" s_worth A.f_worth A.d_worth
  b_worth : Binds K A.d_worth ["word"] []
  g_worth : mg "worth" = some (.ref A.f_worth)
  fn_Memory_write : Fun K "write" "Memory.write" s_Memory_write A.f_Memory_write A.d_Memory_write
  b_Memory_write : Binds K A.d_Memory_write ["self", "at", "word"] []
  m_Memory_write : Meth K A.c_Memory "write" A.f_Memory_write
  fn_Areas_init : Fun K "__init__" "Areas.__init__" s_Areas_init A.f_Areas_init A.d_Areas_init
  b_Areas_init : Binds K A.d_Areas_init ["self", "old_words", "young_words"] []
  fn_Book_write : Fun K "write" "Book.write" s_Book_write A.f_Book_write A.d_Book_write
  b_Book_write : Binds K A.d_Book_write ["self", "place"] []
  m_Book_write : Meth K A.c_Book "write" A.f_Book_write
  fn_Book_has : Fun K "has" "Book.has" s_Book_has A.f_Book_has A.d_Book_has
  b_Book_has : Binds K A.d_Book_has ["self", "place"] []
  m_Book_has : Meth K A.c_Book "has" A.f_Book_has
  fn_Hands_put : Fun K "put" "Hands.put" s_Hands_put A.f_Hands_put A.d_Hands_put
  b_Hands_put : Binds K A.d_Hands_put ["self", "hand", "word"] []
  m_Hands_put : Meth K A.c_Hands "put" A.f_Hands_put
  fn_Roots_init : Fun K "__init__" "Roots.__init__" s_Roots_init A.f_Roots_init A.d_Roots_init
  b_Roots_init : Binds K A.d_Roots_init ["self", "many"] []
  fn_Heap_held : Fun K "held" "Heap.held" s_Heap_held A.f_Heap_held A.d_Heap_held
  b_Heap_held : Binds K A.d_Heap_held ["self", "hand"] []
  m_Heap_held : Meth K A.c_Heap "held" A.f_Heap_held
  fn_Heap_want_make : Fun K "want_make" "Heap.want_make" s_Heap_want_make A.f_Heap_want_make A.d_Heap_want_make
  b_Heap_want_make : Binds K A.d_Heap_want_make ["self", "hand", "slots"] []
  m_Heap_want_make : Meth K A.c_Heap "want_make" A.f_Heap_want_make
  fn_head_word : Fun K "head_word" "head_word" s_head_word A.f_head_word A.d_head_word
  b_head_word : Binds K A.d_head_word ["slots", "age"] []
  g_head_word : mg "head_word" = some (.ref A.f_head_word)
  fn_head_number : Fun K "head_number" "head_number" s_head_number A.f_head_number A.d_head_number
  b_head_number : Binds K A.d_head_number ["memory", "at"] []
  g_head_number : mg "head_number" = some (.ref A.f_head_number)
  fn_Book_rub : Fun K "rub" "Book.rub" s_Book_rub A.f_Book_rub A.d_Book_rub
  b_Book_rub : Binds K A.d_Book_rub ["self", "place"] []
  m_Book_rub : Meth K A.c_Book "rub" A.f_Book_rub
  fn_is_of_young : Fun K "is_of_young" "is_of_young" s_is_of_young A.f_is_of_young A.d_is_of_young
  b_is_of_young : Binds K A.d_is_of_young ["areas", "word"] []
  g_is_of_young : mg "is_of_young" = some (.ref A.f_is_of_young)
  fn_Heap_hold : Fun K "hold" "Heap.hold" s_Heap_hold A.f_Heap_hold A.d_Heap_hold
  b_Heap_hold : Binds K A.d_Heap_hold ["self", "hand", "word"] []
  m_Heap_hold : Meth K A.c_Heap "hold" A.f_Heap_hold
  fn_Heap_cell_of : Fun K "cell_of" "Heap.cell_of" s_Heap_cell_of A.f_Heap_cell_of A.d_Heap_cell_of
  b_Heap_cell_of : Binds K A.d_Heap_cell_of ["self", "hand"] []
  m_Heap_cell_of : Meth K A.c_Heap "cell_of" A.f_Heap_cell_of
  fn_lay : Fun K "lay" "lay" s_lay A.f_lay A.d_lay
  b_lay : Binds K A.d_lay ["memory", "at", "slots"] []
  g_lay : mg "lay" = some (.ref A.f_lay)
  fn_slots_of : Fun K "slots_of" "slots_of" s_slots_of A.f_slots_of A.d_slots_of
  b_slots_of : Binds K A.d_slots_of ["memory", "at"] []
  g_slots_of : mg "slots_of" = some (.ref A.f_slots_of)
  fn_Heap_init : Fun K "__init__" "Heap.__init__" s_Heap_init A.f_Heap_init A.d_Heap_init
  b_Heap_init : Binds K A.d_Heap_init ["self", "hands", "old_words", "young_words"] []
  fn_Heap_drop : Fun K "drop" "Heap.drop" s_Heap_drop A.f_Heap_drop A.d_Heap_drop
  b_Heap_drop : Binds K A.d_Heap_drop ["self", "hand"] []
  m_Heap_drop : Meth K A.c_Heap "drop" A.f_Heap_drop
  fn_Heap_note : Fun K "note" "Heap.note" s_Heap_note A.f_Heap_note A.d_Heap_note
  b_Heap_note : Binds K A.d_Heap_note ["self", "place", "word"] []
  m_Heap_note : Meth K A.c_Heap "note" A.f_Heap_note
  fn_aged : Fun K "aged" "aged" s_aged A.f_aged A.d_aged
  b_aged : Binds K A.d_aged ["memory", "at", "age"] []
  g_aged : mg "aged" = some (.ref A.f_aged)
  fn_slot_place : Fun K "slot_place" "slot_place" s_slot_place A.f_slot_place A.d_slot_place
  b_slot_place : Binds K A.d_slot_place ["memory", "at", "slot"] []
  g_slot_place : mg "slot_place" = some (.ref A.f_slot_place)
  fn_Areas_lay_into : Fun K "lay_into" "Areas.lay_into" s_Areas_lay_into A.f_Areas_lay_into A.d_Areas_lay_into
  b_Areas_lay_into : Binds K A.d_Areas_lay_into ["self", "space", "slots", "age"] []
  m_Areas_lay_into : Meth K A.c_Areas "lay_into" A.f_Areas_lay_into
  fn_Heap_place_of : Fun K "place_of" "Heap.place_of" s_Heap_place_of A.f_Heap_place_of A.d_Heap_place_of
  b_Heap_place_of : Binds K A.d_Heap_place_of ["self", "hand", "slot"] []
  m_Heap_place_of : Meth K A.c_Heap "place_of" A.f_Heap_place_of
  fn__law_is_heap : Fun K "_law_is_heap" "_law_is_heap" s__law_is_heap A.f__law_is_heap A.d__law_is_heap
  b__law_is_heap : Binds K A.d__law_is_heap ["_law_hands", "_law_old_words", "_law_young_words"] []
  g__law_is_heap : mg "_law_is_heap" = some (.ref A.f__law_is_heap)
  fn_Areas_lay_young : Fun K "lay_young" "Areas.lay_young" s_Areas_lay_young A.f_Areas_lay_young A.d_Areas_lay_young
  b_Areas_lay_young : Binds K A.d_Areas_lay_young ["self", "slots"] []
  m_Areas_lay_young : Meth K A.c_Areas "lay_young" A.f_Areas_lay_young
  fn_Areas_lay_old : Fun K "lay_old" "Areas.lay_old" s_Areas_lay_old A.f_Areas_lay_old A.d_Areas_lay_old
  b_Areas_lay_old : Binds K A.d_Areas_lay_old ["self", "slots"] []
  m_Areas_lay_old : Meth K A.c_Areas "lay_old" A.f_Areas_lay_old
  fn_Heap_get : Fun K "get" "Heap.get" s_Heap_get A.f_Heap_get A.d_Heap_get
  b_Heap_get : Binds K A.d_Heap_get ["self", "hand", "slot"] []
  m_Heap_get : Meth K A.c_Heap "get" A.f_Heap_get
  fn_Heap_put : Fun K "put" "Heap.put" s_Heap_put A.f_Heap_put A.d_Heap_put
  b_Heap_put : Binds K A.d_Heap_put ["self", "hand", "slot", "word"] []
  m_Heap_put : Meth K A.c_Heap "put" A.f_Heap_put
  fn_Heap_make : Fun K "make" "Heap.make" s_Heap_make A.f_Heap_make A.d_Heap_make
  b_Heap_make : Binds K A.d_Heap_make ["self", "hand", "slots"] []
  m_Heap_make : Meth K A.c_Heap "make" A.f_Heap_make
  fn__law_state : Fun K "_law_state" "_law_state" s__law_state A.f__law_state A.d__law_state
  b__law_state : Binds K A.d__law_state ["_law_heap"] []
  g__law_state : mg "_law_state" = some (.ref A.f__law_state)
  fn__law_call : Fun K "_law_call" "_law_call" s__law_call A.f__law_call A.d__law_call
  b__law_call : Binds K A.d__law_call ["_law_heap", "_law_way", "_law_hand", "_law_thing", "_law_word"] []
  g__law_call : mg "_law_call" = some (.ref A.f__law_call)
  fn_law : Fun K "law" "law" s_law A.f_law A.d_law
  b_law : Binds K A.d_law ["_law_script"] []
  g_law : mg "law" = some (.ref A.f_law)
  g_Memory : mg "Memory" = some (.ref A.c_Memory)
  cl_Memory : Cls K A.c_Memory
  mk_Memory : Mk K A.c_Memory A.f_Memory_init
  na_Memory_size : NoAttr K A.c_Memory "size"
  na_Memory_words : NoAttr K A.c_Memory "words"
  g_Space : mg "Space" = some (.ref A.c_Space)
  cl_Space : Cls K A.c_Space
  mk_Space : Mk K A.c_Space A.f_Space_init
  na_Space_begin : NoAttr K A.c_Space "begin"
  na_Space_end : NoAttr K A.c_Space "end"
  na_Space_top : NoAttr K A.c_Space "top"
  g_Areas : mg "Areas" = some (.ref A.c_Areas)
  cl_Areas : Cls K A.c_Areas
  mk_Areas : Mk K A.c_Areas A.f_Areas_init
  na_Areas_memory : NoAttr K A.c_Areas "memory"
  na_Areas_old : NoAttr K A.c_Areas "old"
  na_Areas_young : NoAttr K A.c_Areas "young"
  na_Areas_spare : NoAttr K A.c_Areas "spare"
  g_Book : mg "Book" = some (.ref A.c_Book)
  cl_Book : Cls K A.c_Book
  mk_Book : Mk K A.c_Book A.f_Book_init
  na_Book_written : NoAttr K A.c_Book "written"
  g_Hands : mg "Hands" = some (.ref A.c_Hands)
  cl_Hands : Cls K A.c_Hands
  mk_Hands : Mk K A.c_Hands A.f_Hands_init
  na_Hands_words : NoAttr K A.c_Hands "words"
  g_Lasts : mg "Lasts" = some (.ref A.c_Lasts)
  cl_Lasts : Cls K A.c_Lasts
  mk_Lasts : Mk K A.c_Lasts A.f_Lasts_init
  na_Lasts_waiting : NoAttr K A.c_Lasts "waiting"
  na_Lasts_spoken : NoAttr K A.c_Lasts "spoken"
  g_Weak : mg "Weak" = some (.ref A.c_Weak)
  cl_Weak : Cls K A.c_Weak
  mk_Weak : Mk K A.c_Weak A.f_Weak_init
  na_Weak_told : NoAttr K A.c_Weak "told"
  g_Roots : mg "Roots" = some (.ref A.c_Roots)
  cl_Roots : Cls K A.c_Roots
  mk_Roots : Mk K A.c_Roots A.f_Roots_init
  na_Roots_hands : NoAttr K A.c_Roots "hands"
  na_Roots_book : NoAttr K A.c_Roots "book"
  na_Roots_weaks : NoAttr K A.c_Roots "weaks"
  na_Roots_lasts : NoAttr K A.c_Roots "lasts"
  g_Heap : mg "Heap" = some (.ref A.c_Heap)
  cl_Heap : Cls K A.c_Heap
  mk_Heap : Mk K A.c_Heap A.f_Heap_init
  na_Heap_roots : NoAttr K A.c_Heap "roots"
  na_Heap_areas : NoAttr K A.c_Heap "areas"
  v_NOTHING : Gv mg "NOTHING" (.int (-1))
  v_MOST_NUMBER : Gv mg "MOST_NUMBER" (.int (1000000000000))
  v_MOST_PLACE : Gv mg "MOST_PLACE" (.int (9999))
  v_MOST_SLOTS : Gv mg "MOST_SLOTS" (.int (8))
  v_MOST_AGE : Gv mg "MOST_AGE" (.int (2))
  v_MOST_WORDS : Gv mg "MOST_WORDS" (.int (4000))
  v_LEAST_OLD_WORDS : Gv mg "LEAST_OLD_WORDS" (.int (4))
  v_MOST_OLD_WORDS : Gv mg "MOST_OLD_WORDS" (.int (2000))
  v_LEAST_YOUNG_WORDS : Gv mg "LEAST_YOUNG_WORDS" (.int (2))
  v_MOST_YOUNG_WORDS : Gv mg "MOST_YOUNG_WORDS" (.int (500))
  v_MOST_HANDS : Gv mg "MOST_HANDS" (.int (6))
  g_KeepError : mg "KeepError" = some (.ref A.c_KeepError)
  v_KeepError : Gv mg "KeepError" (.ref A.c_KeepError)
  g_BadNumber : mg "BadNumber" = some (.ref A.c_BadNumber)
  v_BadNumber : Gv mg "BadNumber" (.ref A.c_BadNumber)
  g_BadWord : mg "BadWord" = some (.ref A.c_BadWord)
  v_BadWord : Gv mg "BadWord" (.ref A.c_BadWord)
  g_BadCount : mg "BadCount" = some (.ref A.c_BadCount)
  v_BadCount : Gv mg "BadCount" (.ref A.c_BadCount)
  g_NoPlace : mg "NoPlace" = some (.ref A.c_NoPlace)
  v_NoPlace : Gv mg "NoPlace" (.ref A.c_NoPlace)
  g_NoRoom : mg "NoRoom" = some (.ref A.c_NoRoom)
  v_NoRoom : Gv mg "NoRoom" (.ref A.c_NoRoom)
  g_NoSlot : mg "NoSlot" = some (.ref A.c_NoSlot)
  v_NoSlot : Gv mg "NoSlot" (.ref A.c_NoSlot)
  g_NoCell : mg "NoCell" = some (.ref A.c_NoCell)
  v_NoCell : Gv mg "NoCell" (.ref A.c_NoCell)
  g_NoHand : mg "NoHand" = some (.ref A.c_NoHand)
  v_NoHand : Gv mg "NoHand" (.ref A.c_NoHand)
  g_NothingHeld : mg "NothingHeld" = some (.ref A.c_NothingHeld)
  v_NothingHeld : Gv mg "NothingHeld" (.ref A.c_NothingHeld)
  g_NoName : mg "NoName" = some (.ref A.c_NoName)
  v_NoName : Gv mg "NoName" (.ref A.c_NoName)
  g_NoDeed : mg "NoDeed" = some (.ref A.c_NoDeed)
  v_NoDeed : Gv mg "NoDeed" (.ref A.c_NoDeed)
  g_NoImage : mg "NoImage" = some (.ref A.c_NoImage)
  v_NoImage : Gv mg "NoImage" (.ref A.c_NoImage)
  g_NoProgram : mg "NoProgram" = some (.ref A.c_NoProgram)
  v_NoProgram : Gv mg "NoProgram" (.ref A.c_NoProgram)
  x_BadCount : ExcC K A.c_BadCount
  ki_BadCount : KiE K A.c_BadCount
  em_BadCount_KeepError : PySem.W.exmOne K (.ref A.c_BadCount) (.ref A.c_KeepError) = some true
  k2_BadCount_BadCount : PySem.W.kitOne K (.ref A.c_BadCount) (.ref A.c_BadCount) = some true
  k2_BadCount_BadWord : PySem.W.kitOne K (.ref A.c_BadCount) (.ref A.c_BadWord) = some false
  k2_BadCount_NoHand : PySem.W.kitOne K (.ref A.c_BadCount) (.ref A.c_NoHand) = some false
  k2_BadCount_NoSlot : PySem.W.kitOne K (.ref A.c_BadCount) (.ref A.c_NoSlot) = some false
  k2_BadCount_NothingHeld : PySem.W.kitOne K (.ref A.c_BadCount) (.ref A.c_NothingHeld) = some false
  k2_BadCount_BadNumber : PySem.W.kitOne K (.ref A.c_BadCount) (.ref A.c_BadNumber) = some false
  k2_BadCount_NoCell : PySem.W.kitOne K (.ref A.c_BadCount) (.ref A.c_NoCell) = some false
  k2_BadCount_NoDeed : PySem.W.kitOne K (.ref A.c_BadCount) (.ref A.c_NoDeed) = some false
  k2_BadCount_NoImage : PySem.W.kitOne K (.ref A.c_BadCount) (.ref A.c_NoImage) = some false
  k2_BadCount_NoName : PySem.W.kitOne K (.ref A.c_BadCount) (.ref A.c_NoName) = some false
  k2_BadCount_NoPlace : PySem.W.kitOne K (.ref A.c_BadCount) (.ref A.c_NoPlace) = some false
  k2_BadCount_NoProgram : PySem.W.kitOne K (.ref A.c_BadCount) (.ref A.c_NoProgram) = some false
  k2_BadCount_NoRoom : PySem.W.kitOne K (.ref A.c_BadCount) (.ref A.c_NoRoom) = some false
  k2_BadCount_ValueError : PySem.W.kitOne K (.ref A.c_BadCount) (.type "ValueError") = some true
  x_BadNumber : ExcC K A.c_BadNumber
  ki_BadNumber : KiE K A.c_BadNumber
  em_BadNumber_KeepError : PySem.W.exmOne K (.ref A.c_BadNumber) (.ref A.c_KeepError) = some true
  x_BadWord : ExcC K A.c_BadWord
  ki_BadWord : KiE K A.c_BadWord
  em_BadWord_KeepError : PySem.W.exmOne K (.ref A.c_BadWord) (.ref A.c_KeepError) = some true
  k2_BadWord_BadCount : PySem.W.kitOne K (.ref A.c_BadWord) (.ref A.c_BadCount) = some false
  k2_BadWord_BadWord : PySem.W.kitOne K (.ref A.c_BadWord) (.ref A.c_BadWord) = some true
  k2_BadWord_NoHand : PySem.W.kitOne K (.ref A.c_BadWord) (.ref A.c_NoHand) = some false
  k2_BadWord_NoSlot : PySem.W.kitOne K (.ref A.c_BadWord) (.ref A.c_NoSlot) = some false
  k2_BadWord_NothingHeld : PySem.W.kitOne K (.ref A.c_BadWord) (.ref A.c_NothingHeld) = some false
  k2_BadWord_BadNumber : PySem.W.kitOne K (.ref A.c_BadWord) (.ref A.c_BadNumber) = some false
  k2_BadWord_NoCell : PySem.W.kitOne K (.ref A.c_BadWord) (.ref A.c_NoCell) = some false
  k2_BadWord_NoDeed : PySem.W.kitOne K (.ref A.c_BadWord) (.ref A.c_NoDeed) = some false
  k2_BadWord_NoImage : PySem.W.kitOne K (.ref A.c_BadWord) (.ref A.c_NoImage) = some false
  k2_BadWord_NoName : PySem.W.kitOne K (.ref A.c_BadWord) (.ref A.c_NoName) = some false
  k2_BadWord_NoPlace : PySem.W.kitOne K (.ref A.c_BadWord) (.ref A.c_NoPlace) = some false
  k2_BadWord_NoProgram : PySem.W.kitOne K (.ref A.c_BadWord) (.ref A.c_NoProgram) = some false
  k2_BadWord_NoRoom : PySem.W.kitOne K (.ref A.c_BadWord) (.ref A.c_NoRoom) = some false
  k2_BadWord_ValueError : PySem.W.kitOne K (.ref A.c_BadWord) (.type "ValueError") = some true
  x_NoCell : ExcC K A.c_NoCell
  ki_NoCell : KiE K A.c_NoCell
  em_NoCell_KeepError : PySem.W.exmOne K (.ref A.c_NoCell) (.ref A.c_KeepError) = some true
  x_NoHand : ExcC K A.c_NoHand
  ki_NoHand : KiE K A.c_NoHand
  em_NoHand_KeepError : PySem.W.exmOne K (.ref A.c_NoHand) (.ref A.c_KeepError) = some true
  k2_NoHand_BadCount : PySem.W.kitOne K (.ref A.c_NoHand) (.ref A.c_BadCount) = some false
  k2_NoHand_BadWord : PySem.W.kitOne K (.ref A.c_NoHand) (.ref A.c_BadWord) = some false
  k2_NoHand_NoHand : PySem.W.kitOne K (.ref A.c_NoHand) (.ref A.c_NoHand) = some true
  k2_NoHand_NoSlot : PySem.W.kitOne K (.ref A.c_NoHand) (.ref A.c_NoSlot) = some false
  k2_NoHand_NothingHeld : PySem.W.kitOne K (.ref A.c_NoHand) (.ref A.c_NothingHeld) = some false
  k2_NoHand_BadNumber : PySem.W.kitOne K (.ref A.c_NoHand) (.ref A.c_BadNumber) = some false
  k2_NoHand_NoCell : PySem.W.kitOne K (.ref A.c_NoHand) (.ref A.c_NoCell) = some false
  k2_NoHand_NoDeed : PySem.W.kitOne K (.ref A.c_NoHand) (.ref A.c_NoDeed) = some false
  k2_NoHand_NoImage : PySem.W.kitOne K (.ref A.c_NoHand) (.ref A.c_NoImage) = some false
  k2_NoHand_NoName : PySem.W.kitOne K (.ref A.c_NoHand) (.ref A.c_NoName) = some false
  k2_NoHand_NoPlace : PySem.W.kitOne K (.ref A.c_NoHand) (.ref A.c_NoPlace) = some false
  k2_NoHand_NoProgram : PySem.W.kitOne K (.ref A.c_NoHand) (.ref A.c_NoProgram) = some false
  k2_NoHand_NoRoom : PySem.W.kitOne K (.ref A.c_NoHand) (.ref A.c_NoRoom) = some false
  k2_NoHand_ValueError : PySem.W.kitOne K (.ref A.c_NoHand) (.type "ValueError") = some true
  x_NoPlace : ExcC K A.c_NoPlace
  ki_NoPlace : KiE K A.c_NoPlace
  em_NoPlace_KeepError : PySem.W.exmOne K (.ref A.c_NoPlace) (.ref A.c_KeepError) = some true
  x_NoRoom : ExcC K A.c_NoRoom
  ki_NoRoom : KiE K A.c_NoRoom
  em_NoRoom_KeepError : PySem.W.exmOne K (.ref A.c_NoRoom) (.ref A.c_KeepError) = some true
  x_NoSlot : ExcC K A.c_NoSlot
  ki_NoSlot : KiE K A.c_NoSlot
  em_NoSlot_KeepError : PySem.W.exmOne K (.ref A.c_NoSlot) (.ref A.c_KeepError) = some true
  k2_NoSlot_BadCount : PySem.W.kitOne K (.ref A.c_NoSlot) (.ref A.c_BadCount) = some false
  k2_NoSlot_BadWord : PySem.W.kitOne K (.ref A.c_NoSlot) (.ref A.c_BadWord) = some false
  k2_NoSlot_NoHand : PySem.W.kitOne K (.ref A.c_NoSlot) (.ref A.c_NoHand) = some false
  k2_NoSlot_NoSlot : PySem.W.kitOne K (.ref A.c_NoSlot) (.ref A.c_NoSlot) = some true
  k2_NoSlot_NothingHeld : PySem.W.kitOne K (.ref A.c_NoSlot) (.ref A.c_NothingHeld) = some false
  k2_NoSlot_BadNumber : PySem.W.kitOne K (.ref A.c_NoSlot) (.ref A.c_BadNumber) = some false
  k2_NoSlot_NoCell : PySem.W.kitOne K (.ref A.c_NoSlot) (.ref A.c_NoCell) = some false
  k2_NoSlot_NoDeed : PySem.W.kitOne K (.ref A.c_NoSlot) (.ref A.c_NoDeed) = some false
  k2_NoSlot_NoImage : PySem.W.kitOne K (.ref A.c_NoSlot) (.ref A.c_NoImage) = some false
  k2_NoSlot_NoName : PySem.W.kitOne K (.ref A.c_NoSlot) (.ref A.c_NoName) = some false
  k2_NoSlot_NoPlace : PySem.W.kitOne K (.ref A.c_NoSlot) (.ref A.c_NoPlace) = some false
  k2_NoSlot_NoProgram : PySem.W.kitOne K (.ref A.c_NoSlot) (.ref A.c_NoProgram) = some false
  k2_NoSlot_NoRoom : PySem.W.kitOne K (.ref A.c_NoSlot) (.ref A.c_NoRoom) = some false
  k2_NoSlot_ValueError : PySem.W.kitOne K (.ref A.c_NoSlot) (.type "ValueError") = some true
  x_NothingHeld : ExcC K A.c_NothingHeld
  ki_NothingHeld : KiE K A.c_NothingHeld
  em_NothingHeld_KeepError : PySem.W.exmOne K (.ref A.c_NothingHeld) (.ref A.c_KeepError) = some true
  k2_NothingHeld_BadCount : PySem.W.kitOne K (.ref A.c_NothingHeld) (.ref A.c_BadCount) = some false
  k2_NothingHeld_BadWord : PySem.W.kitOne K (.ref A.c_NothingHeld) (.ref A.c_BadWord) = some false
  k2_NothingHeld_NoHand : PySem.W.kitOne K (.ref A.c_NothingHeld) (.ref A.c_NoHand) = some false
  k2_NothingHeld_NoSlot : PySem.W.kitOne K (.ref A.c_NothingHeld) (.ref A.c_NoSlot) = some false
  k2_NothingHeld_NothingHeld : PySem.W.kitOne K (.ref A.c_NothingHeld) (.ref A.c_NothingHeld) = some true
  k2_NothingHeld_BadNumber : PySem.W.kitOne K (.ref A.c_NothingHeld) (.ref A.c_BadNumber) = some false
  k2_NothingHeld_NoCell : PySem.W.kitOne K (.ref A.c_NothingHeld) (.ref A.c_NoCell) = some false
  k2_NothingHeld_NoDeed : PySem.W.kitOne K (.ref A.c_NothingHeld) (.ref A.c_NoDeed) = some false
  k2_NothingHeld_NoImage : PySem.W.kitOne K (.ref A.c_NothingHeld) (.ref A.c_NoImage) = some false
  k2_NothingHeld_NoName : PySem.W.kitOne K (.ref A.c_NothingHeld) (.ref A.c_NoName) = some false
  k2_NothingHeld_NoPlace : PySem.W.kitOne K (.ref A.c_NothingHeld) (.ref A.c_NoPlace) = some false
  k2_NothingHeld_NoProgram : PySem.W.kitOne K (.ref A.c_NothingHeld) (.ref A.c_NoProgram) = some false
  k2_NothingHeld_NoRoom : PySem.W.kitOne K (.ref A.c_NothingHeld) (.ref A.c_NoRoom) = some false
  k2_NothingHeld_ValueError : PySem.W.kitOne K (.ref A.c_NothingHeld) (.type "ValueError") = some true
  kt_NoneType_int : PySem.W.kitOne K (.type "NoneType") (.type "int") = some false
  kt_NoneType_bool : PySem.W.kitOne K (.type "NoneType") (.type "bool") = some false
  kt_bool_int : PySem.W.kitOne K (.type "bool") (.type "int") = some true
  kt_bool_bool : PySem.W.kitOne K (.type "bool") (.type "bool") = some true
  kt_int_int : PySem.W.kitOne K (.type "int") (.type "int") = some true
  kt_int_bool : PySem.W.kitOne K (.type "int") (.type "bool") = some false
  kt_str_int : PySem.W.kitOne K (.type "str") (.type "int") = some false
  kt_str_bool : PySem.W.kitOne K (.type "str") (.type "bool") = some false
  kt_list_int : PySem.W.kitOne K (.type "list") (.type "int") = some false
  kt_list_bool : PySem.W.kitOne K (.type "list") (.type "bool") = some false
  kt_tuple_int : PySem.W.kitOne K (.type "tuple") (.type "int") = some false
  kt_tuple_bool : PySem.W.kitOne K (.type "tuple") (.type "bool") = some false
  kt_dict_int : PySem.W.kitOne K (.type "dict") (.type "int") = some false
  kt_dict_bool : PySem.W.kitOne K (.type "dict") (.type "bool") = some false
  n_ValueError : mg "ValueError" = none
  n_bool : mg "bool" = none
  n_int : mg "int" = none
  n_isinstance : mg "isinstance" = none
  n_len : mg "len" = none
  n_range : mg "range" = none
  n_sorted : mg "sorted" = none
section
variable {P : Program} {w : World} {K : PySem.W.Frag} {mg : Str → Option Value} {base : Heap} {A : Ad}
theorem kn_ty (T : Txt K mg A) {H : Hp} {v : V} (h : Kn H v) : ∃ t, tyo H v = some t ∧ OkTy K H v ∧ PySem.W.kitOne K t (.type "int") = some (isI v || isB v) ∧ PySem.W.kitOne K t (.type "bool") = some (isB v) := by
  cases v with
  | non => exact ⟨_, rfl, True.intro, T.kt_NoneType_int, T.kt_NoneType_bool⟩
  | bl b => exact ⟨_, rfl, True.intro, T.kt_bool_int, T.kt_bool_bool⟩
  | int i => exact ⟨_, rfl, True.intro, T.kt_int_int, T.kt_int_bool⟩
  | str x => exact ⟨_, rfl, True.intro, T.kt_str_int, T.kt_str_bool⟩
  | ref a =>
    rcases h with ⟨xs, e⟩ | ⟨xs, e⟩ | ⟨xs, e⟩
    · exact ⟨.type "list", by simp [tyo, e], by simp [OkTy, e], T.kt_list_int, T.kt_list_bool⟩
    · exact ⟨.type "tuple", by simp [tyo, e], by simp [OkTy, e], T.kt_tuple_int, T.kt_tuple_bool⟩
    · exact ⟨.type "dict", by simp [tyo, e], by simp [OkTy, e], T.kt_dict_int, T.kt_dict_bool⟩
  | byt b => exact h.elim
  | flt b => exact h.elim
  | ty n => exact h.elim
def sp_is_whole : Sp := fun vs H Q _ => ∃ v, vs = [v] ∧ Kn H v ∧ Q (.bl (isI v)) H
theorem sc_is_whole : FnScope ["thing"] ["thing"] (defScope s_is_whole) := ⟨rfl, rfl, rfl, by decide +kernel, rfl, by decide +kernel, by decide +kernel⟩
theorem ok_is_whole {ca : Bool} (T : Txt K mg A) : FnOk P w K mg base (CXE P w) ca 1 A.f_is_whole A.d_is_whole ["thing"] sp_is_whole := by
  refine T.fn_is_whole.okE sc_is_whole (fun vs H Q E h => ?_) (fun cdv A' outer s H vs Q E hr hx h => ?_)
  · obtain ⟨v, rfl, hk, q⟩ := h
    rfl
  · obtain ⟨v, rfl, hk, q⟩ := h
    refine ⟨_, JSs.run (j_pss_one (j_ps_ret (j_pe_and (j_pe_callBF j_call_isi (by rfl) T.n_isinstance PyProof.Rows.Boot.«isinstance» (j_pa_c (j_cv 0) (j_pa_c (j_pe_ty T.n_int PyProof.Rows.Boot.«int») j_pa_nil))) (j_pe_one (j_pe_not (j_pe_callBF j_call_isi (by rfl) T.n_isinstance PyProof.Rows.Boot.«isinstance» (j_pa_c (j_cv 0) (j_pa_c (j_pe_ty T.n_bool PyProof.Rows.Boot.«bool») j_pa_nil)))))))), ?_⟩
    obtain ⟨t, h1, h2, h3, h4⟩ := kn_ty T hk
    simp only [tRet, tAndV, tNotV, tCB, tCons, tNil, tC, cVar, rIsi, kitV, cxOf_K, Int.reduceAdd, L2.start, List.map_cons, List.map_nil, List.length_cons, List.length_nil, List.replicate, List.append_nil, List.getElem?_cons_zero, V.int.injEq, V.bl.injEq, V.str.injEq, V.ref.injEq, V.ty.injEq, List.cons.injEq, Option.some.injEq, true_and, exists_eq_left', Nat.reduceAdd, Nat.sub_self, h1, h2, h3, h4]
    cases v <;> simpa [isI, isB] using q
def sp_Space_init (A : Ad) : Sp := fun vs H Q _ => ∃ p dx b e, vs = [.ref p, .int b, .int e] ∧ H p = some (.ins A.c_Space dx []) ∧ Q .non (upd H p (.ins A.c_Space dx (sfl b e b)))
theorem sc_Space_init : FnScope ["self", "begin", "end"] ["self", "begin", "end"] (defScope s_Space_init) := ⟨rfl, rfl, rfl, by decide +kernel, rfl, by decide +kernel, by decide +kernel⟩
theorem ok_Space_init {ca : Bool} (T : Txt K mg A) : FnOk P w K mg base (CXE P w) ca 1 A.f_Space_init A.d_Space_init ["self", "begin", "end"] (sp_Space_init A) := by
  refine T.fn_Space_init.okE sc_Space_init (fun vs H Q E h => ?_) (fun cdv A' outer s H vs Q E hr hx h => ?_)
  · obtain ⟨p, dx, b, e, rfl, hp, q⟩ := h
    rfl
  · obtain ⟨p, dx, b, e, rfl, hp, q⟩ := h
    refine ⟨_, JSs.run (j_pss_cons (j_c_sfld (j_cv 0) (j_cv 1) rfl)
      (j_pss_cons (j_c_sfld (j_cv 0) (j_cv 2) rfl)
      (j_pss_one (j_c_sfld (j_cv 0) (j_cv 1) rfl)))), ?_⟩
    simp only [tSeq, cVar, cxOf_K, Int.reduceLT, Int.reduceEq, Nat.reduceLT, Int.reduceAdd, ofs_inj, String.reduceEq, upd_same, cSFld, L2.start, List.map_cons, List.map_nil, List.length_cons, List.length_nil, List.replicate, List.append_nil, List.getElem?_cons_zero, List.getElem?_cons_succ, true_and, ite_false, Nat.reduceAdd, Nat.sub_self, hp, T.cl_Space, T.na_Space_begin, T.na_Space_end, T.na_Space_top, putF, upd_upd]
    exact q
def sp_Space_room (A : Ad) : Sp := fun vs H Q _ => ∃ p dx b e t, vs = [.ref p] ∧ H p = some (.ins A.c_Space dx (sfl b e t)) ∧ Q (.int (e - t)) H
theorem sc_Space_room : FnScope ["self"] ["self"] (defScope s_Space_room) := ⟨rfl, rfl, rfl, by decide +kernel, rfl, by decide +kernel, by decide +kernel⟩
theorem ok_Space_room {ca : Bool} (T : Txt K mg A) : FnOk P w K mg base (CXE P w) ca 1 A.f_Space_room A.d_Space_room ["self"] (sp_Space_room A) := by
  refine T.fn_Space_room.okE sc_Space_room (fun vs H Q E h => ?_) (fun cdv A' outer s H vs Q E hr hx h => ?_)
  · obtain ⟨p, dx, b, e, t, rfl, hp, q⟩ := h
    rfl
  · obtain ⟨p, dx, b, e, t, rfl, hp, q⟩ := h
    refine ⟨_, JSs.run (j_pss_one (j_ps_ret (j_pe_op j_c_sub (j_c_fld (j_cv 0) rfl) (j_c_fld (j_cv 0) rfl)))), ?_⟩
    simp only [tRet, tOp, cVar, cSub, cxOf_K, Int.reduceAdd, cFld, L2.start, List.map_cons, List.map_nil, List.length_cons, List.length_nil, List.replicate, List.append_nil, List.getElem?_cons_zero, true_and, Nat.reduceAdd, Nat.sub_self, hp, T.cl_Space, T.na_Space_end, T.na_Space_top, sfl_e, sfl_t]
    exact q
def sp_Space_extent (A : Ad) : Sp := fun vs H Q _ => ∃ p dx b e t, vs = [.ref p] ∧ H p = some (.ins A.c_Space dx (sfl b e t)) ∧ Q (.int (e - b)) H
theorem sc_Space_extent : FnScope ["self"] ["self"] (defScope s_Space_extent) := ⟨rfl, rfl, rfl, by decide +kernel, rfl, by decide +kernel, by decide +kernel⟩
theorem ok_Space_extent {ca : Bool} (T : Txt K mg A) : FnOk P w K mg base (CXE P w) ca 1 A.f_Space_extent A.d_Space_extent ["self"] (sp_Space_extent A) := by
  refine T.fn_Space_extent.okE sc_Space_extent (fun vs H Q E h => ?_) (fun cdv A' outer s H vs Q E hr hx h => ?_)
  · obtain ⟨p, dx, b, e, t, rfl, hp, q⟩ := h
    rfl
  · obtain ⟨p, dx, b, e, t, rfl, hp, q⟩ := h
    refine ⟨_, JSs.run (j_pss_one (j_ps_ret (j_pe_op j_c_sub (j_c_fld (j_cv 0) rfl) (j_c_fld (j_cv 0) rfl)))), ?_⟩
    simp only [tRet, tOp, cVar, cSub, cxOf_K, Int.reduceAdd, cFld, L2.start, List.map_cons, List.map_nil, List.length_cons, List.length_nil, List.replicate, List.append_nil, List.getElem?_cons_zero, true_and, Nat.reduceAdd, Nat.sub_self, hp, T.cl_Space, T.na_Space_end, T.na_Space_begin, sfl_e, sfl_b]
    exact q
def sp_Book_init (A : Ad) : Sp := fun vs H Q _ => ∃ p dx, vs = [.ref p] ∧ H p = some (.ins A.c_Book dx []) ∧ ∀ d H', H d = none → BkAt A.c_Book H' p d [] → (∀ y o, y ≠ p → H y = some o → H' y = some o) → Q .non H'
theorem sc_Book_init : FnScope ["self"] ["self"] (defScope s_Book_init) := ⟨rfl, rfl, rfl, by decide +kernel, rfl, by decide +kernel, by decide +kernel⟩
theorem ok_Book_init {ca : Bool} (T : Txt K mg A) : FnOk P w K mg base (CXE P w) ca 1 A.f_Book_init A.d_Book_init ["self"] (sp_Book_init A) := by
  refine T.fn_Book_init.okE sc_Book_init (fun vs H Q E h => ?_) (fun cdv A' outer s H vs Q E hr hx h => ?_)
  · obtain ⟨p, dx, rfl, hp, h⟩ := h
    rfl
  · obtain ⟨p, dx, rfl, hp, h⟩ := h
    refine ⟨_, JSs.run (j_pss_one (j_c_sfld (j_cv 0) j_pe_dnewK rfl)), ?_⟩
    simp only [cVar, tDNewK, cxOf_K, Int.reduceAdd, cSFld, L2.start, List.map_cons, List.map_nil, List.length_cons, List.length_nil, List.replicate, List.append_nil, List.getElem?_cons_zero, Nat.reduceAdd, Nat.sub_self]
    intro d hd
    have npd := ne_of_none hp hd
    have e : upd H d (.dK []) p = some (.ins A.c_Book dx []) := by rw [upd_ne npd]; exact hp
    simp only [Int.reduceLT, Nat.reduceLT, List.length_nil, true_and, e, T.cl_Book, T.na_Book_written, bfl_mk]
    exact h d _ hd ⟨⟨dx, upd_same⟩, by rw [upd_ne (Ne.symm npd), upd_same]; rfl⟩ fun y o hy e => by rw [upd_ne hy, upd_ne (ne_of_none e hd)]; exact e
theorem bkv_ints : ∀ {ks : List Int}, intKs (bkv ks) = some ks
  | [] => rfl
  | k :: r => by show (intKs (bkv r)).map _ = _; rw [bkv_ints]; rfl
def sp_Book_places (A : Ad) : Sp := fun vs H Q _ => ∃ p d ks, vs = [.ref p] ∧ BkAt A.c_Book H p d ks ∧ ks.length < 64 ∧ ∀ l, H l = none → Q (.ref l) (upd H l (.lst ((isort ks).map V.int)))
theorem sc_Book_places : FnScope ["self"] ["self"] (defScope s_Book_places) := ⟨rfl, rfl, rfl, by decide +kernel, rfl, by decide +kernel, by decide +kernel⟩
theorem ok_Book_places (T : Txt K mg A) : FnOk P w K mg base (CXE P w) true 1 A.f_Book_places A.d_Book_places ["self"] (sp_Book_places A) := by
  refine T.fn_Book_places.okE sc_Book_places (fun vs H Q E h => ?_) (fun cdv A' outer s H vs Q E hr hx h => ?_)
  · obtain ⟨p, d, ks, rfl, m, hl, h⟩ := h
    rfl
  · obtain ⟨p, d, ks, rfl, m, hl, h⟩ := h
    refine ⟨_, JSs.run (j_pss_one (j_ps_ret (j_pe_callBF (j_c_sortedD (by rfl)) (by rfl) T.n_sorted PyProof.Rows.Boot.«sorted» (j_pa_c (j_c_fld (j_cv 0) rfl) j_pa_nil)))), ?_⟩
    obtain ⟨dx, e⟩ := m.ob
    simp only [tRet, tCB, tCons, tNil, cVar, cxOf_K, Int.reduceAdd, cFld, L2.start, cSortedD, List.map_cons, List.map_nil, List.length_cons, List.length_nil, List.replicate, List.append_nil, List.getElem?_cons_zero, true_and, Nat.reduceAdd, Nat.sub_self, e, T.cl_Book, T.na_Book_written, bfl_w, m.dc, bkv_ints]
    exact ⟨hl, h⟩
def sp_Lasts_init (A : Ad) : Sp := fun vs H Q _ => ∃ p dx, vs = [.ref p] ∧ H p = some (.ins A.c_Lasts dx []) ∧ ∀ H', (∀ y o, y ≠ p → H y = some o → H' y = some o) → Q .non H'
theorem sc_Lasts_init : FnScope ["self"] ["self"] (defScope s_Lasts_init) := ⟨rfl, rfl, rfl, by decide +kernel, rfl, by decide +kernel, by decide +kernel⟩
theorem ok_Lasts_init {ca : Bool} (T : Txt K mg A) : FnOk P w K mg base (CXE P w) ca 1 A.f_Lasts_init A.d_Lasts_init ["self"] (sp_Lasts_init A) := by
  refine T.fn_Lasts_init.okE sc_Lasts_init (fun vs H Q E h => ?_) (fun cdv A' outer s H vs Q E hr hx h => ?_)
  · obtain ⟨p, dx, rfl, hp, h⟩ := h
    rfl
  · obtain ⟨p, dx, rfl, hp, h⟩ := h
    refine ⟨_, JSs.run (j_pss_cons (j_c_sfld (j_cv 0) j_pe_dnewK rfl)
      (j_pss_one (j_c_sfld (j_cv 0) (j_pe_lst j_pa_nil) rfl))), ?_⟩
    simp only [tSeq, tNil, cVar, tLst, tDNewK, cxOf_K, Int.reduceAdd, cSFld, L2.start, List.map_cons, List.map_nil, List.length_cons, List.length_nil, List.replicate, List.append_nil, List.getElem?_cons_zero, true_and, Nat.reduceAdd, Nat.sub_self, sz0]
    intro d hd
    have npd := ne_of_none hp hd
    have e : upd H d (.dK []) p = some (.ins A.c_Lasts dx []) := by rw [upd_ne npd]; exact hp
    simp only [Int.reduceLT, Nat.reduceLT, List.length_nil, true_and, e, T.cl_Lasts, T.na_Lasts_waiting]
    intro q hq
    have nqp : q ≠ p := fun z => by rw [z, upd_same] at hq; cases hq
    have nqd : q ≠ d := fun z => by rw [z, upd_ne (Ne.symm npd), upd_same] at hq; cases hq
    have hq0 : H q = none := by rw [upd_ne nqp, upd_ne nqd] at hq; exact hq
    rw [upd_ne (Ne.symm nqp), upd_same]
    simp only [true_and, T.cl_Lasts, T.na_Lasts_spoken]
    refine ⟨show (1 : Nat) < 1000 by decide, h _ fun y o hy e => ?_⟩
    rw [upd_ne hy, upd_ne (ne_of_none e hq0), upd_ne hy, upd_ne (ne_of_none e hd)]; exact e
def sp_Weak_init (A : Ad) : Sp := fun vs H Q _ => ∃ p dx, vs = [.ref p] ∧ H p = some (.ins A.c_Weak dx []) ∧ ∀ H', (∀ y o, y ≠ p → H y = some o → H' y = some o) → Q .non H'
theorem sc_Weak_init : FnScope ["self"] ["self"] (defScope s_Weak_init) := ⟨rfl, rfl, rfl, by decide +kernel, rfl, by decide +kernel, by decide +kernel⟩
theorem ok_Weak_init {ca : Bool} (T : Txt K mg A) : FnOk P w K mg base (CXE P w) ca 1 A.f_Weak_init A.d_Weak_init ["self"] (sp_Weak_init A) := by
  refine T.fn_Weak_init.okE sc_Weak_init (fun vs H Q E h => ?_) (fun cdv A' outer s H vs Q E hr hx h => ?_)
  · obtain ⟨p, dx, rfl, hp, h⟩ := h
    rfl
  · obtain ⟨p, dx, rfl, hp, h⟩ := h
    refine ⟨_, JSs.run (j_pss_one (j_c_sfld (j_cv 0) (j_pe_lst j_pa_nil) rfl)), ?_⟩
    simp only [tNil, cVar, tLst, cxOf_K, Int.reduceAdd, cSFld, L2.start, List.map_cons, List.map_nil, List.length_cons, List.length_nil, List.replicate, List.append_nil, List.getElem?_cons_zero, true_and, Nat.reduceAdd, Nat.sub_self, sz0]
    intro d hd
    have npd := ne_of_none hp hd
    have e : upd H d (.lst []) p = some (.ins A.c_Weak dx []) := by rw [upd_ne npd]; exact hp
    simp only [Int.reduceLT, Nat.reduceLT, List.length_nil, true_and, e, T.cl_Weak, T.na_Weak_told]
    exact h _ fun y o hy e => by rw [upd_ne hy, upd_ne (ne_of_none e hd)]; exact e
def cat (ns : List Int) (k : Int) : Int := ns.getD k.toNat 0
theorem atI_ints {ns : List Int} {k : Int} (h0 : 0 ≤ k) (h : k < (ns.map V.int).length) : atI (ns.map V.int) k = some (.int (cat ns k)) := by
  obtain ⟨n, rfl⟩ : ∃ n : Nat, k = n := ⟨k.toNat, by omega⟩
  rw [List.length_map] at h
  refine atI_nat ?_
  rw [List.getElem?_map, List.getElem?_eq_getElem (by omega)]
  simp only [cat, Int.toNat_natCast, Option.map_some, List.getD_eq_getElem?_getD, List.getElem?_eq_getElem (show n < ns.length by omega), Option.getD_some]
theorem cat_out {ns : List Int} {k : Int} (h0 : 0 ≤ k) (h : ¬ k < (ns.map V.int).length) : cat ns k = 0 := by
  rw [List.length_map] at h
  unfold cat
  rw [List.getD_eq_getElem?_getD, List.getElem?_eq_none (by omega)]
  rfl
def sp__law_draw (K : PySem.W.Frag) : Sp := fun vs H Q _ => ∃ a ns k, vs = [.ref a, .int k] ∧ SqL K H a (ns.map V.int) ∧ 0 ≤ k ∧ Q (.int (cat ns k)) H
theorem sc__law_draw : FnScope ["_law_script", "_law_k"] ["_law_script", "_law_k"] (defScope s__law_draw) := ⟨rfl, rfl, rfl, by decide +kernel, rfl, by decide +kernel, by decide +kernel⟩
theorem ok__law_draw {ca : Bool} (T : Txt K mg A) : FnOk P w K mg base (CXE P w) ca 1 A.f__law_draw A.d__law_draw ["_law_script", "_law_k"] (sp__law_draw K) := by
  refine T.fn__law_draw.okE sc__law_draw (fun vs H Q E h => ?_) (fun cdv A' outer s H vs Q E hr hx h => ?_)
  · obtain ⟨a, ns, k, rfl, hS, h0, q⟩ := h
    rfl
  · obtain ⟨a, ns, k, rfl, hS, h0, q⟩ := h
    refine ⟨_, JSs.run (j_pss_one (j_ps_ret (j_pe_ifExp (j_pt_cmpR j_c_gt (j_pe_callBF j_c_lenS (by rfl) T.n_len PyProof.Rows.Boot.«len» (j_pa_c (j_cv 0) j_pa_nil)) (j_cv 1) (nomark _)) (j_pe_ix j_c_ixS (j_cv 0) (j_cv 1) (fun _ _ => rfl)) j_pe_int))), ?_⟩
    simp only [tRet, tTest, tOp, tIf, tCB, tCons, tNil, tC, cVar, cGt, cCmp, cIxS, cLenS, cxOf_K, Int.reduceAdd, L2.start, List.map_cons, List.map_nil, List.length_cons, List.length_nil, List.replicate, List.append_nil, List.getElem?_cons_zero, List.getElem?_cons_succ, V.int.injEq, V.bl.injEq, V.str.injEq, V.ref.injEq, V.ty.injEq, List.cons.injEq, Option.some.injEq, exists_eq_left', decide_eq_true_eq, Nat.reduceAdd, Nat.sub_self]
    refine ⟨_, hS, ?_⟩
    split <;> rename_i h
    · refine ⟨_, hS, ?_⟩
      rw [atI_ints h0 h]; exact q
    · rw [cat_out h0 h] at q; exact q
def sp__law_alone (A : Ad) : Sp := fun vs H Q _ => ∃ a, vs = [.ref a] ∧ ((H a = some (.exc (.ref A.c_BadCount)) ∧ ∀ H', Same H H' → Q (.str (Str.ofString "count")) H') ∨ (H a = some (.exc (.ref A.c_BadWord)) ∧ ∀ H', Same H H' → Q (.str (Str.ofString "word")) H') ∨ (H a = some (.exc (.ref A.c_NoHand)) ∧ ∀ H', Same H H' → Q (.str (Str.ofString "hand")) H') ∨ (H a = some (.exc (.ref A.c_NoSlot)) ∧ ∀ H', Same H H' → Q (.str (Str.ofString "slot")) H') ∨ (H a = some (.exc (.ref A.c_NothingHeld)) ∧ ∀ H', Same H H' → Q (.str (Str.ofString "nothing")) H'))
theorem sc__law_alone : FnScope ["_law_e", "_law_found"] ["_law_e"] (defScope s__law_alone) := ⟨rfl, rfl, rfl, by decide +kernel, rfl, by decide +kernel, by decide +kernel⟩
theorem ok__law_alone {ca : Bool} (T : Txt K mg A) : FnOk P w K mg base (CXE P w) ca 1 A.f__law_alone A.d__law_alone ["_law_e"] (sp__law_alone A) := by
  refine T.fn__law_alone.okE sc__law_alone (fun vs H Q E h => ?_) (fun cdv A' outer s H vs Q E hr hx h => ?_)
  · obtain ⟨a, rfl, h⟩ := h
    rfl
  · obtain ⟨a, rfl, h⟩ := h
    refine ⟨_, JSs.run (j_pss_cons (j_ps_set (i := 1) sc__law_alone.nd rfl (by first | exact Or.inl rfl | exact Or.inr rfl) (j_pe_op j_c_add (j_pe_op j_c_mul j_pe_str (j_pe_callTyF j_c_int (by rfl) T.n_int PyProof.Rows.Boot.«int» (j_pa_c (j_pe_callBF j_call_isi (by rfl) T.n_isinstance PyProof.Rows.Boot.«isinstance» (j_pa_c (j_cv 0) (j_pa_c (j_pe_gv T.v_BadCount) j_pa_nil))) j_pa_nil))) (j_pe_op j_c_mul j_pe_str (j_pe_callTyF j_c_int (by rfl) T.n_int PyProof.Rows.Boot.«int» (j_pa_c (j_pe_callBF j_call_isi (by rfl) T.n_isinstance PyProof.Rows.Boot.«isinstance» (j_pa_c (j_cv 0) (j_pa_c (j_pe_gv T.v_BadWord) j_pa_nil))) j_pa_nil)))))
      (j_pss_cons (j_ps_set (i := 1) sc__law_alone.nd rfl (by first | exact Or.inl rfl | exact Or.inr rfl) (j_pe_op j_c_add (j_pe_op j_c_add (j_cv 1) (j_pe_op j_c_mul j_pe_str (j_pe_callTyF j_c_int (by rfl) T.n_int PyProof.Rows.Boot.«int» (j_pa_c (j_pe_callBF j_call_isi (by rfl) T.n_isinstance PyProof.Rows.Boot.«isinstance» (j_pa_c (j_cv 0) (j_pa_c (j_pe_gv T.v_NoHand) j_pa_nil))) j_pa_nil)))) (j_pe_op j_c_mul j_pe_str (j_pe_callTyF j_c_int (by rfl) T.n_int PyProof.Rows.Boot.«int» (j_pa_c (j_pe_callBF j_call_isi (by rfl) T.n_isinstance PyProof.Rows.Boot.«isinstance» (j_pa_c (j_cv 0) (j_pa_c (j_pe_gv T.v_NoSlot) j_pa_nil))) j_pa_nil)))))
      (j_pss_cons (j_ps_set (i := 1) sc__law_alone.nd rfl (by first | exact Or.inl rfl | exact Or.inr rfl) (j_pe_op j_c_add (j_cv 1) (j_pe_op j_c_mul j_pe_str (j_pe_callTyF j_c_int (by rfl) T.n_int PyProof.Rows.Boot.«int» (j_pa_c (j_pe_callBF j_call_isi (by rfl) T.n_isinstance PyProof.Rows.Boot.«isinstance» (j_pa_c (j_cv 0) (j_pa_c (j_pe_gv T.v_NothingHeld) j_pa_nil))) j_pa_nil)))))
      (j_pss_cons (j_ps_if (j_pt_truth (j_pe_callBF j_call_ist (by rfl) T.n_isinstance PyProof.Rows.Boot.«isinstance» (j_pa_c (j_cv 0) (j_pa_c (j_pe_tup (j_pa_c (j_pe_gv T.v_BadNumber) (j_pa_c (j_pe_gv T.v_NoCell) (j_pa_c (j_pe_gv T.v_NoDeed) (j_pa_c (j_pe_gv T.v_NoImage) (j_pa_c (j_pe_gv T.v_NoName) (j_pa_c (j_pe_gv T.v_NoPlace) (j_pa_c (j_pe_gv T.v_NoProgram) (j_pa_c (j_pe_gv T.v_NoRoom) j_pa_nil))))))))) j_pa_nil))) (fun _ => rfl)) (j_pss_one (j_ps_set (i := 1) sc__law_alone.nd rfl (by first | exact Or.inl rfl | exact Or.inr rfl) (j_pe_op j_c_add (j_cv 1) j_pe_str))) j_pss_nil)
      (j_pss_one (j_ps_ret (j_pe_op j_c_add (j_cv 1) (j_pe_op j_c_mul j_pe_str (j_pe_callTyF j_c_int (by rfl) T.n_int PyProof.Rows.Boot.«int» (j_pa_c (j_pe_not (j_pe_callBF j_call_isi (by rfl) T.n_isinstance PyProof.Rows.Boot.«isinstance» (j_pa_c (j_cv 0) (j_pa_c (j_pe_ty T.n_ValueError PyProof.Rows.Boot.«ValueError») j_pa_nil)))) j_pa_nil)))))))))), ?_⟩
    rcases h with ⟨e, q⟩ | ⟨e, q⟩ | ⟨e, q⟩ | ⟨e, q⟩ | ⟨e, q⟩
    · have ki : ∃ C, Value.ref A.c_BadCount = Value.ref C ∧ KiE K C := ⟨_, rfl, T.ki_BadCount⟩
      simp only [tRet, tNext, tSeq, tIfS, tOp, tNotV, tCB, tCons, tNil, tC, cVar, tTup, tAsg, gName, cAdd, cMul, rIsi, kitV, cInt, cxOf_K, TruV, true_or, or_true, Int.reduceEq, Int.reduceAdd, Int.reduceSub, ofs_app, emp_ofs, String.reduceAppend, String.reduceEq, Nat.reduceLeDiff, Bool.not_eq_true', upd_same, rIsT, L2.start, List.map_cons, List.map_nil, List.length_cons, List.length_nil, List.replicate, List.cons_append, List.nil_append, List.getElem?_cons_zero, List.getElem?_cons_succ, List.set_cons_zero, List.set_cons_succ, V.int.injEq, V.bl.injEq, V.str.injEq, V.ref.injEq, V.ty.injEq, List.cons.injEq, Option.some.injEq, true_and, exists_eq_left', exists_eq_left, ite_true, ite_false, Bool.false_eq_true, Nat.reduceSub, Nat.reduceAdd, sz5, sz8, sz9, ln_0, ln_21, ln_22, ln_23, ln_38, ln_40, ln_42, ln_48, tyo, OkTy, e, ki, T.k2_BadCount_BadCount, T.k2_BadCount_BadWord, T.k2_BadCount_NoHand, T.k2_BadCount_NoSlot, T.k2_BadCount_NothingHeld]
      intro p0 hp0
      have e0' := fun o => (upd_ne (o := o) (ne_of_none e hp0)).trans e
      simp only [kitV, true_or, Int.reduceEq, Int.reduceAdd, ofs_app, String.reduceAppend, String.reduceEq, Bool.true_eq_false, kitVs, true_and, ite_false, Bool.false_eq_true, Nat.reduceAdd, sz5, ln_0, e0', ki, T.ki_BadCount, T.k2_BadCount_BadNumber, T.k2_BadCount_NoCell, T.k2_BadCount_NoDeed, T.k2_BadCount_NoImage, T.k2_BadCount_NoName, T.k2_BadCount_NoPlace, T.k2_BadCount_NoProgram, T.k2_BadCount_NoRoom, T.k2_BadCount_ValueError]
      exact q _ (Same.upd hp0)
    · have ki : ∃ C, Value.ref A.c_BadWord = Value.ref C ∧ KiE K C := ⟨_, rfl, T.ki_BadWord⟩
      simp only [tRet, tNext, tSeq, tIfS, tOp, tNotV, tCB, tCons, tNil, tC, cVar, tTup, tAsg, gName, cAdd, cMul, rIsi, kitV, cInt, cxOf_K, TruV, true_or, or_true, Int.reduceEq, Int.reduceAdd, Int.reduceSub, ofs_app, emp_ofs, String.reduceAppend, String.reduceEq, Nat.reduceLeDiff, Bool.not_eq_true', upd_same, rIsT, L2.start, List.map_cons, List.map_nil, List.length_cons, List.length_nil, List.replicate, List.cons_append, List.nil_append, List.getElem?_cons_zero, List.getElem?_cons_succ, List.set_cons_zero, List.set_cons_succ, V.int.injEq, V.bl.injEq, V.str.injEq, V.ref.injEq, V.ty.injEq, List.cons.injEq, Option.some.injEq, true_and, exists_eq_left', exists_eq_left, ite_true, ite_false, Bool.false_eq_true, Nat.reduceSub, Nat.reduceAdd, sz4, sz8, ln_0, ln_21, ln_22, ln_23, ln_38, ln_40, ln_42, ln_48, tyo, OkTy, e, ki, T.k2_BadWord_BadCount, T.k2_BadWord_BadWord, T.k2_BadWord_NoHand, T.k2_BadWord_NoSlot, T.k2_BadWord_NothingHeld]
      intro p0 hp0
      have e0' := fun o => (upd_ne (o := o) (ne_of_none e hp0)).trans e
      simp only [kitV, true_or, Int.reduceEq, Int.reduceAdd, ofs_app, String.reduceAppend, String.reduceEq, Bool.true_eq_false, kitVs, true_and, ite_false, Bool.false_eq_true, Nat.reduceAdd, sz4, ln_0, e0', ki, T.ki_BadWord, T.k2_BadWord_BadNumber, T.k2_BadWord_NoCell, T.k2_BadWord_NoDeed, T.k2_BadWord_NoImage, T.k2_BadWord_NoName, T.k2_BadWord_NoPlace, T.k2_BadWord_NoProgram, T.k2_BadWord_NoRoom, T.k2_BadWord_ValueError]
      exact q _ (Same.upd hp0)
    · have ki : ∃ C, Value.ref A.c_NoHand = Value.ref C ∧ KiE K C := ⟨_, rfl, T.ki_NoHand⟩
      simp only [tRet, tNext, tSeq, tIfS, tOp, tNotV, tCB, tCons, tNil, tC, cVar, tTup, tAsg, gName, cAdd, cMul, rIsi, kitV, cInt, cxOf_K, TruV, true_or, or_true, Int.reduceEq, Int.reduceAdd, Int.reduceSub, ofs_app, emp_ofs, String.reduceAppend, String.reduceEq, Nat.reduceLeDiff, Bool.not_eq_true', upd_same, rIsT, L2.start, List.map_cons, List.map_nil, List.length_cons, List.length_nil, List.replicate, List.cons_append, List.nil_append, List.getElem?_cons_zero, List.getElem?_cons_succ, List.set_cons_zero, List.set_cons_succ, V.int.injEq, V.bl.injEq, V.str.injEq, V.ref.injEq, V.ty.injEq, List.cons.injEq, Option.some.injEq, true_and, exists_eq_left', exists_eq_left, ite_true, ite_false, Bool.false_eq_true, Nat.reduceSub, Nat.reduceAdd, sz0, sz4, sz8, ln_0, ln_21, ln_22, ln_23, ln_38, ln_40, ln_42, ln_48, tyo, OkTy, e, ki, T.k2_NoHand_BadCount, T.k2_NoHand_BadWord, T.k2_NoHand_NoHand, T.k2_NoHand_NoSlot, T.k2_NoHand_NothingHeld]
      intro p0 hp0
      have e0' := fun o => (upd_ne (o := o) (ne_of_none e hp0)).trans e
      simp only [kitV, true_or, Int.reduceEq, Int.reduceAdd, ofs_app, String.reduceAppend, String.reduceEq, Bool.true_eq_false, kitVs, true_and, ite_false, Bool.false_eq_true, Nat.reduceAdd, sz4, ln_0, e0', ki, T.ki_NoHand, T.k2_NoHand_BadNumber, T.k2_NoHand_NoCell, T.k2_NoHand_NoDeed, T.k2_NoHand_NoImage, T.k2_NoHand_NoName, T.k2_NoHand_NoPlace, T.k2_NoHand_NoProgram, T.k2_NoHand_NoRoom, T.k2_NoHand_ValueError]
      exact q _ (Same.upd hp0)
    · have ki : ∃ C, Value.ref A.c_NoSlot = Value.ref C ∧ KiE K C := ⟨_, rfl, T.ki_NoSlot⟩
      simp only [tRet, tNext, tSeq, tIfS, tOp, tNotV, tCB, tCons, tNil, tC, cVar, tTup, tAsg, gName, cAdd, cMul, rIsi, kitV, cInt, cxOf_K, TruV, true_or, or_true, Int.reduceEq, Int.reduceAdd, Int.reduceSub, ofs_app, emp_ofs, String.reduceAppend, String.reduceEq, Nat.reduceLeDiff, Bool.not_eq_true', upd_same, rIsT, L2.start, List.map_cons, List.map_nil, List.length_cons, List.length_nil, List.replicate, List.cons_append, List.nil_append, List.getElem?_cons_zero, List.getElem?_cons_succ, List.set_cons_zero, List.set_cons_succ, V.int.injEq, V.bl.injEq, V.str.injEq, V.ref.injEq, V.ty.injEq, List.cons.injEq, Option.some.injEq, true_and, exists_eq_left', exists_eq_left, ite_true, ite_false, Bool.false_eq_true, Nat.reduceSub, Nat.reduceAdd, sz0, sz4, sz8, ln_0, ln_21, ln_22, ln_23, ln_38, ln_40, ln_42, ln_48, tyo, OkTy, e, ki, T.k2_NoSlot_BadCount, T.k2_NoSlot_BadWord, T.k2_NoSlot_NoHand, T.k2_NoSlot_NoSlot, T.k2_NoSlot_NothingHeld]
      intro p0 hp0
      have e0' := fun o => (upd_ne (o := o) (ne_of_none e hp0)).trans e
      simp only [kitV, true_or, Int.reduceEq, Int.reduceAdd, ofs_app, String.reduceAppend, String.reduceEq, Bool.true_eq_false, kitVs, true_and, ite_false, Bool.false_eq_true, Nat.reduceAdd, sz4, ln_0, e0', ki, T.ki_NoSlot, T.k2_NoSlot_BadNumber, T.k2_NoSlot_NoCell, T.k2_NoSlot_NoDeed, T.k2_NoSlot_NoImage, T.k2_NoSlot_NoName, T.k2_NoSlot_NoPlace, T.k2_NoSlot_NoProgram, T.k2_NoSlot_NoRoom, T.k2_NoSlot_ValueError]
      exact q _ (Same.upd hp0)
    · have ki : ∃ C, Value.ref A.c_NothingHeld = Value.ref C ∧ KiE K C := ⟨_, rfl, T.ki_NothingHeld⟩
      simp only [tRet, tNext, tSeq, tIfS, tOp, tNotV, tCB, tCons, tNil, tC, cVar, tTup, tAsg, gName, cAdd, cMul, rIsi, kitV, cInt, cxOf_K, TruV, true_or, or_true, Int.reduceEq, Int.reduceAdd, Int.reduceSub, ofs_app, emp_ofs, String.reduceAppend, String.reduceEq, Nat.reduceLeDiff, Bool.not_eq_true', upd_same, rIsT, L2.start, List.map_cons, List.map_nil, List.length_cons, List.length_nil, List.replicate, List.cons_append, List.nil_append, List.getElem?_cons_zero, List.getElem?_cons_succ, List.set_cons_zero, List.set_cons_succ, V.int.injEq, V.bl.injEq, V.str.injEq, V.ref.injEq, V.ty.injEq, List.cons.injEq, Option.some.injEq, true_and, exists_eq_left', exists_eq_left, ite_true, ite_false, Bool.false_eq_true, Nat.reduceSub, Nat.reduceAdd, sz0, sz7, sz8, sz11, ln_0, ln_21, ln_22, ln_23, ln_38, ln_40, ln_42, ln_48, tyo, OkTy, e, ki, T.k2_NothingHeld_BadCount, T.k2_NothingHeld_BadWord, T.k2_NothingHeld_NoHand, T.k2_NothingHeld_NoSlot, T.k2_NothingHeld_NothingHeld]
      intro p0 hp0
      have e0' := fun o => (upd_ne (o := o) (ne_of_none e hp0)).trans e
      simp only [kitV, true_or, Int.reduceEq, Int.reduceAdd, ofs_app, String.reduceAppend, String.reduceEq, Bool.true_eq_false, kitVs, true_and, ite_false, Bool.false_eq_true, Nat.reduceAdd, sz7, ln_0, e0', ki, T.ki_NothingHeld, T.k2_NothingHeld_BadNumber, T.k2_NothingHeld_NoCell, T.k2_NothingHeld_NoDeed, T.k2_NothingHeld_NoImage, T.k2_NothingHeld_NoName, T.k2_NothingHeld_NoPlace, T.k2_NothingHeld_NoProgram, T.k2_NothingHeld_NoRoom, T.k2_NothingHeld_ValueError]
      exact q _ (Same.upd hp0)
def sp__law_size : Sp := fun vs H Q _ => ∃ c a b, vs = [.int c, .int a, .int b] ∧ a ≤ b ∧ ∀ v H', Same H H' → Kn H' v → Q v H'
theorem sc__law_size : FnScope ["_law_cell", "_law_least", "_law_most", "_law_some"] ["_law_cell", "_law_least", "_law_most"] (defScope s__law_size) := ⟨rfl, rfl, rfl, by decide +kernel, rfl, by decide +kernel, by decide +kernel⟩
theorem ok__law_size (T : Txt K mg A) : FnOk P w K mg base (CXE P w) true 1 A.f__law_size A.d__law_size ["_law_cell", "_law_least", "_law_most"] sp__law_size := by
  refine T.fn__law_size.okE sc__law_size (fun vs H Q E h => ?_) (fun cdv A' outer s H vs Q E hr hx h => ?_)
  · obtain ⟨c, a, b, rfl, hab, q⟩ := h
    rfl
  · obtain ⟨c, a, b, rfl, hab, q⟩ := h
    refine ⟨_, JSs.run (j_pss_cons (j_ps_set (i := 3) sc__law_size.nd rfl (by first | exact Or.inl rfl | exact Or.inr rfl) (j_pe_lst (j_pa_c (j_cv 1) (j_pa_c (j_cv 2) (j_pa_c (j_pe_op j_c_sub (j_cv 1) j_pe_int) (j_pa_c (j_pe_op j_c_add (j_cv 2) j_pe_int) (j_pa_c j_pe_bl (j_pa_c j_pe_bl (j_pa_c j_pe_non (j_pa_c j_pe_str (j_pa_c (j_pe_lst (j_pa_c (j_cv 1) j_pa_nil)) (j_pa_c (j_pe_op j_c_pow j_pe_int j_pe_int) (j_pa_c (j_pe_un j_c_neg (j_cv 1)) j_pa_nil)))))))))))))
      (j_pss_cons (j_ps_if (j_pt_cmpR j_c_eq (j_pe_op j_c_mod (j_cv 0) j_pe_int) j_pe_int (nomark _)) (j_pss_one (j_ps_ret (j_pe_op j_c_add (j_cv 1) (j_pe_op j_c_mod (j_pe_op j_c_fdiv (j_cv 0) j_pe_int) (j_pe_op j_c_add (j_pe_op j_c_sub (j_cv 2) (j_cv 1)) j_pe_int))))) j_pss_nil)
      (j_pss_one (j_ps_ret (j_pe_ix j_c_ix (j_cv 3) (j_pe_op j_c_mod (j_pe_op j_c_fdiv (j_cv 0) j_pe_int) j_pe_int) (fun _ _ => rfl)))))), ?_⟩
    simp only [tRet, tNext, tSeq, tIfS, tTest, tOp, tUn, tCons, tNil, tC, cVar, tLst, tAsg, gName, cAdd, cSub, cFdiv, cMod, cPow, cEq, eqv, cNeg, cIx, CDiv, CPow, Int.reduceLT, Nat.reduceLT, Int.reduceLE, Int.reducePow, Int.reduceToNat, Int.reduceAdd, Int.reduceSub, upd_same, L2.start, List.map_cons, List.map_nil, List.length_cons, List.length_nil, List.replicate, List.cons_append, List.nil_append, List.getElem?_cons_zero, List.getElem?_cons_succ, List.set_cons_zero, List.set_cons_succ, V.int.injEq, V.bl.injEq, V.str.injEq, V.ref.injEq, V.ty.injEq, List.cons.injEq, Option.some.injEq, and_true, true_and, exists_eq_left', decide_eq_true_eq, Nat.reduceSub, Nat.reduceAdd, sz1, sz11]
    intro p1 h1
    refine ⟨by decide, fun p hp => ?_⟩
    have s' := (Same.upd (o := .lst [V.int a]) h1).trans (Same.upd (o := .lst [V.int a, V.int b, V.int (a - 1), V.int (b + 1), V.bl true, V.bl false, V.non, V.str (Str.ofString "4"), V.ref p1, V.int 100000000000000000000, V.int (-a)]) hp)
    by_cases z : c % 2 = 0
    · rw [if_pos z]
      exact ⟨by omega, q _ _ s' True.intro⟩
    · rw [if_neg z]
      obtain ⟨v, hv, e⟩ := menu_at (xs := [V.int a, V.int b, V.int (a - 1), V.int (b + 1), V.bl true, V.bl false, V.non, V.str (Str.ofString "4"), V.ref p1, V.int 100000000000000000000, V.int (-a)]) (k := c / 2 % 11) (by omega) (by show _ < (11 : Int); omega)
      rw [e]
      dsimp only
      refine q _ _ s' ?_
      simp only [List.mem_cons, List.not_mem_nil, or_false] at hv
      rcases hv with rfl | rfl | rfl | rfl | rfl | rfl | rfl | rfl | rfl | rfl | rfl <;> first | exact True.intro | exact .inl ⟨_, Same.upd hp _ _ upd_same⟩
def sp__law_fits : Sp := fun vs H Q _ => ∃ v a b, vs = [v, .int a, .int b] ∧ Kn H v ∧ Q (.bl (wi v a b)) H
theorem sc__law_fits : FnScope ["_law_size_here", "_law_least", "_law_most"] ["_law_size_here", "_law_least", "_law_most"] (defScope s__law_fits) := ⟨rfl, rfl, rfl, by decide +kernel, rfl, by decide +kernel, by decide +kernel⟩
theorem ok__law_fits {ca : Bool} (T : Txt K mg A) : FnOk P w K mg base (CXE P w) ca 1 A.f__law_fits A.d__law_fits ["_law_size_here", "_law_least", "_law_most"] sp__law_fits := by
  refine T.fn__law_fits.okE sc__law_fits (fun vs H Q E h => ?_) (fun cdv A' outer s H vs Q E hr hx h => ?_)
  · obtain ⟨v, a, b, rfl, hk, q⟩ := h
    rfl
  · obtain ⟨v, a, b, rfl, hk, q⟩ := h
    refine ⟨_, JSs.run (j_pss_cons (j_ps_if (j_PW_pt (j_pw_or (j_pt_cmpR j_c_isA (j_cv 0) j_pe_bl (nomark _)) (j_pw_or (j_pt_cmpR j_c_isA (j_cv 0) j_pe_bl (nomark _)) (j_pw_or1 (j_pt_not (j_pt_truth (j_pe_callBF j_call_isi (by rfl) T.n_isinstance PyProof.Rows.Boot.«isinstance» (j_pa_c (j_cv 0) (j_pa_c (j_pe_ty T.n_int PyProof.Rows.Boot.«int») j_pa_nil))) (fun _ => rfl))))))) (j_pss_one (j_ps_ret j_pe_bl)) j_pss_nil)
      (j_pss_one (j_ps_ret (j_pe_chain j_c_le j_c_le (j_cv 1) (j_cv 0) (j_cv 2))))), ?_⟩
    obtain ⟨t, h1, h2, h3, h4⟩ := kn_ty T hk
    simp only [tRet, tNext, tSeq, tIfS, tTest, tOp, tOr, tNot, tCB, tCons, tNil, tC, cVar, cLe, cCmp, tChain, rIsi, kitV, cxOf_K, TruV, Int.reduceAdd, Bool.not_eq_true', L2.start, cIsA, isBl, List.map_cons, List.map_nil, List.length_cons, List.length_nil, List.replicate, List.append_nil, List.getElem?_cons_zero, List.getElem?_cons_succ, V.int.injEq, V.bl.injEq, V.str.injEq, V.ref.injEq, V.ty.injEq, List.cons.injEq, Option.some.injEq, true_and, exists_eq_left', exists_eq_left, ite_true, decide_eq_true_eq, Nat.reduceAdd, Nat.sub_self, h1, h2, h3]
    cases v with
    | int i =>
      by_cases ha : a ≤ i
      · simp [wi, isI, isB, ha] at q ⊢; exact q
      · simp [wi, isI, isB, ha] at q ⊢; exact q
    | bl x => cases x <;> exact q
    | non => exact q
    | str x => exact q
    | ref x => exact q
    | byt b => exact hk.elim
    | flt b => exact hk.elim
    | ty n => exact hk.elim
def sp_is_within : Sp := fun vs H Q _ => ∃ v a b, vs = [v, .int a, .int b] ∧ Kn H v ∧ Q (.bl (wi v a b)) H
theorem sc_is_within : FnScope ["thing", "least", "most"] ["thing", "least", "most"] (defScope s_is_within) := ⟨rfl, rfl, rfl, by decide +kernel, rfl, by decide +kernel, by decide +kernel⟩
theorem ok_is_within {ca : Bool} (T : Txt K mg A) : FnOk P w K mg base (CXE P w) ca 2 A.f_is_within A.d_is_within ["thing", "least", "most"] sp_is_within := by
  refine T.fn_is_within.okE sc_is_within (fun vs H Q E h => ?_) (fun cdv A' outer s H vs Q E hr hx h => ?_)
  · obtain ⟨v, a, b, rfl, hk, q⟩ := h
    rfl
  · obtain ⟨v, a, b, rfl, hk, q⟩ := h
    refine ⟨_, JSs.run (j_pss_one (j_ps_ret (j_pe_and (j_pe_callF ((ok_is_whole T).mono (by decide)) hr rfl T.g_is_whole T.fn_is_whole.kp T.b_is_whole hx (j_pa_c (j_cv 0) j_pa_nil)) (j_pe_one (j_pe_chain j_c_le j_c_le (j_cv 1) (j_cv 0) (j_cv 2)))))), ?_⟩
    simp only [tRet, tAndV, tCons, tNil, cVar, tCallE, cLe, cCmp, tChain, Int.reduceAdd, L2.start, List.map_cons, List.map_nil, List.length_cons, List.length_nil, List.replicate, List.append_nil, List.getElem?_cons_zero, List.getElem?_cons_succ, V.int.injEq, V.bl.injEq, V.str.injEq, V.ref.injEq, V.ty.injEq, List.cons.injEq, Option.some.injEq, and_true, exists_eq_left', decide_eq_true_eq, Nat.reduceAdd, Nat.sub_self, sp_is_whole]
    refine ⟨hk, ?_⟩
    cases v <;> simp only [isI, wi] at q ⊢ <;> simp only [ite_true, ite_false, Bool.false_eq_true] <;> try exact q
    split <;> rename_i h <;> simpa [h] using q
def sp_Space_take (A : Ad) : Sp := fun vs H Q E => ∃ p dx b e t v, vs = [.ref p, v] ∧ H p = some (.ins A.c_Space dx (sfl b e t)) ∧ Kn H v ∧
  if isI v = true ∧ 1 ≤ iv v then (if iv v ≤ e - t then Q (.int t) (upd H p (.ins A.c_Space dx (sfl b e (t + iv v)))) else E (.ref A.c_NoRoom) none H) else E (.ref A.c_BadCount) none H
theorem sc_Space_take : FnScope ["self", "many", "at"] ["self", "many"] (defScope s_Space_take) := ⟨rfl, rfl, rfl, by decide +kernel, rfl, by decide +kernel, by decide +kernel⟩
theorem ok_Space_take (T : Txt K mg A) : FnOk P w K mg base (CXE P w) true 2 A.f_Space_take A.d_Space_take ["self", "many"] (sp_Space_take A) := by
  refine T.fn_Space_take.okE sc_Space_take (fun vs H Q E h => ?_) (fun cdv A' outer s H vs Q E hr hx h => ?_)
  · obtain ⟨p, dx, b, e, t, v, rfl, hp, hk, q⟩ := h
    rfl
  · obtain ⟨p, dx, b, e, t, v, rfl, hp, hk, q⟩ := h
    refine ⟨_, JSs.run (j_pss_cons (j_ps_if (j_PW_pt (j_pw_or (j_pt_not (j_pt_truth (j_pe_callF ((ok_is_whole T).mono (by decide)) hr rfl T.g_is_whole T.fn_is_whole.kp T.b_is_whole hx (j_pa_c (j_cv 1) j_pa_nil)) (fun _ => rfl))) (j_pw_or1 (j_pt_cmpR j_c_lt (j_cv 1) j_pe_int (nomark _))))) (j_pss_one (j_ps_raiseF hx rfl T.g_BadCount T.x_BadCount rfl (j_pa_c j_pe_str j_pa_nil))) j_pss_nil)
      (j_pss_cons (j_ps_if (j_pt_cmpR j_c_gt (j_cv 1) (j_c_meth0 (j_cv 0) T.cl_Space T.m_Space_room ((ok_Space_room T).mono (by decide)) hr T.b_Space_room hx) (nomark _)) (j_pss_one (j_ps_raiseF hx rfl T.g_NoRoom T.x_NoRoom rfl (j_pa_c j_pe_str j_pa_nil))) j_pss_nil)
      (j_pss_cons (j_ps_set (i := 2) sc_Space_take.nd rfl (by first | exact Or.inl rfl | exact Or.inr rfl) (j_c_fld (j_cv 0) rfl))
      (j_pss_cons (j_c_sfld (j_cv 0) (j_pe_op j_c_add (j_cv 2) (j_cv 1)) rfl)
      (j_pss_one (j_ps_ret (j_cv 2))))))), ?_⟩
    cases hi : isI v with
    | false =>
      simp only [tRet, tNext, tSeq, tIfS, tTest, tOp, tOr, tNot, tCons, tNil, tC, cVar, tAsg, gName, tCallE, tRaise, cAdd, cLt, cGt, cCmp, cxOf_K, TruV, Int.reduceAdd, Int.reduceSub, Bool.not_eq_true', cFld, cSFld, cMethE, L2.start, List.map_cons, List.map_nil, List.length_cons, List.length_nil, List.replicate, List.cons_append, List.nil_append, List.getElem?_cons_zero, List.getElem?_cons_succ, List.set_cons_zero, List.set_cons_succ, V.int.injEq, V.bl.injEq, V.str.injEq, V.ref.injEq, V.ty.injEq, List.cons.injEq, Option.some.injEq, and_true, true_and, exists_eq_left', exists_eq_left, ite_true, decide_eq_true_eq, Nat.reduceSub, Nat.reduceAdd, sz1, sp_is_whole, hi]
      rw [if_neg (by rw [hi]; rintro ⟨z, _⟩; cases z)] at q
      exact ⟨hk, q⟩
    | true =>
      obtain ⟨n, rfl⟩ := isI_int hi
      simp only [tRet, tNext, tSeq, tIfS, tTest, tOp, tOr, tNot, tCons, tNil, tC, cVar, tAsg, gName, tCallE, tRaise, cAdd, cLt, cGt, cCmp, cxOf_K, TruV, Int.reduceLT, Nat.reduceLT, Int.reduceAdd, Int.reduceSub, Bool.not_eq_true', Bool.true_eq_false, cFld, cSFld, cMethE, L2.start, List.map_cons, List.map_nil, List.length_cons, List.length_nil, List.replicate, List.cons_append, List.nil_append, List.getElem?_cons_zero, List.getElem?_cons_succ, List.set_cons_zero, List.set_cons_succ, V.int.injEq, V.bl.injEq, V.str.injEq, V.ref.injEq, V.ty.injEq, List.cons.injEq, Option.some.injEq, and_true, true_and, exists_eq_left', exists_and_left, exists_eq_left, ite_true, ite_false, decide_eq_true_eq, Nat.reduceSub, Nat.reduceAdd, sz1, sp_is_whole, isIi, knI, hp, sp_Space_room, T.cl_Space, T.na_Space_top, sfl_t, sfl_room, sfl_put, sfl_len]
      by_cases h1 : n < 1
      · rw [if_pos h1]
        rw [if_neg (by rintro ⟨_, z⟩; have : (1 : Int) ≤ n := z; omega)] at q
        exact q
      · rw [if_neg h1]
        rw [if_pos ⟨hi, (by show (1 : Int) ≤ n; omega)⟩] at q
        refine ⟨dx, b, e, t, rfl, ?_⟩
        by_cases h2 : e - t < n
        · rw [if_pos h2]
          rw [if_neg (by show ¬ (n ≤ e - t); omega)] at q
          exact q
        · rw [if_neg h2]
          rw [if_pos (by show n ≤ e - t; omega)] at q
          exact q
def sp_Heap_is_for_young (A : Ad) : Sp := fun vs H Q _ => ∃ X S n, vs = [.ref X.p, .int n] ∧ HeAt A.c_Heap A.c_Roots A.c_Hands A.c_Book A.c_Areas A.c_Memory A.c_Space H X S ∧ Q (.bl (S.forY n)) H
theorem sc_Heap_is_for_young : FnScope ["self", "slots"] ["self", "slots"] (defScope s_Heap_is_for_young) := ⟨rfl, rfl, rfl, by decide +kernel, rfl, by decide +kernel, by decide +kernel⟩
theorem ok_Heap_is_for_young {ca : Bool} (T : Txt K mg A) : FnOk P w K mg base (CXE P w) ca 2 A.f_Heap_is_for_young A.d_Heap_is_for_young ["self", "slots"] (sp_Heap_is_for_young A) := by
  refine T.fn_Heap_is_for_young.okE sc_Heap_is_for_young (fun vs H Q E h => ?_) (fun cdv A' outer s H vs Q E hr hx h => ?_)
  · obtain ⟨X, S, n, rfl, g, q⟩ := h
    rfl
  · obtain ⟨X, S, n, rfl, g, q⟩ := h
    refine ⟨_, JSs.run (j_pss_one (j_ps_ret (j_pe_cmpR j_c_le (j_pe_op j_c_add (j_cv 1) j_pe_int) (j_c_meth0 (j_c_fld (j_c_fld (j_cv 0) rfl) rfl) T.cl_Space T.m_Space_extent ((ok_Space_extent T).mono (by decide)) hr T.b_Space_extent hx) (nomark _)))), ?_⟩
    obtain ⟨d0, e0⟩ := g.ob
    obtain ⟨d1, e1⟩ := g.ar.ob
    obtain ⟨d2, e2⟩ := g.ar.yng
    simp only [tRet, tOp, tNil, tC, cVar, cAdd, cLe, cCmp, cxOf_K, Int.reduceAdd, cFld, cMethE, L2.start, List.map_cons, List.map_nil, List.length_cons, List.length_nil, List.replicate, List.append_nil, List.getElem?_cons_zero, List.getElem?_cons_succ, V.int.injEq, V.bl.injEq, V.str.injEq, V.ref.injEq, V.ty.injEq, List.cons.injEq, Option.some.injEq, and_true, true_and, exists_eq_left', exists_and_left, Nat.reduceAdd, Nat.sub_self, e0, T.cl_Heap, T.na_Heap_areas, gfl_a, e1, T.cl_Areas, T.na_Areas_young, afl_y, e2, sfl_ext, sp_Space_extent]
    exact ⟨d2, _, _, _, rfl, q⟩
theorem in3 (w a b c : Int) : inV (V.int w) [V.int a, V.int b, V.int c] = true ↔ w = a ∨ w = b ∨ w = c := by
  show ((a == w) || ((b == w) || ((c == w) || false))) = true ↔ _
  simp only [Bool.or_eq_true, beq_iff_eq, Bool.false_eq_true, or_false]
  omega
theorem in2 (w a b : Int) : inV (V.int w) [V.int a, V.int b] = true ↔ w = a ∨ w = b := by
  show ((a == w) || ((b == w) || false)) = true ↔ _
  simp only [Bool.or_eq_true, beq_iff_eq, Bool.false_eq_true, or_false]
  omega
def sp__law_due : Sp := fun vs H Q _ => ∃ w v u g, vs = [.int w, v, u, .bl g] ∧ Kn H v ∧ Kn H u ∧ 0 ≤ w ∧ w ≤ 6 ∧ ∀ H', Same H H' → Q (.str (due19 w v u g)) H'
theorem sc__law_due : FnScope ["_law_way", "_law_hand", "_law_thing", "_law_is_word"] ["_law_way", "_law_hand", "_law_thing", "_law_is_word"] (defScope s__law_due) := ⟨rfl, rfl, rfl, by decide +kernel, rfl, by decide +kernel, by decide +kernel⟩
theorem ok__law_due (T : Txt K mg A) : FnOk P w K mg base (CXE P w) true 2 A.f__law_due A.d__law_due ["_law_way", "_law_hand", "_law_thing", "_law_is_word"] sp__law_due := by
  refine T.fn__law_due.okE sc__law_due (fun vs H Q E h => ?_) (fun cdv A' outer s H vs Q E hr hx h => ?_)
  · obtain ⟨w, v, u, g, rfl, kv, ku, w0, w6, q⟩ := h
    rfl
  · obtain ⟨w, v, u, g, rfl, kv, ku, w0, w6, q⟩ := h
    refine ⟨_, JSs.run (j_pss_cons (j_ps_if (j_pt_not (j_pt_truth (j_pe_callF ((ok__law_fits T).mono (by decide)) hr rfl T.g__law_fits T.fn__law_fits.kp T.b__law_fits hx (j_pa_c (j_cv 1) (j_pa_c j_pe_int (j_pa_c j_pe_int j_pa_nil)))) (fun _ => rfl))) (j_pss_one (j_ps_ret j_pe_str)) j_pss_nil)
      (j_pss_cons (j_ps_if (j_PW_pt (j_pw_and (j_pt_cmpR (j_c_eqA (hu8 hr)) (j_cv 0) j_pe_int (nomark _)) (j_pw_and1 (j_pt_not (j_pt_truth (j_pe_callF ((ok__law_fits T).mono (by decide)) hr rfl T.g__law_fits T.fn__law_fits.kp T.b__law_fits hx (j_pa_c (j_cv 2) (j_pa_c j_pe_int (j_pa_c j_pe_int j_pa_nil)))) (fun _ => rfl)))))) (j_pss_one (j_ps_ret j_pe_str)) j_pss_nil)
      (j_pss_cons (j_ps_if (j_PW_pt (j_pw_and (j_pt_cmpR j_op_in_seq (j_cv 0) (j_pe_tup (j_pa_c j_pe_int (j_pa_c j_pe_int (j_pa_c j_pe_int j_pa_nil)))) (by with_unfolding_all rfl)) (j_pw_and1 (j_pt_cmpR (j_c_neA (hu8 hr)) (j_cv 1) j_pe_int (nomark _))))) (j_pss_one (j_ps_ret j_pe_str)) j_pss_nil)
      (j_pss_cons (j_ps_if (j_PW_pt (j_pw_and (j_pt_cmpR j_op_in_seq (j_cv 0) (j_pe_tup (j_pa_c j_pe_int (j_pa_c j_pe_int j_pa_nil))) (by with_unfolding_all rfl)) (j_pw_and1 (j_pt_not (j_pt_truth (j_pe_callF ((ok__law_fits T).mono (by decide)) hr rfl T.g__law_fits T.fn__law_fits.kp T.b__law_fits hx (j_pa_c (j_cv 2) (j_pa_c j_pe_int (j_pa_c j_pe_int j_pa_nil)))) (fun _ => rfl)))))) (j_pss_one (j_ps_ret j_pe_str)) j_pss_nil)
      (j_pss_cons (j_ps_if (j_PW_pt (j_pw_and (j_pt_cmpR j_op_in_seq (j_cv 0) (j_pe_tup (j_pa_c j_pe_int (j_pa_c j_pe_int j_pa_nil))) (by with_unfolding_all rfl)) (j_pw_and1 (j_pt_not (j_pt_truth (j_cv 3) (fun _ => rfl)))))) (j_pss_one (j_ps_ret j_pe_str)) j_pss_nil)
      (j_pss_one (j_ps_ret j_pe_str))))))), ?_⟩
    show tSeq _ _ _ [some (V.int w), some v, some u, some (V.bl g)] H
    refine seq_mid (fun σ' H' => wi v 0 2 = true ∧ H = H' ∧ σ' = [some (V.int w), some v, some u, some (V.bl g)]) (fun R hR => ?_) ?_
    · simp only [tRet, tNext, tIfS, tNot, tCons, tNil, tC, cVar, tCallE, TruV, and_assoc, Bool.not_eq_true', List.getElem?_cons_zero, List.getElem?_cons_succ, V.int.injEq, V.bl.injEq, V.str.injEq, V.ref.injEq, V.ty.injEq, List.cons.injEq, Option.some.injEq, and_true, exists_eq_left', exists_and_left, exists_eq_left, sp__law_fits]
      refine ⟨kv, ?_⟩
      cases hv : wi v 0 2 with
      | true => exact hR _ _ ⟨hv, rfl, rfl⟩
      | false =>
        have := q H (Same.refl _)
        unfold due19 at this
        rw [hv] at this
        exact this
    rintro _ _ ⟨hv, rfl, rfl⟩
    obtain ⟨i, rfl, i0, i1⟩ := wi_int hv
    unfold due19 at q
    rw [if_pos hv] at q
    refine seq_mid (fun σ' H' => (w = 0 → wi u 0 8 = true) ∧ H = H' ∧ σ' = [some (V.int w), some (V.int i), some u, some (V.bl g)]) (fun R hR => ?_) ?_
    · simp only [tRet, tNext, tIfS, tTest, tOp, tAnd, tNot, tCons, tNil, tC, cVar, tCallE, eqv, TruV, and_assoc, Bool.not_eq_true', cEqA, List.getElem?_cons_zero, List.getElem?_cons_succ, V.int.injEq, V.bl.injEq, V.str.injEq, V.ref.injEq, V.ty.injEq, List.cons.injEq, Option.some.injEq, and_true, exists_eq_left', exists_and_left, exists_eq_left, ite_false, Bool.false_eq_true, decide_eq_true_eq, sp__law_fits]
      by_cases z : w = 0
      · rw [if_pos z] at q ⊢
        refine ⟨ku, ?_⟩
        cases hv2 : wi u 0 8 with
        | true => exact hR _ _ ⟨fun _ => hv2, rfl, rfl⟩
        | false => rw [hv2] at q; exact q H (Same.refl _)
      · rw [if_neg z]
        exact hR _ _ ⟨fun y => absurd y z, rfl, rfl⟩
    rintro _ _ ⟨hu8, rfl, rfl⟩
    refine seq_mid (fun σ' H' => ((w = 1 ∨ w = 2 ∨ w = 5) → i = 0) ∧ Same H H' ∧ σ' = [some (V.int w), some (V.int i), some u, some (V.bl g)]) (fun R hR => ?_) ?_
    · simp only [tRet, tNext, tIfS, tTest, tOp, tAnd, tCons, tNil, tC, cVar, tTup, eqv, cxOf_K, Int.reduceAdd, Bool.not_eq_true', cNeA, decide_eq_false_iff_not, List.length_cons, List.length_nil, List.getElem?_cons_zero, List.getElem?_cons_succ, V.int.injEq, V.bl.injEq, V.str.injEq, V.ref.injEq, V.ty.injEq, List.cons.injEq, Option.some.injEq, true_and, exists_eq_left', ite_false, Bool.false_eq_true, Nat.reduceAdd, sz3]
      intro p hp
      refine ⟨p, [V.int 1, V.int 2, V.int 5], rfl, .inr (.of upd_same), rfl, rfl, _, rfl, ?_⟩
      rw [if_neg (show ¬ (false = true) by decide)]
      by_cases z : w = 1 ∨ w = 2 ∨ w = 5
      · rw [if_pos ((in3 w 1 2 5).mpr z)]
        by_cases z2 : i = 0
        · rw [if_neg (fun y => y z2)]
          exact hR _ _ ⟨fun _ => z2, Same.upd hp, rfl⟩
        · rw [if_pos z2]
          rw [if_neg (by omega), if_neg (by omega), if_pos z, if_neg (show ¬ iv (V.int i) = 0 from z2)] at q
          exact q _ (Same.upd hp)
      · rw [if_neg (fun y => z ((in3 w 1 2 5).mp y))]
        exact hR _ _ ⟨fun y => absurd y z, Same.upd hp, rfl⟩
    rintro _ H1 ⟨hi0, s1, rfl⟩
    refine seq_mid (fun σ' H' => ((w = 1 ∨ w = 2) → wi u 0 1 = true) ∧ Same H H' ∧ σ' = [some (V.int w), some (V.int i), some u, some (V.bl g)]) (fun R hR => ?_) ?_
    · simp only [tRet, tNext, tIfS, tTest, tOp, tAnd, tNot, tCons, tNil, tC, cVar, tTup, tCallE, cxOf_K, TruV, and_assoc, Int.reduceAdd, Bool.not_eq_true', List.length_cons, List.length_nil, List.getElem?_cons_zero, List.getElem?_cons_succ, V.int.injEq, V.bl.injEq, V.str.injEq, V.ref.injEq, V.ty.injEq, List.cons.injEq, Option.some.injEq, and_true, true_and, exists_eq_left', exists_and_left, exists_eq_left, ite_false, Bool.false_eq_true, Nat.reduceAdd, sz2, sp__law_fits]
      intro p hp
      refine ⟨p, [V.int 1, V.int 2], rfl, .inr (.of upd_same), rfl, rfl, _, rfl, ?_⟩
      rw [if_neg (show ¬ (false = true) by decide)]
      by_cases z : w = 1 ∨ w = 2
      · rw [if_pos ((in2 w 1 2).mpr z)]
        refine ⟨ku.same (s1.trans (Same.upd hp)), ?_⟩
        have z2 := hi0 (by omega)
        rw [if_neg (by omega), if_neg (by omega), if_pos (by omega), if_pos (show iv (V.int i) = 0 from z2), if_neg (by omega)] at q
        cases hv2 : wi u 0 1 with
        | true => exact hR _ _ ⟨fun _ => hv2, s1.trans (Same.upd hp), rfl⟩
        | false => rw [hv2] at q; exact q _ (s1.trans (Same.upd hp))
      · rw [if_neg (fun y => z ((in2 w 1 2).mp y))]
        exact hR _ _ ⟨fun y => absurd y z, s1.trans (Same.upd hp), rfl⟩
    rintro _ H2 ⟨hu1, s2, rfl⟩
    simp only [tRet, tNext, tSeq, tIfS, tTest, tOp, tAnd, tNot, tCons, tNil, tC, cVar, tTup, cxOf_K, TruV, Int.reduceAdd, Bool.not_eq_true', List.length_cons, List.length_nil, List.getElem?_cons_zero, List.getElem?_cons_succ, true_and, exists_eq_left, ite_false, Bool.false_eq_true, Nat.reduceAdd, sz2]
    intro p hp
    refine ⟨p, [V.int 2, V.int 3], rfl, .inr (.of upd_same), rfl, rfl, _, rfl, ?_⟩
    rw [if_neg (show ¬ (false = true) by decide)]
    have q' := q _ (s2.trans (Same.upd (o := .tup [V.int 2, V.int 3]) hp))
    by_cases z : w = 2 ∨ w = 3
    · rw [if_pos ((in2 w 2 3).mpr z)]
      rcases z with rfl | rfl
      · rw [if_neg (by decide), if_neg (by decide), if_pos (by decide), if_pos (show iv (V.int i) = 0 from hi0 (by decide)), if_neg (by decide), if_pos (hu1 (by decide))] at q'
        cases g <;> exact q'
      · rw [if_neg (by decide), if_pos rfl] at q'
        cases g <;> exact q'
    · rw [if_neg (fun y => z ((in2 w 2 3).mp y))]
      rcases (by omega : w = 0 ∨ w = 1 ∨ w = 4 ∨ w = 5 ∨ w = 6) with rfl | rfl | rfl | rfl | rfl
      · rw [if_pos rfl, if_pos (hu8 rfl)] at q'; exact q'
      · rw [if_neg (by decide), if_neg (by decide), if_pos (by decide), if_pos (show iv (V.int i) = 0 from hi0 (by decide)), if_neg (by decide), if_pos (hu1 (by decide)), if_neg (fun y => absurd y.1 (by decide))] at q'; exact q'
      · rw [if_neg (by decide), if_neg (by decide), if_neg (by decide)] at q'; exact q'
      · rw [if_neg (by decide), if_neg (by decide), if_pos (by decide), if_pos (show iv (V.int i) = 0 from hi0 (by decide)), if_pos rfl] at q'; exact q'
      · rw [if_neg (by decide), if_neg (by decide), if_neg (by decide)] at q'; exact q'
def sp_is_number : Sp := fun vs H Q _ => ∃ v, vs = [v] ∧ Kn H v ∧ Q (.bl (wi v (-1000000000000) 1000000000000)) H
theorem sc_is_number : FnScope ["thing"] ["thing"] (defScope s_is_number) := ⟨rfl, rfl, rfl, by decide +kernel, rfl, by decide +kernel, by decide +kernel⟩
theorem ok_is_number {ca : Bool} (T : Txt K mg A) : FnOk P w K mg base (CXE P w) ca 3 A.f_is_number A.d_is_number ["thing"] sp_is_number := by
  refine T.fn_is_number.okE sc_is_number (fun vs H Q E h => ?_) (fun cdv A' outer s H vs Q E hr hx h => ?_)
  · obtain ⟨v, rfl, hk, q⟩ := h
    rfl
  · obtain ⟨v, rfl, hk, q⟩ := h
    refine ⟨_, JSs.run (j_pss_one (j_ps_ret (j_pe_callF ((ok_is_within T).mono (by decide)) hr rfl T.g_is_within T.fn_is_within.kp T.b_is_within hx (j_pa_c (j_cv 0) (j_pa_c (j_pe_un j_c_neg (j_pe_gv T.v_MOST_NUMBER)) (j_pa_c (j_pe_gv T.v_MOST_NUMBER) j_pa_nil)))))), ?_⟩
    simp only [tRet, tUn, tCons, tNil, tC, cVar, tCallE, cNeg, and_assoc, Int.reduceNeg, Int.reduceAdd, L2.start, List.map_cons, List.map_nil, List.length_cons, List.length_nil, List.replicate, List.append_nil, List.getElem?_cons_zero, V.int.injEq, V.bl.injEq, V.str.injEq, V.ref.injEq, V.ty.injEq, List.cons.injEq, Option.some.injEq, and_true, exists_eq_left', exists_and_left, Nat.reduceAdd, Nat.sub_self, sp_is_within]
    exact ⟨hk, q⟩
def sp_is_place : Sp := fun vs H Q _ => ∃ v, vs = [v] ∧ Kn H v ∧ Q (.bl (wi v 0 9999)) H
theorem sc_is_place : FnScope ["thing"] ["thing"] (defScope s_is_place) := ⟨rfl, rfl, rfl, by decide +kernel, rfl, by decide +kernel, by decide +kernel⟩
theorem ok_is_place {ca : Bool} (T : Txt K mg A) : FnOk P w K mg base (CXE P w) ca 3 A.f_is_place A.d_is_place ["thing"] sp_is_place := by
  refine T.fn_is_place.okE sc_is_place (fun vs H Q E h => ?_) (fun cdv A' outer s H vs Q E hr hx h => ?_)
  · obtain ⟨v, rfl, hk, q⟩ := h
    rfl
  · obtain ⟨v, rfl, hk, q⟩ := h
    refine ⟨_, JSs.run (j_pss_one (j_ps_ret (j_pe_callF ((ok_is_within T).mono (by decide)) hr rfl T.g_is_within T.fn_is_within.kp T.b_is_within hx (j_pa_c (j_cv 0) (j_pa_c j_pe_int (j_pa_c (j_pe_gv T.v_MOST_PLACE) j_pa_nil)))))), ?_⟩
    simp only [tRet, tCons, tNil, tC, cVar, tCallE, and_assoc, Int.reduceAdd, L2.start, List.map_cons, List.map_nil, List.length_cons, List.length_nil, List.replicate, List.append_nil, List.getElem?_cons_zero, V.int.injEq, V.bl.injEq, V.str.injEq, V.ref.injEq, V.ty.injEq, List.cons.injEq, Option.some.injEq, and_true, exists_eq_left', exists_and_left, Nat.reduceAdd, Nat.sub_self, sp_is_within]
    exact ⟨hk, q⟩
def sp_want_slots (A : Ad) : Sp := fun vs H Q E => ∃ v, vs = [v] ∧ Kn H v ∧ if wi v 0 8 = true then Q .non H else E (.ref A.c_BadCount) none H
theorem sc_want_slots : FnScope ["slots"] ["slots"] (defScope s_want_slots) := ⟨rfl, rfl, rfl, by decide +kernel, rfl, by decide +kernel, by decide +kernel⟩
theorem ok_want_slots (T : Txt K mg A) : FnOk P w K mg base (CXE P w) true 3 A.f_want_slots A.d_want_slots ["slots"] (sp_want_slots A) := by
  refine T.fn_want_slots.okE sc_want_slots (fun vs H Q E h => ?_) (fun cdv A' outer s H vs Q E hr hx h => ?_)
  · obtain ⟨v, rfl, hk, q⟩ := h
    rfl
  · obtain ⟨v, rfl, hk, q⟩ := h
    refine ⟨_, JSs.run (j_pss_one (j_ps_if (j_pt_not (j_pt_truth (j_pe_callF ((ok_is_within T).mono (by decide)) hr rfl T.g_is_within T.fn_is_within.kp T.b_is_within hx (j_pa_c (j_cv 0) (j_pa_c j_pe_int (j_pa_c (j_pe_gv T.v_MOST_SLOTS) j_pa_nil)))) (fun _ => rfl))) (j_pss_one (j_ps_raiseF hx rfl T.g_BadCount T.x_BadCount rfl (j_pa_c j_pe_str j_pa_nil))) j_pss_nil)), ?_⟩
    simp only [tNext, tIfS, tNot, tCons, tNil, tC, cVar, tCallE, tRaise, TruV, and_assoc, Int.reduceAdd, Bool.not_eq_true', L2.start, List.map_cons, List.map_nil, List.length_cons, List.length_nil, List.replicate, List.append_nil, List.getElem?_cons_zero, V.int.injEq, V.bl.injEq, V.str.injEq, V.ref.injEq, V.ty.injEq, List.cons.injEq, Option.some.injEq, and_true, true_and, exists_eq_left', exists_and_left, exists_eq_left, Nat.reduceAdd, Nat.sub_self, sz1, sp_is_within]
    refine ⟨hk, ?_⟩
    cases hw : wi v 0 8 <;> simp [hw] at q ⊢ <;> exact q
def sp_is_head : Sp := fun vs H Q _ => ∃ n, vs = [.int n] ∧ Q (.bl (decide (0 ≤ n ∧ n ≤ 34 ∧ n % 4 ≤ 2))) H
theorem sc_is_head : FnScope ["number"] ["number"] (defScope s_is_head) := ⟨rfl, rfl, rfl, by decide +kernel, rfl, by decide +kernel, by decide +kernel⟩
theorem ok_is_head {ca : Bool} (T : Txt K mg A) : FnOk P w K mg base (CXE P w) ca 3 A.f_is_head A.d_is_head ["number"] sp_is_head := by
  refine T.fn_is_head.okE sc_is_head (fun vs H Q E h => ?_) (fun cdv A' outer s H vs Q E hr hx h => ?_)
  · obtain ⟨n, rfl, q⟩ := h
    rfl
  · obtain ⟨n, rfl, q⟩ := h
    refine ⟨_, JSs.run (j_pss_one (j_ps_ret (j_pe_and (j_pe_callF ((ok_is_within T).mono (by decide)) hr rfl T.g_is_within T.fn_is_within.kp T.b_is_within hx (j_pa_c (j_pe_op j_c_fdiv (j_cv 0) j_pe_int) (j_pa_c j_pe_int (j_pa_c (j_pe_gv T.v_MOST_SLOTS) j_pa_nil)))) (j_pe_one (j_pe_cmpR j_c_le (j_pe_op j_c_mod (j_cv 0) j_pe_int) (j_pe_gv T.v_MOST_AGE) (nomark _)))))), ?_⟩
    simp only [tRet, tOp, tAndV, tCons, tNil, tC, cVar, tCallE, cFdiv, cMod, cLe, cCmp, and_assoc, CDiv, Int.reduceLT, Nat.reduceLT, Int.reduceAdd, L2.start, List.map_cons, List.map_nil, List.length_cons, List.length_nil, List.replicate, List.append_nil, List.getElem?_cons_zero, V.int.injEq, V.bl.injEq, V.str.injEq, V.ref.injEq, V.ty.injEq, List.cons.injEq, Option.some.injEq, and_true, true_and, exists_eq_left', exists_and_left, Nat.reduceAdd, Nat.sub_self, sp_is_within, Kn]
    by_cases c : wi (.int (n / 4)) 0 8 = true
    · have c' := c
      simp only [wi, Bool.and_eq_true, decide_eq_true_eq] at c'
      by_cases d : n % 4 ≤ 2
      · rw [decide_eq_true (by omega)] at q
        simp [c, d]; exact q
      · rw [decide_eq_false (by omega)] at q
        simp [c, d]; exact q
    · have c' := c
      simp only [wi, Bool.and_eq_true, decide_eq_true_eq] at c'
      rw [decide_eq_false (by omega)] at q
      simp [c]; exact q
def sp_fits (A : Ad) : Sp := fun vs H Q _ => ∃ p q ws v k, vs = [.ref p, v, .int k] ∧ MemAt A.c_Memory H p q ws ∧ Kn H v ∧ Q (.bl (wi v 0 (ws.length - 1 - k))) H
theorem sc_fits : FnScope ["memory", "at", "slots"] ["memory", "at", "slots"] (defScope s_fits) := ⟨rfl, rfl, rfl, by decide +kernel, rfl, by decide +kernel, by decide +kernel⟩
theorem ok_fits {ca : Bool} (T : Txt K mg A) : FnOk P w K mg base (CXE P w) ca 3 A.f_fits A.d_fits ["memory", "at", "slots"] (sp_fits A) := by
  refine T.fn_fits.okE sc_fits (fun vs H Q E h => ?_) (fun cdv A' outer s H vs Q E hr hx h => ?_)
  · obtain ⟨p, q, ws, v, k, rfl, m, hk, h⟩ := h
    rfl
  · obtain ⟨p, q, ws, v, k, rfl, m, hk, h⟩ := h
    refine ⟨_, JSs.run (j_pss_one (j_ps_ret (j_pe_callF ((ok_is_within T).mono (by decide)) hr rfl T.g_is_within T.fn_is_within.kp T.b_is_within hx (j_pa_c (j_cv 1) (j_pa_c j_pe_int (j_pa_c (j_pe_op j_c_sub (j_pe_op j_c_sub (j_c_fld (j_cv 0) rfl) j_pe_int) (j_cv 2)) j_pa_nil)))))), ?_⟩
    obtain ⟨dx, e⟩ := m.ob
    simp only [tRet, tOp, tCons, tNil, tC, cVar, tCallE, cSub, cxOf_K, and_assoc, Int.reduceAdd, cFld, L2.start, List.map_cons, List.map_nil, List.length_cons, List.length_nil, List.replicate, List.append_nil, List.getElem?_cons_zero, List.getElem?_cons_succ, V.int.injEq, V.bl.injEq, V.str.injEq, V.ref.injEq, V.ty.injEq, List.cons.injEq, Option.some.injEq, and_true, true_and, exists_eq_left', exists_and_left, Nat.reduceAdd, Nat.sub_self, sp_is_within, e, T.cl_Memory, T.na_Memory_size, mfl_size]
    exact ⟨hk, h⟩
def sp_Memory_init (A : Ad) : Sp := fun vs H Q E => ∃ p dx v, vs = [.ref p, v] ∧ H p = some (.ins A.c_Memory dx []) ∧ Kn H v ∧
  if wi v 1 4000 = true then (∀ q H', H q = none → MemAt A.c_Memory H' p q (List.replicate (iv v).toNat (-1)) → (∀ b o, H b = some o → b ≠ p → H' b = some o) → Q .non H') else E (.ref A.c_BadCount) none H
theorem sc_Memory_init : FnScope ["self", "size"] ["self", "size"] (defScope s_Memory_init) := ⟨rfl, rfl, rfl, by decide +kernel, rfl, by decide +kernel, by decide +kernel⟩
theorem ok_Memory_init (T : Txt K mg A) : FnOk P w K mg base (CXE P w) true 3 A.f_Memory_init A.d_Memory_init ["self", "size"] (sp_Memory_init A) := by
  refine T.fn_Memory_init.okE sc_Memory_init (fun vs H Q E h => ?_) (fun cdv A' outer s H vs Q E hr hx h => ?_)
  · obtain ⟨p, dx, v, rfl, e, hk, h⟩ := h
    rfl
  · obtain ⟨p, dx, v, rfl, e, hk, h⟩ := h
    refine ⟨_, JSs.run (j_pss_cons (j_ps_if (j_pt_not (j_pt_truth (j_pe_callF ((ok_is_within T).mono (by decide)) hr rfl T.g_is_within T.fn_is_within.kp T.b_is_within hx (j_pa_c (j_cv 1) (j_pa_c j_pe_int (j_pa_c (j_pe_gv T.v_MOST_WORDS) j_pa_nil)))) (fun _ => rfl))) (j_pss_one (j_ps_raiseF hx rfl T.g_BadCount T.x_BadCount rfl (j_pa_c j_pe_str j_pa_nil))) j_pss_nil)
      (j_pss_cons (j_c_sfld (j_cv 0) (j_cv 1) rfl)
      (j_pss_one (j_c_sfld (j_cv 0) (j_pe_op j_c_rep (j_pe_lst (j_pa_c (j_pe_gv T.v_NOTHING) j_pa_nil)) (j_cv 1)) rfl)))), ?_⟩
    simp only [tNext, tSeq, tIfS, tOp, tNot, tCons, tNil, tC, cVar, tLst, tCallE, tRaise, cxOf_K, TruV, and_assoc, Int.reduceLT, Nat.reduceLT, Int.reduceNeg, Int.reducePow, Int.reduceAdd, Bool.not_eq_true', cSFld, cRep, L2.start, List.map_cons, List.map_nil, List.length_cons, List.length_nil, List.replicate, List.append_nil, List.getElem?_cons_zero, List.getElem?_cons_succ, V.int.injEq, V.bl.injEq, V.str.injEq, V.ref.injEq, V.ty.injEq, List.cons.injEq, Option.some.injEq, and_true, true_and, exists_eq_left', exists_and_left, exists_eq_left, Nat.reduceAdd, Nat.sub_self, sz1, sp_is_within, e, T.cl_Memory, T.na_Memory_size]
    refine ⟨hk, ?_⟩
    cases hw : wi v 1 4000
    · simp [hw] at h ⊢; exact h
    · obtain ⟨n, rfl, h0, h1⟩ := wi_int hw
      simp only [hw, if_true] at h ⊢
      rw [if_neg (fun z => by cases z)]
      intro l hl
      obtain ⟨nl, hl0⟩ := upd_none hl
      simp only [upd_same]
      refine ⟨by omega, by omega, Nat.le_trans (show [V.int (-1)].length * n.toNat ≤ 4000 by simp; omega) (by decide), fun l2 hl2 => ?_⟩
      obtain ⟨nl2, hl2'⟩ := upd_none hl2
      obtain ⟨nl2p, hl20⟩ := upd_none hl2'
      rw [upd_ne (Ne.symm nl2p), upd_ne (Ne.symm nl), upd_same]
      refine ⟨T.cl_Memory, T.na_Memory_words, by simp [putF], ?_⟩
      refine h l2 _ hl20 ⟨⟨dx, ?_⟩, ?_⟩ fun b o eb nb => ?_
      · rw [upd_same, mfl_mk, List.length_replicate, show ((iv (V.int n)).toNat : Int) = n from Int.toNat_of_nonneg (by show 0 ≤ n; omega)]
      · rw [upd_ne nl2p, upd_same, flat_rep, List.map_replicate]; rfl
      · rw [upd_ne nb, upd_ne (ne_of_none eb hl20), upd_ne (ne_of_none eb hl0), upd_ne nb]; exact eb
def sp_Memory_want_place (A : Ad) : Sp := fun vs H Q E => ∃ p q ws v, vs = [.ref p, v] ∧ MemAt A.c_Memory H p q ws ∧ Kn H v ∧ if wi v 0 (ws.length - 1) = true then Q .non H else E (.ref A.c_NoPlace) none H
theorem sc_Memory_want_place : FnScope ["self", "at"] ["self", "at"] (defScope s_Memory_want_place) := ⟨rfl, rfl, rfl, by decide +kernel, rfl, by decide +kernel, by decide +kernel⟩
theorem ok_Memory_want_place (T : Txt K mg A) : FnOk P w K mg base (CXE P w) true 3 A.f_Memory_want_place A.d_Memory_want_place ["self", "at"] (sp_Memory_want_place A) := by
  refine T.fn_Memory_want_place.okE sc_Memory_want_place (fun vs H Q E h => ?_) (fun cdv A' outer s H vs Q E hr hx h => ?_)
  · obtain ⟨p, q, ws, v, rfl, m, hk, h⟩ := h
    rfl
  · obtain ⟨p, q, ws, v, rfl, m, hk, h⟩ := h
    refine ⟨_, JSs.run (j_pss_one (j_ps_if (j_pt_not (j_pt_truth (j_pe_callF ((ok_is_within T).mono (by decide)) hr rfl T.g_is_within T.fn_is_within.kp T.b_is_within hx (j_pa_c (j_cv 1) (j_pa_c j_pe_int (j_pa_c (j_pe_op j_c_sub (j_c_fld (j_cv 0) rfl) j_pe_int) j_pa_nil)))) (fun _ => rfl))) (j_pss_one (j_ps_raiseF hx rfl T.g_NoPlace T.x_NoPlace rfl (j_pa_c j_pe_str j_pa_nil))) j_pss_nil)), ?_⟩
    obtain ⟨dx, e⟩ := m.ob
    simp only [tNext, tIfS, tOp, tNot, tCons, tNil, tC, cVar, tCallE, tRaise, cSub, cxOf_K, TruV, and_assoc, Int.reduceAdd, Bool.not_eq_true', cFld, L2.start, List.map_cons, List.map_nil, List.length_cons, List.length_nil, List.replicate, List.append_nil, List.getElem?_cons_zero, List.getElem?_cons_succ, V.int.injEq, V.bl.injEq, V.str.injEq, V.ref.injEq, V.ty.injEq, List.cons.injEq, Option.some.injEq, and_true, true_and, exists_eq_left', exists_and_left, exists_eq_left, Nat.reduceAdd, Nat.sub_self, sz1, sp_is_within, e, T.cl_Memory, T.na_Memory_size, mfl_size]
    refine ⟨hk, ?_⟩
    cases hw : wi v 0 (ws.length - 1) <;> simp [hw] at h ⊢ <;> exact h
def sp_Space_has (A : Ad) : Sp := fun vs H Q _ => ∃ p dx b e t v, vs = [.ref p, v] ∧ H p = some (.ins A.c_Space dx (sfl b e t)) ∧ Kn H v ∧ Q (.bl (wi v b (t - 1))) H
theorem sc_Space_has : FnScope ["self", "at"] ["self", "at"] (defScope s_Space_has) := ⟨rfl, rfl, rfl, by decide +kernel, rfl, by decide +kernel, by decide +kernel⟩
theorem ok_Space_has {ca : Bool} (T : Txt K mg A) : FnOk P w K mg base (CXE P w) ca 3 A.f_Space_has A.d_Space_has ["self", "at"] (sp_Space_has A) := by
  refine T.fn_Space_has.okE sc_Space_has (fun vs H Q E h => ?_) (fun cdv A' outer s H vs Q E hr hx h => ?_)
  · obtain ⟨p, dx, b, e, t, v, rfl, hp, hk, q⟩ := h
    rfl
  · obtain ⟨p, dx, b, e, t, v, rfl, hp, hk, q⟩ := h
    refine ⟨_, JSs.run (j_pss_one (j_ps_ret (j_pe_callF ((ok_is_within T).mono (by decide)) hr rfl T.g_is_within T.fn_is_within.kp T.b_is_within hx (j_pa_c (j_cv 1) (j_pa_c (j_c_fld (j_cv 0) rfl) (j_pa_c (j_pe_op j_c_sub (j_c_fld (j_cv 0) rfl) j_pe_int) j_pa_nil)))))), ?_⟩
    simp only [tRet, tOp, tCons, tNil, tC, cVar, tCallE, cSub, cxOf_K, and_assoc, Int.reduceAdd, cFld, L2.start, List.map_cons, List.map_nil, List.length_cons, List.length_nil, List.replicate, List.append_nil, List.getElem?_cons_zero, List.getElem?_cons_succ, V.int.injEq, V.bl.injEq, V.str.injEq, V.ref.injEq, V.ty.injEq, List.cons.injEq, Option.some.injEq, and_true, true_and, exists_eq_left', exists_and_left, Nat.reduceAdd, Nat.sub_self, sp_is_within, hp, T.cl_Space, T.na_Space_begin, T.na_Space_top, sfl_b, sfl_t]
    exact ⟨hk, q⟩
def sp_Hands_init (A : Ad) : Sp := fun vs H Q E => ∃ p dx v, vs = [.ref p, v] ∧ H p = some (.ins A.c_Hands dx []) ∧ Kn H v ∧
  if wi v 1 6 = true then (∀ q H', H q = none → HdAt A.c_Hands H' p q (List.replicate (iv v).toNat (-1)) → (∀ b o, H b = some o → b ≠ p → H' b = some o) → Q .non H') else E (.ref A.c_BadCount) none H
theorem sc_Hands_init : FnScope ["self", "many"] ["self", "many"] (defScope s_Hands_init) := ⟨rfl, rfl, rfl, by decide +kernel, rfl, by decide +kernel, by decide +kernel⟩
theorem ok_Hands_init (T : Txt K mg A) : FnOk P w K mg base (CXE P w) true 3 A.f_Hands_init A.d_Hands_init ["self", "many"] (sp_Hands_init A) := by
  refine T.fn_Hands_init.okE sc_Hands_init (fun vs H Q E h => ?_) (fun cdv A' outer s H vs Q E hr hx h => ?_)
  · obtain ⟨p, dx, v, rfl, e, hk, h⟩ := h
    rfl
  · obtain ⟨p, dx, v, rfl, e, hk, h⟩ := h
    refine ⟨_, JSs.run (j_pss_cons (j_ps_if (j_pt_not (j_pt_truth (j_pe_callF ((ok_is_within T).mono (by decide)) hr rfl T.g_is_within T.fn_is_within.kp T.b_is_within hx (j_pa_c (j_cv 1) (j_pa_c j_pe_int (j_pa_c (j_pe_gv T.v_MOST_HANDS) j_pa_nil)))) (fun _ => rfl))) (j_pss_one (j_ps_raiseF hx rfl T.g_BadCount T.x_BadCount rfl (j_pa_c j_pe_str j_pa_nil))) j_pss_nil)
      (j_pss_one (j_c_sfld (j_cv 0) (j_pe_op j_c_rep (j_pe_lst (j_pa_c (j_pe_gv T.v_NOTHING) j_pa_nil)) (j_cv 1)) rfl))), ?_⟩
    simp only [tNext, tSeq, tIfS, tOp, tNot, tCons, tNil, tC, cVar, tLst, tCallE, tRaise, cxOf_K, TruV, and_assoc, Int.reduceNeg, Int.reducePow, Int.reduceAdd, Bool.not_eq_true', cSFld, cRep, L2.start, List.map_cons, List.map_nil, List.length_cons, List.length_nil, List.replicate, List.append_nil, List.getElem?_cons_zero, List.getElem?_cons_succ, V.int.injEq, V.bl.injEq, V.str.injEq, V.ref.injEq, V.ty.injEq, List.cons.injEq, Option.some.injEq, and_true, true_and, exists_eq_left', exists_and_left, exists_eq_left, Nat.reduceAdd, Nat.sub_self, sz1, sp_is_within]
    refine ⟨hk, ?_⟩
    cases hw : wi v 1 6
    · simp [hw] at h ⊢; exact h
    · obtain ⟨n, rfl, h0, h1⟩ := wi_int hw
      simp only [hw, if_true] at h ⊢
      rw [if_neg (fun z => by cases z)]
      intro l hl
      rw [upd_same]
      dsimp only
      refine ⟨by omega, by omega, Nat.le_trans (show [V.int (-1)].length * n.toNat ≤ 6 by show 1 * n.toNat ≤ 6; omega) (by decide), fun p1 hp1 => ?_⟩
      obtain ⟨n1, hq⟩ := upd_none hp1
      have npl := ne_of_none e hl
      have np1 := ne_of_none e hq
      rw [upd_ne np1, upd_ne npl, e]
      dsimp only
      refine ⟨T.cl_Hands, T.na_Hands_words, by decide, h p1 _ hq ⟨⟨dx, upd_same⟩, ?_⟩ fun b o eb nb => ?_⟩
      · rw [upd_ne (Ne.symm np1), upd_same]
        have z : ∀ j : Nat, (List.replicate j [V.int (-1)]).flatten = (List.replicate j (-1)).map V.int := fun j => by
          induction j with
          | zero => rfl
          | succ j ih => rw [List.replicate_succ, List.replicate_succ, List.flatten_cons, ih]; rfl
        rw [z]; rfl
      · rw [upd_ne nb, upd_ne (ne_of_none eb hq), upd_ne (ne_of_none eb hl)]; exact eb
def sp_Hands_want_hand (A : Ad) : Sp := fun vs H Q E => ∃ p q ws v, vs = [.ref p, v] ∧ HdAt A.c_Hands H p q ws ∧ Kn H v ∧ if wi v 0 (ws.length - 1) = true then Q .non H else E (.ref A.c_NoHand) none H
theorem sc_Hands_want_hand : FnScope ["self", "hand"] ["self", "hand"] (defScope s_Hands_want_hand) := ⟨rfl, rfl, rfl, by decide +kernel, rfl, by decide +kernel, by decide +kernel⟩
theorem ok_Hands_want_hand (T : Txt K mg A) : FnOk P w K mg base (CXE P w) true 3 A.f_Hands_want_hand A.d_Hands_want_hand ["self", "hand"] (sp_Hands_want_hand A) := by
  refine T.fn_Hands_want_hand.okE sc_Hands_want_hand (fun vs H Q E h => ?_) (fun cdv A' outer s H vs Q E hr hx h => ?_)
  · obtain ⟨p, q, ws, v, rfl, m, hk, h⟩ := h
    rfl
  · obtain ⟨p, q, ws, v, rfl, m, hk, h⟩ := h
    refine ⟨_, JSs.run (j_pss_one (j_ps_if (j_pt_not (j_pt_truth (j_pe_callF ((ok_is_within T).mono (by decide)) hr rfl T.g_is_within T.fn_is_within.kp T.b_is_within hx (j_pa_c (j_cv 1) (j_pa_c j_pe_int (j_pa_c (j_pe_op j_c_sub (j_pe_callBF j_c_len (by rfl) T.n_len PyProof.Rows.Boot.«len» (j_pa_c (j_c_fld (j_cv 0) rfl) j_pa_nil)) j_pe_int) j_pa_nil)))) (fun _ => rfl))) (j_pss_one (j_ps_raiseF hx rfl T.g_NoHand T.x_NoHand rfl (j_pa_c j_pe_str j_pa_nil))) j_pss_nil)), ?_⟩
    obtain ⟨dx, e⟩ := m.ob
    simp only [tNext, tIfS, tOp, tNot, tCB, tCons, tNil, tC, cVar, tCallE, tRaise, cSub, cLen, cxOf_K, TruV, and_assoc, Int.reduceAdd, Bool.not_eq_true', cFld, L2.start, List.map_cons, List.map_nil, List.length_cons, List.length_nil, List.replicate, List.append_nil, List.getElem?_cons_zero, List.getElem?_cons_succ, V.int.injEq, V.bl.injEq, V.str.injEq, V.ref.injEq, V.ty.injEq, List.cons.injEq, Option.some.injEq, and_true, true_and, exists_eq_left', exists_and_left, exists_eq_left, Nat.reduceAdd, Nat.sub_self, sz1, sp_is_within, e, T.cl_Hands, T.na_Hands_words, hfl_w, m.ls, List.length_map]
    refine ⟨hk, ?_⟩
    cases hw : wi v 0 (ws.length - 1) <;> simp [hw] at h ⊢ <;> exact h
def sp_want_number (A : Ad) : Sp := fun vs H Q E => ∃ v, vs = [v] ∧ Kn H v ∧ if wi v (-1000000000000) 1000000000000 = true then Q .non H else E (.ref A.c_BadNumber) none H
theorem sc_want_number : FnScope ["thing"] ["thing"] (defScope s_want_number) := ⟨rfl, rfl, rfl, by decide +kernel, rfl, by decide +kernel, by decide +kernel⟩
theorem ok_want_number (T : Txt K mg A) : FnOk P w K mg base (CXE P w) true 4 A.f_want_number A.d_want_number ["thing"] (sp_want_number A) := by
  refine T.fn_want_number.okE sc_want_number (fun vs H Q E h => ?_) (fun cdv A' outer s H vs Q E hr hx h => ?_)
  · obtain ⟨v, rfl, hk, q⟩ := h
    rfl
  · obtain ⟨v, rfl, hk, q⟩ := h
    refine ⟨_, JSs.run (j_pss_one (j_ps_if (j_pt_not (j_pt_truth (j_pe_callF ((ok_is_number T).mono (by decide)) hr rfl T.g_is_number T.fn_is_number.kp T.b_is_number hx (j_pa_c (j_cv 0) j_pa_nil)) (fun _ => rfl))) (j_pss_one (j_ps_raiseF hx rfl T.g_BadNumber T.x_BadNumber rfl (j_pa_c j_pe_str j_pa_nil))) j_pss_nil)), ?_⟩
    simp only [tNext, tIfS, tNot, tCons, tNil, tC, cVar, tCallE, tRaise, TruV, Int.reduceNeg, Int.reduceAdd, Bool.not_eq_true', L2.start, List.map_cons, List.map_nil, List.length_cons, List.length_nil, List.replicate, List.append_nil, List.getElem?_cons_zero, V.int.injEq, V.bl.injEq, V.str.injEq, V.ref.injEq, V.ty.injEq, List.cons.injEq, Option.some.injEq, and_true, true_and, exists_eq_left', exists_eq_left, Nat.reduceAdd, Nat.sub_self, sz1, sp_is_number]
    refine ⟨hk, ?_⟩
    cases hw : wi v (-1000000000000) 1000000000000 <;> simp [hw] at q ⊢ <;> exact q
def sp_want_place (A : Ad) : Sp := fun vs H Q E => ∃ v, vs = [v] ∧ Kn H v ∧ if wi v 0 9999 = true then Q .non H else E (.ref A.c_NoPlace) none H
theorem sc_want_place : FnScope ["thing"] ["thing"] (defScope s_want_place) := ⟨rfl, rfl, rfl, by decide +kernel, rfl, by decide +kernel, by decide +kernel⟩
theorem ok_want_place (T : Txt K mg A) : FnOk P w K mg base (CXE P w) true 4 A.f_want_place A.d_want_place ["thing"] (sp_want_place A) := by
  refine T.fn_want_place.okE sc_want_place (fun vs H Q E h => ?_) (fun cdv A' outer s H vs Q E hr hx h => ?_)
  · obtain ⟨v, rfl, hk, q⟩ := h
    rfl
  · obtain ⟨v, rfl, hk, q⟩ := h
    refine ⟨_, JSs.run (j_pss_one (j_ps_if (j_pt_not (j_pt_truth (j_pe_callF ((ok_is_place T).mono (by decide)) hr rfl T.g_is_place T.fn_is_place.kp T.b_is_place hx (j_pa_c (j_cv 0) j_pa_nil)) (fun _ => rfl))) (j_pss_one (j_ps_raiseF hx rfl T.g_NoPlace T.x_NoPlace rfl (j_pa_c j_pe_str j_pa_nil))) j_pss_nil)), ?_⟩
    simp only [tNext, tIfS, tNot, tCons, tNil, tC, cVar, tCallE, tRaise, TruV, Int.reduceAdd, Bool.not_eq_true', L2.start, List.map_cons, List.map_nil, List.length_cons, List.length_nil, List.replicate, List.append_nil, List.getElem?_cons_zero, V.int.injEq, V.bl.injEq, V.str.injEq, V.ref.injEq, V.ty.injEq, List.cons.injEq, Option.some.injEq, and_true, true_and, exists_eq_left', exists_eq_left, Nat.reduceAdd, Nat.sub_self, sz1, sp_is_place]
    refine ⟨hk, ?_⟩
    cases hw : wi v 0 9999 <;> simp [hw] at q ⊢ <;> exact q
def sp_kind (A : Ad) : Sp := fun vs H Q E => ∃ v, vs = [v] ∧ Kn H v ∧ match kd v with
  | some x => Q (.str x) H
  | none => E (.ref A.c_BadWord) none H
theorem sc_kind : FnScope ["word"] ["word"] (defScope s_kind) := ⟨rfl, rfl, rfl, by decide +kernel, rfl, by decide +kernel, by decide +kernel⟩
theorem ok_kind (T : Txt K mg A) : FnOk P w K mg base (CXE P w) true 4 A.f_kind A.d_kind ["word"] (sp_kind A) := by
  refine T.fn_kind.okE sc_kind (fun vs H Q E h => ?_) (fun cdv A' outer s H vs Q E hr hx h => ?_)
  · obtain ⟨v, rfl, hk, q⟩ := h
    rfl
  · obtain ⟨v, rfl, hk, q⟩ := h
    refine ⟨_, JSs.run (j_pss_cons (j_ps_if (j_pt_not (j_pt_truth (j_pe_callF ((ok_is_whole T).mono (by decide)) hr rfl T.g_is_whole T.fn_is_whole.kp T.b_is_whole hx (j_pa_c (j_cv 0) j_pa_nil)) (fun _ => rfl))) (j_pss_one (j_ps_raiseF hx rfl T.g_BadWord T.x_BadWord rfl (j_pa_c j_pe_str j_pa_nil))) j_pss_nil)
      (j_pss_cons (j_ps_if (j_pt_cmpR j_c_eq (j_cv 0) (j_pe_gv T.v_NOTHING) (nomark _)) (j_pss_one (j_ps_ret j_pe_str)) j_pss_nil)
      (j_pss_cons (j_ps_if (j_PW_pt (j_pw_and (j_pt_cmpR j_c_eq (j_pe_op j_c_mod (j_cv 0) j_pe_int) j_pe_int (nomark _)) (j_pw_and1 (j_pt_truth (j_pe_callF ((ok_is_number T).mono (by decide)) hr rfl T.g_is_number T.fn_is_number.kp T.b_is_number hx (j_pa_c (j_pe_op j_c_fdiv (j_cv 0) j_pe_int) j_pa_nil)) (fun _ => rfl))))) (j_pss_one (j_ps_ret j_pe_str)) j_pss_nil)
      (j_pss_cons (j_ps_if (j_PW_pt (j_pw_and (j_pt_cmpR j_c_eq (j_pe_op j_c_mod (j_cv 0) j_pe_int) j_pe_int (nomark _)) (j_pw_and1 (j_pt_truth (j_pe_callF ((ok_is_place T).mono (by decide)) hr rfl T.g_is_place T.fn_is_place.kp T.b_is_place hx (j_pa_c (j_pe_op j_c_fdiv (j_cv 0) j_pe_int) j_pa_nil)) (fun _ => rfl))))) (j_pss_one (j_ps_ret j_pe_str)) j_pss_nil)
      (j_pss_one (j_ps_raiseF hx rfl T.g_BadWord T.x_BadWord rfl (j_pa_c j_pe_str j_pa_nil))))))), ?_⟩
    simp only [tRet, tNext, tSeq, tIfS, tTest, tOp, tAnd, tNot, tCons, tNil, tC, cVar, tCallE, tRaise, cFdiv, cMod, cEq, eqv, TruV, and_assoc, CDiv, Int.reduceNeg, Int.reduceAdd, Bool.not_eq_true', L2.start, List.map_cons, List.map_nil, List.length_cons, List.length_nil, List.replicate, List.append_nil, List.getElem?_cons_zero, V.int.injEq, V.bl.injEq, V.str.injEq, V.ref.injEq, V.ty.injEq, List.cons.injEq, Option.some.injEq, and_true, true_and, exists_eq_left', exists_eq_left, ite_false, Bool.false_eq_true, decide_eq_true_eq, Nat.reduceAdd, Nat.sub_self, sz1, sp_is_whole, sp_is_number, sp_is_place]
    refine ⟨hk, ?_⟩
    cases v <;> simp only [kd, isI] at q ⊢ <;> simp only [Int.reduceLT, Nat.reduceLT, Int.reduceNeg, Bool.true_eq_false, true_and, ite_true, ite_false, Bool.false_eq_true, decide_eq_true_eq, Kn] at q ⊢ <;> try exact q
    rename_i w
    by_cases h1 : w = -1
    · simp [h1] at q ⊢; exact q
    · by_cases h2 : w % 2 = 0
      · by_cases h3 : wi (.int (w / 2)) (-1000000000000) 1000000000000 = true
        · simp [h1, h2, h3] at q ⊢; exact q
        · simp [h1, h2, h3] at q ⊢; exact q
      · by_cases h4 : w % 2 = 1
        · by_cases h5 : wi (.int (w / 2)) 0 9999 = true
          · simp [h1, h2, h4, h5] at q ⊢; exact q
          · simp [h1, h2, h4, h5] at q ⊢; exact q
        · omega
def sp_Memory_read (A : Ad) : Sp := fun vs H Q E => ∃ p q ws v, vs = [.ref p, v] ∧ MemAt A.c_Memory H p q ws ∧ Kn H v ∧ if wi v 0 (ws.length - 1) = true then Q (.int (ws.getD (iv v).toNat 0)) H else E (.ref A.c_NoPlace) none H
theorem sc_Memory_read : FnScope ["self", "at"] ["self", "at"] (defScope s_Memory_read) := ⟨rfl, rfl, rfl, by decide +kernel, rfl, by decide +kernel, by decide +kernel⟩
theorem ok_Memory_read (T : Txt K mg A) : FnOk P w K mg base (CXE P w) true 4 A.f_Memory_read A.d_Memory_read ["self", "at"] (sp_Memory_read A) := by
  refine T.fn_Memory_read.okE sc_Memory_read (fun vs H Q E h => ?_) (fun cdv A' outer s H vs Q E hr hx h => ?_)
  · obtain ⟨p, q, ws, v, rfl, m, hk, h⟩ := h
    rfl
  · obtain ⟨p, q, ws, v, rfl, m, hk, h⟩ := h
    refine ⟨_, JSs.run (j_pss_cons (j_ps_expr (j_c_meth (j_cv 0) T.cl_Memory T.m_Memory_want_place ((ok_Memory_want_place T).mono (by decide)) hr T.b_Memory_want_place hx (j_pa_c (j_cv 1) j_pa_nil)))
      (j_pss_one (j_ps_ret (j_pe_ix j_c_ix (j_c_fld (j_cv 0) rfl) (j_cv 1) (fun _ _ => rfl))))), ?_⟩
    obtain ⟨dx, e⟩ := m.ob
    simp only [tRet, tDrop, tSeq, tOp, tCons, tNil, cVar, cIx, cxOf_K, and_assoc, Int.reduceAdd, cFld, cMethE, L2.start, List.map_cons, List.map_nil, List.length_cons, List.length_nil, List.replicate, List.append_nil, List.getElem?_cons_zero, List.getElem?_cons_succ, V.int.injEq, V.bl.injEq, V.str.injEq, V.ref.injEq, V.ty.injEq, List.cons.injEq, Option.some.injEq, and_true, true_and, exists_eq_left', exists_and_left, Nat.reduceAdd, Nat.sub_self, sp_Memory_want_place, e, T.cl_Memory, T.na_Memory_words, mfl_words, mfl_wp]
    refine ⟨q, ws, m, hk, ?_⟩
    cases hw : wi v 0 (ws.length - 1)
    · simp [hw] at h ⊢; exact h
    · obtain ⟨i, rfl, h0, h1⟩ := wi_int hw
      simp only [hw, if_true, m.ls, at_ints h0 h1, iv] at h ⊢
      exact h
def sp_Hands_get (A : Ad) : Sp := fun vs H Q E => ∃ p q ws v, vs = [.ref p, v] ∧ HdAt A.c_Hands H p q ws ∧ Kn H v ∧ if wi v 0 (ws.length - 1) = true then Q (.int (ws.getD (iv v).toNat 0)) H else E (.ref A.c_NoHand) none H
theorem sc_Hands_get : FnScope ["self", "hand"] ["self", "hand"] (defScope s_Hands_get) := ⟨rfl, rfl, rfl, by decide +kernel, rfl, by decide +kernel, by decide +kernel⟩
theorem ok_Hands_get (T : Txt K mg A) : FnOk P w K mg base (CXE P w) true 4 A.f_Hands_get A.d_Hands_get ["self", "hand"] (sp_Hands_get A) := by
  refine T.fn_Hands_get.okE sc_Hands_get (fun vs H Q E h => ?_) (fun cdv A' outer s H vs Q E hr hx h => ?_)
  · obtain ⟨p, q, ws, v, rfl, m, hk, h⟩ := h
    rfl
  · obtain ⟨p, q, ws, v, rfl, m, hk, h⟩ := h
    refine ⟨_, JSs.run (j_pss_cons (j_ps_expr (j_c_meth (j_cv 0) T.cl_Hands T.m_Hands_want_hand ((ok_Hands_want_hand T).mono (by decide)) hr T.b_Hands_want_hand hx (j_pa_c (j_cv 1) j_pa_nil)))
      (j_pss_one (j_ps_ret (j_pe_ix j_c_ix (j_c_fld (j_cv 0) rfl) (j_cv 1) (fun _ _ => rfl))))), ?_⟩
    obtain ⟨dx, e⟩ := m.ob
    simp only [tRet, tDrop, tSeq, tOp, tCons, tNil, cVar, cIx, cxOf_K, and_assoc, Int.reduceAdd, cFld, cMethE, L2.start, List.map_cons, List.map_nil, List.length_cons, List.length_nil, List.replicate, List.append_nil, List.getElem?_cons_zero, List.getElem?_cons_succ, V.int.injEq, V.bl.injEq, V.str.injEq, V.ref.injEq, V.ty.injEq, List.cons.injEq, Option.some.injEq, and_true, true_and, exists_eq_left', exists_and_left, Nat.reduceAdd, Nat.sub_self, sp_Hands_want_hand, e, T.cl_Hands, T.na_Hands_words, hfl_w, hfl_want]
    refine ⟨q, ws, m, hk, ?_⟩
    cases hw : wi v 0 (ws.length - 1)
    · simp [hw] at h ⊢; exact h
    · obtain ⟨i, rfl, h0, h1⟩ := wi_int hw
      simp only [hw, if_true, m.ls, at_ints h0 h1, iv] at h ⊢
      exact h
def sp_Heap_want_hand (A : Ad) : Sp := fun vs H Q E => ∃ X S v, vs = [.ref X.p, v] ∧ HeAt A.c_Heap A.c_Roots A.c_Hands A.c_Book A.c_Areas A.c_Memory A.c_Space H X S ∧ Kn H v ∧ if wi v 0 (S.hw.length - 1) = true then Q .non H else E (.ref A.c_NoHand) none H
theorem sc_Heap_want_hand : FnScope ["self", "hand"] ["self", "hand"] (defScope s_Heap_want_hand) := ⟨rfl, rfl, rfl, by decide +kernel, rfl, by decide +kernel, by decide +kernel⟩
theorem ok_Heap_want_hand (T : Txt K mg A) : FnOk P w K mg base (CXE P w) true 4 A.f_Heap_want_hand A.d_Heap_want_hand ["self", "hand"] (sp_Heap_want_hand A) := by
  refine T.fn_Heap_want_hand.okE sc_Heap_want_hand (fun vs H Q E h => ?_) (fun cdv A' outer s H vs Q E hr hx h => ?_)
  · obtain ⟨X, S, v, rfl, g, hk, q⟩ := h
    rfl
  · obtain ⟨X, S, v, rfl, g, hk, q⟩ := h
    refine ⟨_, JSs.run (j_pss_one (j_ps_expr (j_c_meth (j_c_fld (j_c_fld (j_cv 0) rfl) rfl) T.cl_Hands T.m_Hands_want_hand ((ok_Hands_want_hand T).mono (by decide)) hr T.b_Hands_want_hand hx (j_pa_c (j_cv 1) j_pa_nil)))), ?_⟩
    obtain ⟨d0, e0⟩ := g.ob
    obtain ⟨d1, w1, l1, e1⟩ := g.rt.ob
    obtain ⟨d2, e2⟩ := g.rt.hd.ob
    simp only [tDrop, tCons, tNil, cVar, cxOf_K, and_assoc, Int.reduceAdd, cFld, cMethE, L2.start, List.map_cons, List.map_nil, List.length_cons, List.length_nil, List.replicate, List.append_nil, List.getElem?_cons_zero, List.getElem?_cons_succ, V.int.injEq, V.bl.injEq, V.str.injEq, V.ref.injEq, V.ty.injEq, List.cons.injEq, Option.some.injEq, and_true, true_and, exists_eq_left', exists_and_left, Nat.reduceAdd, Nat.sub_self, e0, T.cl_Heap, T.na_Heap_roots, gfl_r, e1, T.cl_Roots, T.na_Roots_hands, rofl_h, e2, hfl_want, sp_Hands_want_hand]
    refine ⟨X.qh, S.hw, g.rt.hd, hk, ?_⟩
    cases hw : wi v 0 (S.hw.length - 1) <;> rw [hw] at q <;> exact q
def sp_number_word (A : Ad) : Sp := fun vs H Q E => ∃ v, vs = [v] ∧ Kn H v ∧ if wi v (-1000000000000) 1000000000000 = true then Q (.int (2 * iv v)) H else E (.ref A.c_BadNumber) none H
theorem sc_number_word : FnScope ["n"] ["n"] (defScope s_number_word) := ⟨rfl, rfl, rfl, by decide +kernel, rfl, by decide +kernel, by decide +kernel⟩
theorem ok_number_word (T : Txt K mg A) : FnOk P w K mg base (CXE P w) true 5 A.f_number_word A.d_number_word ["n"] (sp_number_word A) := by
  refine T.fn_number_word.okE sc_number_word (fun vs H Q E h => ?_) (fun cdv A' outer s H vs Q E hr hx h => ?_)
  · obtain ⟨v, rfl, hk, q⟩ := h
    rfl
  · obtain ⟨v, rfl, hk, q⟩ := h
    refine ⟨_, JSs.run (j_pss_cons (j_ps_expr (j_pe_callF ((ok_want_number T).mono (by decide)) hr rfl T.g_want_number T.fn_want_number.kp T.b_want_number hx (j_pa_c (j_cv 0) j_pa_nil)))
      (j_pss_one (j_ps_ret (j_pe_op j_c_mul j_pe_int (j_cv 0))))), ?_⟩
    simp only [tRet, tDrop, tSeq, tOp, tCons, tNil, tC, cVar, tCallE, cMul, CMul, Int.reduceNeg, Int.reducePow, Int.reduceAdd, emp_ofs, L2.start, List.map_cons, List.map_nil, List.length_cons, List.length_nil, List.replicate, List.append_nil, List.getElem?_cons_zero, V.int.injEq, V.bl.injEq, V.str.injEq, V.ref.injEq, V.ty.injEq, List.cons.injEq, Option.some.injEq, and_true, exists_eq_left', Nat.reduceAdd, Nat.sub_self, sp_want_number]
    refine ⟨hk, ?_⟩
    cases v <;> simp only [wi, iv] at q ⊢ <;> simp only [true_or, Int.reduceLT, Nat.reduceMul, Nat.reduceLT, Int.reduceNeg, Int.reduceMul, and_true, true_and, ite_false, Bool.false_eq_true] at q ⊢ <;> try exact q
    all_goals (split <;> rename_i h <;> simp [h] at q ⊢ <;> exact q)
def sp_place_word (A : Ad) : Sp := fun vs H Q E => ∃ v, vs = [v] ∧ Kn H v ∧ if wi v 0 9999 = true then Q (.int (2 * iv v + 1)) H else E (.ref A.c_NoPlace) none H
theorem sc_place_word : FnScope ["at"] ["at"] (defScope s_place_word) := ⟨rfl, rfl, rfl, by decide +kernel, rfl, by decide +kernel, by decide +kernel⟩
theorem ok_place_word (T : Txt K mg A) : FnOk P w K mg base (CXE P w) true 5 A.f_place_word A.d_place_word ["at"] (sp_place_word A) := by
  refine T.fn_place_word.okE sc_place_word (fun vs H Q E h => ?_) (fun cdv A' outer s H vs Q E hr hx h => ?_)
  · obtain ⟨v, rfl, hk, q⟩ := h
    rfl
  · obtain ⟨v, rfl, hk, q⟩ := h
    refine ⟨_, JSs.run (j_pss_cons (j_ps_expr (j_pe_callF ((ok_want_place T).mono (by decide)) hr rfl T.g_want_place T.fn_want_place.kp T.b_want_place hx (j_pa_c (j_cv 0) j_pa_nil)))
      (j_pss_one (j_ps_ret (j_pe_op j_c_add (j_pe_op j_c_mul j_pe_int (j_cv 0)) j_pe_int)))), ?_⟩
    simp only [tRet, tDrop, tSeq, tOp, tCons, tNil, tC, cVar, tCallE, cAdd, cMul, CMul, Int.reduceNeg, Int.reducePow, Int.reduceAdd, L2.start, List.map_cons, List.map_nil, List.length_cons, List.length_nil, List.replicate, List.append_nil, List.getElem?_cons_zero, V.int.injEq, V.bl.injEq, V.str.injEq, V.ref.injEq, V.ty.injEq, List.cons.injEq, Option.some.injEq, and_true, exists_eq_left', and_false, Nat.reduceAdd, Nat.sub_self, sp_want_place]
    refine ⟨hk, ?_⟩
    cases v <;> simp only [wi, iv] at q ⊢ <;> simp only [true_or, Int.reduceLT, Nat.reduceMul, Nat.reduceLT, Int.reduceNeg, Int.reduceMul, Int.reduceAdd, and_true, true_and, ite_false, Bool.false_eq_true, Nat.reduceAdd] at q ⊢ <;> try exact q
    all_goals (split <;> rename_i h <;> simp [h] at q ⊢ <;> exact q)
def sp_worth (A : Ad) : Sp := fun vs H Q E => ∃ v, vs = [v] ∧ Kn H v ∧ match kd v with
  | some _ => Q (wo v) H
  | none => E (.ref A.c_BadWord) none H
theorem kd_nothing {v : V} {x : Str} (h : kd v = some x) : ∃ w, v = .int w ∧ (x = Str.ofString "nothing" ↔ w = -1) := by
  cases v with
  | int w =>
    refine ⟨w, rfl, ?_⟩
    simp only [kd] at h
    split at h
    · rename_i e; cases h; exact ⟨fun _ => e, fun _ => rfl⟩
    · rename_i e
      refine ⟨fun z => ?_, fun z => absurd z e⟩
      subst z
      split at h
      · cases Option.some.inj h |> (ofs_inj ▸ ·) |> (by decide : ¬ ("number" = "nothing"))
      · split at h
        · cases Option.some.inj h |> (ofs_inj ▸ ·) |> (by decide : ¬ ("place" = "nothing"))
        · cases h
  | _ => cases h
theorem sc_worth : FnScope ["word"] ["word"] (defScope s_worth) := ⟨rfl, rfl, rfl, by decide +kernel, rfl, by decide +kernel, by decide +kernel⟩
theorem ok_worth (T : Txt K mg A) : FnOk P w K mg base (CXE P w) true 5 A.f_worth A.d_worth ["word"] (sp_worth A) := by
  refine T.fn_worth.okE sc_worth (fun vs H Q E h => ?_) (fun cdv A' outer s H vs Q E hr hx h => ?_)
  · obtain ⟨v, rfl, hk, q⟩ := h
    rfl
  · obtain ⟨v, rfl, hk, q⟩ := h
    refine ⟨_, JSs.run (j_pss_cons (j_ps_if (j_pt_cmpR j_c_eq (j_pe_callF ((ok_kind T).mono (by decide)) hr rfl T.g_kind T.fn_kind.kp T.b_kind hx (j_pa_c (j_cv 0) j_pa_nil)) j_pe_str (nomark _)) (j_pss_one (j_ps_ret j_pe_non)) j_pss_nil)
      (j_pss_one (j_ps_ret (j_pe_op j_c_fdiv (j_cv 0) j_pe_int)))), ?_⟩
    simp only [tRet, tNext, tSeq, tIfS, tTest, tOp, tCons, tNil, tC, cVar, tCallE, cFdiv, cEq, eqv, and_assoc, CDiv, Int.reduceAdd, L2.start, List.map_cons, List.map_nil, List.length_cons, List.length_nil, List.replicate, List.append_nil, List.getElem?_cons_zero, V.int.injEq, V.bl.injEq, V.str.injEq, V.ref.injEq, V.ty.injEq, List.cons.injEq, Option.some.injEq, and_true, exists_eq_left', decide_eq_true_eq, Nat.reduceAdd, Nat.sub_self, sp_kind]
    refine ⟨hk, ?_⟩
    cases e : kd v with
    | none => rw [e] at q; exact q
    | some x =>
      rw [e] at q
      obtain ⟨w, rfl, hw⟩ := kd_nothing e
      simp only [Int.reduceLT, Nat.reduceLT, Int.reduceNeg, true_and, wo] at q ⊢
      by_cases h1 : w = -1
      · simp only [hw.mpr h1, h1, if_true] at q ⊢; exact q
      · rw [if_neg fun z => h1 (hw.mp z)]; rw [if_neg h1] at q; exact q
def sp_Memory_write (A : Ad) : Sp := fun vs H Q E => ∃ p q ws v x, vs = [.ref p, v, x] ∧ MemAt A.c_Memory H p q ws ∧ Kn H v ∧ Kn H x ∧
  if wi v 0 (ws.length - 1) = true then (match kd x with
    | some _ => Q .non (upd H q (.lst ((ws.set (iv v).toNat (iv x)).map V.int)))
    | none => E (.ref A.c_BadWord) none H) else E (.ref A.c_NoPlace) none H
theorem sc_Memory_write : FnScope ["self", "at", "word"] ["self", "at", "word"] (defScope s_Memory_write) := ⟨rfl, rfl, rfl, by decide +kernel, rfl, by decide +kernel, by decide +kernel⟩
theorem ok_Memory_write (T : Txt K mg A) : FnOk P w K mg base (CXE P w) true 5 A.f_Memory_write A.d_Memory_write ["self", "at", "word"] (sp_Memory_write A) := by
  refine T.fn_Memory_write.okE sc_Memory_write (fun vs H Q E h => ?_) (fun cdv A' outer s H vs Q E hr hx h => ?_)
  · obtain ⟨p, q, ws, v, x, rfl, m, hk, hx', h⟩ := h
    rfl
  · obtain ⟨p, q, ws, v, x, rfl, m, hk, hx', h⟩ := h
    refine ⟨_, JSs.run (j_pss_cons (j_ps_expr (j_c_meth (j_cv 0) T.cl_Memory T.m_Memory_want_place ((ok_Memory_want_place T).mono (by decide)) hr T.b_Memory_want_place hx (j_pa_c (j_cv 1) j_pa_nil)))
      (j_pss_cons (j_ps_expr (j_pe_callF ((ok_kind T).mono (by decide)) hr rfl T.g_kind T.fn_kind.kp T.b_kind hx (j_pa_c (j_cv 2) j_pa_nil)))
      (j_pss_one (j_ps_asg (j_cv 2) (j_pg_sub (j_c_fld (j_cv 0) rfl) (j_cv 1) j_c_set))))), ?_⟩
    obtain ⟨dx, e⟩ := m.ob
    simp only [tDrop, tSeq, tCons, tNil, cVar, tAsg, tCallE, cxOf_K, and_assoc, Int.reduceAdd, cFld, cMethE, cSetL, gSub, L2.start, List.map_cons, List.map_nil, List.length_cons, List.length_nil, List.replicate, List.append_nil, List.getElem?_cons_zero, List.getElem?_cons_succ, V.int.injEq, V.bl.injEq, V.str.injEq, V.ref.injEq, V.ty.injEq, List.cons.injEq, Option.some.injEq, and_true, true_and, exists_eq_left', exists_and_left, Nat.reduceAdd, Nat.sub_self, sp_Memory_want_place, sp_kind, e, T.cl_Memory, T.na_Memory_words, mfl_words, mfl_wp]
    refine ⟨q, ws, m, hk, ?_⟩
    cases hw : wi v 0 (ws.length - 1)
    · simp [hw] at h ⊢; exact h
    · obtain ⟨i, rfl, h0, h1⟩ := wi_int hw
      simp only [hw, if_true] at h ⊢
      refine ⟨hx', ?_⟩
      cases hd : kd x with
      | none => rw [hd] at h; exact h
      | some y =>
        obtain ⟨j, rfl⟩ := kd_int hd
        rw [hd] at h
        simp only [m.ls, ix_ints h0 h1, set_ints, iv] at h ⊢
        exact h
def sp_Areas_init (A : Ad) : Sp := fun vs H Q E => ∃ p dx v u, vs = [.ref p, v, u] ∧ H p = some (.ins A.c_Areas dx []) ∧ Kn H v ∧ Kn H u ∧
  if wi v 4 2000 = true ∧ wi u 2 500 = true then (∀ m q o y s H', ArAt A.c_Areas A.c_Memory A.c_Space H' p m q o y s (List.replicate (iv v + 2 * iv u).toNat (-1)) ⟨0, iv v, 0⟩ ⟨iv v, iv v + iv u, iv v⟩ ⟨iv v + iv u, iv v + 2 * iv u, iv v + iv u⟩ → (∀ b x, H b = some x → b ≠ p → H' b = some x) → (H m = none ∧ H q = none ∧ H o = none ∧ H y = none ∧ H s = none) → Q .non H') else E (.ref A.c_BadCount) none H
theorem sc_Areas_init : FnScope ["self", "old_words", "young_words", "middle", "size"] ["self", "old_words", "young_words"] (defScope s_Areas_init) := ⟨rfl, rfl, rfl, by decide +kernel, rfl, by decide +kernel, by decide +kernel⟩
theorem ok_Areas_init (T : Txt K mg A) : FnOk P w K mg base (CXE P w) true 5 A.f_Areas_init A.d_Areas_init ["self", "old_words", "young_words"] (sp_Areas_init A) := by
  refine T.fn_Areas_init.okE sc_Areas_init (fun vs H Q E h => ?_) (fun cdv A' outer s H vs Q E hr hx h => ?_)
  · obtain ⟨p, dx, v, u, rfl, hp, kv, ku, h⟩ := h
    rfl
  · obtain ⟨p, dx, v, u, rfl, hp, kv, ku, h⟩ := h
    refine ⟨_, JSs.run (j_pss_cons (j_ps_if (j_pt_not (j_pt_truth (j_pe_callF ((ok_is_within T).mono (by decide)) hr rfl T.g_is_within T.fn_is_within.kp T.b_is_within hx (j_pa_c (j_cv 1) (j_pa_c (j_pe_gv T.v_LEAST_OLD_WORDS) (j_pa_c (j_pe_gv T.v_MOST_OLD_WORDS) j_pa_nil)))) (fun _ => rfl))) (j_pss_one (j_ps_raiseF hx rfl T.g_BadCount T.x_BadCount rfl (j_pa_c j_pe_str j_pa_nil))) j_pss_nil)
      (j_pss_cons (j_ps_if (j_pt_not (j_pt_truth (j_pe_callF ((ok_is_within T).mono (by decide)) hr rfl T.g_is_within T.fn_is_within.kp T.b_is_within hx (j_pa_c (j_cv 2) (j_pa_c (j_pe_gv T.v_LEAST_YOUNG_WORDS) (j_pa_c (j_pe_gv T.v_MOST_YOUNG_WORDS) j_pa_nil)))) (fun _ => rfl))) (j_pss_one (j_ps_raiseF hx rfl T.g_BadCount T.x_BadCount rfl (j_pa_c j_pe_str j_pa_nil))) j_pss_nil)
      (j_pss_cons (j_ps_set (i := 3) sc_Areas_init.nd rfl (by first | exact Or.inl rfl | exact Or.inr rfl) (j_pe_op j_c_add (j_cv 1) (j_cv 2)))
      (j_pss_cons (j_ps_set (i := 4) sc_Areas_init.nd rfl (by first | exact Or.inl rfl | exact Or.inr rfl) (j_pe_op j_c_add (j_cv 3) (j_cv 2)))
      (j_pss_cons (j_c_sfld (j_cv 0) (j_pe_makeF T.mk_Memory ((ok_Memory_init T).mono (by decide)) hr rfl T.g_Memory T.b_Memory_init hx (j_pa_c (j_cv 4) j_pa_nil)) rfl)
      (j_pss_cons (j_c_sfld (j_cv 0) (j_pe_makeF T.mk_Space ((ok_Space_init T).mono (by decide)) hr rfl T.g_Space T.b_Space_init hx (j_pa_c j_pe_int (j_pa_c (j_cv 1) j_pa_nil))) rfl)
      (j_pss_cons (j_c_sfld (j_cv 0) (j_pe_makeF T.mk_Space ((ok_Space_init T).mono (by decide)) hr rfl T.g_Space T.b_Space_init hx (j_pa_c (j_cv 1) (j_pa_c (j_cv 3) j_pa_nil))) rfl)
      (j_pss_one (j_c_sfld (j_cv 0) (j_pe_makeF T.mk_Space ((ok_Space_init T).mono (by decide)) hr rfl T.g_Space T.b_Space_init hx (j_pa_c (j_cv 3) (j_pa_c (j_cv 4) j_pa_nil))) rfl))))))))), ?_⟩
    cases hv : wi v 4 2000 with
    | false =>
      rw [if_neg (by rw [hv]; rintro ⟨z, _⟩; cases z)] at h
      simp only [tNext, tSeq, tIfS, tOp, tNot, tCons, tNil, tC, cVar, tAsg, gName, tCallE, tRaise, cAdd, cxOf_K, TruV, and_assoc, Int.reduceAdd, Int.reduceSub, Bool.not_eq_true', cSFld, tMakeE, L2.start, List.map_cons, List.map_nil, List.length_cons, List.length_nil, List.replicate, List.cons_append, List.nil_append, List.getElem?_cons_zero, List.getElem?_cons_succ, List.set_cons_zero, List.set_cons_succ, V.int.injEq, V.bl.injEq, V.str.injEq, V.ref.injEq, V.ty.injEq, List.cons.injEq, Option.some.injEq, and_true, true_and, exists_eq_left', exists_and_left, exists_eq_left, ite_true, Nat.reduceSub, Nat.reduceAdd, sz1, sp_is_within, hv]
      exact ⟨kv, h⟩
    | true =>
      cases hu : wi u 2 500 with
      | false =>
        rw [if_neg (by rw [hu]; rintro ⟨_, z⟩; cases z)] at h
        simp only [tNext, tSeq, tIfS, tOp, tNot, tCons, tNil, tC, cVar, tAsg, gName, tCallE, tRaise, cAdd, cxOf_K, TruV, and_assoc, Int.reduceAdd, Int.reduceSub, Bool.not_eq_true', Bool.true_eq_false, cSFld, tMakeE, L2.start, List.map_cons, List.map_nil, List.length_cons, List.length_nil, List.replicate, List.cons_append, List.nil_append, List.getElem?_cons_zero, List.getElem?_cons_succ, List.set_cons_zero, List.set_cons_succ, V.int.injEq, V.bl.injEq, V.str.injEq, V.ref.injEq, V.ty.injEq, List.cons.injEq, Option.some.injEq, and_true, true_and, exists_eq_left', exists_and_left, exists_eq_left, ite_true, ite_false, Nat.reduceSub, Nat.reduceAdd, sz1, sp_is_within, hv, hu]
        exact ⟨kv, ku, h⟩
      | true =>
        rw [if_pos ⟨hv, hu⟩] at h
        obtain ⟨i, rfl, i0, i1⟩ := wi_int hv
        obtain ⟨j, rfl, j0, j1⟩ := wi_int hu
        have Hs : ∀ {G : Hp} {x dx : Addr} {o : HO}, G x = none → G dx = none → Same G (upd (upd G dx (HO.own x)) x o) := fun {G x dx o} hx hdx b u eb => by rw [upd_ne (ne_of_none eb hx), upd_ne (ne_of_none eb hdx)]; exact eb
        show tSeq _ _ _ [some (V.ref p), some (V.int i), some (V.int j), none, none] H
        refine seq_mid (fun σ' H' => σ' = [some (V.ref p), some (V.int i), some (V.int j), none, none] ∧ H = H') (fun R hR => ?_) ?_
        · simp only [tNext, tIfS, tNot, tCons, tNil, tC, cVar, tCallE, tRaise, TruV, and_assoc, Int.reduceAdd, Bool.not_eq_true', Bool.true_eq_false, List.length_cons, List.length_nil, List.getElem?_cons_zero, List.getElem?_cons_succ, V.int.injEq, V.bl.injEq, V.str.injEq, V.ref.injEq, V.ty.injEq, List.cons.injEq, Option.some.injEq, and_true, true_and, exists_eq_left', exists_and_left, exists_eq_left, ite_false, Nat.reduceAdd, sz1, sp_is_within, hv]
          exact ⟨True.intro, hR _ _ ⟨rfl, rfl⟩⟩
        rintro _ _ ⟨rfl, rfl⟩
        refine seq_mid (fun σ' H' => σ' = [some (V.ref p), some (V.int i), some (V.int j), none, none] ∧ H = H') (fun R hR => ?_) ?_
        · simp only [tNext, tIfS, tNot, tCons, tNil, tC, cVar, tCallE, tRaise, TruV, and_assoc, Int.reduceAdd, Bool.not_eq_true', Bool.true_eq_false, List.length_cons, List.length_nil, List.getElem?_cons_zero, List.getElem?_cons_succ, V.int.injEq, V.bl.injEq, V.str.injEq, V.ref.injEq, V.ty.injEq, List.cons.injEq, Option.some.injEq, and_true, true_and, exists_eq_left', exists_and_left, exists_eq_left, ite_false, Nat.reduceAdd, sz1, sp_is_within, hu]
          exact ⟨True.intro, hR _ _ ⟨rfl, rfl⟩⟩
        rintro _ _ ⟨rfl, rfl⟩
        refine seq_mid (fun σ' H' => σ' = [some (V.ref p), some (V.int i), some (V.int j), some (V.int (i + j)), none] ∧ H = H') (fun R hR => ?_) ?_
        · simp only [tOp, cVar, tAsg, gName, cAdd, List.getElem?_cons_zero, List.getElem?_cons_succ, List.set_cons_zero, List.set_cons_succ]
          exact hR _ _ ⟨rfl, rfl⟩
        rintro _ _ ⟨rfl, rfl⟩
        refine seq_mid (fun σ' H' => σ' = [some (V.ref p), some (V.int i), some (V.int j), some (V.int (i + j)), some (V.int (i + j + j))] ∧ H = H') (fun R hR => ?_) ?_
        · simp only [tOp, cVar, tAsg, gName, cAdd, List.getElem?_cons_zero, List.getElem?_cons_succ, List.set_cons_zero, List.set_cons_succ]
          exact hR _ _ ⟨rfl, rfl⟩
        rintro _ _ ⟨rfl, rfl⟩
        refine seq_mid (fun σ' H' => ∃ m q, H m = none ∧ H q = none ∧ MemAt A.c_Memory H' m q (List.replicate (i + j + j).toNat (-1)) ∧ H' p = some (.ins A.c_Areas dx (putF "memory" (.ref m) [])) ∧ (∀ b o, H b = some o → b ≠ p → H' b = some o) ∧ σ' = [some (V.ref p), some (V.int i), some (V.int j), some (V.int (i + j)), some (V.int (i + j + j))]) (fun R hR => ?_) ?_
        · simp only [tCons, tNil, cVar, cxOf_K, and_assoc, Int.reduceNeg, upd_same, cSFld, tMakeE, List.getElem?_cons_zero, List.getElem?_cons_succ, V.int.injEq, V.bl.injEq, V.str.injEq, V.ref.injEq, V.ty.injEq, List.cons.injEq, Option.some.injEq, and_true, true_and, exists_eq_left', exists_and_left, sp_Memory_init]
          intro x d1 hx hd1 _
          refine ⟨d1, rfl, True.intro, ?_⟩
          rw [if_pos (by simp [wi]; omega)]
          intro q H1 hq m1 f1
          obtain ⟨_, hq1⟩ := upd_none hq
          obtain ⟨_, hq2⟩ := upd_none hq1
          have npx := ne_of_none hp hx
          have npq := ne_of_none hp hq2
          rw [f1 _ _ (Hs hx hd1 _ _ hp) npx]
          refine ⟨T.cl_Areas, T.na_Areas_memory, by decide, hR _ _ ⟨x, q, hx, hq2, m1.keep fun b o eb hb => ?_, upd_same, fun b o eb nb => ?_, rfl⟩⟩
          · rw [upd_ne (by rcases hb with rfl | rfl; exact Ne.symm npx; exact Ne.symm npq)]; exact eb
          · rw [upd_ne nb]; exact f1 _ _ (Hs hx hd1 _ _ eb) (ne_of_none eb hx)
        rintro _ H1 ⟨m, q, hm, hq, m1, e1, f1, rfl⟩
        have npm := ne_of_none hp hm
        have npq := ne_of_none hp hq
        refine seq_mid (fun σ' H' => ∃ o, H1 o = none ∧ SpIs A.c_Space H' o ⟨0, i, 0⟩ ∧ H' p = some (.ins A.c_Areas dx (putF "old" (.ref o) (putF "memory" (.ref m) []))) ∧ (∀ b o, H1 b = some o → b ≠ p → H' b = some o) ∧ σ' = [some (V.ref p), some (V.int i), some (V.int j), some (V.int (i + j)), some (V.int (i + j + j))]) (fun R hR => ?_) ?_
        · simp only [tCons, tNil, tC, cVar, cxOf_K, and_assoc, upd_same, cSFld, tMakeE, List.getElem?_cons_zero, List.getElem?_cons_succ, V.int.injEq, V.bl.injEq, V.str.injEq, V.ref.injEq, V.ty.injEq, List.cons.injEq, Option.some.injEq, and_true, true_and, exists_eq_left', exists_and_left, sp_Space_init]
          intro x d1 hx hd1 _
          have npx := ne_of_none e1 hx
          refine ⟨d1, rfl, ?_⟩
          rw [upd_ne npx, Hs hx hd1 _ _ e1]
          refine ⟨T.cl_Areas, T.na_Areas_old, (show (1 : Nat) < 1000 by decide), hR _ _ ⟨x, hx, ⟨d1, ?_⟩, upd_same, fun b o eb nb => ?_, rfl⟩⟩
          · rw [upd_ne (Ne.symm npx), upd_same]
          · rw [upd_ne nb, upd_ne (ne_of_none eb hx)]; exact Hs hx hd1 _ _ eb
        rintro _ H2 ⟨o, ho, so1, e2, f2, rfl⟩
        have npo := ne_of_none e1 ho
        refine seq_mid (fun σ' H' => ∃ y, H2 y = none ∧ SpIs A.c_Space H' y ⟨i, i + j, i⟩ ∧ H' p = some (.ins A.c_Areas dx (putF "young" (.ref y) (putF "old" (.ref o) (putF "memory" (.ref m) [])))) ∧ (∀ b o, H2 b = some o → b ≠ p → H' b = some o) ∧ σ' = [some (V.ref p), some (V.int i), some (V.int j), some (V.int (i + j)), some (V.int (i + j + j))]) (fun R hR => ?_) ?_
        · simp only [tCons, tNil, cVar, cxOf_K, and_assoc, upd_same, cSFld, tMakeE, List.getElem?_cons_zero, List.getElem?_cons_succ, V.int.injEq, V.bl.injEq, V.str.injEq, V.ref.injEq, V.ty.injEq, List.cons.injEq, Option.some.injEq, and_true, true_and, exists_eq_left', exists_and_left, sp_Space_init]
          intro x d1 hx hd1 _
          have npx := ne_of_none e2 hx
          refine ⟨d1, rfl, ?_⟩
          rw [upd_ne npx, Hs hx hd1 _ _ e2]
          refine ⟨T.cl_Areas, T.na_Areas_young, by simp [putF, n_mo], hR _ _ ⟨x, hx, ⟨d1, ?_⟩, upd_same, fun b o eb nb => ?_, rfl⟩⟩
          · rw [upd_ne (Ne.symm npx), upd_same]
          · rw [upd_ne nb, upd_ne (ne_of_none eb hx)]; exact Hs hx hd1 _ _ eb
        rintro _ H3 ⟨y, hy, sy1, e3, f3, rfl⟩
        have npy := ne_of_none e2 hy
        simp only [tCons, tNil, cVar, cxOf_K, and_assoc, upd_same, cSFld, tMakeE, List.getElem?_cons_zero, List.getElem?_cons_succ, V.int.injEq, V.bl.injEq, V.str.injEq, V.ref.injEq, V.ty.injEq, List.cons.injEq, Option.some.injEq, and_true, true_and, exists_eq_left', exists_and_left, sp_Space_init]
        intro x d1 hx hd1 _
        have npx := ne_of_none e3 hx
        refine ⟨d1, rfl, ?_⟩
        rw [upd_ne npx, Hs hx hd1 _ _ e3]
        refine ⟨T.cl_Areas, T.na_Areas_spare, by simp [putF, n_mo, n_my, n_oy], ?_⟩
        rw [afl_mk]
        have sz : i + j + j = i + 2 * j := by omega
        rw [sz] at m1 ⊢
        have f4 : ∀ b u, H3 b = some u → b ≠ p → upd (upd (upd (upd H3 d1 (HO.own x)) x (HO.ins A.c_Space d1 [])) x (HO.ins A.c_Space d1 (sfl (i + j) (i + 2 * j) (i + j)))) p (HO.ins A.c_Areas dx (afl m o y x)) b = some u := fun b u eb nb => by
          rw [upd_ne nb, upd_ne (ne_of_none eb hx)]; exact Hs hx hd1 _ _ eb
        have e4 : upd (upd (upd (upd H3 d1 (HO.own x)) x (HO.ins A.c_Space d1 [])) x (HO.ins A.c_Space d1 (sfl (i + j) (i + 2 * j) (i + j)))) p (HO.ins A.c_Areas dx (afl m o y x)) p = some (HO.ins A.c_Areas dx (afl m o y x)) := upd_same
        have e5 : upd (upd (upd (upd H3 d1 (HO.own x)) x (HO.ins A.c_Space d1 [])) x (HO.ins A.c_Space d1 (sfl (i + j) (i + 2 * j) (i + j)))) p (HO.ins A.c_Areas dx (afl m o y x)) x = some (HO.ins A.c_Space d1 (sfl (i + j) (i + 2 * j) (i + j))) := by rw [upd_ne (Ne.symm npx), upd_same]
        generalize upd (upd (upd (upd H3 d1 (HO.own x)) x (HO.ins A.c_Space d1 [])) x (HO.ins A.c_Space d1 (sfl (i + j) (i + 2 * j) (i + j)))) p (HO.ins A.c_Areas dx (afl m o y x)) = H4 at *
        obtain ⟨dm, em⟩ := m1.ob
        obtain ⟨do1, eo⟩ := so1
        obtain ⟨dy1, ey⟩ := sy1
        have fresh : ∀ {G : Hp} {z : Addr}, (∀ b u, H b = some u → b ≠ p → G b = some u) → G z = none → p ≠ z → H z = none := fun {G z} hG hz np => by
          cases e : H z with
          | none => rfl
          | some u => rw [hG _ _ e (Ne.symm np)] at hz; cases hz
        have nmo := ne_of_none em ho
        have em2 := f2 _ _ em (Ne.symm npm)
        have nmy := ne_of_none em2 hy
        have em3 := f3 _ _ em2 (Ne.symm npm)
        have nmx := ne_of_none em3 hx
        have noy := ne_of_none eo hy
        have eo3 := f3 _ _ eo (Ne.symm npo)
        have nox := ne_of_none eo3 hx
        have nyx := ne_of_none ey hx
        refine h m q o y x H4 ⟨⟨dx, e4⟩, m1.keep fun b u eb hb => ?_, ⟨do1, f4 _ _ eo3 (Ne.symm npo)⟩, ⟨dy1, f4 _ _ ey (Ne.symm npy)⟩, ⟨d1, e5⟩, noy, nox, nyx, ⟨npm, npo, npy, npx⟩, ⟨nmo, nmy, nmx⟩⟩ (fun b u eb nb => f4 _ _ (f3 _ _ (f2 _ _ (f1 _ _ eb nb) nb) nb) nb) ⟨hm, hq, fresh (fun b u eb nb => f1 _ _ eb nb) ho npo, fresh (fun b u eb nb => f2 _ _ (f1 _ _ eb nb) nb) hy npy, fresh (fun b u eb nb => f3 _ _ (f2 _ _ (f1 _ _ eb nb) nb) nb) hx npx⟩
        have nb : b ≠ p := by rcases hb with rfl | rfl; exact Ne.symm npm; exact Ne.symm npq
        exact f4 _ _ (f3 _ _ (f2 _ _ eb nb) nb) nb
def sp_Book_write (A : Ad) : Sp := fun vs H Q E => ∃ p d ks v, vs = [.ref p, v] ∧ BkAt A.c_Book H p d ks ∧ Kn H v ∧ ks.length < 1000 ∧
  if wi v 0 9999 = true then Q .non (upd H d (.dK (bkv (inK ks (iv v))))) else E (.ref A.c_NoPlace) none H
theorem sc_Book_write : FnScope ["self", "place"] ["self", "place"] (defScope s_Book_write) := ⟨rfl, rfl, rfl, by decide +kernel, rfl, by decide +kernel, by decide +kernel⟩
theorem ok_Book_write (T : Txt K mg A) : FnOk P w K mg base (CXE P w) true 5 A.f_Book_write A.d_Book_write ["self", "place"] (sp_Book_write A) := by
  refine T.fn_Book_write.okE sc_Book_write (fun vs H Q E h => ?_) (fun cdv A' outer s H vs Q E hr hx h => ?_)
  · obtain ⟨p, d, ks, v, rfl, m, hk, hl, h⟩ := h
    rfl
  · obtain ⟨p, d, ks, v, rfl, m, hk, hl, h⟩ := h
    refine ⟨_, JSs.run (j_pss_cons (j_ps_expr (j_pe_callF ((ok_want_place T).mono (by decide)) hr rfl T.g_want_place T.fn_want_place.kp T.b_want_place hx (j_pa_c (j_cv 1) j_pa_nil)))
      (j_pss_one (j_c_dput (hu_of hr) (j_c_fld (j_cv 0) rfl) (j_cv 1) j_pe_bl rfl))), ?_⟩
    obtain ⟨dx, e⟩ := m.ob
    cases hw : wi v 0 9999 with
    | false =>
      rw [hw] at h
      simp only [tDrop, tSeq, tCons, tNil, tC, cVar, tCallE, cxOf_K, Int.reduceAdd, cFld, cDPut, keyV, L2.start, List.map_cons, List.map_nil, List.length_cons, List.length_nil, List.replicate, List.append_nil, List.getElem?_cons_zero, List.getElem?_cons_succ, V.int.injEq, V.bl.injEq, V.str.injEq, V.ref.injEq, V.ty.injEq, List.cons.injEq, Option.some.injEq, and_true, exists_eq_left', ite_false, Bool.false_eq_true, Nat.reduceAdd, Nat.sub_self, sp_want_place, hw]
      exact ⟨hk, h⟩
    | true =>
      obtain ⟨i, rfl, i0, i1⟩ := wi_int hw
      rw [if_pos hw] at h
      simp only [tDrop, tSeq, tCons, tNil, tC, cVar, tCallE, cxOf_K, Int.reduceAdd, cFld, cDPut, keyV, L2.start, List.map_cons, List.map_nil, List.length_cons, List.length_nil, List.replicate, List.append_nil, List.getElem?_cons_zero, List.getElem?_cons_succ, V.int.injEq, V.bl.injEq, V.str.injEq, V.ref.injEq, V.ty.injEq, List.cons.injEq, Option.some.injEq, and_true, true_and, exists_eq_left', ite_true, Nat.reduceAdd, Nat.sub_self, sp_want_place, hw, e, T.cl_Book, T.na_Book_written, bfl_w, m.dc, bkv_len, bkv_put]
      exact ⟨True.intro, Nat.lt_of_lt_of_le hl (by decide), h⟩
def sp_Book_has (A : Ad) : Sp := fun vs H Q E => ∃ p d ks v, vs = [.ref p, v] ∧ BkAt A.c_Book H p d ks ∧ Kn H v ∧
  if wi v 0 9999 = true then Q (.bl (decide (iv v ∈ ks))) H else E (.ref A.c_NoPlace) none H
theorem sc_Book_has : FnScope ["self", "place"] ["self", "place"] (defScope s_Book_has) := ⟨rfl, rfl, rfl, by decide +kernel, rfl, by decide +kernel, by decide +kernel⟩
theorem ok_Book_has (T : Txt K mg A) : FnOk P w K mg base (CXE P w) true 5 A.f_Book_has A.d_Book_has ["self", "place"] (sp_Book_has A) := by
  refine T.fn_Book_has.okE sc_Book_has (fun vs H Q E h => ?_) (fun cdv A' outer s H vs Q E hr hx h => ?_)
  · obtain ⟨p, d, ks, v, rfl, m, hk, h⟩ := h
    rfl
  · obtain ⟨p, d, ks, v, rfl, m, hk, h⟩ := h
    refine ⟨_, JSs.run (j_pss_cons (j_ps_expr (j_pe_callF ((ok_want_place T).mono (by decide)) hr rfl T.g_want_place T.fn_want_place.kp T.b_want_place hx (j_pa_c (j_cv 1) j_pa_nil)))
      (j_pss_one (j_ps_ret (j_pe_cmpR (j_c_inD (hu_of hr)) (j_cv 1) (j_c_fld (j_cv 0) rfl) (by with_unfolding_all rfl))))), ?_⟩
    obtain ⟨dx, e⟩ := m.ob
    cases hw : wi v 0 9999 with
    | false =>
      rw [hw] at h
      simp only [tRet, tDrop, tSeq, tOp, tCons, tNil, cVar, tCallE, cxOf_K, Int.reduceAdd, cFld, keyV, L2.start, cInD, List.map_cons, List.map_nil, List.length_cons, List.length_nil, List.replicate, List.append_nil, List.getElem?_cons_zero, List.getElem?_cons_succ, V.int.injEq, V.bl.injEq, V.str.injEq, V.ref.injEq, V.ty.injEq, List.cons.injEq, Option.some.injEq, and_true, exists_eq_left', ite_false, Bool.false_eq_true, Nat.reduceAdd, Nat.sub_self, sp_want_place, hw]
      exact ⟨hk, h⟩
    | true =>
      obtain ⟨i, rfl, i0, i1⟩ := wi_int hw
      rw [if_pos hw] at h
      simp only [tRet, tDrop, tSeq, tOp, tCons, tNil, cVar, tCallE, cxOf_K, Int.reduceAdd, cFld, keyV, L2.start, cInD, List.map_cons, List.map_nil, List.length_cons, List.length_nil, List.replicate, List.append_nil, List.getElem?_cons_zero, List.getElem?_cons_succ, V.int.injEq, V.bl.injEq, V.str.injEq, V.ref.injEq, V.ty.injEq, List.cons.injEq, Option.some.injEq, and_true, true_and, exists_eq_left', ite_true, Nat.reduceAdd, Nat.sub_self, sp_want_place, hw, e, T.cl_Book, T.na_Book_written, bfl_w, m.dc, bkv_val]
      refine ⟨True.intro, ?_⟩
      have e2 : (if i ∈ ks then some (V.bl true) else none).isSome = decide (iv (V.int i) ∈ ks) := by
        show _ = decide (i ∈ ks)
        by_cases z : i ∈ ks
        · rw [if_pos z, decide_eq_true z]; rfl
        · rw [if_neg z, decide_eq_false z]; rfl
      rw [e2]
      exact h
def sp_Hands_put (A : Ad) : Sp := fun vs H Q E => ∃ p q ws v x, vs = [.ref p, v, x] ∧ HdAt A.c_Hands H p q ws ∧ Kn H v ∧ Kn H x ∧
  if wi v 0 (ws.length - 1) = true then (match kd x with
    | some _ => Q .non (upd H q (.lst ((ws.set (iv v).toNat (iv x)).map V.int)))
    | none => E (.ref A.c_BadWord) none H) else E (.ref A.c_NoHand) none H
theorem sc_Hands_put : FnScope ["self", "hand", "word"] ["self", "hand", "word"] (defScope s_Hands_put) := ⟨rfl, rfl, rfl, by decide +kernel, rfl, by decide +kernel, by decide +kernel⟩
theorem ok_Hands_put (T : Txt K mg A) : FnOk P w K mg base (CXE P w) true 5 A.f_Hands_put A.d_Hands_put ["self", "hand", "word"] (sp_Hands_put A) := by
  refine T.fn_Hands_put.okE sc_Hands_put (fun vs H Q E h => ?_) (fun cdv A' outer s H vs Q E hr hx h => ?_)
  · obtain ⟨p, q, ws, v, x, rfl, m, hk, hx', h⟩ := h
    rfl
  · obtain ⟨p, q, ws, v, x, rfl, m, hk, hx', h⟩ := h
    refine ⟨_, JSs.run (j_pss_cons (j_ps_expr (j_c_meth (j_cv 0) T.cl_Hands T.m_Hands_want_hand ((ok_Hands_want_hand T).mono (by decide)) hr T.b_Hands_want_hand hx (j_pa_c (j_cv 1) j_pa_nil)))
      (j_pss_cons (j_ps_expr (j_pe_callF ((ok_kind T).mono (by decide)) hr rfl T.g_kind T.fn_kind.kp T.b_kind hx (j_pa_c (j_cv 2) j_pa_nil)))
      (j_pss_one (j_ps_asg (j_cv 2) (j_pg_sub (j_c_fld (j_cv 0) rfl) (j_cv 1) j_c_set))))), ?_⟩
    obtain ⟨dx, e⟩ := m.ob
    simp only [tDrop, tSeq, tCons, tNil, cVar, tAsg, tCallE, cxOf_K, and_assoc, Int.reduceAdd, cFld, cMethE, cSetL, gSub, L2.start, List.map_cons, List.map_nil, List.length_cons, List.length_nil, List.replicate, List.append_nil, List.getElem?_cons_zero, List.getElem?_cons_succ, V.int.injEq, V.bl.injEq, V.str.injEq, V.ref.injEq, V.ty.injEq, List.cons.injEq, Option.some.injEq, and_true, true_and, exists_eq_left', exists_and_left, Nat.reduceAdd, Nat.sub_self, sp_Hands_want_hand, sp_kind, e, T.cl_Hands, T.na_Hands_words, hfl_w, hfl_want]
    refine ⟨q, ws, m, hk, ?_⟩
    cases hw : wi v 0 (ws.length - 1)
    · simp [hw] at h ⊢; exact h
    · obtain ⟨i, rfl, h0, h1⟩ := wi_int hw
      simp only [hw, if_true] at h ⊢
      refine ⟨hx', ?_⟩
      cases hd : kd x with
      | none => rw [hd] at h; exact h
      | some y =>
        obtain ⟨j, rfl⟩ := kd_int hd
        rw [hd] at h
        simp only [m.ls, ix_ints h0 h1, set_ints, iv] at h ⊢
        exact h
def sp_Roots_init (A : Ad) : Sp := fun vs H Q E => ∃ r dx v, vs = [.ref r, v] ∧ H r = some (.ins A.c_Roots dx []) ∧ Kn H v ∧
  if wi v 1 6 = true then (∀ h q b d H', H h = none → H q = none → H b = none → H d = none → RtAt A.c_Roots A.c_Hands A.c_Book H' r h q b d (List.replicate (iv v).toNat (-1)) [] → (∀ y o, H y = some o → y ≠ r → H' y = some o) → Q .non H')
  else ∀ H', Same H H' → E (.ref A.c_BadCount) none H'
theorem sc_Roots_init : FnScope ["self", "many"] ["self", "many"] (defScope s_Roots_init) := ⟨rfl, rfl, rfl, by decide +kernel, rfl, by decide +kernel, by decide +kernel⟩
theorem ok_Roots_init (T : Txt K mg A) : FnOk P w K mg base (CXE P w) true 5 A.f_Roots_init A.d_Roots_init ["self", "many"] (sp_Roots_init A) := by
  refine T.fn_Roots_init.okE sc_Roots_init (fun vs H Q E h => ?_) (fun cdv A' outer s H vs Q E hr hx h => ?_)
  · obtain ⟨r, dx, v, rfl, e, hk, k⟩ := h
    rfl
  · obtain ⟨r, dx, v, rfl, e, hk, k⟩ := h
    refine ⟨_, JSs.run (j_pss_cons (j_c_sfld (j_cv 0) (j_pe_makeF T.mk_Hands ((ok_Hands_init T).mono (by decide)) hr rfl T.g_Hands T.b_Hands_init hx (j_pa_c (j_cv 1) j_pa_nil)) rfl)
      (j_pss_cons (j_c_sfld (j_cv 0) (j_pe_make0E T.mk_Book ((ok_Book_init T).mono (by decide)) hr rfl T.g_Book T.b_Book_init hx) rfl)
      (j_pss_cons (j_c_sfld (j_cv 0) (j_pe_make0E T.mk_Weak ((ok_Weak_init T).mono (by decide)) hr rfl T.g_Weak T.b_Weak_init hx) rfl)
      (j_pss_one (j_c_sfld (j_cv 0) (j_pe_make0E T.mk_Lasts ((ok_Lasts_init T).mono (by decide)) hr rfl T.g_Lasts T.b_Lasts_init hx) rfl))))), ?_⟩
    have Hs : ∀ {G : Hp} {x dx : Addr} {o : HO}, G x = none → G dx = none → Same G (upd (upd G dx (HO.own x)) x o) := fun {G x dx o} hx hdx b u eb => by rw [upd_ne (ne_of_none eb hx), upd_ne (ne_of_none eb hdx)]; exact eb
    show tSeq _ _ _ [some (V.ref r), some v] H
    refine seq_mid (fun σ' H' => wi v 1 6 = true ∧ ∃ h q, H h = none ∧ H q = none ∧ HdAt A.c_Hands H' h q (List.replicate (iv v).toNat (-1)) ∧ H' r = some (.ins A.c_Roots dx (putF "hands" (.ref h) [])) ∧ (∀ b o, H b = some o → b ≠ r → H' b = some o) ∧ σ' = [some (V.ref r), some v]) (fun R hR => ?_) ?_
    · simp only [tCons, tNil, cVar, cxOf_K, and_assoc, Int.reduceNeg, upd_same, cSFld, tMakeE, List.getElem?_cons_zero, List.getElem?_cons_succ, V.int.injEq, V.bl.injEq, V.str.injEq, V.ref.injEq, V.ty.injEq, List.cons.injEq, Option.some.injEq, and_true, true_and, exists_eq_left', exists_and_left, sp_Hands_init]
      intro x d1 hx hd1 _
      refine ⟨d1, rfl, hk.same (Hs hx hd1), ?_⟩
      cases hv : wi v 1 6 with
      | false =>
        rw [hv] at k
        exact k _ (Hs hx hd1)
      | true =>
        rw [if_pos rfl]
        intro q H1 hq m1 f1
        obtain ⟨_, hq1⟩ := upd_none hq
        obtain ⟨_, hq2⟩ := upd_none hq1
        have npx := ne_of_none e hx
        have npq := ne_of_none e hq2
        rw [f1 _ _ (Hs hx hd1 _ _ e) npx]
        refine ⟨T.cl_Roots, T.na_Roots_hands, by decide, hR _ _ ⟨hv, x, q, hx, hq2, m1.keep fun b o eb hb => ?_, upd_same, fun b o eb nb => ?_, rfl⟩⟩
        · rw [upd_ne (by rcases hb with rfl | rfl; exact Ne.symm npx; exact Ne.symm npq)]; exact eb
        · rw [upd_ne nb]; exact f1 _ _ (Hs hx hd1 _ _ eb) (ne_of_none eb hx)
    rintro _ H1 ⟨hv, h, q, hh, hq, m1, e1, f1, rfl⟩
    rw [if_pos hv] at k
    have nrh := ne_of_none e hh
    have nrq := ne_of_none e hq
    have fresh : ∀ {G : Hp} {z : Addr}, (∀ b u, H b = some u → b ≠ r → G b = some u) → G z = none → r ≠ z → H z = none := fun {G z} hG hz np => by
      cases ez : H z with
      | none => rfl
      | some u => rw [hG _ _ ez (Ne.symm np)] at hz; cases hz
    refine seq_mid (fun σ' H' => ∃ b d, H1 b = none ∧ H1 d = none ∧ BkAt A.c_Book H' b d [] ∧ H' r = some (.ins A.c_Roots dx (putF "book" (.ref b) (putF "hands" (.ref h) []))) ∧ (∀ b o, H1 b = some o → b ≠ r → H' b = some o) ∧ σ' = [some (V.ref r), some v]) (fun R hR => ?_) ?_
    · simp only [tNil, cVar, cxOf_K, upd_same, cSFld, tMakeE, List.getElem?_cons_zero, V.int.injEq, V.bl.injEq, V.str.injEq, V.ref.injEq, V.ty.injEq, List.cons.injEq, Option.some.injEq, and_true, true_and, exists_eq_left', exists_and_left, sp_Book_init]
      intro x d1 hx hd1 _
      refine ⟨d1, rfl, fun d H2 hd m2 f2 => ?_⟩
      obtain ⟨_, hq1⟩ := upd_none hd
      obtain ⟨_, hq2⟩ := upd_none hq1
      have npx := ne_of_none e1 hx
      have npq := ne_of_none e1 hq2
      rw [f2 _ _ npx (Hs hx hd1 _ _ e1)]
      refine ⟨T.cl_Roots, T.na_Roots_book, (show (1 : Nat) < 1000 by decide), hR _ _ ⟨x, d, hx, hq2, m2.keep fun b o eb hb => ?_, upd_same, fun b o eb nb => ?_, rfl⟩⟩
      · rw [upd_ne (by rcases hb with rfl | rfl; exact Ne.symm npx; exact Ne.symm npq)]; exact eb
      · rw [upd_ne nb]; exact f2 _ _ (ne_of_none eb hx) (Hs hx hd1 _ _ eb)
    rintro _ H2 ⟨b, d, hb, hd, m2, e2, f2, rfl⟩
    have nrb := ne_of_none e1 hb
    have nrd := ne_of_none e1 hd
    refine seq_mid (fun σ' H' => ∃ w, H' r = some (.ins A.c_Roots dx (putF "weaks" (.ref w) (putF "book" (.ref b) (putF "hands" (.ref h) [])))) ∧ (∀ b o, H2 b = some o → b ≠ r → H' b = some o) ∧ σ' = [some (V.ref r), some v]) (fun R hR => ?_) ?_
    · simp only [tNil, cVar, cxOf_K, upd_same, cSFld, tMakeE, List.getElem?_cons_zero, V.int.injEq, V.bl.injEq, V.str.injEq, V.ref.injEq, V.ty.injEq, List.cons.injEq, Option.some.injEq, and_true, true_and, exists_eq_left', exists_and_left, sp_Weak_init]
      intro x d1 hx hd1 _
      refine ⟨d1, rfl, fun H3 f3 => ?_⟩
      have npx := ne_of_none e2 hx
      rw [f3 _ _ npx (Hs hx hd1 _ _ e2)]
      refine ⟨T.cl_Roots, T.na_Roots_weaks, by simp [putF, n_hb], hR _ _ ⟨x, upd_same, fun b o eb nb => ?_, rfl⟩⟩
      rw [upd_ne nb]; exact f3 _ _ (ne_of_none eb hx) (Hs hx hd1 _ _ eb)
    rintro _ H3 ⟨w, e3, f3, rfl⟩
    simp only [tNil, cVar, cxOf_K, upd_same, cSFld, tMakeE, List.getElem?_cons_zero, V.int.injEq, V.bl.injEq, V.str.injEq, V.ref.injEq, V.ty.injEq, List.cons.injEq, Option.some.injEq, and_true, true_and, exists_eq_left', exists_and_left, sp_Lasts_init]
    intro x d1 hx hd1 _
    refine ⟨d1, rfl, fun H4 f4 => ?_⟩
    have npx := ne_of_none e3 hx
    rw [f4 _ _ npx (Hs hx hd1 _ _ e3)]
    refine ⟨T.cl_Roots, T.na_Roots_lasts, by simp [putF, n_hb, n_hw, n_bw], ?_⟩
    rw [rofl_mk]
    have g : ∀ y o, H3 y = some o → y ≠ r → upd H4 r (.ins A.c_Roots dx (rofl h b w x)) y = some o := fun y o ey ny => by
      rw [upd_ne ny]; exact f4 _ _ (ne_of_none ey hx) (Hs hx hd1 _ _ ey)
    refine k h q b d _ hh hq (fresh f1 hb nrb) (fresh f1 hd nrd) ⟨⟨dx, w, x, upd_same⟩, m1.keep fun y o ey hy => ?_, m2.keep fun y o ey hy => ?_⟩ fun y o ey ny => g _ _ (f3 _ _ (f2 _ _ (f1 _ _ ey ny) ny) ny) ny
    · have ny : y ≠ r := by rcases hy with rfl | rfl; exact Ne.symm nrh; exact Ne.symm nrq
      exact g _ _ (f3 _ _ (f2 _ _ ey ny) ny) ny
    · have ny : y ≠ r := by rcases hy with rfl | rfl; exact Ne.symm nrb; exact Ne.symm nrd
      exact g _ _ (f3 _ _ ey ny) ny
def sp_Heap_held (A : Ad) : Sp := fun vs H Q E => ∃ X S v, vs = [.ref X.p, v] ∧ HeAt A.c_Heap A.c_Roots A.c_Hands A.c_Book A.c_Areas A.c_Memory A.c_Space H X S ∧ Kn H v ∧ if wi v 0 (S.hw.length - 1) = true then Q (.int (S.w (iv v))) H else E (.ref A.c_NoHand) none H
theorem sc_Heap_held : FnScope ["self", "hand"] ["self", "hand"] (defScope s_Heap_held) := ⟨rfl, rfl, rfl, by decide +kernel, rfl, by decide +kernel, by decide +kernel⟩
theorem ok_Heap_held (T : Txt K mg A) : FnOk P w K mg base (CXE P w) true 5 A.f_Heap_held A.d_Heap_held ["self", "hand"] (sp_Heap_held A) := by
  refine T.fn_Heap_held.okE sc_Heap_held (fun vs H Q E h => ?_) (fun cdv A' outer s H vs Q E hr hx h => ?_)
  · obtain ⟨X, S, v, rfl, g, hk, q⟩ := h
    rfl
  · obtain ⟨X, S, v, rfl, g, hk, q⟩ := h
    refine ⟨_, JSs.run (j_pss_one (j_ps_ret (j_c_meth (j_c_fld (j_c_fld (j_cv 0) rfl) rfl) T.cl_Hands T.m_Hands_get ((ok_Hands_get T).mono (by decide)) hr T.b_Hands_get hx (j_pa_c (j_cv 1) j_pa_nil)))), ?_⟩
    obtain ⟨d0, e0⟩ := g.ob
    obtain ⟨d1, w1, l1, e1⟩ := g.rt.ob
    obtain ⟨d2, e2⟩ := g.rt.hd.ob
    simp only [tRet, tCons, tNil, cVar, cxOf_K, and_assoc, Int.reduceAdd, cFld, cMethE, L2.start, List.map_cons, List.map_nil, List.length_cons, List.length_nil, List.replicate, List.append_nil, List.getElem?_cons_zero, List.getElem?_cons_succ, V.int.injEq, V.bl.injEq, V.str.injEq, V.ref.injEq, V.ty.injEq, List.cons.injEq, Option.some.injEq, and_true, true_and, exists_eq_left', exists_and_left, Nat.reduceAdd, Nat.sub_self, e0, T.cl_Heap, T.na_Heap_roots, gfl_r, e1, T.cl_Roots, T.na_Roots_hands, rofl_h, e2, hfl_get, sp_Hands_get]
    refine ⟨X.qh, S.hw, g.rt.hd, hk, ?_⟩
    cases hw : wi v 0 (S.hw.length - 1) <;> rw [hw] at q <;> exact q
def sp_Heap_want_make (A : Ad) : Sp := fun vs H Q E => ∃ X S v u, vs = [.ref X.p, v, u] ∧ HeAt A.c_Heap A.c_Roots A.c_Hands A.c_Book A.c_Areas A.c_Memory A.c_Space H X S ∧ Kn H v ∧ Kn H u ∧ if wi v 0 (S.hw.length - 1) = true then (if wi u 0 8 = true then Q .non H else E (.ref A.c_BadCount) none H) else E (.ref A.c_NoHand) none H
theorem sc_Heap_want_make : FnScope ["self", "hand", "slots"] ["self", "hand", "slots"] (defScope s_Heap_want_make) := ⟨rfl, rfl, rfl, by decide +kernel, rfl, by decide +kernel, by decide +kernel⟩
theorem ok_Heap_want_make (T : Txt K mg A) : FnOk P w K mg base (CXE P w) true 5 A.f_Heap_want_make A.d_Heap_want_make ["self", "hand", "slots"] (sp_Heap_want_make A) := by
  refine T.fn_Heap_want_make.okE sc_Heap_want_make (fun vs H Q E h => ?_) (fun cdv A' outer s H vs Q E hr hx h => ?_)
  · obtain ⟨X, S, v, u, rfl, g, hk, hu', q⟩ := h
    rfl
  · obtain ⟨X, S, v, u, rfl, g, hk, hu', q⟩ := h
    refine ⟨_, JSs.run (j_pss_cons (j_ps_expr (j_c_meth (j_cv 0) T.cl_Heap T.m_Heap_want_hand ((ok_Heap_want_hand T).mono (by decide)) hr T.b_Heap_want_hand hx (j_pa_c (j_cv 1) j_pa_nil)))
      (j_pss_one (j_ps_expr (j_pe_callF ((ok_want_slots T).mono (by decide)) hr rfl T.g_want_slots T.fn_want_slots.kp T.b_want_slots hx (j_pa_c (j_cv 2) j_pa_nil))))), ?_⟩
    obtain ⟨d0, e0⟩ := g.ob
    simp only [tDrop, tSeq, tCons, tNil, cVar, tCallE, and_assoc, Int.reduceAdd, cMethE, L2.start, List.map_cons, List.map_nil, List.length_cons, List.length_nil, List.replicate, List.append_nil, List.getElem?_cons_zero, List.getElem?_cons_succ, V.int.injEq, V.bl.injEq, V.str.injEq, V.ref.injEq, V.ty.injEq, List.cons.injEq, Option.some.injEq, and_true, true_and, exists_eq_left', exists_and_left, Nat.reduceAdd, Nat.sub_self, e0, gfl_want_hand, sp_Heap_want_hand, sp_want_slots]
    refine ⟨X, rfl, S, g, hk, ?_⟩
    cases hw : wi v 0 (S.hw.length - 1) <;> rw [hw] at q
    · exact q
    · refine ⟨hu', ?_⟩
      cases hw2 : wi u 0 8 <;> rw [hw2] at q <;> exact q
def sp_head_word : Sp := fun vs H Q _ => ∃ s a, vs = [.int s, .int a] ∧ 0 ≤ s ∧ s ≤ 8 ∧ 0 ≤ a ∧ a ≤ 2 ∧ Q (.int (2 * (4 * s + a))) H
theorem sc_head_word : FnScope ["slots", "age"] ["slots", "age"] (defScope s_head_word) := ⟨rfl, rfl, rfl, by decide +kernel, rfl, by decide +kernel, by decide +kernel⟩
theorem ok_head_word (T : Txt K mg A) : FnOk P w K mg base (CXE P w) true 6 A.f_head_word A.d_head_word ["slots", "age"] sp_head_word := by
  refine T.fn_head_word.okE sc_head_word (fun vs H Q E h => ?_) (fun cdv A' outer s H vs Q E hr hx h => ?_)
  · obtain ⟨s', a, rfl, s0, s1, a0, a1, q⟩ := h
    rfl
  · obtain ⟨s', a, rfl, s0, s1, a0, a1, q⟩ := h
    refine ⟨_, JSs.run (j_pss_one (j_ps_ret (j_pe_callF ((ok_number_word T).mono (by decide)) hr rfl T.g_number_word T.fn_number_word.kp T.b_number_word hx (j_pa_c (j_pe_op j_c_add (j_pe_op j_c_mul j_pe_int (j_cv 0)) (j_cv 1)) j_pa_nil)))), ?_⟩
    simp only [tRet, tOp, tCons, tNil, tC, cVar, tCallE, cAdd, cMul, CMul, true_or, Int.reduceLT, Nat.reduceLT, Int.reduceNeg, Int.reducePow, Int.reduceAdd, L2.start, List.map_cons, List.map_nil, List.length_cons, List.length_nil, List.replicate, List.append_nil, List.getElem?_cons_zero, List.getElem?_cons_succ, V.int.injEq, V.bl.injEq, V.str.injEq, V.ref.injEq, V.ty.injEq, List.cons.injEq, Option.some.injEq, and_true, true_and, exists_eq_left', Nat.reduceAdd, Nat.sub_self, sp_number_word, Kn]
    rw [if_pos (by simp only [wi, Bool.and_eq_true, decide_eq_true_eq]; omega)]
    exact q
def sp_head_number (A : Ad) : Sp := fun vs H Q E => ∃ p q ws v, vs = [.ref p, v] ∧ MemAt A.c_Memory H p q ws ∧ Kn H v ∧ WordsOk ws ∧
  if wi v 0 (ws.length - 1) = true then (match cellN ws (iv v).toNat with
    | some n => Q (.int n) H
    | none => E (.ref A.c_NoCell) none H) else E (.ref A.c_NoPlace) none H
theorem sc_head_number : FnScope ["memory", "at", "word", "number"] ["memory", "at"] (defScope s_head_number) := ⟨rfl, rfl, rfl, by decide +kernel, rfl, by decide +kernel, by decide +kernel⟩
theorem ok_head_number (T : Txt K mg A) : FnOk P w K mg base (CXE P w) true 6 A.f_head_number A.d_head_number ["memory", "at"] (sp_head_number A) := by
  refine T.fn_head_number.okE sc_head_number (fun vs H Q E h => ?_) (fun cdv A' outer s H vs Q E hr hx h => ?_)
  · obtain ⟨p, q, ws, v, rfl, m, hk, wo', h⟩ := h
    rfl
  · obtain ⟨p, q, ws, v, rfl, m, hk, wo', h⟩ := h
    refine ⟨_, JSs.run (j_pss_cons (j_ps_set (i := 2) sc_head_number.nd rfl (by first | exact Or.inl rfl | exact Or.inr rfl) (j_c_meth (j_cv 0) T.cl_Memory T.m_Memory_read ((ok_Memory_read T).mono (by decide)) hr T.b_Memory_read hx (j_pa_c (j_cv 1) j_pa_nil)))
      (j_pss_cons (j_ps_if (j_PW_pt (j_pw_or (j_pt_cmpR j_c_ne (j_pe_callF ((ok_kind T).mono (by decide)) hr rfl T.g_kind T.fn_kind.kp T.b_kind hx (j_pa_c (j_cv 2) j_pa_nil)) j_pe_str (nomark _)) (j_pw_or1 (j_pt_not (j_pt_truth (j_pe_callF ((ok_is_head T).mono (by decide)) hr rfl T.g_is_head T.fn_is_head.kp T.b_is_head hx (j_pa_c (j_pe_callF ((ok_worth T).mono (by decide)) hr rfl T.g_worth T.fn_worth.kp T.b_worth hx (j_pa_c (j_cv 2) j_pa_nil)) j_pa_nil)) (fun _ => rfl)))))) (j_pss_one (j_ps_raiseF hx rfl T.g_NoCell T.x_NoCell rfl (j_pa_c j_pe_str j_pa_nil))) j_pss_nil)
      (j_pss_cons (j_ps_set (i := 3) sc_head_number.nd rfl (by first | exact Or.inl rfl | exact Or.inr rfl) (j_pe_callF ((ok_worth T).mono (by decide)) hr rfl T.g_worth T.fn_worth.kp T.b_worth hx (j_pa_c (j_cv 2) j_pa_nil)))
      (j_pss_cons (j_ps_if (j_pt_not (j_pt_truth (j_pe_callF ((ok_fits T).mono (by decide)) hr rfl T.g_fits T.fn_fits.kp T.b_fits hx (j_pa_c (j_cv 0) (j_pa_c (j_cv 1) (j_pa_c (j_pe_op j_c_fdiv (j_cv 3) j_pe_int) j_pa_nil)))) (fun _ => rfl))) (j_pss_one (j_ps_raiseF hx rfl T.g_NoCell T.x_NoCell rfl (j_pa_c j_pe_str j_pa_nil))) j_pss_nil)
      (j_pss_one (j_ps_ret (j_cv 3))))))), ?_⟩
    obtain ⟨dx, e⟩ := m.ob
    simp only [tRet, tNext, tSeq, tIfS, tTest, tOp, tOr, tNot, tCons, tNil, tC, cVar, tAsg, gName, tCallE, tRaise, cFdiv, cNe, eqv, TruV, and_assoc, CDiv, Int.reduceAdd, Int.reduceSub, Bool.not_eq_true', cMethE, decide_eq_false_iff_not, L2.start, List.map_cons, List.map_nil, List.length_cons, List.length_nil, List.replicate, List.cons_append, List.nil_append, List.getElem?_cons_zero, List.getElem?_cons_succ, List.set_cons_zero, List.set_cons_succ, V.int.injEq, V.bl.injEq, V.str.injEq, V.ref.injEq, V.ty.injEq, List.cons.injEq, Option.some.injEq, and_true, true_and, exists_eq_left', exists_and_left, exists_eq_left, ite_true, Nat.reduceSub, Nat.reduceAdd, sz1, sp_Memory_read, sp_kind, sp_worth, sp_is_head, sp_fits, e, mfl_rd]
    refine ⟨q, ws, m, hk, ?_⟩
    cases hw : wi v 0 (ws.length - 1) <;> simp only [hw, if_true, if_false, Bool.false_eq_true] at h ⊢
    · exact h
    · obtain ⟨i, rfl, h0, h1⟩ := wi_int hw
      obtain ⟨x, hx'⟩ := kd_word wo' (show (iv (.int i)).toNat < ws.length by show i.toNat < _; omega)
      have ei : (((iv (V.int i)).toNat : Nat) : Int) = i := Int.toNat_of_nonneg h0
      rw [cellN_eq, ei] at h
      generalize ws.getD (iv (V.int i)).toNat 0 = W at *
      refine ⟨True.intro, ?_⟩
      rw [hx']
      dsimp only
      rcases kd_cases hx' with ⟨rfl, c⟩ | ⟨rfl, c⟩ | ⟨rfl, c⟩
      · rw [if_neg (by omega)] at h
        rw [if_pos n_nn]; exact h
      · rw [if_neg (fun z => z rfl), wo_int (by omega)]
        refine ⟨True.intro, _, rfl, ?_⟩
        by_cases d : 0 ≤ W / 2 ∧ W / 2 ≤ 34 ∧ W / 2 % 4 ≤ 2
        · rw [if_neg (fun z => z d)]
          refine ⟨True.intro, by decide, by decide, q, ws, m, True.intro, ?_⟩
          by_cases f : i + W / 2 / 4 ≤ ws.length - 1
          · rw [if_pos ⟨c.1, by omega, by omega, by omega, f⟩] at h
            rw [if_neg (by simp only [wi]; simp; omega)]; exact h
          · rw [if_neg (by omega)] at h
            rw [if_pos (by simp only [wi]; simp; omega)]; exact h
        · rw [if_pos d]
          rw [if_neg (by omega)] at h
          exact h
      · rw [if_neg (by omega)] at h
        rw [if_pos n_pn]; exact h
def sp_Book_rub (A : Ad) : Sp := fun vs H Q E => ∃ p d ks v, vs = [.ref p, v] ∧ BkAt A.c_Book H p d ks ∧ Kn H v ∧
  if wi v 0 9999 = true then (∀ H', BkAt A.c_Book H' p d (rubK ks (iv v)) → (∀ b o, H b = some o → b ≠ d → H' b = some o) → Q .non H') else E (.ref A.c_NoPlace) none H
theorem rubK_no {ks : List Int} {k : Int} (h : ¬ k ∈ ks) : rubK ks k = ks := List.filter_eq_self.mpr fun x hx => decide_eq_true fun z => h (z ▸ hx)
theorem sc_Book_rub : FnScope ["self", "place"] ["self", "place"] (defScope s_Book_rub) := ⟨rfl, rfl, rfl, by decide +kernel, rfl, by decide +kernel, by decide +kernel⟩
theorem ok_Book_rub (T : Txt K mg A) : FnOk P w K mg base (CXE P w) true 6 A.f_Book_rub A.d_Book_rub ["self", "place"] (sp_Book_rub A) := by
  refine T.fn_Book_rub.okE sc_Book_rub (fun vs H Q E h => ?_) (fun cdv A' outer s H vs Q E hr hx h => ?_)
  · obtain ⟨p, d, ks, v, rfl, m, hk, h⟩ := h
    rfl
  · obtain ⟨p, d, ks, v, rfl, m, hk, h⟩ := h
    refine ⟨_, JSs.run (j_pss_one (j_ps_if (j_pt_truth (j_c_meth (j_cv 0) T.cl_Book T.m_Book_has ((ok_Book_has T).mono (by decide)) hr T.b_Book_has hx (j_pa_c (j_cv 1) j_pa_nil)) (fun _ => rfl)) (j_pss_one (j_ps_expr (j_c_dpop (j_c_fld (j_cv 0) rfl) (j_cv 1) ⟨rfl, rfl, rfl, rfl⟩))) j_pss_nil)), ?_⟩
    obtain ⟨dx, e⟩ := m.ob
    cases hw : wi v 0 9999 with
    | false =>
      rw [hw] at h
      simp only [tNext, tDrop, tIfS, tCons, tNil, cVar, cxOf_K, TruV, and_assoc, Int.reduceAdd, cFld, cMethE, keyV, L2.start, cDPop, List.map_cons, List.map_nil, List.length_cons, List.length_nil, List.replicate, List.append_nil, List.getElem?_cons_zero, List.getElem?_cons_succ, V.int.injEq, V.bl.injEq, V.str.injEq, V.ref.injEq, V.ty.injEq, List.cons.injEq, Option.some.injEq, and_true, true_and, exists_eq_left', exists_and_left, exists_eq_left, decide_eq_true_eq, Nat.reduceAdd, Nat.sub_self, sp_Book_has, e, bfl_has]
      exact ⟨d, ks, m, hk, by rw [hw]; exact h⟩
    | true =>
      obtain ⟨i, rfl, i0, i1⟩ := wi_int hw
      rw [if_pos hw] at h
      simp only [tNext, tDrop, tIfS, tCons, tNil, cVar, cxOf_K, TruV, and_assoc, Int.reduceAdd, cFld, cMethE, keyV, L2.start, cDPop, List.map_cons, List.map_nil, List.length_cons, List.length_nil, List.replicate, List.append_nil, List.getElem?_cons_zero, List.getElem?_cons_succ, V.int.injEq, V.bl.injEq, V.str.injEq, V.ref.injEq, V.ty.injEq, List.cons.injEq, Option.some.injEq, and_true, true_and, exists_eq_left', exists_and_left, exists_eq_left, decide_eq_true_eq, Nat.reduceAdd, Nat.sub_self, sp_Book_has, e, bfl_has, T.cl_Book, T.na_Book_written, bfl_w]
      refine ⟨d, ks, m, True.intro, ?_⟩
      rw [if_pos hw]
      by_cases z : i ∈ ks
      · rw [if_pos (show iv (V.int i) ∈ ks from z)]
        have e2 : valV (bkv ks) (Sum.inl i) = some (.bl true) := by rw [bkv_val, if_pos z]
        simp only [m.dc, e2, bkv_drop]
        exact h _ m.put fun b o eb nb => by rw [upd_ne nb]; exact eb
      · rw [if_neg (show ¬ iv (V.int i) ∈ ks from z)]
        refine h H ?_ fun b o eb _ => eb
        rw [show rubK ks (iv (V.int i)) = ks from rubK_no z]
        exact m
def sp_is_of_young (A : Ad) : Sp := fun vs H Q _ => ∃ p m q o y s ws so sy ss w, vs = [.ref p, .int w] ∧ ArAt A.c_Areas A.c_Memory A.c_Space H p m q o y s ws so sy ss ∧ (kd (.int w)).isSome = true ∧ Q (.bl (isPl w && wi (.int (w / 2)) sy.b (sy.t - 1))) H
theorem sc_is_of_young : FnScope ["areas", "word"] ["areas", "word"] (defScope s_is_of_young) := ⟨rfl, rfl, rfl, by decide +kernel, rfl, by decide +kernel, by decide +kernel⟩
theorem ok_is_of_young (T : Txt K mg A) : FnOk P w K mg base (CXE P w) true 6 A.f_is_of_young A.d_is_of_young ["areas", "word"] (sp_is_of_young A) := by
  refine T.fn_is_of_young.okE sc_is_of_young (fun vs H Q E h => ?_) (fun cdv A' outer s H vs Q E hr hx h => ?_)
  · obtain ⟨p, m, q, o, y, s', ws, so, sy, ss, w, rfl, a, hm, k⟩ := h
    rfl
  · obtain ⟨p, m, q, o, y, s', ws, so, sy, ss, w, rfl, a, hm, k⟩ := h
    refine ⟨_, JSs.run (j_pss_one (j_ps_ret (j_pe_and (j_pe_cmpR j_c_eq (j_pe_callF ((ok_kind T).mono (by decide)) hr rfl T.g_kind T.fn_kind.kp T.b_kind hx (j_pa_c (j_cv 1) j_pa_nil)) j_pe_str (nomark _)) (j_pe_one (j_c_meth (j_c_fld (j_cv 0) rfl) T.cl_Space T.m_Space_has ((ok_Space_has T).mono (by decide)) hr T.b_Space_has hx (j_pa_c (j_pe_callF ((ok_worth T).mono (by decide)) hr rfl T.g_worth T.fn_worth.kp T.b_worth hx (j_pa_c (j_cv 1) j_pa_nil)) j_pa_nil)))))), ?_⟩
    obtain ⟨d1, e1⟩ := a.ob
    obtain ⟨d2, e2⟩ := a.yng
    simp only [tRet, tOp, tAndV, tCons, tNil, tC, cVar, tCallE, cEq, eqv, cxOf_K, and_assoc, Int.reduceAdd, cFld, cMethE, L2.start, List.map_cons, List.map_nil, List.length_cons, List.length_nil, List.replicate, List.append_nil, List.getElem?_cons_zero, List.getElem?_cons_succ, V.int.injEq, V.bl.injEq, V.str.injEq, V.ref.injEq, V.ty.injEq, List.cons.injEq, Option.some.injEq, and_true, true_and, exists_eq_left', exists_and_left, decide_eq_true_eq, Nat.reduceAdd, Nat.sub_self, e1, T.cl_Areas, T.na_Areas_young, afl_y, e2, sfl_has, sp_Space_has, sp_kind, sp_worth]
    refine ⟨True.intro, ?_⟩
    rcases pl_kd hm with ⟨c, kk, c1, c2, c3⟩ | ⟨c, x, kk, nx⟩
    · rw [c, Bool.true_and] at k
      rw [kk]
      dsimp only
      rw [if_pos rfl]
      refine ⟨True.intro, d2, _, _, _, rfl, ?_⟩
      rw [wo_int (by omega)]
      exact ⟨True.intro, k⟩
    · rw [kk]
      rw [c] at k
      dsimp only
      rw [if_neg nx]
      exact k
def sp_Heap_hold (A : Ad) : Sp := fun vs H Q E => ∃ X S v x, vs = [.ref X.p, v, x] ∧ HeAt A.c_Heap A.c_Roots A.c_Hands A.c_Book A.c_Areas A.c_Memory A.c_Space H X S ∧ Kn H v ∧ Kn H x ∧
  if wi v 0 (S.hw.length - 1) = true then (match kd x with
    | some _ => ∀ H', HeAt A.c_Heap A.c_Roots A.c_Hands A.c_Book A.c_Areas A.c_Memory A.c_Space H' X { S with hw := S.hw.set (iv v).toNat (iv x) } → (∀ b o, H b = some o → b ≠ X.qh → H' b = some o) → Q .non H'
    | none => E (.ref A.c_BadWord) none H) else E (.ref A.c_NoHand) none H
theorem sc_Heap_hold : FnScope ["self", "hand", "word"] ["self", "hand", "word"] (defScope s_Heap_hold) := ⟨rfl, rfl, rfl, by decide +kernel, rfl, by decide +kernel, by decide +kernel⟩
theorem ok_Heap_hold (T : Txt K mg A) : FnOk P w K mg base (CXE P w) true 6 A.f_Heap_hold A.d_Heap_hold ["self", "hand", "word"] (sp_Heap_hold A) := by
  refine T.fn_Heap_hold.okE sc_Heap_hold (fun vs H Q E h => ?_) (fun cdv A' outer s H vs Q E hr hx h => ?_)
  · obtain ⟨X, S, v, x, rfl, g, hk, hx', q⟩ := h
    rfl
  · obtain ⟨X, S, v, x, rfl, g, hk, hx', q⟩ := h
    refine ⟨_, JSs.run (j_pss_one (j_ps_expr (j_c_meth (j_c_fld (j_c_fld (j_cv 0) rfl) rfl) T.cl_Hands T.m_Hands_put ((ok_Hands_put T).mono (by decide)) hr T.b_Hands_put hx (j_pa_c (j_cv 1) (j_pa_c (j_cv 2) j_pa_nil))))), ?_⟩
    obtain ⟨d0, e0⟩ := g.ob
    obtain ⟨d1, w1, l1, e1⟩ := g.rt.ob
    obtain ⟨d2, e2⟩ := g.rt.hd.ob
    simp only [tDrop, tCons, tNil, cVar, cxOf_K, and_assoc, Int.reduceAdd, cFld, cMethE, L2.start, List.map_cons, List.map_nil, List.length_cons, List.length_nil, List.replicate, List.append_nil, List.getElem?_cons_zero, List.getElem?_cons_succ, V.int.injEq, V.bl.injEq, V.str.injEq, V.ref.injEq, V.ty.injEq, List.cons.injEq, Option.some.injEq, and_true, true_and, exists_eq_left', exists_and_left, Nat.reduceAdd, Nat.sub_self, e0, T.cl_Heap, T.na_Heap_roots, gfl_r, e1, T.cl_Roots, T.na_Roots_hands, rofl_h, e2, hfl_put, sp_Hands_put]
    refine ⟨X.qh, S.hw, g.rt.hd, hk, hx', ?_⟩
    cases hw : wi v 0 (S.hw.length - 1) <;> rw [hw] at q
    · exact q
    · rw [if_pos rfl] at q ⊢
      cases hd : kd x with
      | none => rw [hd] at q; exact q
      | some y =>
        rw [hd] at q
        exact q _ (g.hands upd_same fun b o eb nb => by rw [upd_ne nb]; exact eb) fun b o eb nb => by rw [upd_ne nb]; exact eb
def sp_Heap_cell_of (A : Ad) : Sp := fun vs H Q E => ∃ X S v, vs = [.ref X.p, v] ∧ HeAt A.c_Heap A.c_Roots A.c_Hands A.c_Book A.c_Areas A.c_Memory A.c_Space H X S ∧ Kn H v ∧ WordsOk S.hw ∧
  if wi v 0 (S.hw.length - 1) = true then (if isPl (S.w (iv v)) = true then Q (.int (S.w (iv v) / 2)) H else E (.ref A.c_NothingHeld) none H) else E (.ref A.c_NoHand) none H
theorem sc_Heap_cell_of : FnScope ["self", "hand", "word"] ["self", "hand"] (defScope s_Heap_cell_of) := ⟨rfl, rfl, rfl, by decide +kernel, rfl, by decide +kernel, by decide +kernel⟩
theorem ok_Heap_cell_of (T : Txt K mg A) : FnOk P w K mg base (CXE P w) true 6 A.f_Heap_cell_of A.d_Heap_cell_of ["self", "hand"] (sp_Heap_cell_of A) := by
  refine T.fn_Heap_cell_of.okE sc_Heap_cell_of (fun vs H Q E h => ?_) (fun cdv A' outer s H vs Q E hr hx h => ?_)
  · obtain ⟨X, S, v, rfl, g, hk, wo', q⟩ := h
    rfl
  · obtain ⟨X, S, v, rfl, g, hk, wo', q⟩ := h
    refine ⟨_, JSs.run (j_pss_cons (j_ps_set (i := 2) sc_Heap_cell_of.nd rfl (by first | exact Or.inl rfl | exact Or.inr rfl) (j_c_meth (j_cv 0) T.cl_Heap T.m_Heap_held ((ok_Heap_held T).mono (by decide)) hr T.b_Heap_held hx (j_pa_c (j_cv 1) j_pa_nil)))
      (j_pss_cons (j_ps_if (j_pt_cmpR j_c_ne (j_pe_callF ((ok_kind T).mono (by decide)) hr rfl T.g_kind T.fn_kind.kp T.b_kind hx (j_pa_c (j_cv 2) j_pa_nil)) j_pe_str (nomark _)) (j_pss_one (j_ps_raiseF hx rfl T.g_NothingHeld T.x_NothingHeld rfl (j_pa_c j_pe_str j_pa_nil))) j_pss_nil)
      (j_pss_one (j_ps_ret (j_pe_callF ((ok_worth T).mono (by decide)) hr rfl T.g_worth T.fn_worth.kp T.b_worth hx (j_pa_c (j_cv 2) j_pa_nil)))))), ?_⟩
    obtain ⟨d0, e0⟩ := g.ob
    simp only [tRet, tNext, tSeq, tIfS, tTest, tOp, tCons, tNil, tC, cVar, tAsg, gName, tCallE, tRaise, cNe, eqv, and_assoc, Int.reduceAdd, Int.reduceSub, Bool.not_eq_true', cMethE, decide_eq_false_iff_not, L2.start, List.map_cons, List.map_nil, List.length_cons, List.length_nil, List.replicate, List.cons_append, List.nil_append, List.getElem?_cons_zero, List.getElem?_cons_succ, List.set_cons_zero, List.set_cons_succ, V.int.injEq, V.bl.injEq, V.str.injEq, V.ref.injEq, V.ty.injEq, List.cons.injEq, Option.some.injEq, and_true, true_and, exists_eq_left', exists_and_left, Nat.reduceSub, Nat.reduceAdd, sz1, e0, gfl_held, sp_Heap_held, sp_kind, sp_worth]
    refine ⟨X, rfl, S, g, hk, ?_⟩
    cases hw : wi v 0 (S.hw.length - 1) <;> rw [hw] at q
    · exact q
    · rw [if_pos rfl] at q ⊢
      obtain ⟨i, rfl, i0, i1⟩ := wi_int hw
      have hm := wo' _ (hw_mem i0 i1)
      refine ⟨True.intro, ?_⟩
      have hiv : iv (V.int i) = i := rfl
      rw [hiv] at q ⊢
      generalize S.w i = W at *
      rcases pl_kd hm with ⟨c, k, c1, c2, c3⟩ | ⟨c, x, k, nx⟩
      · rw [if_pos c] at q
        rw [k]
        dsimp only
        rw [if_neg (fun z => z rfl), wo_int (by omega)]
        exact ⟨True.intro, q⟩
      · rw [c] at q
        rw [k]
        dsimp only
        rw [if_pos nx]
        exact q
def sp_lay (A : Ad) : Sp := fun vs H Q E => ∃ p q ws v g, vs = [.ref p, v, g] ∧ MemAt A.c_Memory H p q ws ∧ Kn H v ∧ Kn H g ∧ ws.length ≤ 4000 ∧
  if wi g 0 8 = true then (if wi v 0 (ws.length - 1 - iv g) = true then
      (∀ H', MemAt A.c_Memory H' p q (laid ws (iv v).toNat (iv g).toNat) → (∀ b o, H b = some o → b ≠ q → H' b = some o) → Q .non H')
    else E (.ref A.c_NoPlace) none H) else E (.ref A.c_BadCount) none H
theorem sc_lay : FnScope ["memory", "at", "slots", "place"] ["memory", "at", "slots"] (defScope s_lay) := ⟨rfl, rfl, rfl, by decide +kernel, rfl, by decide +kernel, by decide +kernel⟩
theorem ok_lay (T : Txt K mg A) : FnOk P w K mg base (CXE P w) true 7 A.f_lay A.d_lay ["memory", "at", "slots"] (sp_lay A) := by
  refine T.fn_lay.okE sc_lay (fun vs H Q E h => ?_) (fun cdv A' outer s H vs Q E hr hx h => ?_)
  · obtain ⟨p, q, ws, v, g, rfl, m, hk, hg, hl, h⟩ := h
    rfl
  · obtain ⟨p, q, ws, v, g, rfl, m, hk, hg, hl, h⟩ := h
    refine ⟨_, JSs.run (j_pss_cons (j_ps_expr (j_pe_callF ((ok_want_slots T).mono (by decide)) hr rfl T.g_want_slots T.fn_want_slots.kp T.b_want_slots hx (j_pa_c (j_cv 2) j_pa_nil)))
      (j_pss_cons (j_ps_if (j_pt_not (j_pt_truth (j_pe_callF ((ok_fits T).mono (by decide)) hr rfl T.g_fits T.fn_fits.kp T.b_fits hx (j_pa_c (j_cv 0) (j_pa_c (j_cv 1) (j_pa_c (j_cv 2) j_pa_nil)))) (fun _ => rfl))) (j_pss_one (j_ps_raiseF hx rfl T.g_NoPlace T.x_NoPlace rfl (j_pa_c j_pe_str j_pa_nil))) j_pss_nil)
      (j_pss_cons (j_ps_expr (j_c_meth (j_cv 0) T.cl_Memory T.m_Memory_write ((ok_Memory_write T).mono (by decide)) hr T.b_Memory_write hx (j_pa_c (j_cv 1) (j_pa_c (j_pe_callF ((ok_head_word T).mono (by decide)) hr rfl T.g_head_word T.fn_head_word.kp T.b_head_word hx (j_pa_c (j_cv 2) (j_pa_c j_pe_int j_pa_nil))) j_pa_nil))))
      (j_pss_one (j_ps_for hx.own rfl (j_pi_range2 rfl T.n_range (j_pa_c (j_pe_op j_c_add (j_cv 1) j_pe_int) (j_pa_c (j_pe_op j_c_add (j_pe_op j_c_add (j_cv 1) j_pe_int) (j_cv 2)) j_pa_nil))) (j_pg_name (i := 3) sc_lay.nd rfl (by first | exact Or.inl rfl | exact Or.inr rfl))
        (j_pss_one (j_ps_expr (j_c_meth (j_cv 0) T.cl_Memory T.m_Memory_write ((ok_Memory_write T).mono (by decide)) hr T.b_Memory_write hx (j_pa_c (j_cv 3) (j_pa_c (j_pe_gv T.v_NOTHING) j_pa_nil)))))))))), ?_⟩
    obtain ⟨dx, e⟩ := m.ob
    cases hg2 : wi g 0 8 with
    | false =>
      simp only [tNext, tDrop, tSeq, tIfS, tOp, tNot, tCons, tNil, tC, cVar, tCallE, tRaise, cAdd, cxOf_K, TruV, and_assoc, Int.reduceNeg, Int.reducePow, Int.reduceAdd, Int.reduceSub, Bool.not_eq_true', tFor_eq, iRng2, cMethE, L2.start, List.map_cons, List.map_nil, List.length_cons, List.length_nil, List.replicate, List.cons_append, List.nil_append, List.getElem?_cons_zero, List.getElem?_cons_succ, V.int.injEq, V.bl.injEq, V.str.injEq, V.ref.injEq, V.ty.injEq, List.cons.injEq, Option.some.injEq, and_true, true_and, exists_eq_left', exists_and_left, exists_const, reduceCtorEq, false_and, and_false, ite_false, Bool.false_eq_true, Nat.reduceSub, Nat.reduceAdd, sz1, sp_want_slots, hg2]
      rw [hg2] at h
      exact ⟨hg, h⟩
    | true =>
      obtain ⟨j, rfl, j0, j1⟩ := wi_int hg2
      rw [if_pos hg2] at h
      cases hw : wi v 0 (ws.length - 1 - j) with
      | false =>
        simp only [tNext, tDrop, tSeq, tIfS, tOp, tNot, tCons, tNil, tC, cVar, tCallE, tRaise, cAdd, TruV, and_assoc, Int.reduceNeg, Int.reducePow, Int.reduceAdd, Int.reduceSub, Bool.not_eq_true', tFor_eq, iRng2, cMethE, L2.start, List.map_cons, List.map_nil, List.length_cons, List.length_nil, List.replicate, List.cons_append, List.nil_append, List.getElem?_cons_zero, List.getElem?_cons_succ, V.int.injEq, V.bl.injEq, V.str.injEq, V.ref.injEq, V.ty.injEq, List.cons.injEq, Option.some.injEq, and_true, true_and, exists_eq_left', exists_and_left, exists_eq_left, exists_const, reduceCtorEq, false_and, and_false, ite_true, Nat.reduceSub, Nat.reduceAdd, sz1, sp_want_slots, hg2, sp_fits]
        rw [if_neg (by show ¬ (wi v 0 (ws.length - 1 - j) = true); rw [hw]; intro z; cases z)] at h
        refine ⟨True.intro, q, ws, m, hk, ?_⟩
        rw [hw]; exact h
      | true =>
        obtain ⟨i, rfl, i0, i1⟩ := wi_int hw
        rw [if_pos (show wi (V.int i) 0 (ws.length - 1 - iv (V.int j)) = true from hw)] at h
        simp only [tNext, tDrop, tSeq, tIfS, tOp, tNot, tCons, tNil, tC, cVar, tCallE, tRaise, cAdd, TruV, and_assoc, Int.reduceLE, Int.reduceNeg, Int.reducePow, Int.reduceAdd, Int.reduceSub, Bool.not_eq_true', tFor_eq, iRng2, cMethE, L2.start, List.map_cons, List.map_nil, List.length_cons, List.length_nil, List.replicate, List.cons_append, List.nil_append, List.getElem?_cons_zero, List.getElem?_cons_succ, V.int.injEq, V.bl.injEq, V.str.injEq, V.ref.injEq, V.ty.injEq, List.cons.injEq, Option.some.injEq, and_true, true_and, exists_eq_left', exists_and_left, exists_eq_left, ite_true, Nat.reduceSub, Nat.reduceAdd, sz1, sp_want_slots, hg2, sp_fits, sp_head_word, e, mfl_wr]
        refine ⟨True.intro, q, ws, m, True.intro, ?_⟩
        rw [if_neg (by rw [hw]; intro z; cases z)]
        refine ⟨j0, j1, p, q, ws, _, _, rfl, m, True.intro, True.intro, ?_⟩
        rw [if_pos (by simp [wi]; omega), kd_is, if_neg (by omega), if_pos (by omega)]
        dsimp only
        refine ⟨by omega, by omega, by omega, by omega, ?_⟩
        rw [show (i + 1 + j - (i + 1)).toNat = j.toNat by omega, show (iv (V.int i)).toNat = i.toNat from rfl, show iv (V.int (2 * (4 * j + 0))) = 8 * (j.toNat : Int) by show 2 * (4 * j + 0) = _; omega]
        refine LoopW.range (fun t σ H' => ∃ v3, σ = [some (.ref p), some (.int i), some (.int j), v3] ∧ MemAt A.c_Memory H' p q (blank (ws.set i.toNat (8 * (j.toNat : Int))) (i.toNat + 1) t) ∧ (∀ b o, H b = some o → b ≠ q → H' b = some o))
          ⟨_, rfl, m.put _ _, fun b o eb nb => by rw [upd_ne nb]; exact eb⟩ ?_ ?_
        · rintro t σ H1 ht ⟨v3, rfl, m1, b1⟩
          obtain ⟨dy, e1⟩ := m1.ob
          simp only [tDrop, tCons, tNil, tC, cVar, gName, Int.reduceNeg, cMethE, List.getElem?_cons_zero, List.getElem?_cons_succ, List.set_cons_zero, List.set_cons_succ, V.int.injEq, V.bl.injEq, V.str.injEq, V.ref.injEq, V.ty.injEq, List.cons.injEq, Option.some.injEq, and_true, true_and, exists_eq_left', e1, mfl_wr]
          refine ⟨p, q, _, _, _, rfl, m1, True.intro, True.intro, ?_⟩
          rw [if_pos (by rw [blank_len, List.length_set]; simp [wi]; omega), kd_is, if_pos rfl]
          dsimp only
          rw [show (iv (V.int (i + 1 + (t : Int)))).toNat = i.toNat + 1 + t by show (i + 1 + (t : Int)).toNat = _; omega]
          exact ⟨m1.put _ _, fun b o eb nb => by rw [upd_ne nb]; exact b1 b o eb nb⟩
        · rintro σ H1 ⟨v3, rfl, m1, b1⟩
          rw [laid_is] at m1
          exact h _ m1 b1
def sp_slots_of (A : Ad) : Sp := fun vs H Q E => ∃ p q ws v, vs = [.ref p, v] ∧ MemAt A.c_Memory H p q ws ∧ Kn H v ∧ WordsOk ws ∧
  if wi v 0 (ws.length - 1) = true then (match cellN ws (iv v).toNat with
    | some n => Q (.int (n / 4)) H
    | none => E (.ref A.c_NoCell) none H) else E (.ref A.c_NoPlace) none H
theorem sc_slots_of : FnScope ["memory", "at"] ["memory", "at"] (defScope s_slots_of) := ⟨rfl, rfl, rfl, by decide +kernel, rfl, by decide +kernel, by decide +kernel⟩
theorem ok_slots_of (T : Txt K mg A) : FnOk P w K mg base (CXE P w) true 7 A.f_slots_of A.d_slots_of ["memory", "at"] (sp_slots_of A) := by
  refine T.fn_slots_of.okE sc_slots_of (fun vs H Q E h => ?_) (fun cdv A' outer s H vs Q E hr hx h => ?_)
  · obtain ⟨p, q, ws, v, rfl, m, hk, wo', h⟩ := h
    rfl
  · obtain ⟨p, q, ws, v, rfl, m, hk, wo', h⟩ := h
    refine ⟨_, JSs.run (j_pss_one (j_ps_ret (j_pe_op j_c_fdiv (j_pe_callF ((ok_head_number T).mono (by decide)) hr rfl T.g_head_number T.fn_head_number.kp T.b_head_number hx (j_pa_c (j_cv 0) (j_pa_c (j_cv 1) j_pa_nil))) j_pe_int))), ?_⟩
    simp only [tRet, tOp, tCons, tNil, tC, cVar, tCallE, cFdiv, and_assoc, CDiv, Int.reduceLT, Nat.reduceLT, Int.reduceAdd, L2.start, List.map_cons, List.map_nil, List.length_cons, List.length_nil, List.replicate, List.append_nil, List.getElem?_cons_zero, List.getElem?_cons_succ, V.int.injEq, V.bl.injEq, V.str.injEq, V.ref.injEq, V.ty.injEq, List.cons.injEq, Option.some.injEq, and_true, true_and, exists_eq_left', exists_and_left, Nat.reduceAdd, Nat.sub_self, sp_head_number]
    refine ⟨q, ws, m, hk, wo', ?_⟩
    cases hw : wi v 0 (ws.length - 1) <;> simp only [hw, if_true, if_false, Bool.false_eq_true] at h ⊢
    · exact h
    · cases hc : cellN ws (iv v).toNat <;> rw [hc] at h <;> exact h
def HS.new (n o y : Int) : HS := ⟨List.replicate n.toNat (-1), [], List.replicate (o + 2 * y).toNat (-1), ⟨0, o, 0⟩, ⟨o, o + y, o⟩, ⟨o + y, o + 2 * y, o + y⟩⟩
def sp_Heap_init (A : Ad) : Sp := fun vs H Q E => ∃ p dx v u x, vs = [.ref p, v, u, x] ∧ H p = some (.ins A.c_Heap dx []) ∧ Kn H v ∧ Kn H u ∧ Kn H x ∧
  if wi v 1 6 = true ∧ wi u 4 2000 = true ∧ wi x 2 500 = true then (∀ X H', X.p = p → HeAt A.c_Heap A.c_Roots A.c_Hands A.c_Book A.c_Areas A.c_Memory A.c_Space H' X (HS.new (iv v) (iv u) (iv x)) → (∀ b o, H b = some o → b ≠ p → H' b = some o) → (H X.qh = none ∧ H X.d = none ∧ H X.q = none ∧ H X.o = none ∧ H X.y = none) → Q .non H')
  else ∀ H', (∀ b o, H b = some o → b ≠ p → H' b = some o) → E (.ref A.c_BadCount) none H'
theorem sc_Heap_init : FnScope ["self", "hands", "old_words", "young_words"] ["self", "hands", "old_words", "young_words"] (defScope s_Heap_init) := ⟨rfl, rfl, rfl, by decide +kernel, rfl, by decide +kernel, by decide +kernel⟩
theorem ok_Heap_init (T : Txt K mg A) : FnOk P w K mg base (CXE P w) true 7 A.f_Heap_init A.d_Heap_init ["self", "hands", "old_words", "young_words"] (sp_Heap_init A) := by
  refine T.fn_Heap_init.okE sc_Heap_init (fun vs H Q E h => ?_) (fun cdv A' outer s H vs Q E hr hx h => ?_)
  · obtain ⟨p, dx, v, u, x, rfl, e, kv, ku, kx, k⟩ := h
    rfl
  · obtain ⟨p, dx, v, u, x, rfl, e, kv, ku, kx, k⟩ := h
    refine ⟨_, JSs.run (j_pss_cons (j_c_sfld (j_cv 0) (j_pe_makeF T.mk_Roots ((ok_Roots_init T).mono (by decide)) hr rfl T.g_Roots T.b_Roots_init hx (j_pa_c (j_cv 1) j_pa_nil)) rfl)
      (j_pss_one (j_c_sfld (j_cv 0) (j_pe_makeF T.mk_Areas ((ok_Areas_init T).mono (by decide)) hr rfl T.g_Areas T.b_Areas_init hx (j_pa_c (j_cv 2) (j_pa_c (j_cv 3) j_pa_nil))) rfl))), ?_⟩
    have Hs : ∀ {G : Hp} {x dx : Addr} {o : HO}, G x = none → G dx = none → Same G (upd (upd G dx (HO.own x)) x o) := fun {G x dx o} hx hdx b u eb => by rw [upd_ne (ne_of_none eb hx), upd_ne (ne_of_none eb hdx)]; exact eb
    show tSeq _ _ _ [some (V.ref p), some v, some u, some x] H
    refine seq_mid (fun σ' H' => wi v 1 6 = true ∧ ∃ r h q b d, H r = none ∧ H h = none ∧ H q = none ∧ H b = none ∧ H d = none ∧ RtAt A.c_Roots A.c_Hands A.c_Book H' r h q b d (List.replicate (iv v).toNat (-1)) [] ∧ H' p = some (.ins A.c_Heap dx (putF "roots" (.ref r) [])) ∧ (∀ b o, H b = some o → b ≠ p → H' b = some o) ∧ σ' = [some (V.ref p), some v, some u, some x]) (fun R hR => ?_) ?_
    · simp only [tCons, tNil, cVar, cxOf_K, and_assoc, Int.reduceNeg, upd_same, cSFld, tMakeE, List.getElem?_cons_zero, List.getElem?_cons_succ, V.int.injEq, V.bl.injEq, V.str.injEq, V.ref.injEq, V.ty.injEq, List.cons.injEq, Option.some.injEq, and_true, true_and, exists_eq_left', exists_and_left, sp_Roots_init]
      intro y d1 hy hd1 _
      refine ⟨d1, rfl, kv.same (Hs hy hd1), ?_⟩
      cases hv : wi v 1 6 with
      | false =>
        rw [if_neg (by rw [hv]; rintro ⟨z, _⟩; cases z)] at k
        exact fun H' s' => k _ fun b o eb _ => s' _ _ (Hs hy hd1 _ _ eb)
      | true =>
        rw [if_pos rfl]
        intro h q b d H1 hh hq hb hd m1 f1
        have un : ∀ {z : Addr}, upd (upd H d1 (HO.own y)) y (HO.ins A.c_Roots d1 []) z = none → H z = none := fun hz => (upd_none (upd_none hz).2).2
        have hh2 := un hh
        have hq2 := un hq
        have hb2 := un hb
        have hd2 := un hd
        have npy := ne_of_none e hy
        rw [f1 _ _ (Hs hy hd1 _ _ e) npy]
        refine ⟨T.cl_Heap, T.na_Heap_roots, by decide, hR _ _ ⟨hv, y, h, q, b, d, hy, hh2, hq2, hb2, hd2, ?_, upd_same, fun b o eb nb => ?_, rfl⟩⟩
        · obtain ⟨d3, w3, l3, e3⟩ := m1.ob
          refine ⟨⟨d3, w3, l3, by rw [upd_ne (Ne.symm npy)]; exact e3⟩, m1.hd.keep fun b o eb hb => ?_, m1.bk.keep fun b o eb hb => ?_⟩
          · rw [upd_ne (by rcases hb with rfl | rfl; exact Ne.symm (ne_of_none e hh2); exact Ne.symm (ne_of_none e hq2))]; exact eb
          · rw [upd_ne (by rcases hb with rfl | rfl; exact Ne.symm (ne_of_none e hb2); exact Ne.symm (ne_of_none e hd2))]; exact eb
        · rw [upd_ne nb]; exact f1 _ _ (Hs hy hd1 _ _ eb) (ne_of_none eb hy)
    rintro _ H1 ⟨hv, r, h, q, b, d, hr', hh, hq, hb, hd, m1, e1, f1, rfl⟩
    have ku1 : Kn H1 u := ku.frame e f1
    have kx1 : Kn H1 x := kx.frame e f1
    simp only [tCons, tNil, cVar, cxOf_K, and_assoc, Int.reduceNeg, upd_same, cSFld, tMakeE, List.getElem?_cons_zero, List.getElem?_cons_succ, V.int.injEq, V.bl.injEq, V.str.injEq, V.ref.injEq, V.ty.injEq, List.cons.injEq, Option.some.injEq, and_true, true_and, exists_eq_left', exists_and_left, sp_Areas_init]
    intro a d1 ha hd1 _
    refine ⟨d1, rfl, ku1.same (Hs ha hd1), kx1.same (Hs ha hd1), ?_⟩
    by_cases c : wi u 4 2000 = true ∧ wi x 2 500 = true
    · rw [if_pos ⟨hv, c⟩] at k
      rw [if_pos c]
      rintro m q2 o y s2 H2 a2 f2 ⟨fm, fq, fo, fy, fs⟩
      have un : ∀ {z : Addr}, upd (upd H1 d1 (HO.own a)) a (HO.ins A.c_Areas d1 []) z = none → H1 z = none := fun hz => (upd_none (upd_none hz).2).2
      have npa := ne_of_none e1 ha
      rw [f2 _ _ (Hs ha hd1 _ _ e1) npa]
      dsimp only
      refine ⟨T.cl_Heap, T.na_Heap_areas, (show (1 : Nat) < 1000 by decide), ?_⟩
      rw [gfl_mk]
      have g2 : ∀ z w, H1 z = some w → z ≠ p → upd H2 p (.ins A.c_Heap dx (gfl r a)) z = some w := fun z w ez nz => by
        rw [upd_ne nz]; exact f2 _ _ (Hs ha hd1 _ _ ez) (ne_of_none ez ha)
      have fr : ∀ {z : Addr}, H1 z = none → H z = none := fun {z} hz => by
        cases ez : H z with
        | none => rfl
        | some w => rw [f1 _ _ ez (Ne.symm (ne_of_none e1 hz))] at hz; cases hz
      obtain ⟨d3, w3, l3, e3⟩ := m1.ob
      obtain ⟨d4, e4⟩ := m1.hd.ob
      obtain ⟨d5, e5⟩ := m1.bk.ob
      have nr := Ne.symm (ne_of_none e hr')
      have nh := Ne.symm (ne_of_none e hh)
      have nq := Ne.symm (ne_of_none e hq)
      have nb := Ne.symm (ne_of_none e hb)
      have nd := Ne.symm (ne_of_none e hd)
      refine k ⟨p, r, a, h, q, b, d, m, q2, o, y, s2⟩ _ rfl ⟨⟨dx, upd_same⟩, ⟨⟨d3, w3, l3, g2 _ _ e3 nr⟩, m1.hd.keep fun z w ez hz => g2 _ _ ez (by rcases hz with rfl | rfl; exact nh; exact nq), m1.bk.keep fun z w ez hz => g2 _ _ ez (by rcases hz with rfl | rfl; exact nb; exact nd)⟩, a2.keep fun z w ez hz => ?_, ne_of_none m1.hd.ls (un fq), ⟨ne_of_none e1 (un fo), ne_of_none e1 (un fy)⟩, ⟨ne_of_none e3 (un fo), ne_of_none e3 (un fy)⟩, ⟨ne_of_none e4 (un fo), ne_of_none e4 (un fy)⟩, ⟨ne_of_none e5 (un fo), ne_of_none e5 (un fy)⟩⟩ (fun z w ez nz => g2 _ _ (f1 _ _ ez nz) nz) ⟨hq, hd, fr (un fq), fr (un fo), fr (un fy)⟩
      rw [upd_ne ?_]
      · exact ez
      · rcases hz with rfl | rfl | rfl | rfl | rfl | rfl
        · exact Ne.symm npa
        · exact Ne.symm (ne_of_none e1 (un fm))
        · exact Ne.symm (ne_of_none e1 (un fq))
        · exact Ne.symm (ne_of_none e1 (un fo))
        · exact Ne.symm (ne_of_none e1 (un fy))
        · exact Ne.symm (ne_of_none e1 (un fs))
    · rw [if_neg (fun z => c z.2)] at k
      rw [if_neg c]
      exact k _ fun z w ez nz => Hs ha hd1 _ _ (f1 _ _ ez nz)
def sp_Heap_drop (A : Ad) : Sp := fun vs H Q E => ∃ X S v, vs = [.ref X.p, v] ∧ HeAt A.c_Heap A.c_Roots A.c_Hands A.c_Book A.c_Areas A.c_Memory A.c_Space H X S ∧ Kn H v ∧
  if wi v 0 (S.hw.length - 1) = true then (∀ H', HeAt A.c_Heap A.c_Roots A.c_Hands A.c_Book A.c_Areas A.c_Memory A.c_Space H' X { S with hw := S.hw.set (iv v).toNat (-1) } → (∀ b o, H b = some o → b ≠ X.qh → H' b = some o) → Q .non H')
    else E (.ref A.c_NoHand) none H
theorem sc_Heap_drop : FnScope ["self", "hand"] ["self", "hand"] (defScope s_Heap_drop) := ⟨rfl, rfl, rfl, by decide +kernel, rfl, by decide +kernel, by decide +kernel⟩
theorem ok_Heap_drop (T : Txt K mg A) : FnOk P w K mg base (CXE P w) true 7 A.f_Heap_drop A.d_Heap_drop ["self", "hand"] (sp_Heap_drop A) := by
  refine T.fn_Heap_drop.okE sc_Heap_drop (fun vs H Q E h => ?_) (fun cdv A' outer s H vs Q E hr hx h => ?_)
  · obtain ⟨X, S, v, rfl, g, hk, q⟩ := h
    rfl
  · obtain ⟨X, S, v, rfl, g, hk, q⟩ := h
    refine ⟨_, JSs.run (j_pss_one (j_ps_expr (j_c_meth (j_cv 0) T.cl_Heap T.m_Heap_hold ((ok_Heap_hold T).mono (by decide)) hr T.b_Heap_hold hx (j_pa_c (j_cv 1) (j_pa_c (j_pe_gv T.v_NOTHING) j_pa_nil))))), ?_⟩
    obtain ⟨d0, e0⟩ := g.ob
    simp only [tDrop, tCons, tNil, tC, cVar, and_assoc, Int.reduceNeg, Int.reduceAdd, cMethE, L2.start, List.map_cons, List.map_nil, List.length_cons, List.length_nil, List.replicate, List.append_nil, List.getElem?_cons_zero, List.getElem?_cons_succ, V.int.injEq, V.bl.injEq, V.str.injEq, V.ref.injEq, V.ty.injEq, List.cons.injEq, Option.some.injEq, and_true, true_and, exists_eq_left', exists_and_left, Nat.reduceAdd, Nat.sub_self, e0, gfl_hold, sp_Heap_hold]
    refine ⟨X, rfl, S, g, hk, True.intro, ?_⟩
    cases hw : wi v 0 (S.hw.length - 1) <;> rw [hw] at q
    · exact q
    · rw [if_pos rfl] at q ⊢
      rw [kd_is, if_pos rfl]
      exact q
def sp_Heap_note (A : Ad) : Sp := fun vs H Q _ => ∃ X S i w, vs = [.ref X.p, .int i, .int w] ∧ HeAt A.c_Heap A.c_Roots A.c_Hands A.c_Book A.c_Areas A.c_Memory A.c_Space H X S ∧ 0 ≤ i ∧ i ≤ 9999 ∧ (kd (.int w)).isSome = true ∧ S.ks.length < 1000 ∧
  ∀ H', HeAt A.c_Heap A.c_Roots A.c_Hands A.c_Book A.c_Areas A.c_Memory A.c_Space H' X { S with ks := if wi (.int i) S.so.b (S.so.t - 1) = true ∧ S.isY w = true then inK S.ks i else rubK S.ks i } → (∀ b o, H b = some o → b ≠ X.d → H' b = some o) → Q .non H'
theorem sc_Heap_note : FnScope ["self", "place", "word"] ["self", "place", "word"] (defScope s_Heap_note) := ⟨rfl, rfl, rfl, by decide +kernel, rfl, by decide +kernel, by decide +kernel⟩
theorem ok_Heap_note (T : Txt K mg A) : FnOk P w K mg base (CXE P w) true 7 A.f_Heap_note A.d_Heap_note ["self", "place", "word"] (sp_Heap_note A) := by
  refine T.fn_Heap_note.okE sc_Heap_note (fun vs H Q E h => ?_) (fun cdv A' outer s H vs Q E hr hx h => ?_)
  · obtain ⟨X, S, i, w, rfl, g, i0, i1, hm, hl, k⟩ := h
    rfl
  · obtain ⟨X, S, i, w, rfl, g, i0, i1, hm, hl, k⟩ := h
    refine ⟨_, JSs.run (j_pss_one (j_ps_if (j_PW_pt (j_pw_and (j_pt_truth (j_c_meth (j_c_fld (j_c_fld (j_cv 0) rfl) rfl) T.cl_Space T.m_Space_has ((ok_Space_has T).mono (by decide)) hr T.b_Space_has hx (j_pa_c (j_cv 1) j_pa_nil)) (fun _ => rfl)) (j_pw_and1 (j_pt_truth (j_pe_callF ((ok_is_of_young T).mono (by decide)) hr rfl T.g_is_of_young T.fn_is_of_young.kp T.b_is_of_young hx (j_pa_c (j_c_fld (j_cv 0) rfl) (j_pa_c (j_cv 2) j_pa_nil))) (fun _ => rfl))))) (j_pss_one (j_ps_expr (j_c_meth (j_c_fld (j_c_fld (j_cv 0) rfl) rfl) T.cl_Book T.m_Book_write ((ok_Book_write T).mono (by decide)) hr T.b_Book_write hx (j_pa_c (j_cv 1) j_pa_nil)))) (j_pss_one (j_ps_expr (j_c_meth (j_c_fld (j_c_fld (j_cv 0) rfl) rfl) T.cl_Book T.m_Book_rub ((ok_Book_rub T).mono (by decide)) hr T.b_Book_rub hx (j_pa_c (j_cv 1) j_pa_nil)))))), ?_⟩
    obtain ⟨d0, e0⟩ := g.ob
    obtain ⟨d1, e1⟩ := g.ar.ob
    obtain ⟨d2, e2⟩ := g.ar.old
    obtain ⟨d3, w3, l3, e3⟩ := g.rt.ob
    obtain ⟨d4, e4⟩ := g.rt.bk.ob
    have hw : wi (.int i) 0 9999 = true := by simp [wi, i0, i1]
    simp only [tDrop, tIfS, tAnd, tCons, tNil, cVar, tCallE, cxOf_K, TruV, and_assoc, Int.reduceAdd, cFld, cMethE, L2.start, List.map_cons, List.map_nil, List.length_cons, List.length_nil, List.replicate, List.append_nil, List.getElem?_cons_zero, List.getElem?_cons_succ, V.int.injEq, V.bl.injEq, V.str.injEq, V.ref.injEq, V.ty.injEq, List.cons.injEq, Option.some.injEq, and_true, true_and, exists_eq_left', exists_and_left, exists_eq_left, ite_false, Bool.false_eq_true, Nat.reduceAdd, Nat.sub_self, e0, T.cl_Heap, T.na_Heap_areas, T.na_Heap_roots, gfl_a, gfl_r, e1, T.cl_Areas, T.na_Areas_old, afl_o, e2, sfl_has, sp_Space_has, sp_is_of_young, e3, T.cl_Roots, T.na_Roots_book, rofl_b, e4, bfl_write, bfl_rub, sp_Book_write, sp_Book_rub]
    refine ⟨d2, _, _, _, rfl, True.intro, ?_⟩
    have rub : ∀ {Q' : Prop}, (∀ H', HeAt A.c_Heap A.c_Roots A.c_Hands A.c_Book A.c_Areas A.c_Memory A.c_Space H' X { S with ks := rubK S.ks i } → (∀ b o, H b = some o → b ≠ X.d → H' b = some o) → Q .non H') → ∃ x x_1, BkAt A.c_Book H X.b x x_1 ∧ Kn H (V.int i) ∧ if wi (V.int i) 0 9999 = true then ∀ (H' : Hp), BkAt A.c_Book H' X.b x (rubK x_1 (iv (V.int i))) → (∀ (b : Addr) (o : HO), H b = some o → b ≠ x → H' b = some o) → Q V.non H' else Q' := fun {Q'} k => by
      refine ⟨X.d, S.ks, g.rt.bk, True.intro, ?_⟩
      rw [if_pos hw]
      exact fun H' m' f' => k _ (g.book m' f') f'
    by_cases c : wi (.int i) S.so.b (S.so.t - 1) = true
    · rw [if_pos c]
      refine ⟨X.m, X.q, X.o, X.y, X.s, S.ws, S.so, S.sy, S.ss, g.ar, hm, ?_⟩
      by_cases c2 : S.isY w = true
      · rw [if_pos (show (isPl w && wi (V.int (w / 2)) S.sy.b (S.sy.t - 1)) = true from c2)]
        rw [if_pos ⟨c, c2⟩] at k
        refine ⟨X.d, S.ks, g.rt.bk, True.intro, hl, ?_⟩
        rw [if_pos hw]
        exact k _ (g.book g.rt.bk.put fun b o eb nb => by rw [upd_ne nb]; exact eb) fun b o eb nb => by rw [upd_ne nb]; exact eb
      · rw [if_neg (show ¬ (isPl w && wi (V.int (w / 2)) S.sy.b (S.sy.t - 1)) = true from c2)]
        rw [if_neg (fun z => c2 z.2)] at k
        exact rub k
    · rw [if_neg c]
      rw [if_neg (fun z => c z.1)] at k
      exact rub k
def sp_aged (A : Ad) : Sp := fun vs H Q E => ∃ p q ws v g, vs = [.ref p, v, g] ∧ MemAt A.c_Memory H p q ws ∧ Kn H v ∧ Kn H g ∧ WordsOk ws ∧
  if wi v 0 (ws.length - 1) = true then (match cellN ws (iv v).toNat with
    | some n => if wi g 0 2 = true then Q .non (upd H q (.lst ((ws.set (iv v).toNat (2 * (4 * (n / 4) + iv g))).map V.int))) else E (.ref A.c_BadCount) none H
    | none => E (.ref A.c_NoCell) none H) else E (.ref A.c_NoPlace) none H
theorem sc_aged : FnScope ["memory", "at", "age", "slots"] ["memory", "at", "age"] (defScope s_aged) := ⟨rfl, rfl, rfl, by decide +kernel, rfl, by decide +kernel, by decide +kernel⟩
theorem ok_aged (T : Txt K mg A) : FnOk P w K mg base (CXE P w) true 8 A.f_aged A.d_aged ["memory", "at", "age"] (sp_aged A) := by
  refine T.fn_aged.okE sc_aged (fun vs H Q E h => ?_) (fun cdv A' outer s H vs Q E hr hx h => ?_)
  · obtain ⟨p, q, ws, v, g, rfl, m, hk, hg, wo', h⟩ := h
    rfl
  · obtain ⟨p, q, ws, v, g, rfl, m, hk, hg, wo', h⟩ := h
    refine ⟨_, JSs.run (j_pss_cons (j_ps_set (i := 3) sc_aged.nd rfl (by first | exact Or.inl rfl | exact Or.inr rfl) (j_pe_callF ((ok_slots_of T).mono (by decide)) hr rfl T.g_slots_of T.fn_slots_of.kp T.b_slots_of hx (j_pa_c (j_cv 0) (j_pa_c (j_cv 1) j_pa_nil))))
      (j_pss_cons (j_ps_if (j_pt_not (j_pt_truth (j_pe_callF ((ok_is_within T).mono (by decide)) hr rfl T.g_is_within T.fn_is_within.kp T.b_is_within hx (j_pa_c (j_cv 2) (j_pa_c j_pe_int (j_pa_c (j_pe_gv T.v_MOST_AGE) j_pa_nil)))) (fun _ => rfl))) (j_pss_one (j_ps_raiseF hx rfl T.g_BadCount T.x_BadCount rfl (j_pa_c j_pe_str j_pa_nil))) j_pss_nil)
      (j_pss_one (j_ps_expr (j_c_meth (j_cv 0) T.cl_Memory T.m_Memory_write ((ok_Memory_write T).mono (by decide)) hr T.b_Memory_write hx (j_pa_c (j_cv 1) (j_pa_c (j_pe_callF ((ok_head_word T).mono (by decide)) hr rfl T.g_head_word T.fn_head_word.kp T.b_head_word hx (j_pa_c (j_cv 3) (j_pa_c (j_cv 2) j_pa_nil))) j_pa_nil))))))), ?_⟩
    obtain ⟨dx, e⟩ := m.ob
    simp only [tNext, tDrop, tSeq, tIfS, tNot, tCons, tNil, tC, cVar, tAsg, gName, tCallE, tRaise, TruV, and_assoc, Int.reduceAdd, Int.reduceSub, Bool.not_eq_true', cMethE, L2.start, List.map_cons, List.map_nil, List.length_cons, List.length_nil, List.replicate, List.cons_append, List.nil_append, List.getElem?_cons_zero, List.getElem?_cons_succ, List.set_cons_zero, List.set_cons_succ, V.int.injEq, V.bl.injEq, V.str.injEq, V.ref.injEq, V.ty.injEq, List.cons.injEq, Option.some.injEq, and_true, true_and, exists_eq_left', exists_and_left, exists_eq_left, Nat.reduceSub, Nat.reduceAdd, sz1, sp_slots_of, sp_is_within, sp_head_word, e, mfl_wr]
    refine ⟨q, ws, m, hk, wo', ?_⟩
    cases hw : wi v 0 (ws.length - 1) <;> simp only [hw, if_true, if_false, Bool.false_eq_true] at h ⊢
    · exact h
    · cases hc : cellN ws (iv v).toNat <;> rw [hc] at h <;> simp only at h ⊢
      · exact h
      · refine ⟨hg, ?_⟩
        cases hg2 : wi g 0 2 <;> simp only [hg2, if_true, if_false, Bool.false_eq_true, Bool.true_eq_false] at h ⊢
        · exact h
        · obtain ⟨j, rfl, j0, j1⟩ := wi_int hg2
          obtain ⟨c1, c2, c3, c4, c5⟩ := cellN_is hc
          refine ⟨j, rfl, by omega, by omega, j0, j1, p, q, ws, v, _, rfl, m, hk, True.intro, ?_⟩
          rw [if_pos hw, kd_is, if_neg (by omega), if_pos (by omega)]
          exact h
def sp_slot_place (A : Ad) : Sp := fun vs H Q E => ∃ p q ws v g, vs = [.ref p, v, g] ∧ MemAt A.c_Memory H p q ws ∧ Kn H v ∧ Kn H g ∧ WordsOk ws ∧
  if wi v 0 (ws.length - 1) = true then (match cellN ws (iv v).toNat with
    | some n => if wi g 0 (n / 4 - 1) = true then Q (.int (iv v + 1 + iv g)) H else E (.ref A.c_NoSlot) none H
    | none => E (.ref A.c_NoCell) none H) else E (.ref A.c_NoPlace) none H
theorem sc_slot_place : FnScope ["memory", "at", "slot", "slots"] ["memory", "at", "slot"] (defScope s_slot_place) := ⟨rfl, rfl, rfl, by decide +kernel, rfl, by decide +kernel, by decide +kernel⟩
theorem ok_slot_place (T : Txt K mg A) : FnOk P w K mg base (CXE P w) true 8 A.f_slot_place A.d_slot_place ["memory", "at", "slot"] (sp_slot_place A) := by
  refine T.fn_slot_place.okE sc_slot_place (fun vs H Q E h => ?_) (fun cdv A' outer s H vs Q E hr hx h => ?_)
  · obtain ⟨p, q, ws, v, g, rfl, m, hk, hg, wo', h⟩ := h
    rfl
  · obtain ⟨p, q, ws, v, g, rfl, m, hk, hg, wo', h⟩ := h
    refine ⟨_, JSs.run (j_pss_cons (j_ps_set (i := 3) sc_slot_place.nd rfl (by first | exact Or.inl rfl | exact Or.inr rfl) (j_pe_callF ((ok_slots_of T).mono (by decide)) hr rfl T.g_slots_of T.fn_slots_of.kp T.b_slots_of hx (j_pa_c (j_cv 0) (j_pa_c (j_cv 1) j_pa_nil))))
      (j_pss_cons (j_ps_if (j_pt_not (j_pt_truth (j_pe_callF ((ok_is_within T).mono (by decide)) hr rfl T.g_is_within T.fn_is_within.kp T.b_is_within hx (j_pa_c (j_cv 2) (j_pa_c j_pe_int (j_pa_c (j_pe_op j_c_sub (j_cv 3) j_pe_int) j_pa_nil)))) (fun _ => rfl))) (j_pss_one (j_ps_raiseF hx rfl T.g_NoSlot T.x_NoSlot rfl (j_pa_c j_pe_str j_pa_nil))) j_pss_nil)
      (j_pss_one (j_ps_ret (j_pe_op j_c_add (j_pe_op j_c_add (j_cv 1) j_pe_int) (j_cv 2)))))), ?_⟩
    cases hw : wi v 0 (ws.length - 1) with
    | false =>
      simp only [tRet, tNext, tSeq, tIfS, tOp, tNot, tCons, tNil, tC, cVar, tAsg, gName, tCallE, tRaise, cAdd, cSub, TruV, and_assoc, Int.reduceAdd, Int.reduceSub, Bool.not_eq_true', L2.start, List.map_cons, List.map_nil, List.length_cons, List.length_nil, List.replicate, List.cons_append, List.nil_append, List.getElem?_cons_zero, List.getElem?_cons_succ, List.set_cons_zero, List.set_cons_succ, V.int.injEq, V.bl.injEq, V.str.injEq, V.ref.injEq, V.ty.injEq, List.cons.injEq, Option.some.injEq, and_true, true_and, exists_eq_left', exists_and_left, exists_eq_left, Nat.reduceSub, Nat.reduceAdd, sz1, sp_slots_of, sp_is_within]
      rw [hw] at h
      exact ⟨q, ws, m, hk, wo', by rw [hw]; exact h⟩
    | true =>
      obtain ⟨i, rfl, i0, i1⟩ := wi_int hw
      rw [if_pos hw] at h
      cases hc : cellN ws (iv (V.int i)).toNat with
      | none =>
        rw [hc] at h
        simp only [tRet, tNext, tSeq, tIfS, tOp, tNot, tCons, tNil, tC, cVar, tAsg, gName, tCallE, tRaise, cAdd, cSub, TruV, and_assoc, Int.reduceAdd, Int.reduceSub, Bool.not_eq_true', L2.start, List.map_cons, List.map_nil, List.length_cons, List.length_nil, List.replicate, List.cons_append, List.nil_append, List.getElem?_cons_zero, List.getElem?_cons_succ, List.set_cons_zero, List.set_cons_succ, V.int.injEq, V.bl.injEq, V.str.injEq, V.ref.injEq, V.ty.injEq, List.cons.injEq, Option.some.injEq, and_true, true_and, exists_eq_left', exists_and_left, exists_eq_left, Nat.reduceSub, Nat.reduceAdd, sz1, sp_slots_of, sp_is_within]
        exact ⟨q, ws, m, True.intro, wo', by rw [if_pos hw, hc]; exact h⟩
      | some n =>
        rw [hc] at h
        dsimp only at h
        cases hg2 : wi g 0 (n / 4 - 1) with
        | false =>
          simp only [tRet, tNext, tSeq, tIfS, tOp, tNot, tCons, tNil, tC, cVar, tAsg, gName, tCallE, tRaise, cAdd, cSub, TruV, and_assoc, Int.reduceAdd, Int.reduceSub, Bool.not_eq_true', L2.start, List.map_cons, List.map_nil, List.length_cons, List.length_nil, List.replicate, List.cons_append, List.nil_append, List.getElem?_cons_zero, List.getElem?_cons_succ, List.set_cons_zero, List.set_cons_succ, V.int.injEq, V.bl.injEq, V.str.injEq, V.ref.injEq, V.ty.injEq, List.cons.injEq, Option.some.injEq, and_true, true_and, exists_eq_left', exists_and_left, exists_eq_left, Nat.reduceSub, Nat.reduceAdd, sz1, sp_slots_of, sp_is_within]
          rw [hg2] at h
          refine ⟨q, ws, m, True.intro, wo', ?_⟩
          rw [if_pos hw, hc]
          exact ⟨hg, by rw [hg2]; exact h⟩
        | true =>
          obtain ⟨j, rfl, j0, j1⟩ := wi_int hg2
          simp only [tRet, tNext, tSeq, tIfS, tOp, tNot, tCons, tNil, tC, cVar, tAsg, gName, tCallE, tRaise, cAdd, cSub, TruV, and_assoc, Int.reduceAdd, Int.reduceSub, Bool.not_eq_true', L2.start, List.map_cons, List.map_nil, List.length_cons, List.length_nil, List.replicate, List.cons_append, List.nil_append, List.getElem?_cons_zero, List.getElem?_cons_succ, List.set_cons_zero, List.set_cons_succ, V.int.injEq, V.bl.injEq, V.str.injEq, V.ref.injEq, V.ty.injEq, List.cons.injEq, Option.some.injEq, and_true, true_and, exists_eq_left', exists_and_left, exists_eq_left, Nat.reduceSub, Nat.reduceAdd, sz1, sp_slots_of, sp_is_within]
          rw [if_pos hg2] at h
          refine ⟨q, ws, m, True.intro, wo', ?_⟩
          rw [if_pos hw, hc]
          refine ⟨hg, ?_⟩
          rw [if_neg (by rw [hg2]; intro z; cases z)]
          exact h
def sp_Areas_lay_into (A : Ad) : Sp := fun vs H Q E => ∃ (p dx m q o y s : Addr) (ws : List Int) (x dz : Addr) (z : S3) (v : V) (g : Int), vs = [.ref p, .ref x, v, .int g] ∧ H p = some (.ins A.c_Areas dx (afl m o y s)) ∧ MemAt A.c_Memory H m q ws ∧ WordsOk ws ∧ ws.length ≤ 4000 ∧ H x = some (.ins A.c_Space dz (sfl z.b z.e z.t)) ∧ p ≠ x ∧ m ≠ x ∧ 0 ≤ z.t ∧ z.e ≤ ws.length ∧ 0 ≤ g ∧ g ≤ 2 ∧ Kn H v ∧
  if wi v 0 8 = true then (if iv v + 1 ≤ z.e - z.t then
      (∀ H', MemAt A.c_Memory H' m q (laidA ws z.t.toNat (iv v).toNat g) → H' x = some (.ins A.c_Space dz (sfl z.b z.e (z.t + (iv v + 1)))) → (∀ b u, H b = some u → b ≠ q → b ≠ x → H' b = some u) → Q (.int z.t) H')
    else E (.ref A.c_NoRoom) none H) else E (.ref A.c_BadCount) none H
theorem sc_Areas_lay_into : FnScope ["self", "space", "slots", "age", "at"] ["self", "space", "slots", "age"] (defScope s_Areas_lay_into) := ⟨rfl, rfl, rfl, by decide +kernel, rfl, by decide +kernel, by decide +kernel⟩
theorem ok_Areas_lay_into (T : Txt K mg A) : FnOk P w K mg base (CXE P w) true 9 A.f_Areas_lay_into A.d_Areas_lay_into ["self", "space", "slots", "age"] (sp_Areas_lay_into A) := by
  refine T.fn_Areas_lay_into.okE sc_Areas_lay_into (fun vs H Q E h => ?_) (fun cdv A' outer s H vs Q E hr hx h => ?_)
  · obtain ⟨p, dx, m, q, o, y, s', ws, x, dz, z, v, g, rfl, hp, hm, wo', hl, hx', npx, nmx, t0, el, g0, g2, hk, h⟩ := h
    rfl
  · obtain ⟨p, dx, m, q, o, y, s', ws, x, dz, z, v, g, rfl, hp, hm, wo', hl, hx', npx, nmx, t0, el, g0, g2, hk, h⟩ := h
    refine ⟨_, JSs.run (j_pss_cons (j_ps_expr (j_pe_callF ((ok_want_slots T).mono (by decide)) hr rfl T.g_want_slots T.fn_want_slots.kp T.b_want_slots hx (j_pa_c (j_cv 2) j_pa_nil)))
      (j_pss_cons (j_ps_set (i := 4) sc_Areas_lay_into.nd rfl (by first | exact Or.inl rfl | exact Or.inr rfl) (j_c_meth (j_cv 1) T.cl_Space T.m_Space_take ((ok_Space_take T).mono (by decide)) hr T.b_Space_take hx (j_pa_c (j_pe_op j_c_add (j_cv 2) j_pe_int) j_pa_nil)))
      (j_pss_cons (j_ps_expr (j_pe_callF ((ok_lay T).mono (by decide)) hr rfl T.g_lay T.fn_lay.kp T.b_lay hx (j_pa_c (j_c_fld (j_cv 0) rfl) (j_pa_c (j_cv 4) (j_pa_c (j_cv 2) j_pa_nil)))))
      (j_pss_cons (j_ps_expr (j_pe_callF ((ok_aged T).mono (by decide)) hr rfl T.g_aged T.fn_aged.kp T.b_aged hx (j_pa_c (j_c_fld (j_cv 0) rfl) (j_pa_c (j_cv 4) (j_pa_c (j_cv 3) j_pa_nil)))))
      (j_pss_one (j_ps_ret (j_cv 4))))))), ?_⟩
    cases hv : wi v 0 8 with
    | false =>
      rw [hv] at h
      simp only [tRet, tDrop, tSeq, tOp, tCons, tNil, tC, cVar, tAsg, gName, tCallE, cAdd, cxOf_K, Int.reduceAdd, Int.reduceSub, cFld, cMethE, L2.start, List.map_cons, List.map_nil, List.length_cons, List.length_nil, List.replicate, List.cons_append, List.nil_append, List.getElem?_cons_zero, List.getElem?_cons_succ, List.set_cons_zero, List.set_cons_succ, V.int.injEq, V.bl.injEq, V.str.injEq, V.ref.injEq, V.ty.injEq, List.cons.injEq, Option.some.injEq, and_true, exists_eq_left', ite_false, Bool.false_eq_true, Nat.reduceSub, Nat.reduceAdd, sp_want_slots, hv]
      exact ⟨hk, h⟩
    | true =>
      obtain ⟨n, rfl, n0, n8⟩ := wi_int hv
      rw [if_pos hv] at h
      simp only [tRet, tDrop, tSeq, tOp, tCons, tNil, tC, cVar, tAsg, gName, tCallE, cAdd, cxOf_K, and_assoc, Int.reduceAdd, Int.reduceSub, cFld, cMethE, L2.start, List.map_cons, List.map_nil, List.length_cons, List.length_nil, List.replicate, List.cons_append, List.nil_append, List.getElem?_cons_zero, List.getElem?_cons_succ, List.set_cons_zero, List.set_cons_succ, V.int.injEq, V.bl.injEq, V.str.injEq, V.ref.injEq, V.ty.injEq, List.cons.injEq, Option.some.injEq, and_true, true_and, exists_eq_left', exists_and_left, ite_true, Nat.reduceSub, Nat.reduceAdd, sp_want_slots, hv, hx', sfl_take, sp_Space_take, isIi]
      refine ⟨True.intro, dz, z.b, z.e, z.t, rfl, True.intro, ?_⟩
      rw [if_pos (show (1 : Int) ≤ iv (V.int (n + 1)) by show (1 : Int) ≤ n + 1; omega)]
      by_cases hr' : n + 1 ≤ z.e - z.t
      · rw [if_pos (show iv (V.int (n + 1)) ≤ z.e - z.t from hr')]
        rw [if_pos (show iv (V.int n) + 1 ≤ z.e - z.t from hr')] at h
        have nqx : q ≠ x := fun w => by have := hm.ls; rw [w, hx'] at this; cases this
        have npq : p ≠ q := fun w => by have := hm.ls; rw [← w, hp] at this; cases this
        have hp1 : upd H x (HO.ins A.c_Space dz (sfl z.b z.e (z.t + iv (V.int (n + 1))))) p = some (.ins A.c_Areas dx (afl m o y s')) := by rw [upd_ne npx]; exact hp
        have hx1 : upd H x (HO.ins A.c_Space dz (sfl z.b z.e (z.t + iv (V.int (n + 1))))) x = some (.ins A.c_Space dz (sfl z.b z.e (z.t + (iv (V.int n) + 1)))) := upd_same
        have f1 : ∀ b u, H b = some u → b ≠ x → upd H x (HO.ins A.c_Space dz (sfl z.b z.e (z.t + iv (V.int (n + 1))))) b = some u := fun b u eb nb => by rw [upd_ne nb]; exact eb
        generalize upd H x (HO.ins A.c_Space dz (sfl z.b z.e (z.t + iv (V.int (n + 1))))) = H1 at *
        have m1 : MemAt A.c_Memory H1 m q ws := hm.keep fun b u eb hb => f1 b u eb (by rcases hb with rfl | rfl; exact nmx; exact nqx)
        rw [hp1]
        dsimp only
        refine ⟨T.cl_Areas, T.na_Areas_memory, ?_⟩
        rw [afl_m]
        dsimp only
        unfold sp_lay
        refine ⟨m, q, ws, V.int z.t, V.int n, rfl, m1, True.intro, True.intro, hl, ?_⟩
        rw [if_pos hv, if_pos (show wi (V.int z.t) 0 (ws.length - 1 - iv (V.int n)) = true by show wi (V.int z.t) 0 (ws.length - 1 - n) = true; simp only [wi, Bool.and_eq_true, decide_eq_true_eq]; omega)]
        intro H2 m2 f2
        rw [f2 _ _ hp1 npq]
        dsimp only
        refine ⟨T.cl_Areas, T.na_Areas_memory, ?_⟩
        rw [afl_m]
        dsimp only
        have et : (iv (V.int z.t)).toNat = z.t.toNat := rfl
        have en : (iv (V.int n)).toNat = n.toNat := rfl
        rw [et, en] at m2
        have hn8 : n.toNat ≤ 8 := by omega
        have hc : cellN (laid ws z.t.toNat n.toNat) z.t.toNat = some (4 * (n.toNat : Int)) := cellN_laid hn8 (by omega)
        unfold sp_aged
        refine ⟨m, q, _, V.int z.t, V.int g, rfl, m2, True.intro, True.intro, wo'.laid hn8, ?_⟩
        rw [if_pos (by rw [laid_len]; simp only [wi, Bool.and_eq_true, decide_eq_true_eq]; omega), et, hc]
        dsimp only
        rw [if_pos (show wi (V.int g) 0 2 = true by simp only [wi, Bool.and_eq_true, decide_eq_true_eq]; omega)]
        have eg : 2 * (4 * (4 * (n.toNat : Int) / 4) + iv (V.int g)) = 2 * (4 * (n.toNat : Int) + g) := by show 2 * (4 * (4 * (n.toNat : Int) / 4) + g) = _; omega
        rw [eg]
        refine h _ (m2.put _ _) ?_ fun b u eb nb nx => ?_
        · rw [upd_ne (Ne.symm nqx)]; exact f2 _ _ hx1 (Ne.symm nqx)
        · rw [upd_ne nb]; exact f2 _ _ (f1 _ _ eb nx) nb
      · rw [if_neg (show ¬ iv (V.int (n + 1)) ≤ z.e - z.t from hr')]
        rw [if_neg (show ¬ iv (V.int n) + 1 ≤ z.e - z.t from hr')] at h
        exact h
def sp_Heap_place_of (A : Ad) : Sp := fun vs H Q E => ∃ X S v u, vs = [.ref X.p, v, u] ∧ HeAt A.c_Heap A.c_Roots A.c_Hands A.c_Book A.c_Areas A.c_Memory A.c_Space H X S ∧ Kn H v ∧ Kn H u ∧ S.Ok ∧
  if wi v 0 (S.hw.length - 1) = true then (if isPl (S.w (iv v)) = true then (∀ n, cellN S.ws (S.w (iv v) / 2).toNat = some n → if wi u 0 (n / 4 - 1) = true then Q (.int (S.w (iv v) / 2 + 1 + iv u)) H else E (.ref A.c_NoSlot) none H) else E (.ref A.c_NothingHeld) none H) else E (.ref A.c_NoHand) none H
theorem sc_Heap_place_of : FnScope ["self", "hand", "slot"] ["self", "hand", "slot"] (defScope s_Heap_place_of) := ⟨rfl, rfl, rfl, by decide +kernel, rfl, by decide +kernel, by decide +kernel⟩
theorem ok_Heap_place_of (T : Txt K mg A) : FnOk P w K mg base (CXE P w) true 9 A.f_Heap_place_of A.d_Heap_place_of ["self", "hand", "slot"] (sp_Heap_place_of A) := by
  refine T.fn_Heap_place_of.okE sc_Heap_place_of (fun vs H Q E h => ?_) (fun cdv A' outer s H vs Q E hr hx h => ?_)
  · obtain ⟨X, S, v, u, rfl, g, hk, hu', ok, q⟩ := h
    rfl
  · obtain ⟨X, S, v, u, rfl, g, hk, hu', ok, q⟩ := h
    refine ⟨_, JSs.run (j_pss_one (j_ps_ret (j_pe_callF ((ok_slot_place T).mono (by decide)) hr rfl T.g_slot_place T.fn_slot_place.kp T.b_slot_place hx (j_pa_c (j_c_fld (j_c_fld (j_cv 0) rfl) rfl) (j_pa_c (j_c_meth (j_cv 0) T.cl_Heap T.m_Heap_cell_of ((ok_Heap_cell_of T).mono (by decide)) hr T.b_Heap_cell_of hx (j_pa_c (j_cv 1) j_pa_nil)) (j_pa_c (j_cv 2) j_pa_nil)))))), ?_⟩
    obtain ⟨d0, e0⟩ := g.ob
    obtain ⟨d1, e1⟩ := g.ar.ob
    simp only [tRet, tCons, tNil, cVar, tCallE, cxOf_K, and_assoc, Int.reduceAdd, cFld, cMethE, L2.start, List.map_cons, List.map_nil, List.length_cons, List.length_nil, List.replicate, List.append_nil, List.getElem?_cons_zero, List.getElem?_cons_succ, V.int.injEq, V.bl.injEq, V.str.injEq, V.ref.injEq, V.ty.injEq, List.cons.injEq, Option.some.injEq, and_true, true_and, exists_eq_left', exists_and_left, Nat.reduceAdd, Nat.sub_self, e0, T.cl_Heap, T.na_Heap_areas, gfl_a, e1, T.cl_Areas, T.na_Areas_memory, afl_m, gfl_cell_of, sp_Heap_cell_of, sp_slot_place]
    refine ⟨X, rfl, S, g, hk, ok.1, ?_⟩
    cases hw : wi v 0 (S.hw.length - 1) <;> rw [hw] at q
    · exact q
    · rw [if_pos rfl] at q ⊢
      obtain ⟨i, rfl, i0, i1⟩ := wi_int hw
      have hm := hw_mem i0 i1
      have hm2 := ok.1 _ hm
      have hiv : iv (V.int i) = i := rfl
      rw [hiv] at q ⊢
      have q' : if isPl (S.w i) = true then (∀ n, cellN S.ws (S.w i / 2).toNat = some n → if wi u 0 (n / 4 - 1) = true then Q (.int (S.w i / 2 + 1 + iv u)) H else E (.ref A.c_NoSlot) none H) else E (.ref A.c_NothingHeld) none H := q
      have hc := ok.2.2.2.2 _ hm
      generalize S.w i = W at *
      rcases pl_kd hm2 with ⟨c, k, c1, c2, c3⟩ | ⟨c, x, k, nx⟩
      · rw [if_pos c] at q' ⊢
        obtain ⟨wl, n, hn⟩ := hc c
        refine ⟨X.q, S.ws, g.ar.mem, True.intro, hu', ok.2.1, ?_⟩
        rw [if_pos (by simp only [wi, Bool.and_eq_true, decide_eq_true_eq]; omega), show (iv (V.int (W / 2))).toNat = (W / 2).toNat from rfl, hn]
        have := q' n hn
        dsimp only
        cases hw2 : wi u 0 (n / 4 - 1) <;> rw [hw2] at this <;> exact this
      · rw [c] at q' ⊢
        exact q'
def sp__law_is_heap : Sp := fun vs H Q _ => ∃ v u x, vs = [v, u, x] ∧ Kn H v ∧ Kn H u ∧ Kn H x ∧
  if wi v 1 6 = true ∧ wi u 4 2000 = true ∧ wi x 2 500 = true then (∀ H', Same H H' → Q (.str (Str.ofString "")) H') else ∀ H', Same H H' → Q (.str (Str.ofString "count")) H'
theorem sc__law_is_heap : FnScope ["_law_hands", "_law_old_words", "_law_young_words", "_law_heap", "_law_e"] ["_law_hands", "_law_old_words", "_law_young_words"] (defScope s__law_is_heap) := ⟨rfl, rfl, rfl, by decide +kernel, rfl, by decide +kernel, by decide +kernel⟩
theorem ok__law_is_heap (T : Txt K mg A) : FnOk P w K mg base (CXE P w) true 9 A.f__law_is_heap A.d__law_is_heap ["_law_hands", "_law_old_words", "_law_young_words"] sp__law_is_heap := by
  refine T.fn__law_is_heap.okE sc__law_is_heap (fun vs H Q E h => ?_) (fun cdv A' outer s H vs Q E hr hx h => ?_)
  · obtain ⟨v, u, x, rfl, kv, ku, kx, q⟩ := h
    rfl
  · obtain ⟨v, u, x, rfl, kv, ku, kx, q⟩ := h
    refine ⟨_, JSs.run (j_pss_cons (j_ps_try rfl rfl (fun E1 W1 pins1 hx1 => (j_pss_one (j_ps_set (i := 3) sc__law_is_heap.nd rfl (by first | exact Or.inl rfl | exact Or.inr rfl) (j_pe_makeF T.mk_Heap ((ok_Heap_init T).mono (by decide)) hr rfl T.g_Heap T.b_Heap_init hx1 (j_pa_c (j_cv 0) (j_pa_c (j_cv 1) (j_pa_c (j_cv 2) j_pa_nil))))))) (j_ph_as rfl rfl T.g_KeepError sc__law_is_heap.nd (i := 4) rfl rfl (fun a => (j_pss_one (j_ps_ret (j_pe_callF ((ok__law_alone T).mono (by decide)) hr.hnd rfl T.g__law_alone T.fn__law_alone.kp T.b__law_alone exc_hnd (j_pa_c (j_cv 4) j_pa_nil))))) j_ph_nil))
      (j_pss_one (j_ps_ret (j_pe_ifExp (j_pt_cmpR (j_c_eqA (hu8 hr)) (j_c_meth (j_cv 3) T.cl_Heap T.m_Heap_held ((ok_Heap_held T).mono (by decide)) hr T.b_Heap_held hx (j_pa_c j_pe_int j_pa_nil)) (j_pe_un j_c_neg j_pe_int) (nomark _)) j_pe_str j_pe_str)))), ?_⟩
    simp only [tRet, tSeq, tTest, tOp, tUn, tIf, tCons, tNil, tC, cVar, tAsg, gName, tTry, eqv, cNeg, cxOf_K, and_assoc, Int.reduceNeg, Int.reduceAdd, Int.reduceSub, upd_same, cEqA, cEqL, cMethE, tMakeE, L2.start, List.map_cons, List.map_nil, List.length_cons, List.length_nil, List.replicate, List.cons_append, List.nil_append, List.getElem?_cons_zero, List.getElem?_cons_succ, List.set_cons_zero, List.set_cons_succ, V.int.injEq, V.bl.injEq, V.str.injEq, V.ref.injEq, V.ty.injEq, List.cons.injEq, Option.some.injEq, and_true, true_and, exists_eq_left', exists_and_left, Nat.reduceSub, Nat.reduceAdd, sp_Heap_init]
    intro p dx hp hdx ne
    have s0 : Same H (upd (upd H dx (HO.own p)) p (HO.ins A.c_Heap dx [])) := fun b u eb => by rw [upd_ne (ne_of_none eb hp), upd_ne (ne_of_none eb hdx)]; exact eb
    refine ⟨dx, rfl, kv.same s0, ku.same s0, kx.same s0, ?_⟩
    by_cases c : wi v 1 6 = true ∧ wi u 4 2000 = true ∧ wi x 2 500 = true
    · rw [if_pos c] at q ⊢
      intro X H' hX he f' fr
      have s' : Same H H' := fun b u eb => f' b u (s0 b u eb) (ne_of_none eb hp)
      obtain ⟨i, rfl, i1, i6⟩ := wi_int c.1
      rw [← hX]
      obtain ⟨d0, e0⟩ := he.ob
      simp only [and_assoc, Int.reduceNeg, V.int.injEq, V.bl.injEq, V.str.injEq, V.ref.injEq, V.ty.injEq, List.cons.injEq, Option.some.injEq, and_true, true_and, exists_eq_left', exists_and_left, decide_eq_true_eq, e0, gfl_held, sp_Heap_held]
      refine ⟨X, rfl, _, he, True.intro, ?_⟩
      have el : (HS.new (iv (V.int i)) (iv u) (iv x)).hw.length = i.toNat := List.length_replicate
      have ew : (HS.new (iv (V.int i)) (iv u) (iv x)).w (iv (V.int 0)) = -1 := by
        show (List.replicate i.toNat (-1 : Int)).getD 0 0 = -1
        rw [List.getD_eq_getElem?_getD, List.getElem?_replicate, if_pos (by omega)]; rfl
      rw [el, ew, if_pos (by simp only [wi, Bool.and_eq_true, decide_eq_true_eq]; omega), if_pos rfl]
      exact q _ s'
    · rw [if_neg c] at q ⊢
      intro H' f'
      have s' : Same H H' := fun b u eb => f' b u (s0 b u eb) (ne_of_none eb hp)
      simp only [tRet, tCons, tNil, cVar, tCallE, upd_same, List.getElem?_cons_zero, List.getElem?_cons_succ, List.set_cons_zero, List.set_cons_succ, V.int.injEq, V.bl.injEq, V.str.injEq, V.ref.injEq, V.ty.injEq, List.cons.injEq, Option.some.injEq, and_true, true_and, exists_eq_left', hAs, T.em_BadCount_KeepError, sp__law_alone]
      intro a ha
      exact .inl fun H2 s1 => exc_end ha s1 fun H3 s3 => q _ (s'.trans s3)
def sp_Areas_lay_young (A : Ad) : Sp := fun vs H Q E => ∃ p m q o y s ws so sy ss v, vs = [.ref p, v] ∧ ArAt A.c_Areas A.c_Memory A.c_Space H p m q o y s ws so sy ss ∧ WordsOk ws ∧ ws.length ≤ 4000 ∧ 0 ≤ sy.t ∧ sy.e ≤ ws.length ∧ Kn H v ∧
  if wi v 0 8 = true then (if iv v + 1 ≤ sy.e - sy.t then
      (∀ H', ArAt A.c_Areas A.c_Memory A.c_Space H' p m q o y s (laidA ws sy.t.toNat (iv v).toNat 0) so ⟨sy.b, sy.e, sy.t + (iv v + 1)⟩ ss → (∀ b u, H b = some u → b ≠ q → b ≠ y → H' b = some u) → Q (.int sy.t) H')
    else E (.ref A.c_NoRoom) none H) else E (.ref A.c_BadCount) none H
theorem sc_Areas_lay_young : FnScope ["self", "slots"] ["self", "slots"] (defScope s_Areas_lay_young) := ⟨rfl, rfl, rfl, by decide +kernel, rfl, by decide +kernel, by decide +kernel⟩
theorem ok_Areas_lay_young (T : Txt K mg A) : FnOk P w K mg base (CXE P w) true 10 A.f_Areas_lay_young A.d_Areas_lay_young ["self", "slots"] (sp_Areas_lay_young A) := by
  refine T.fn_Areas_lay_young.okE sc_Areas_lay_young (fun vs H Q E h => ?_) (fun cdv A' outer s H vs Q E hr hx h => ?_)
  · obtain ⟨p, m, q, o, y, s', ws, so, sy, ss, v, rfl, a, wo', hl, t0, el, hk, h⟩ := h
    rfl
  · obtain ⟨p, m, q, o, y, s', ws, so, sy, ss, v, rfl, a, wo', hl, t0, el, hk, h⟩ := h
    refine ⟨_, JSs.run (j_pss_one (j_ps_ret (j_c_meth (j_cv 0) T.cl_Areas T.m_Areas_lay_into ((ok_Areas_lay_into T).mono (by decide)) hr T.b_Areas_lay_into hx (j_pa_c (j_c_fld (j_cv 0) rfl) (j_pa_c (j_cv 1) (j_pa_c j_pe_int j_pa_nil)))))), ?_⟩
    obtain ⟨dx, hp⟩ := a.ob
    obtain ⟨dy, hy⟩ := a.yng
    simp only [tRet, tCons, tNil, tC, cVar, cxOf_K, and_assoc, Int.reduceLE, Int.reduceAdd, cFld, cMethE, L2.start, List.map_cons, List.map_nil, List.length_cons, List.length_nil, List.replicate, List.append_nil, List.getElem?_cons_zero, List.getElem?_cons_succ, V.int.injEq, V.bl.injEq, V.str.injEq, V.ref.injEq, V.ty.injEq, List.cons.injEq, Option.some.injEq, and_true, true_and, exists_eq_left', exists_and_left, Nat.reduceAdd, Nat.sub_self, hp, T.cl_Areas, T.na_Areas_young, afl_y, afl_li, sp_Areas_lay_into]
    refine ⟨dx, m, q, o, y, s', rfl, ws, a.mem, wo', hl, dy, sy, hy, a.pd.2.2.1, a.md.2.1, t0, el, hk, ?_⟩
    cases hv : wi v 0 8 with
    | false => simp only [hv, Bool.false_eq_true, if_false] at h ⊢; exact h
    | true =>
      simp only [hv, if_true] at h ⊢
      by_cases z : iv v + 1 ≤ sy.e - sy.t
      · rw [if_pos z] at h ⊢
        exact fun H' m' e' f' => h H' (a.yng' m' ⟨dy, e'⟩ f') f'
      · rw [if_neg z] at h ⊢; exact h
def sp_Areas_lay_old (A : Ad) : Sp := fun vs H Q E => ∃ p m q o y s ws so sy ss v, vs = [.ref p, v] ∧ ArAt A.c_Areas A.c_Memory A.c_Space H p m q o y s ws so sy ss ∧ WordsOk ws ∧ ws.length ≤ 4000 ∧ 0 ≤ so.t ∧ so.e ≤ ws.length ∧ Kn H v ∧
  if wi v 0 8 = true then (if iv v + 1 ≤ so.e - so.t then
      (∀ H', ArAt A.c_Areas A.c_Memory A.c_Space H' p m q o y s (laidA ws so.t.toNat (iv v).toNat 2) ⟨so.b, so.e, so.t + (iv v + 1)⟩ sy ss → (∀ b u, H b = some u → b ≠ q → b ≠ o → H' b = some u) → Q (.int so.t) H')
    else E (.ref A.c_NoRoom) none H) else E (.ref A.c_BadCount) none H
theorem sc_Areas_lay_old : FnScope ["self", "slots"] ["self", "slots"] (defScope s_Areas_lay_old) := ⟨rfl, rfl, rfl, by decide +kernel, rfl, by decide +kernel, by decide +kernel⟩
theorem ok_Areas_lay_old (T : Txt K mg A) : FnOk P w K mg base (CXE P w) true 10 A.f_Areas_lay_old A.d_Areas_lay_old ["self", "slots"] (sp_Areas_lay_old A) := by
  refine T.fn_Areas_lay_old.okE sc_Areas_lay_old (fun vs H Q E h => ?_) (fun cdv A' outer s H vs Q E hr hx h => ?_)
  · obtain ⟨p, m, q, o, y, s', ws, so, sy, ss, v, rfl, a, wo', hl, t0, el, hk, h⟩ := h
    rfl
  · obtain ⟨p, m, q, o, y, s', ws, so, sy, ss, v, rfl, a, wo', hl, t0, el, hk, h⟩ := h
    refine ⟨_, JSs.run (j_pss_one (j_ps_ret (j_c_meth (j_cv 0) T.cl_Areas T.m_Areas_lay_into ((ok_Areas_lay_into T).mono (by decide)) hr T.b_Areas_lay_into hx (j_pa_c (j_c_fld (j_cv 0) rfl) (j_pa_c (j_cv 1) (j_pa_c (j_pe_gv T.v_MOST_AGE) j_pa_nil)))))), ?_⟩
    obtain ⟨dx, hp⟩ := a.ob
    obtain ⟨dy, hy⟩ := a.old
    simp only [tRet, tCons, tNil, tC, cVar, cxOf_K, and_assoc, Int.reduceLE, Int.reduceAdd, cFld, cMethE, L2.start, List.map_cons, List.map_nil, List.length_cons, List.length_nil, List.replicate, List.append_nil, List.getElem?_cons_zero, List.getElem?_cons_succ, V.int.injEq, V.bl.injEq, V.str.injEq, V.ref.injEq, V.ty.injEq, List.cons.injEq, Option.some.injEq, and_true, true_and, exists_eq_left', exists_and_left, Nat.reduceAdd, Nat.sub_self, hp, T.cl_Areas, T.na_Areas_old, afl_o, afl_li, sp_Areas_lay_into]
    refine ⟨dx, m, q, o, y, s', rfl, ws, a.mem, wo', hl, dy, so, hy, a.pd.2.1, a.md.1, t0, el, hk, ?_⟩
    cases hv : wi v 0 8 with
    | false => simp only [hv, Bool.false_eq_true, if_false] at h ⊢; exact h
    | true =>
      simp only [hv, if_true] at h ⊢
      by_cases z : iv v + 1 ≤ so.e - so.t
      · rw [if_pos z] at h ⊢
        exact fun H' m' e' f' => h H' (a.old' m' ⟨dy, e'⟩ f') f'
      · rw [if_neg z] at h ⊢; exact h
def sp_Heap_get (A : Ad) : Sp := fun vs H Q E => ∃ X S v u, vs = [.ref X.p, v, u] ∧ HeAt A.c_Heap A.c_Roots A.c_Hands A.c_Book A.c_Areas A.c_Memory A.c_Space H X S ∧ Kn H v ∧ Kn H u ∧ S.Ok ∧
  if wi v 0 (S.hw.length - 1) = true then (if isPl (S.w (iv v)) = true then (∀ n, cellN S.ws (S.w (iv v) / 2).toNat = some n → if wi u 0 (n / 4 - 1) = true then Q (.int (S.ws.getD (S.w (iv v) / 2 + 1 + iv u).toNat 0)) H else E (.ref A.c_NoSlot) none H) else E (.ref A.c_NothingHeld) none H) else E (.ref A.c_NoHand) none H
theorem sc_Heap_get : FnScope ["self", "hand", "slot"] ["self", "hand", "slot"] (defScope s_Heap_get) := ⟨rfl, rfl, rfl, by decide +kernel, rfl, by decide +kernel, by decide +kernel⟩
theorem ok_Heap_get (T : Txt K mg A) : FnOk P w K mg base (CXE P w) true 10 A.f_Heap_get A.d_Heap_get ["self", "hand", "slot"] (sp_Heap_get A) := by
  refine T.fn_Heap_get.okE sc_Heap_get (fun vs H Q E h => ?_) (fun cdv A' outer s H vs Q E hr hx h => ?_)
  · obtain ⟨X, S, v, u, rfl, g, hk, hu', ok, q⟩ := h
    rfl
  · obtain ⟨X, S, v, u, rfl, g, hk, hu', ok, q⟩ := h
    refine ⟨_, JSs.run (j_pss_one (j_ps_ret (j_c_meth (j_c_fld (j_c_fld (j_cv 0) rfl) rfl) T.cl_Memory T.m_Memory_read ((ok_Memory_read T).mono (by decide)) hr T.b_Memory_read hx (j_pa_c (j_c_meth (j_cv 0) T.cl_Heap T.m_Heap_place_of ((ok_Heap_place_of T).mono (by decide)) hr T.b_Heap_place_of hx (j_pa_c (j_cv 1) (j_pa_c (j_cv 2) j_pa_nil))) j_pa_nil)))), ?_⟩
    obtain ⟨d0, e0⟩ := g.ob
    obtain ⟨d1, e1⟩ := g.ar.ob
    obtain ⟨d2, e2⟩ := g.ar.mem.ob
    simp only [tRet, tCons, tNil, cVar, cxOf_K, and_assoc, Int.reduceAdd, cFld, cMethE, L2.start, List.map_cons, List.map_nil, List.length_cons, List.length_nil, List.replicate, List.append_nil, List.getElem?_cons_zero, List.getElem?_cons_succ, V.int.injEq, V.bl.injEq, V.str.injEq, V.ref.injEq, V.ty.injEq, List.cons.injEq, Option.some.injEq, and_true, true_and, exists_eq_left', exists_and_left, Nat.reduceAdd, Nat.sub_self, e0, T.cl_Heap, T.na_Heap_areas, gfl_a, e1, T.cl_Areas, T.na_Areas_memory, afl_m, gfl_place_of, sp_Heap_place_of, e2, mfl_rd, sp_Memory_read]
    refine ⟨X, rfl, S, g, hk, hu', ok, ?_⟩
    cases hw : wi v 0 (S.hw.length - 1) <;> rw [hw] at q
    · exact q
    · rw [if_pos rfl] at q ⊢
      obtain ⟨i, rfl, i0, i1⟩ := wi_int hw
      have hm := hw_mem i0 i1
      cases c : isPl (S.w (iv (V.int i))) <;> rw [c] at q
      · exact q
      · rw [if_pos rfl] at q ⊢
        have hc := ok.2.2.2.2 _ hm c
        intro n hn
        have := q n hn
        cases hw2 : wi u 0 (n / 4 - 1) <;> rw [hw2] at this
        · exact this
        · rw [if_pos rfl] at this ⊢
          obtain ⟨j, rfl, j0, j1⟩ := wi_int hw2
          obtain ⟨c1, c2, c3, c4, c5⟩ := cellN_is hn
          have cp : S.w i % 2 = 1 ∧ 0 < S.w i := of_decide_eq_true c
          refine ⟨X.q, S.ws, g.ar.mem, True.intro, ?_⟩
          have hiv : iv (V.int i) = i := rfl
          have hjv : iv (V.int j) = j := rfl
          rw [hiv] at c5 this ⊢
          rw [hjv] at this ⊢
          rw [if_pos (by simp only [wi, Bool.and_eq_true, decide_eq_true_eq]; omega)]
          exact this
def sp_Heap_put (A : Ad) : Sp := fun vs H Q E => ∃ X S v u x, vs = [.ref X.p, v, u, x] ∧ HeAt A.c_Heap A.c_Roots A.c_Hands A.c_Book A.c_Areas A.c_Memory A.c_Space H X S ∧ Kn H v ∧ Kn H u ∧ Kn H x ∧ S.Ok ∧
  if wi v 0 (S.hw.length - 1) = true then (if isPl (S.w (iv v)) = true then (∀ n, cellN S.ws (S.w (iv v) / 2).toNat = some n → if wi u 0 (n / 4 - 1) = true then (match kd x with
      | some _ => ∀ H', HeAt A.c_Heap A.c_Roots A.c_Hands A.c_Book A.c_Areas A.c_Memory A.c_Space H' X (S.put (S.w (iv v) / 2 + 1 + iv u) (iv x)) → (∀ b o, H b = some o → b ≠ X.q → b ≠ X.d → H' b = some o) → Q .non H'
      | none => E (.ref A.c_BadWord) none H)
    else E (.ref A.c_NoSlot) none H) else E (.ref A.c_NothingHeld) none H) else E (.ref A.c_NoHand) none H
theorem sc_Heap_put : FnScope ["self", "hand", "slot", "word", "place"] ["self", "hand", "slot", "word"] (defScope s_Heap_put) := ⟨rfl, rfl, rfl, by decide +kernel, rfl, by decide +kernel, by decide +kernel⟩
theorem ok_Heap_put (T : Txt K mg A) : FnOk P w K mg base (CXE P w) true 10 A.f_Heap_put A.d_Heap_put ["self", "hand", "slot", "word"] (sp_Heap_put A) := by
  refine T.fn_Heap_put.okE sc_Heap_put (fun vs H Q E h => ?_) (fun cdv A' outer s H vs Q E hr hx h => ?_)
  · obtain ⟨X, S, v, u, x, rfl, g, hk, hu', hx', ok, q⟩ := h
    rfl
  · obtain ⟨X, S, v, u, x, rfl, g, hk, hu', hx', ok, q⟩ := h
    refine ⟨_, JSs.run (j_pss_cons (j_ps_set (i := 4) sc_Heap_put.nd rfl (by first | exact Or.inl rfl | exact Or.inr rfl) (j_c_meth (j_cv 0) T.cl_Heap T.m_Heap_place_of ((ok_Heap_place_of T).mono (by decide)) hr T.b_Heap_place_of hx (j_pa_c (j_cv 1) (j_pa_c (j_cv 2) j_pa_nil))))
      (j_pss_cons (j_ps_expr (j_c_meth (j_c_fld (j_c_fld (j_cv 0) rfl) rfl) T.cl_Memory T.m_Memory_write ((ok_Memory_write T).mono (by decide)) hr T.b_Memory_write hx (j_pa_c (j_cv 4) (j_pa_c (j_cv 3) j_pa_nil))))
      (j_pss_one (j_ps_expr (j_c_meth (j_cv 0) T.cl_Heap T.m_Heap_note ((ok_Heap_note T).mono (by decide)) hr T.b_Heap_note hx (j_pa_c (j_cv 4) (j_pa_c (j_cv 3) j_pa_nil))))))), ?_⟩
    obtain ⟨d0, e0⟩ := g.ob
    obtain ⟨d1, e1⟩ := g.ar.ob
    obtain ⟨d2, e2⟩ := g.ar.mem.ob
    simp only [tDrop, tSeq, tCons, tNil, cVar, tAsg, gName, cxOf_K, and_assoc, Int.reduceAdd, Int.reduceSub, cFld, cMethE, L2.start, List.map_cons, List.map_nil, List.length_cons, List.length_nil, List.replicate, List.cons_append, List.nil_append, List.getElem?_cons_zero, List.getElem?_cons_succ, List.set_cons_zero, List.set_cons_succ, V.int.injEq, V.bl.injEq, V.str.injEq, V.ref.injEq, V.ty.injEq, List.cons.injEq, Option.some.injEq, and_true, true_and, exists_eq_left', exists_and_left, Nat.reduceSub, Nat.reduceAdd, e0, T.cl_Heap, T.na_Heap_areas, gfl_a, e1, T.cl_Areas, T.na_Areas_memory, afl_m, gfl_place_of, sp_Heap_place_of, e2, mfl_wr, sp_Memory_write]
    refine ⟨X, rfl, S, g, hk, hu', ok, ?_⟩
    cases hw : wi v 0 (S.hw.length - 1) <;> rw [hw] at q
    · exact q
    · rw [if_pos rfl] at q ⊢
      obtain ⟨i, rfl, i0, i1⟩ := wi_int hw
      have hm := hw_mem i0 i1
      cases c : isPl (S.w (iv (V.int i))) <;> rw [c] at q
      · exact q
      · rw [if_pos rfl] at q ⊢
        have hc := ok.2.2.2.2 _ hm c
        intro n hn
        have q2 := q n hn
        cases hw2 : wi u 0 (n / 4 - 1) <;> rw [hw2] at q2
        · exact q2
        · rw [if_pos rfl] at q2 ⊢
          obtain ⟨j, rfl, j0, j1⟩ := wi_int hw2
          obtain ⟨c1, c2, c3, c4, c5⟩ := cellN_is hn
          have cp : S.w i % 2 = 1 ∧ 0 < S.w i := of_decide_eq_true c
          refine ⟨X.q, S.ws, g.ar.mem, True.intro, hx', ?_⟩
          have hiv : iv (V.int i) = i := rfl
          have hjv : iv (V.int j) = j := rfl
          rw [hiv] at c5 q2 ⊢
          rw [hjv] at q2 ⊢
          rw [if_pos (by simp only [wi, Bool.and_eq_true, decide_eq_true_eq]; omega)]
          cases hd : kd x with
          | none => rw [hd] at q2; exact q2
          | some z =>
            obtain ⟨y, rfl⟩ := kd_int hd
            rw [hd] at q2
            dsimp only at q2 ⊢
            have hl := ok.2.2.1
            have hpv : iv (V.int (S.w i / 2 + 1 + j)) = S.w i / 2 + 1 + j := rfl
            have hyv : iv (V.int y) = y := rfl
            rw [hyv] at q2 ⊢
            rw [hpv]
            have fr : ∀ b o, H b = some o → b ≠ X.q → upd H X.q (HO.lst ((S.ws.set (S.w i / 2 + 1 + j).toNat y).map V.int)) b = some o := fun b o eb nb => by rw [upd_ne nb]; exact eb
            have ar1 := g.ar.mem' (g.ar.mem.put (S.w i / 2 + 1 + j).toNat y) fr
            have g1 := g.areas ar1 fun b o eb nb _ _ => fr b o eb nb
            rw [fr _ _ e0 (ins_ne e0 g.ar.mem.ls)]
            dsimp only
            refine ⟨rfl, gfl_note, ?_⟩
            unfold sp_Heap_note
            exact ⟨X, _, _, y, rfl, g1, by omega, by omega, by rw [hd]; rfl, ok.2.2.2.1, fun H' g2 f2 => q2 H' g2 fun b o eb n1 n2 => f2 _ _ (fr _ _ eb n1) n2⟩
def sp_Heap_make (A : Ad) : Sp := fun vs H Q E => ∃ X S v u, vs = [.ref X.p, v, u] ∧ HeAt A.c_Heap A.c_Roots A.c_Hands A.c_Book A.c_Areas A.c_Memory A.c_Space H X S ∧ Kn H v ∧ Kn H u ∧ S.Ok ∧ 0 ≤ S.so.t ∧ S.so.e ≤ S.ws.length ∧ 0 ≤ S.sy.t ∧ S.sy.e ≤ S.ws.length ∧
  if wi v 0 (S.hw.length - 1) = true then (if wi u 0 8 = true then (if S.fits (iv u) = true then
      (∀ H', HeAt A.c_Heap A.c_Roots A.c_Hands A.c_Book A.c_Areas A.c_Memory A.c_Space H' X (S.made (iv v) (iv u)) → (∀ b o, H b = some o → b ≠ X.q → b ≠ X.qh → b ≠ X.o → b ≠ X.y → H' b = some o) → Q (.int (S.at (iv u))) H')
    else E (.ref A.c_NoRoom) none H) else E (.ref A.c_BadCount) none H) else E (.ref A.c_NoHand) none H
theorem sc_Heap_make : FnScope ["self", "hand", "slots", "at"] ["self", "hand", "slots"] (defScope s_Heap_make) := ⟨rfl, rfl, rfl, by decide +kernel, rfl, by decide +kernel, by decide +kernel⟩
theorem ok_Heap_make (T : Txt K mg A) : FnOk P w K mg base (CXE P w) true 11 A.f_Heap_make A.d_Heap_make ["self", "hand", "slots"] (sp_Heap_make A) := by
  refine T.fn_Heap_make.okE sc_Heap_make (fun vs H Q E h => ?_) (fun cdv A' outer s H vs Q E hr hx h => ?_)
  · obtain ⟨X, S, v, u, rfl, g, hk, hu', ok, to0, toe, ty0, tye, q⟩ := h
    rfl
  · obtain ⟨X, S, v, u, rfl, g, hk, hu', ok, to0, toe, ty0, tye, q⟩ := h
    refine ⟨_, JSs.run (j_pss_cons (j_ps_expr (j_c_meth (j_cv 0) T.cl_Heap T.m_Heap_want_make ((ok_Heap_want_make T).mono (by decide)) hr T.b_Heap_want_make hx (j_pa_c (j_cv 1) (j_pa_c (j_cv 2) j_pa_nil))))
      (j_pss_cons (j_ps_if (j_pt_truth (j_c_meth (j_cv 0) T.cl_Heap T.m_Heap_is_for_young ((ok_Heap_is_for_young T).mono (by decide)) hr T.b_Heap_is_for_young hx (j_pa_c (j_cv 2) j_pa_nil)) (fun _ => rfl)) (j_pss_one (j_ps_set (i := 3) sc_Heap_make.nd rfl (by first | exact Or.inl rfl | exact Or.inr rfl) (j_c_meth (j_c_fld (j_cv 0) rfl) T.cl_Areas T.m_Areas_lay_young ((ok_Areas_lay_young T).mono (by decide)) hr T.b_Areas_lay_young hx (j_pa_c (j_cv 2) j_pa_nil)))) (j_pss_one (j_ps_set (i := 3) sc_Heap_make.nd rfl (by first | exact Or.inl rfl | exact Or.inr rfl) (j_c_meth (j_c_fld (j_cv 0) rfl) T.cl_Areas T.m_Areas_lay_old ((ok_Areas_lay_old T).mono (by decide)) hr T.b_Areas_lay_old hx (j_pa_c (j_cv 2) j_pa_nil)))))
      (j_pss_cons (j_ps_expr (j_c_meth (j_cv 0) T.cl_Heap T.m_Heap_hold ((ok_Heap_hold T).mono (by decide)) hr T.b_Heap_hold hx (j_pa_c (j_cv 1) (j_pa_c (j_pe_callF ((ok_place_word T).mono (by decide)) hr rfl T.g_place_word T.fn_place_word.kp T.b_place_word hx (j_pa_c (j_cv 3) j_pa_nil)) j_pa_nil))))
      (j_pss_one (j_ps_ret (j_cv 3)))))), ?_⟩
    obtain ⟨d0, e0⟩ := g.ob
    cases hw : wi v 0 (S.hw.length - 1) with
    | false =>
      simp only [tRet, tDrop, tSeq, tIfS, tCons, tNil, cVar, tAsg, gName, tCallE, cxOf_K, TruV, and_assoc, Int.reduceAdd, Int.reduceSub, cFld, cMethE, L2.start, List.map_cons, List.map_nil, List.length_cons, List.length_nil, List.replicate, List.cons_append, List.nil_append, List.getElem?_cons_zero, List.getElem?_cons_succ, List.set_cons_zero, List.set_cons_succ, V.int.injEq, V.bl.injEq, V.str.injEq, V.ref.injEq, V.ty.injEq, List.cons.injEq, Option.some.injEq, and_true, true_and, exists_eq_left', exists_and_left, Nat.reduceSub, Nat.reduceAdd, e0, gfl_want_make, sp_Heap_want_make]
      rw [hw] at q
      exact ⟨X, rfl, S, g, hk, hu', by rw [hw]; exact q⟩
    | true =>
      rw [if_pos hw] at q
      cases hw2 : wi u 0 8 with
      | false =>
        simp only [tRet, tDrop, tSeq, tIfS, tCons, tNil, cVar, tAsg, gName, tCallE, cxOf_K, TruV, and_assoc, Int.reduceAdd, Int.reduceSub, cFld, cMethE, L2.start, List.map_cons, List.map_nil, List.length_cons, List.length_nil, List.replicate, List.cons_append, List.nil_append, List.getElem?_cons_zero, List.getElem?_cons_succ, List.set_cons_zero, List.set_cons_succ, V.int.injEq, V.bl.injEq, V.str.injEq, V.ref.injEq, V.ty.injEq, List.cons.injEq, Option.some.injEq, and_true, true_and, exists_eq_left', exists_and_left, Nat.reduceSub, Nat.reduceAdd, e0, gfl_want_make, sp_Heap_want_make]
        rw [hw2] at q
        exact ⟨X, rfl, S, g, hk, hu', by rw [if_pos hw, hw2]; exact q⟩
      | true =>
        rw [if_pos hw2] at q
        obtain ⟨i, rfl, i0, i1⟩ := wi_int hw
        obtain ⟨n, rfl, n0, n8⟩ := wi_int hw2
        obtain ⟨d1, e1⟩ := g.ar.ob
        have hiv : iv (V.int i) = i := rfl
        have hnv : iv (V.int n) = n := rfl
        simp only [hiv, hnv] at q
        unfold HS.fits HS.made HS.at at q
        show tSeq _ _ _ [some (V.ref X.p), some (V.int i), some (V.int n), none] H
        refine seq_mid (fun σ' H' => σ' = [some (V.ref X.p), some (V.int i), some (V.int n), none] ∧ H = H') (fun R hR => ?_) ?_
        · simp only [tDrop, tCons, tNil, cVar, and_assoc, cMethE, List.getElem?_cons_zero, List.getElem?_cons_succ, V.int.injEq, V.bl.injEq, V.str.injEq, V.ref.injEq, V.ty.injEq, List.cons.injEq, Option.some.injEq, and_true, true_and, exists_eq_left', exists_and_left, e0, gfl_want_make, sp_Heap_want_make]
          exact ⟨X, rfl, S, g, hk, hu', by rw [if_pos hw, if_pos hw2]; exact hR _ _ ⟨rfl, rfl⟩⟩
        rintro _ _ ⟨rfl, rfl⟩
        cases hY : S.forY n with
        | true =>
          rw [hY] at q
          simp only [if_true, Bool.false_eq_true, if_false] at q
          refine seq_mid (fun σ' H' => n + 1 ≤ S.sy.e - S.sy.t ∧ HeAt A.c_Heap A.c_Roots A.c_Hands A.c_Book A.c_Areas A.c_Memory A.c_Space H' X { S with ws := laidA S.ws S.sy.t.toNat n.toNat 0, sy := ⟨S.sy.b, S.sy.e, S.sy.t + (n + 1)⟩ } ∧ (∀ b o, H b = some o → b ≠ X.q → b ≠ X.y → H' b = some o) ∧ σ' = [some (V.ref X.p), some (V.int i), some (V.int n), some (V.int S.sy.t)]) (fun R hR => ?_) ?_
          · simp only [tIfS, tCons, tNil, cVar, tAsg, gName, cxOf_K, TruV, and_assoc, cFld, cMethE, List.getElem?_cons_zero, List.getElem?_cons_succ, List.set_cons_zero, List.set_cons_succ, V.int.injEq, V.bl.injEq, V.str.injEq, V.ref.injEq, V.ty.injEq, List.cons.injEq, Option.some.injEq, and_true, true_and, exists_eq_left', exists_and_left, exists_eq_left, e0, T.cl_Heap, T.na_Heap_areas, gfl_is_for_young, gfl_a, e1, sp_Heap_is_for_young, sp_Areas_lay_young, sp_Areas_lay_old, afl_ly, afl_lo]
            refine ⟨X, rfl, S, g, ?_⟩
            rw [hY]
            simp only [if_true, Bool.false_eq_true, if_false]
            refine ⟨X.m, X.q, X.o, X.y, X.s, S.ws, S.so, S.sy, S.ss, g.ar, ok.2.1, ok.2.2.1, ty0, tye, True.intro, ?_⟩
            rw [if_pos hw2]
            simp only [hnv]
            by_cases c : n + 1 ≤ S.sy.e - S.sy.t
            · rw [if_pos c]
              exact fun H' a' f' => hR _ _ ⟨c, g.areas a' (fun b o eb n1 n2 n3 => f' b o eb n1 n3), f', rfl⟩
            · rw [if_neg c]
              rw [if_neg (by simpa using c)] at q
              exact q
          rintro _ H1 ⟨c, g1, f1, rfl⟩
          rw [if_pos (decide_eq_true c)] at q
          obtain ⟨d3, e3⟩ := g1.ob
          simp only [tRet, tDrop, tSeq, tCons, tNil, cVar, tCallE, and_assoc, cMethE, List.getElem?_cons_zero, List.getElem?_cons_succ, V.int.injEq, V.bl.injEq, V.str.injEq, V.ref.injEq, V.ty.injEq, List.cons.injEq, Option.some.injEq, and_true, true_and, exists_eq_left', exists_and_left, e3, gfl_hold, sp_Heap_hold, sp_place_word]
          have hl := ok.2.2.1
          refine ⟨True.intro, ?_⟩
          rw [if_pos (by simp only [wi, Bool.and_eq_true, decide_eq_true_eq]; omega)]
          refine ⟨X, rfl, _, g1, True.intro, True.intro, ?_⟩
          rw [if_pos hw, kd_is, if_neg (by show ¬ (2 * S.sy.t + 1 = -1); omega), if_neg (by show ¬ ((2 * S.sy.t + 1) % 2 = 0 ∧ _); omega), if_pos (by show (2 * S.sy.t + 1) % 2 = 1 ∧ 1 ≤ 2 * S.sy.t + 1 ∧ 2 * S.sy.t + 1 ≤ 19999; omega)]
          exact fun H2 g2 f2 => q H2 g2 fun b o eb n1 n2 n3 n4 => f2 _ _ (f1 _ _ eb n1 n4) n2
        | false =>
          rw [hY] at q
          simp only [if_true, Bool.false_eq_true, if_false] at q
          refine seq_mid (fun σ' H' => n + 1 ≤ S.so.e - S.so.t ∧ HeAt A.c_Heap A.c_Roots A.c_Hands A.c_Book A.c_Areas A.c_Memory A.c_Space H' X { S with ws := laidA S.ws S.so.t.toNat n.toNat 2, so := ⟨S.so.b, S.so.e, S.so.t + (n + 1)⟩ } ∧ (∀ b o, H b = some o → b ≠ X.q → b ≠ X.o → H' b = some o) ∧ σ' = [some (V.ref X.p), some (V.int i), some (V.int n), some (V.int S.so.t)]) (fun R hR => ?_) ?_
          · simp only [tIfS, tCons, tNil, cVar, tAsg, gName, cxOf_K, TruV, and_assoc, cFld, cMethE, List.getElem?_cons_zero, List.getElem?_cons_succ, List.set_cons_zero, List.set_cons_succ, V.int.injEq, V.bl.injEq, V.str.injEq, V.ref.injEq, V.ty.injEq, List.cons.injEq, Option.some.injEq, and_true, true_and, exists_eq_left', exists_and_left, exists_eq_left, e0, T.cl_Heap, T.na_Heap_areas, gfl_is_for_young, gfl_a, e1, sp_Heap_is_for_young, sp_Areas_lay_young, sp_Areas_lay_old, afl_ly, afl_lo]
            refine ⟨X, rfl, S, g, ?_⟩
            rw [hY]
            simp only [if_true, Bool.false_eq_true, if_false]
            refine ⟨X.m, X.q, X.o, X.y, X.s, S.ws, S.so, S.sy, S.ss, g.ar, ok.2.1, ok.2.2.1, to0, toe, True.intro, ?_⟩
            rw [if_pos hw2]
            simp only [hnv]
            by_cases c : n + 1 ≤ S.so.e - S.so.t
            · rw [if_pos c]
              exact fun H' a' f' => hR _ _ ⟨c, g.areas a' (fun b o eb n1 n2 n3 => f' b o eb n1 n2), f', rfl⟩
            · rw [if_neg c]
              rw [if_neg (by simpa using c)] at q
              exact q
          rintro _ H1 ⟨c, g1, f1, rfl⟩
          rw [if_pos (decide_eq_true c)] at q
          obtain ⟨d3, e3⟩ := g1.ob
          simp only [tRet, tDrop, tSeq, tCons, tNil, cVar, tCallE, and_assoc, cMethE, List.getElem?_cons_zero, List.getElem?_cons_succ, V.int.injEq, V.bl.injEq, V.str.injEq, V.ref.injEq, V.ty.injEq, List.cons.injEq, Option.some.injEq, and_true, true_and, exists_eq_left', exists_and_left, e3, gfl_hold, sp_Heap_hold, sp_place_word]
          have hl := ok.2.2.1
          refine ⟨True.intro, ?_⟩
          rw [if_pos (by simp only [wi, Bool.and_eq_true, decide_eq_true_eq]; omega)]
          refine ⟨X, rfl, _, g1, True.intro, True.intro, ?_⟩
          rw [if_pos hw, kd_is, if_neg (by show ¬ (2 * S.so.t + 1 = -1); omega), if_neg (by show ¬ ((2 * S.so.t + 1) % 2 = 0 ∧ _); omega), if_pos (by show (2 * S.so.t + 1) % 2 = 1 ∧ 1 ≤ 2 * S.so.t + 1 ∧ 2 * S.so.t + 1 ≤ 19999; omega)]
          exact fun H2 g2 f2 => q H2 g2 fun b o eb n1 n2 n3 n4 => f2 _ _ (f1 _ _ eb n1 n3) n2
/-- three hands, of which one holds the cell at 40 -/
structure H3 (S : HS) : Prop where
  ok : S.Ok
  hw : S.hw = [81, 14, -1]
  cl : cellN S.ws 40 = some 8
  so : S.so = ⟨0, 40, 0⟩
  sy : S.sy = ⟨40, 70, 43⟩
  wl : S.ws.length = 100
  kl : S.ks.length < 64
def StAt (H : Hp) (S : HS) (l : Addr) : Prop := ∃ l1 l2 l3, H l = some (.lst [.ref l1, .ref l2, .ref l3]) ∧ H l1 = some (.lst (S.hw.map V.int)) ∧ H l2 = some (.lst ([S.ws.getD 41 0, S.ws.getD 42 0].map V.int)) ∧ H l3 = some (.lst ((isort S.ks).map V.int))
def sp__law_state (A : Ad) : Sp := fun vs H Q _ => ∃ X S, vs = [.ref X.p] ∧ HeAt A.c_Heap A.c_Roots A.c_Hands A.c_Book A.c_Areas A.c_Memory A.c_Space H X S ∧ H3 S ∧ ∀ l H', Same H H' → StAt H' S l → Q (.ref l) H'
theorem sc__law_state : FnScope ["_law_heap"] ["_law_heap"] (defScope s__law_state) := ⟨rfl, rfl, rfl, by decide +kernel, rfl, by decide +kernel, by decide +kernel⟩
theorem ok__law_state (T : Txt K mg A) : FnOk P w K mg base (CXE P w) true 11 A.f__law_state A.d__law_state ["_law_heap"] (sp__law_state A) := by
  refine T.fn__law_state.okE sc__law_state (fun vs H Q E h => ?_) (fun cdv A' outer s H vs Q E hr hx h => ?_)
  · obtain ⟨X, S, rfl, g, s3, q⟩ := h
    rfl
  · obtain ⟨X, S, rfl, g, s3, q⟩ := h
    refine ⟨_, JSs.run (j_pss_one (j_ps_ret (j_pe_lst (j_pa_c (j_pe_comp (fsc := defScope s__law_state) (N2 := ["_law_heap"]) (js := [0]) ⟨rfl, rfl, by decide +kernel, by decide +kernel, by decide +kernel, by decide +kernel, by decide +kernel, by decide +kernel, by decide +kernel⟩ rfl rfl (by rfl) (j_pi_range1 rfl T.n_range (j_pa_c j_pe_int j_pa_nil)) (fun _ _ _ _ => j_pifs_nil) (fun _ _ _ _ => (j_c_meth (j_cv 1) T.cl_Heap T.m_Heap_held ((ok_Heap_held T).mono (by decide)) hr T.b_Heap_held exc_blk (j_pa_c (j_cv 0) j_pa_nil)))) (j_pa_c (j_pe_lst (j_pa_c (j_c_meth (j_cv 0) T.cl_Heap T.m_Heap_get ((ok_Heap_get T).mono (by decide)) hr T.b_Heap_get hx (j_pa_c j_pe_int (j_pa_c j_pe_int j_pa_nil))) (j_pa_c (j_c_meth (j_cv 0) T.cl_Heap T.m_Heap_get ((ok_Heap_get T).mono (by decide)) hr T.b_Heap_get hx (j_pa_c j_pe_int (j_pa_c j_pe_int j_pa_nil))) j_pa_nil))) (j_pa_c (j_c_meth0 (j_c_fld (j_c_fld (j_cv 0) rfl) rfl) T.cl_Book T.m_Book_places ((ok_Book_places T).mono (by decide)) hr T.b_Book_places hx) j_pa_nil)))))), ?_⟩
    obtain ⟨d0, e0⟩ := g.ob
    obtain ⟨d1, w1, l1, e1⟩ := g.rt.ob
    obtain ⟨d2, e2⟩ := g.rt.bk.ob
    simp only [tRet, tCons, tNil, tC, cVar, tLst, cxOf_K, Int.reduceLT, Nat.reduceLT, Int.reduceLE, Int.reduceNeg, Int.reducePow, Int.reduceToNat, Int.reduceAdd, tComp, capt, iRng1, cFld, cMethE, L2.start, List.map_cons, List.map_nil, List.length_cons, List.length_nil, List.replicate, List.append_nil, List.getElem?_cons_zero, V.int.injEq, V.bl.injEq, V.str.injEq, V.ref.injEq, V.ty.injEq, List.cons.injEq, Option.some.injEq, and_true, true_and, exists_eq_left', Nat.reduceAdd, Nat.sub_self, sz2, sz3]
    refine CompW.mapR (fun t => .int (S.hw.getD t 0)) (by decide) (fun j hj K' hK => ?_) fun l hl => ?_
    · simp only [tCons, tNil, cVar, and_assoc, cMethE, List.getElem?_cons_zero, List.getElem?_cons_succ, V.int.injEq, V.bl.injEq, V.str.injEq, V.ref.injEq, V.ty.injEq, List.cons.injEq, Option.some.injEq, and_true, true_and, exists_eq_left', exists_and_left, e0, gfl_held, sp_Heap_held, Option.join_some]
      refine ⟨X, rfl, S, g, True.intro, ?_⟩
      rw [if_pos (by rw [s3.hw]; simp only [wi, Bool.and_eq_true, decide_eq_true_eq, List.length_cons, List.length_nil]; omega), show iv (V.int (0 + (j : Int))) = (j : Int) by show 0 + (j : Int) = _; omega]
      exact hK
    · have e3 : (List.range 3).map (fun t => V.int (S.hw.getD t 0)) = S.hw.map V.int := by rw [s3.hw]; rfl
      rw [e3]
      have ga := g.same (Same.upd (o := .lst (S.hw.map V.int)) hl)
      have sa : Same H (upd H l (.lst (S.hw.map V.int))) := Same.upd hl
      have el : upd H l (.lst (S.hw.map V.int)) l = some (.lst (S.hw.map V.int)) := upd_same
      generalize upd H l (.lst (S.hw.map V.int)) = Ha at *
      obtain ⟨d0, e0⟩ := ga.ob
      obtain ⟨d1, w1, l1, e1⟩ := ga.rt.ob
      obtain ⟨d2, e2⟩ := ga.rt.bk.ob
      simp only [and_assoc, V.int.injEq, V.bl.injEq, V.str.injEq, V.ref.injEq, V.ty.injEq, List.cons.injEq, Option.some.injEq, and_true, true_and, exists_eq_left', exists_and_left, e0, gfl_get, sp_Heap_get]
      have h40 : S.w 0 = 81 := by unfold HS.w; rw [s3.hw]; rfl
      have hz : iv (V.int 0) = 0 := rfl
      have h1 : iv (V.int 1) = 1 := rfl
      have hl2 : (S.hw.length : Int) - 1 = 2 := by rw [s3.hw]; rfl
      refine ⟨X, rfl, S, ga, True.intro, True.intro, s3.ok, ?_⟩
      rw [hl2, if_pos (show wi (V.int 0) 0 2 = true by decide), hz, h40, if_pos (show isPl 81 = true by decide)]
      intro n hn
      have hn' : cellN S.ws 40 = some n := hn
      rw [s3.cl] at hn'
      cases hn'
      rw [if_pos (show wi (V.int 0) 0 (8 / 4 - 1) = true by decide)]
      refine ⟨X, rfl, S, ga, True.intro, True.intro, s3.ok, ?_⟩
      rw [hl2, if_pos (show wi (V.int 0) 0 2 = true by decide), h1, h40, if_pos (show isPl 81 = true by decide)]
      intro n hn
      have hn' : cellN S.ws 40 = some n := hn
      rw [s3.cl] at hn'
      cases hn'
      rw [if_pos (show wi (V.int 1) 0 (8 / 4 - 1) = true by decide)]
      rw [show ((81 : Int) / 2 + 1 + 0).toNat = 41 by decide, show ((81 : Int) / 2 + 1 + 1).toNat = 42 by decide]
      intro p hp
      have gb := ga.same (Same.upd (o := .lst [V.int (S.ws.getD 41 0), V.int (S.ws.getD 42 0)]) hp)
      have sb := Same.upd (o := .lst [V.int (S.ws.getD 41 0), V.int (S.ws.getD 42 0)]) hp
      have ep : upd Ha p (.lst [V.int (S.ws.getD 41 0), V.int (S.ws.getD 42 0)]) p = some (.lst [V.int (S.ws.getD 41 0), V.int (S.ws.getD 42 0)]) := upd_same
      generalize upd Ha p (.lst [V.int (S.ws.getD 41 0), V.int (S.ws.getD 42 0)]) = Hb at *
      obtain ⟨d0, e0⟩ := gb.ob
      obtain ⟨d1, w1, l1, e1⟩ := gb.rt.ob
      obtain ⟨d2, e2⟩ := gb.rt.bk.ob
      simp only [V.int.injEq, V.bl.injEq, V.str.injEq, V.ref.injEq, V.ty.injEq, List.cons.injEq, Option.some.injEq, and_true, true_and, exists_eq_left', exists_and_left, e0, T.cl_Heap, T.na_Heap_roots, gfl_r, e1, T.cl_Roots, T.na_Roots_book, rofl_b, e2, bfl_places, sp_Book_places]
      refine ⟨X.d, S.ks, gb.rt.bk, s3.kl, fun l3 hl3 l0 hl0 => ?_⟩
      have sc := Same.upd (o := .lst ((isort S.ks).map V.int)) hl3
      have sd := Same.upd (o := .lst [V.ref l, V.ref p, V.ref l3]) hl0
      exact q _ _ (sa.trans (sb.trans (sc.trans sd))) ⟨l, p, l3, upd_same, sd _ _ (sc _ _ (sb _ _ el)), sd _ _ (sc _ _ ep), sd _ _ upd_same⟩
def sp__law_call (A : Ad) : Sp := fun vs H Q _ => ∃ X S w v u x, vs = [.ref X.p, .int w, v, u, x] ∧ HeAt A.c_Heap A.c_Roots A.c_Hands A.c_Book A.c_Areas A.c_Memory A.c_Space H X S ∧ H3 S ∧ Kn H v ∧ Kn H u ∧ Kn H x ∧ 0 ≤ w ∧ w ≤ 6 ∧
  ∀ H', (due19 w v u (kd x).isSome = Str.ofString "" ∨ Same H H') → Q (.str (due19 w v u (kd x).isSome)) H'
theorem sc__law_call : FnScope ["_law_heap", "_law_way", "_law_hand", "_law_thing", "_law_word", "_law_e"] ["_law_heap", "_law_way", "_law_hand", "_law_thing", "_law_word"] (defScope s__law_call) := ⟨rfl, rfl, rfl, by decide +kernel, rfl, by decide +kernel, by decide +kernel⟩
theorem ok__law_call (T : Txt K mg A) : FnOk P w K mg base (CXE P w) true 12 A.f__law_call A.d__law_call ["_law_heap", "_law_way", "_law_hand", "_law_thing", "_law_word"] (sp__law_call A) := by
  refine T.fn__law_call.okE sc__law_call (fun vs H Q E h => ?_) (fun cdv A' outer s H vs Q E hr hx h => ?_)
  · obtain ⟨X, S, w, v, u, x, rfl, g, s3, kv, ku, kx, w0, w6, q⟩ := h
    rfl
  · obtain ⟨X, S, w, v, u, x, rfl, g, s3, kv, ku, kx, w0, w6, q⟩ := h
    refine ⟨_, JSs.run (j_pss_cons (j_ps_try rfl rfl (fun E1 W1 pins1 hx1 => (j_pss_one (j_ps_if (j_pt_cmpR j_c_eq (j_cv 1) j_pe_int (nomark _)) (j_pss_one (j_ps_expr (j_c_meth (j_cv 0) T.cl_Heap T.m_Heap_make ((ok_Heap_make T).mono (by decide)) hr T.b_Heap_make hx1 (j_pa_c (j_cv 2) (j_pa_c (j_cv 3) j_pa_nil))))) (j_pss_one (j_ps_if (j_pt_cmpR j_c_eq (j_cv 1) j_pe_int (nomark _)) (j_pss_one (j_ps_expr (j_c_meth (j_cv 0) T.cl_Heap T.m_Heap_get ((ok_Heap_get T).mono (by decide)) hr T.b_Heap_get hx1 (j_pa_c (j_cv 2) (j_pa_c (j_cv 3) j_pa_nil))))) (j_pss_one (j_ps_if (j_pt_cmpR j_c_eq (j_cv 1) j_pe_int (nomark _)) (j_pss_one (j_ps_expr (j_c_meth (j_cv 0) T.cl_Heap T.m_Heap_put ((ok_Heap_put T).mono (by decide)) hr T.b_Heap_put hx1 (j_pa_c (j_cv 2) (j_pa_c (j_cv 3) (j_pa_c (j_cv 4) j_pa_nil)))))) (j_pss_one (j_ps_if (j_pt_cmpR j_c_eq (j_cv 1) j_pe_int (nomark _)) (j_pss_one (j_ps_expr (j_c_meth (j_cv 0) T.cl_Heap T.m_Heap_hold ((ok_Heap_hold T).mono (by decide)) hr T.b_Heap_hold hx1 (j_pa_c (j_cv 2) (j_pa_c (j_cv 4) j_pa_nil))))) (j_pss_one (j_ps_if (j_pt_cmpR j_c_eq (j_cv 1) j_pe_int (nomark _)) (j_pss_one (j_ps_expr (j_c_meth (j_cv 0) T.cl_Heap T.m_Heap_drop ((ok_Heap_drop T).mono (by decide)) hr T.b_Heap_drop hx1 (j_pa_c (j_cv 2) j_pa_nil)))) (j_pss_one (j_ps_if (j_pt_cmpR j_c_eq (j_cv 1) j_pe_int (nomark _)) (j_pss_one (j_ps_expr (j_c_meth (j_cv 0) T.cl_Heap T.m_Heap_cell_of ((ok_Heap_cell_of T).mono (by decide)) hr T.b_Heap_cell_of hx1 (j_pa_c (j_cv 2) j_pa_nil)))) (j_pss_one (j_ps_expr (j_c_meth (j_cv 0) T.cl_Heap T.m_Heap_held ((ok_Heap_held T).mono (by decide)) hr T.b_Heap_held hx1 (j_pa_c (j_cv 2) j_pa_nil))))))))))))))))) (j_ph_as rfl rfl T.g_KeepError sc__law_call.nd (i := 5) rfl rfl (fun a => (j_pss_one (j_ps_ret (j_pe_callF ((ok__law_alone T).mono (by decide)) hr.hnd rfl T.g__law_alone T.fn__law_alone.kp T.b__law_alone exc_hnd (j_pa_c (j_cv 5) j_pa_nil))))) j_ph_nil))
      (j_pss_one (j_ps_ret j_pe_str))), ?_⟩
    obtain ⟨d0, e0⟩ := g.ob
    have hl : (S.hw.length : Int) - 1 = 2 := by rw [s3.hw]; rfl
    have h0 : S.w (iv (V.int 0)) = 81 := by show S.w 0 = 81; unfold HS.w; rw [s3.hw]; rfl
    have h1 : S.w (iv (V.int 1)) = 14 := by show S.w 1 = 14; unfold HS.w; rw [s3.hw]; rfl
    have h2 : S.w (iv (V.int 2)) = -1 := by show S.w 2 = -1; unfold HS.w; rw [s3.hw]; rfl
    rcases (by omega : w = 0 ∨ w = 1 ∨ w = 2 ∨ w = 3 ∨ w = 4 ∨ w = 5 ∨ w = 6) with rfl | rfl | rfl | rfl | rfl | rfl | rfl
    · simp only [tRet, tDrop, tSeq, tIfS, tTest, tOp, tCons, tNil, tC, cVar, tTry, cEq, eqv, cxOf_K, and_assoc, Int.reduceEq, Int.reduceAdd, Int.reduceSub, String.reduceEq, decide_true, decide_false, cMethE, L2.start, List.map_cons, List.map_nil, List.length_cons, List.length_nil, List.replicate, List.cons_append, List.nil_append, List.getElem?_cons_zero, List.getElem?_cons_succ, V.int.injEq, V.bl.injEq, V.str.injEq, V.ref.injEq, V.ty.injEq, List.cons.injEq, Option.some.injEq, and_true, true_and, exists_eq_left', exists_and_left, ite_true, ite_false, Bool.false_eq_true, Nat.reduceSub, Nat.reduceAdd, e0, gfl_make, sp_Heap_make]
      refine ⟨X, rfl, S, g, kv, ku, s3.ok, by rw [s3.so]; decide, by rw [s3.so, s3.wl]; decide, by rw [s3.sy]; decide, by rw [s3.sy, s3.wl]; decide, ?_⟩
      rw [hl]
      cases hv : wi v 0 2 with
      | false =>
        rw [if_neg (by intro z; cases z)]
        have dq : due19 0 v u (kd x).isSome = Str.ofString "hand" := by unfold due19; rw [hv]; rfl
        rw [dq] at q
        simp only [tRet, tCons, tNil, cVar, tCallE, upd_same, List.getElem?_cons_zero, List.getElem?_cons_succ, List.set_cons_zero, List.set_cons_succ, V.int.injEq, V.bl.injEq, V.str.injEq, V.ref.injEq, V.ty.injEq, List.cons.injEq, Option.some.injEq, and_true, true_and, exists_eq_left', hAs, T.em_NoHand_KeepError, sp__law_alone]
        intro a ha
        exact (.inr (.inr (.inl fun H2 s1 => exc_end ha s1 fun H3 s4 => q _ (.inr s4))))
      | true =>
        rw [if_pos rfl]
        obtain ⟨i, rfl, i0, i1⟩ := wi_int hv
        cases hu : wi u 0 8 with
        | false =>
          rw [if_neg (by intro z; cases z)]
          have dq : due19 0 (.int i) u (kd x).isSome = Str.ofString "count" := by unfold due19; rw [if_pos hv, if_pos rfl, hu]; rfl
          rw [dq] at q
          simp only [tRet, tCons, tNil, cVar, tCallE, upd_same, List.getElem?_cons_zero, List.getElem?_cons_succ, List.set_cons_zero, List.set_cons_succ, V.int.injEq, V.bl.injEq, V.str.injEq, V.ref.injEq, V.ty.injEq, List.cons.injEq, Option.some.injEq, and_true, true_and, exists_eq_left', hAs, T.em_BadCount_KeepError, sp__law_alone]
          intro a ha
          exact (.inl fun H2 s1 => exc_end ha s1 fun H3 s4 => q _ (.inr s4))
        | true =>
          rw [if_pos rfl]
          obtain ⟨n, rfl, n0, n8⟩ := wi_int hu
          have hfy : S.forY n = true := decide_eq_true (by rw [s3.sy]; show n + 1 ≤ 70 - 40; omega)
          rw [if_pos (show S.fits (iv (V.int n)) = true by show S.fits n = true; unfold HS.fits; rw [if_pos hfy]; exact decide_eq_true (by rw [s3.sy]; show n + 1 ≤ 70 - 43; omega))]
          have dq : due19 0 (.int i) (.int n) (kd x).isSome = Str.ofString "" := by unfold due19; rw [if_pos hv, if_pos rfl, hu]; rfl
          rw [dq] at q
          exact fun H' _ _ => q H' (.inl rfl)
    · simp only [tRet, tDrop, tSeq, tIfS, tTest, tOp, tCons, tNil, tC, cVar, tTry, cEq, eqv, cxOf_K, and_assoc, Int.reduceEq, Int.reduceAdd, Int.reduceSub, String.reduceEq, decide_true, decide_false, cMethE, L2.start, List.map_cons, List.map_nil, List.length_cons, List.length_nil, List.replicate, List.cons_append, List.nil_append, List.getElem?_cons_zero, List.getElem?_cons_succ, V.int.injEq, V.bl.injEq, V.str.injEq, V.ref.injEq, V.ty.injEq, List.cons.injEq, Option.some.injEq, and_true, true_and, exists_eq_left', exists_and_left, ite_true, ite_false, Bool.false_eq_true, Nat.reduceSub, Nat.reduceAdd, e0, gfl_get, sp_Heap_get]
      refine ⟨X, rfl, S, g, kv, ku, s3.ok, ?_⟩
      rw [hl]
      cases hv : wi v 0 2 with
      | false =>
        rw [if_neg (by intro z; cases z)]
        have dq : due19 1 v u (kd x).isSome = Str.ofString "hand" := by unfold due19; rw [hv]; rfl
        rw [dq] at q
        simp only [tRet, tCons, tNil, cVar, tCallE, upd_same, List.getElem?_cons_zero, List.getElem?_cons_succ, List.set_cons_zero, List.set_cons_succ, V.int.injEq, V.bl.injEq, V.str.injEq, V.ref.injEq, V.ty.injEq, List.cons.injEq, Option.some.injEq, and_true, true_and, exists_eq_left', hAs, T.em_NoHand_KeepError, sp__law_alone]
        intro a ha
        exact (.inr (.inr (.inl fun H2 s1 => exc_end ha s1 fun H3 s4 => q _ (.inr s4))))
      | true =>
        rw [if_pos rfl]
        obtain ⟨i, rfl, i0, i1⟩ := wi_int hv
        rcases (by omega : i = 0 ∨ i = 1 ∨ i = 2) with rfl | rfl | rfl
        · rw [h0, if_pos (show isPl 81 = true by decide)]
          intro n hn
          have hn' : cellN S.ws 40 = some n := hn
          rw [s3.cl] at hn'
          cases hn'
          rw [show (8 : Int) / 4 - 1 = 1 by decide]
          cases hu : wi u 0 1 with
          | false =>
            rw [if_neg (by intro z; cases z)]
            have dq : due19 1 (.int 0) u (kd x).isSome = Str.ofString "slot" := by unfold due19; rw [hu]; rfl
            rw [dq] at q
            simp only [tRet, tCons, tNil, cVar, tCallE, upd_same, List.getElem?_cons_zero, List.getElem?_cons_succ, List.set_cons_zero, List.set_cons_succ, V.int.injEq, V.bl.injEq, V.str.injEq, V.ref.injEq, V.ty.injEq, List.cons.injEq, Option.some.injEq, and_true, true_and, exists_eq_left', hAs, T.em_NoSlot_KeepError, sp__law_alone]
            intro a ha
            exact (.inr (.inr (.inr (.inl fun H2 s1 => exc_end ha s1 fun H3 s4 => q _ (.inr s4)))))
          | true =>
            rw [if_pos rfl]
            have dq : due19 1 (.int 0) u (kd x).isSome = Str.ofString "" := by unfold due19; rw [hu]; rfl
            rw [dq] at q
            exact q _ (.inl rfl)
        · rw [h1, if_neg (show ¬ (isPl (14) = true) by decide)]
          have dq : due19 1 (.int 1) u (kd x).isSome = Str.ofString "nothing" := by unfold due19; rfl
          rw [dq] at q
          simp only [tRet, tCons, tNil, cVar, tCallE, upd_same, List.getElem?_cons_zero, List.getElem?_cons_succ, List.set_cons_zero, List.set_cons_succ, V.int.injEq, V.bl.injEq, V.str.injEq, V.ref.injEq, V.ty.injEq, List.cons.injEq, Option.some.injEq, and_true, true_and, exists_eq_left', hAs, T.em_NothingHeld_KeepError, sp__law_alone]
          intro a ha
          exact (.inr (.inr (.inr (.inr fun H2 s1 => exc_end ha s1 fun H3 s4 => q _ (.inr s4)))))
        · rw [h2, if_neg (show ¬ (isPl (-1) = true) by decide)]
          have dq : due19 1 (.int 2) u (kd x).isSome = Str.ofString "nothing" := by unfold due19; rfl
          rw [dq] at q
          simp only [tRet, tCons, tNil, cVar, tCallE, upd_same, List.getElem?_cons_zero, List.getElem?_cons_succ, List.set_cons_zero, List.set_cons_succ, V.int.injEq, V.bl.injEq, V.str.injEq, V.ref.injEq, V.ty.injEq, List.cons.injEq, Option.some.injEq, and_true, true_and, exists_eq_left', hAs, T.em_NothingHeld_KeepError, sp__law_alone]
          intro a ha
          exact (.inr (.inr (.inr (.inr fun H2 s1 => exc_end ha s1 fun H3 s4 => q _ (.inr s4)))))
    · simp only [tRet, tDrop, tSeq, tIfS, tTest, tOp, tCons, tNil, tC, cVar, tTry, cEq, eqv, cxOf_K, and_assoc, Int.reduceEq, Int.reduceAdd, Int.reduceSub, String.reduceEq, decide_true, decide_false, cMethE, L2.start, List.map_cons, List.map_nil, List.length_cons, List.length_nil, List.replicate, List.cons_append, List.nil_append, List.getElem?_cons_zero, List.getElem?_cons_succ, V.int.injEq, V.bl.injEq, V.str.injEq, V.ref.injEq, V.ty.injEq, List.cons.injEq, Option.some.injEq, and_true, true_and, exists_eq_left', exists_and_left, ite_true, ite_false, Bool.false_eq_true, Nat.reduceSub, Nat.reduceAdd, e0, gfl_put, sp_Heap_put]
      refine ⟨X, rfl, S, g, kv, ku, kx, s3.ok, ?_⟩
      rw [hl]
      cases hv : wi v 0 2 with
      | false =>
        rw [if_neg (by intro z; cases z)]
        have dq : due19 2 v u (kd x).isSome = Str.ofString "hand" := by unfold due19; rw [hv]; rfl
        rw [dq] at q
        simp only [tRet, tCons, tNil, cVar, tCallE, upd_same, List.getElem?_cons_zero, List.getElem?_cons_succ, List.set_cons_zero, List.set_cons_succ, V.int.injEq, V.bl.injEq, V.str.injEq, V.ref.injEq, V.ty.injEq, List.cons.injEq, Option.some.injEq, and_true, true_and, exists_eq_left', hAs, T.em_NoHand_KeepError, sp__law_alone]
        intro a ha
        exact (.inr (.inr (.inl fun H2 s1 => exc_end ha s1 fun H3 s4 => q _ (.inr s4))))
      | true =>
        rw [if_pos rfl]
        obtain ⟨i, rfl, i0, i1⟩ := wi_int hv
        rcases (by omega : i = 0 ∨ i = 1 ∨ i = 2) with rfl | rfl | rfl
        · rw [h0, if_pos (show isPl 81 = true by decide)]
          intro n hn
          have hn' : cellN S.ws 40 = some n := hn
          rw [s3.cl] at hn'
          cases hn'
          rw [show (8 : Int) / 4 - 1 = 1 by decide]
          cases hu : wi u 0 1 with
          | false =>
            rw [if_neg (by intro z; cases z)]
            have dq : due19 2 (.int 0) u (kd x).isSome = Str.ofString "slot" := by unfold due19; rw [hu]; rfl
            rw [dq] at q
            simp only [tRet, tCons, tNil, cVar, tCallE, upd_same, List.getElem?_cons_zero, List.getElem?_cons_succ, List.set_cons_zero, List.set_cons_succ, V.int.injEq, V.bl.injEq, V.str.injEq, V.ref.injEq, V.ty.injEq, List.cons.injEq, Option.some.injEq, and_true, true_and, exists_eq_left', hAs, T.em_NoSlot_KeepError, sp__law_alone]
            intro a ha
            exact (.inr (.inr (.inr (.inl fun H2 s1 => exc_end ha s1 fun H3 s4 => q _ (.inr s4)))))
          | true =>
            rw [if_pos rfl]
            cases hx' : kd x with
            | none =>
              dsimp only
              have dq : due19 2 (.int 0) u (kd x).isSome = Str.ofString "word" := by unfold due19; rw [hu, hx']; rfl
              rw [dq] at q
              simp only [tRet, tCons, tNil, cVar, tCallE, upd_same, List.getElem?_cons_zero, List.getElem?_cons_succ, List.set_cons_zero, List.set_cons_succ, V.int.injEq, V.bl.injEq, V.str.injEq, V.ref.injEq, V.ty.injEq, List.cons.injEq, Option.some.injEq, and_true, true_and, exists_eq_left', hAs, T.em_BadWord_KeepError, sp__law_alone]
              intro a ha
              exact (.inr (.inl fun H2 s1 => exc_end ha s1 fun H3 s4 => q _ (.inr s4)))
            | some y =>
              dsimp only
              have dq : due19 2 (.int 0) u (kd x).isSome = Str.ofString "" := by unfold due19; rw [hu, hx']; rfl
              rw [dq] at q
              exact fun H' _ _ => q H' (.inl rfl)
        · rw [h1, if_neg (show ¬ (isPl (14) = true) by decide)]
          have dq : due19 2 (.int 1) u (kd x).isSome = Str.ofString "nothing" := by unfold due19; rfl
          rw [dq] at q
          simp only [tRet, tCons, tNil, cVar, tCallE, upd_same, List.getElem?_cons_zero, List.getElem?_cons_succ, List.set_cons_zero, List.set_cons_succ, V.int.injEq, V.bl.injEq, V.str.injEq, V.ref.injEq, V.ty.injEq, List.cons.injEq, Option.some.injEq, and_true, true_and, exists_eq_left', hAs, T.em_NothingHeld_KeepError, sp__law_alone]
          intro a ha
          exact (.inr (.inr (.inr (.inr fun H2 s1 => exc_end ha s1 fun H3 s4 => q _ (.inr s4)))))
        · rw [h2, if_neg (show ¬ (isPl (-1) = true) by decide)]
          have dq : due19 2 (.int 2) u (kd x).isSome = Str.ofString "nothing" := by unfold due19; rfl
          rw [dq] at q
          simp only [tRet, tCons, tNil, cVar, tCallE, upd_same, List.getElem?_cons_zero, List.getElem?_cons_succ, List.set_cons_zero, List.set_cons_succ, V.int.injEq, V.bl.injEq, V.str.injEq, V.ref.injEq, V.ty.injEq, List.cons.injEq, Option.some.injEq, and_true, true_and, exists_eq_left', hAs, T.em_NothingHeld_KeepError, sp__law_alone]
          intro a ha
          exact (.inr (.inr (.inr (.inr fun H2 s1 => exc_end ha s1 fun H3 s4 => q _ (.inr s4)))))
    · simp only [tRet, tDrop, tSeq, tIfS, tTest, tOp, tCons, tNil, tC, cVar, tTry, cEq, eqv, cxOf_K, and_assoc, Int.reduceEq, Int.reduceAdd, Int.reduceSub, String.reduceEq, decide_true, decide_false, cMethE, L2.start, List.map_cons, List.map_nil, List.length_cons, List.length_nil, List.replicate, List.cons_append, List.nil_append, List.getElem?_cons_zero, List.getElem?_cons_succ, V.int.injEq, V.bl.injEq, V.str.injEq, V.ref.injEq, V.ty.injEq, List.cons.injEq, Option.some.injEq, and_true, true_and, exists_eq_left', exists_and_left, ite_true, ite_false, Bool.false_eq_true, Nat.reduceSub, Nat.reduceAdd, e0, gfl_hold, sp_Heap_hold]
      refine ⟨X, rfl, S, g, kv, kx, ?_⟩
      rw [hl]
      cases hv : wi v 0 2 with
      | false =>
        rw [if_neg (by intro z; cases z)]
        have dq : due19 3 v u (kd x).isSome = Str.ofString "hand" := by unfold due19; rw [hv]; rfl
        rw [dq] at q
        simp only [tRet, tCons, tNil, cVar, tCallE, upd_same, List.getElem?_cons_zero, List.getElem?_cons_succ, List.set_cons_zero, List.set_cons_succ, V.int.injEq, V.bl.injEq, V.str.injEq, V.ref.injEq, V.ty.injEq, List.cons.injEq, Option.some.injEq, and_true, true_and, exists_eq_left', hAs, T.em_NoHand_KeepError, sp__law_alone]
        intro a ha
        exact (.inr (.inr (.inl fun H2 s1 => exc_end ha s1 fun H3 s4 => q _ (.inr s4))))
      | true =>
        rw [if_pos rfl]
        obtain ⟨i, rfl, i0, i1⟩ := wi_int hv
        cases hx' : kd x with
        | none =>
          dsimp only
          have dq : due19 3 (.int i) u (kd x).isSome = Str.ofString "word" := by unfold due19; rw [if_pos hv, hx']; rfl
          rw [dq] at q
          simp only [tRet, tCons, tNil, cVar, tCallE, upd_same, List.getElem?_cons_zero, List.getElem?_cons_succ, List.set_cons_zero, List.set_cons_succ, V.int.injEq, V.bl.injEq, V.str.injEq, V.ref.injEq, V.ty.injEq, List.cons.injEq, Option.some.injEq, and_true, true_and, exists_eq_left', hAs, T.em_BadWord_KeepError, sp__law_alone]
          intro a ha
          exact (.inr (.inl fun H2 s1 => exc_end ha s1 fun H3 s4 => q _ (.inr s4)))
        | some y =>
          dsimp only
          have dq : due19 3 (.int i) u (kd x).isSome = Str.ofString "" := by unfold due19; rw [if_pos hv, hx']; rfl
          rw [dq] at q
          exact fun H' _ _ => q H' (.inl rfl)
    · simp only [tRet, tDrop, tSeq, tIfS, tTest, tOp, tCons, tNil, tC, cVar, tTry, cEq, eqv, cxOf_K, and_assoc, Int.reduceEq, Int.reduceNeg, Int.reduceAdd, Int.reduceSub, String.reduceEq, decide_true, decide_false, cMethE, L2.start, List.map_cons, List.map_nil, List.length_cons, List.length_nil, List.replicate, List.cons_append, List.nil_append, List.getElem?_cons_zero, List.getElem?_cons_succ, V.int.injEq, V.bl.injEq, V.str.injEq, V.ref.injEq, V.ty.injEq, List.cons.injEq, Option.some.injEq, and_true, true_and, exists_eq_left', exists_and_left, ite_true, ite_false, Bool.false_eq_true, Nat.reduceSub, Nat.reduceAdd, e0, gfl_drop, sp_Heap_drop]
      refine ⟨X, rfl, S, g, kv, ?_⟩
      rw [hl]
      cases hv : wi v 0 2 with
      | false =>
        rw [if_neg (by intro z; cases z)]
        have dq : due19 4 v u (kd x).isSome = Str.ofString "hand" := by unfold due19; rw [hv]; rfl
        rw [dq] at q
        simp only [tRet, tCons, tNil, cVar, tCallE, upd_same, List.getElem?_cons_zero, List.getElem?_cons_succ, List.set_cons_zero, List.set_cons_succ, V.int.injEq, V.bl.injEq, V.str.injEq, V.ref.injEq, V.ty.injEq, List.cons.injEq, Option.some.injEq, and_true, true_and, exists_eq_left', hAs, T.em_NoHand_KeepError, sp__law_alone]
        intro a ha
        exact (.inr (.inr (.inl fun H2 s1 => exc_end ha s1 fun H3 s4 => q _ (.inr s4))))
      | true =>
        rw [if_pos rfl]
        obtain ⟨i, rfl, i0, i1⟩ := wi_int hv
        have dq : due19 4 (.int i) u (kd x).isSome = Str.ofString "" := by unfold due19; rw [if_pos hv]; rfl
        rw [dq] at q
        exact fun H' _ _ => q H' (.inl rfl)
    · simp only [tRet, tDrop, tSeq, tIfS, tTest, tOp, tCons, tNil, tC, cVar, tTry, cEq, eqv, cxOf_K, and_assoc, Int.reduceEq, Int.reduceAdd, Int.reduceSub, String.reduceEq, decide_true, decide_false, cMethE, L2.start, List.map_cons, List.map_nil, List.length_cons, List.length_nil, List.replicate, List.cons_append, List.nil_append, List.getElem?_cons_zero, List.getElem?_cons_succ, V.int.injEq, V.bl.injEq, V.str.injEq, V.ref.injEq, V.ty.injEq, List.cons.injEq, Option.some.injEq, and_true, true_and, exists_eq_left', exists_and_left, ite_true, ite_false, Bool.false_eq_true, Nat.reduceSub, Nat.reduceAdd, e0, gfl_cell_of, sp_Heap_cell_of]
      refine ⟨X, rfl, S, g, kv, s3.ok.1, ?_⟩
      rw [hl]
      cases hv : wi v 0 2 with
      | false =>
        rw [if_neg (by intro z; cases z)]
        have dq : due19 5 v u (kd x).isSome = Str.ofString "hand" := by unfold due19; rw [hv]; rfl
        rw [dq] at q
        simp only [tRet, tCons, tNil, cVar, tCallE, upd_same, List.getElem?_cons_zero, List.getElem?_cons_succ, List.set_cons_zero, List.set_cons_succ, V.int.injEq, V.bl.injEq, V.str.injEq, V.ref.injEq, V.ty.injEq, List.cons.injEq, Option.some.injEq, and_true, true_and, exists_eq_left', hAs, T.em_NoHand_KeepError, sp__law_alone]
        intro a ha
        exact (.inr (.inr (.inl fun H2 s1 => exc_end ha s1 fun H3 s4 => q _ (.inr s4))))
      | true =>
        rw [if_pos rfl]
        obtain ⟨i, rfl, i0, i1⟩ := wi_int hv
        rcases (by omega : i = 0 ∨ i = 1 ∨ i = 2) with rfl | rfl | rfl
        · rw [h0, if_pos (show isPl 81 = true by decide)]
          have dq : due19 5 (.int 0) u (kd x).isSome = Str.ofString "" := by unfold due19; rfl
          rw [dq] at q
          exact q _ (.inl rfl)
        · rw [h1, if_neg (show ¬ (isPl (14) = true) by decide)]
          have dq : due19 5 (.int 1) u (kd x).isSome = Str.ofString "nothing" := by unfold due19; rfl
          rw [dq] at q
          simp only [tRet, tCons, tNil, cVar, tCallE, upd_same, List.getElem?_cons_zero, List.getElem?_cons_succ, List.set_cons_zero, List.set_cons_succ, V.int.injEq, V.bl.injEq, V.str.injEq, V.ref.injEq, V.ty.injEq, List.cons.injEq, Option.some.injEq, and_true, true_and, exists_eq_left', hAs, T.em_NothingHeld_KeepError, sp__law_alone]
          intro a ha
          exact (.inr (.inr (.inr (.inr fun H2 s1 => exc_end ha s1 fun H3 s4 => q _ (.inr s4)))))
        · rw [h2, if_neg (show ¬ (isPl (-1) = true) by decide)]
          have dq : due19 5 (.int 2) u (kd x).isSome = Str.ofString "nothing" := by unfold due19; rfl
          rw [dq] at q
          simp only [tRet, tCons, tNil, cVar, tCallE, upd_same, List.getElem?_cons_zero, List.getElem?_cons_succ, List.set_cons_zero, List.set_cons_succ, V.int.injEq, V.bl.injEq, V.str.injEq, V.ref.injEq, V.ty.injEq, List.cons.injEq, Option.some.injEq, and_true, true_and, exists_eq_left', hAs, T.em_NothingHeld_KeepError, sp__law_alone]
          intro a ha
          exact (.inr (.inr (.inr (.inr fun H2 s1 => exc_end ha s1 fun H3 s4 => q _ (.inr s4)))))
    · simp only [tRet, tDrop, tSeq, tIfS, tTest, tOp, tCons, tNil, tC, cVar, tTry, cEq, eqv, cxOf_K, and_assoc, Int.reduceEq, Int.reduceAdd, Int.reduceSub, String.reduceEq, decide_false, cMethE, L2.start, List.map_cons, List.map_nil, List.length_cons, List.length_nil, List.replicate, List.cons_append, List.nil_append, List.getElem?_cons_zero, List.getElem?_cons_succ, V.int.injEq, V.bl.injEq, V.str.injEq, V.ref.injEq, V.ty.injEq, List.cons.injEq, Option.some.injEq, and_true, true_and, exists_eq_left', exists_and_left, ite_false, Bool.false_eq_true, Nat.reduceSub, Nat.reduceAdd, e0, gfl_held, sp_Heap_held]
      refine ⟨X, rfl, S, g, kv, ?_⟩
      rw [hl]
      cases hv : wi v 0 2 with
      | false =>
        rw [if_neg (by intro z; cases z)]
        have dq : due19 6 v u (kd x).isSome = Str.ofString "hand" := by unfold due19; rw [hv]; rfl
        rw [dq] at q
        simp only [tRet, tCons, tNil, cVar, tCallE, upd_same, List.getElem?_cons_zero, List.getElem?_cons_succ, List.set_cons_zero, List.set_cons_succ, V.int.injEq, V.bl.injEq, V.str.injEq, V.ref.injEq, V.ty.injEq, List.cons.injEq, Option.some.injEq, and_true, true_and, exists_eq_left', hAs, T.em_NoHand_KeepError, sp__law_alone]
        intro a ha
        exact (.inr (.inr (.inl fun H2 s1 => exc_end ha s1 fun H3 s4 => q _ (.inr s4))))
      | true =>
        rw [if_pos rfl]
        obtain ⟨i, rfl, i0, i1⟩ := wi_int hv
        have dq : due19 6 (.int i) u (kd x).isSome = Str.ofString "" := by unfold due19; rw [if_pos hv]; rfl
        rw [dq] at q
        exact q _ (.inl rfl)
theorem RowsOk.new {n o y : Int} (o0 : 4 ≤ o) (y0 : 2 ≤ y) (s0 : o + 2 * y ≤ 4000) : RowsOk [] (HS.new n o y) := by
  have el : (List.replicate (o + 2 * y).toNat (-1 : Int)).length = (o + 2 * y).toNat := List.length_replicate
  refine ⟨rfl, Int.le_refl 0, by show (0 : Int) ≤ o; omega, rfl, Int.le_refl o, by show o ≤ o + y; omega, ?_, ?_, fun w hw => ?_, by simp, by simp, List.Pairwise.nil, fun w hw => ?_, by simp⟩
  · show o + y ≤ ((List.replicate (o + 2 * y).toNat (-1 : Int)).length : Int); rw [el]; omega
  · show (List.replicate (o + 2 * y).toNat (-1 : Int)).length ≤ 4000; rw [el]; omega
  · rw [List.eq_of_mem_replicate hw]; rw [kd_is, if_pos rfl]; rfl
  · rw [List.eq_of_mem_replicate hw]; exact WOk.neg
theorem deq_ints1 {H : Hp} (xs : List Int) : allO (List.zipWith (deq H 1) (xs.map V.int) (xs.map V.int)) = some true := by
  induction xs with
  | nil => rfl
  | cons x r ih =>
    rw [List.map_cons, List.zipWith_cons_cons, show deq H 1 (V.int x) (V.int x) = some true by simp [deq, flatV, eqV]]
    show (allO _).map _ = _
    rw [ih]; rfl
theorem deq_ref {H : Hp} {p q : Addr} {xs : List Int} (h1 : H p = some (.lst (xs.map V.int))) (h2 : H q = some (.lst (xs.map V.int))) : deq H 2 (V.ref p) (V.ref q) = some true := by
  show (match H p, H q with
      | some (.lst xs), some (.lst ys) => if xs.length = ys.length then allO (List.zipWith (deq H 1) xs ys) else some false
      | some (.tup xs), some (.tup ys) => if xs.length = ys.length then allO (List.zipWith (deq H 1) xs ys) else none
      | _, _ => none) = some true
  rw [h1, h2]
  dsimp only
  rw [if_pos rfl, deq_ints1]
def S18 : HS := { (HS.made (HS.new 3 40 30) 0 2) with hw := (HS.made (HS.new 3 40 30) 0 2).hw.set 1 14 }
def S19 : HS := S18.put 42 81
theorem h19 : H3 S19 := by
  have hw : S19.hw = [81, 14, -1] := by decide +kernel
  have hc : cellN S19.ws 40 = some 8 := by decide +kernel
  have hl : S19.ws.length = 100 := by decide +kernel
  have wo : ∀ w ∈ S19.ws, (kd (.int w)).isSome = true := by decide +kernel
  refine ⟨⟨?_, wo, by rw [hl]; decide, by decide +kernel, fun w hm c => ?_⟩, hw, hc, rfl, rfl, hl, by decide +kernel⟩
  · rw [hw]; show ∀ w ∈ [(81 : Int), 14, -1], (kd (.int w)).isSome = true; decide +kernel
  · rw [hw] at hm
    simp only [List.mem_cons, List.not_mem_nil, or_false] at hm
    rcases hm with rfl | rfl | rfl
    · rw [hl]; exact ⟨by decide, 8, hc⟩
    · exact absurd c (by decide)
    · exact absurd c (by decide)
def sp_law (K : PySem.W.Frag) : Sp := fun vs H Q _ => ∃ (a : Addr) (ns : List Int), vs = [.ref a] ∧ SqL K H a (ns.map V.int) ∧ ns.length ≤ 63 ∧ ∀ H', Q (.bl true) H'
theorem sc_law : FnScope ["_law_script", "_law_hands", "_law_old_words", "_law_young_words", "_law_good", "_law_heap", "_law_before", "_law_way", "_law_hand", "_law_thing", "_law_is_word", "_law_word", "_law_due_here"] ["_law_script"] (defScope s_law) := ⟨rfl, rfl, rfl, by decide +kernel, rfl, by decide +kernel, by decide +kernel⟩
theorem ok_law (T : Txt K mg A) : FnOk P w K mg base (CXE P w) true 13 A.f_law A.d_law ["_law_script"] (sp_law K) := by
  refine T.fn_law.okE sc_law (fun vs H Q E h => ?_) (fun cdv A' outer s H vs Q E hr hx h => ?_)
  · obtain ⟨a, ns, rfl, hS, hl, h⟩ := h
    rfl
  · obtain ⟨a, ns, rfl, hS, hl, h⟩ := h
    refine ⟨_, JSs.run (j_pss_cons (j_ps_set (i := 1) sc_law.nd rfl (by first | exact Or.inl rfl | exact Or.inr rfl) (j_pe_callF ((ok__law_size T).mono (by decide)) hr rfl T.g__law_size T.fn__law_size.kp T.b__law_size hx (j_pa_c (j_pe_callF ((ok__law_draw T).mono (by decide)) hr rfl T.g__law_draw T.fn__law_draw.kp T.b__law_draw hx (j_pa_c (j_cv 0) (j_pa_c j_pe_int j_pa_nil))) (j_pa_c j_pe_int (j_pa_c j_pe_int j_pa_nil)))))
      (j_pss_cons (j_ps_set (i := 2) sc_law.nd rfl (by first | exact Or.inl rfl | exact Or.inr rfl) (j_pe_callF ((ok__law_size T).mono (by decide)) hr rfl T.g__law_size T.fn__law_size.kp T.b__law_size hx (j_pa_c (j_pe_callF ((ok__law_draw T).mono (by decide)) hr rfl T.g__law_draw T.fn__law_draw.kp T.b__law_draw hx (j_pa_c (j_cv 0) (j_pa_c j_pe_int j_pa_nil))) (j_pa_c j_pe_int (j_pa_c j_pe_int j_pa_nil)))))
      (j_pss_cons (j_ps_set (i := 3) sc_law.nd rfl (by first | exact Or.inl rfl | exact Or.inr rfl) (j_pe_callF ((ok__law_size T).mono (by decide)) hr rfl T.g__law_size T.fn__law_size.kp T.b__law_size hx (j_pa_c (j_pe_callF ((ok__law_draw T).mono (by decide)) hr rfl T.g__law_draw T.fn__law_draw.kp T.b__law_draw hx (j_pa_c (j_cv 0) (j_pa_c j_pe_int j_pa_nil))) (j_pa_c j_pe_int (j_pa_c j_pe_int j_pa_nil)))))
      (j_pss_cons (j_ps_set (i := 4) sc_law.nd rfl (by first | exact Or.inl rfl | exact Or.inr rfl) (j_pe_and (j_pe_callF ((ok__law_fits T).mono (by decide)) hr rfl T.g__law_fits T.fn__law_fits.kp T.b__law_fits hx (j_pa_c (j_cv 1) (j_pa_c j_pe_int (j_pa_c j_pe_int j_pa_nil)))) (j_pe_and (j_pe_callF ((ok__law_fits T).mono (by decide)) hr rfl T.g__law_fits T.fn__law_fits.kp T.b__law_fits hx (j_pa_c (j_cv 2) (j_pa_c j_pe_int (j_pa_c j_pe_int j_pa_nil)))) (j_pe_one (j_pe_callF ((ok__law_fits T).mono (by decide)) hr rfl T.g__law_fits T.fn__law_fits.kp T.b__law_fits hx (j_pa_c (j_cv 3) (j_pa_c j_pe_int (j_pa_c j_pe_int j_pa_nil))))))))
      (j_pss_cons (j_ps_if (j_pt_cmpR (j_c_neA (hu8 hr)) (j_pe_callF ((ok__law_is_heap T).mono (by decide)) hr rfl T.g__law_is_heap T.fn__law_is_heap.kp T.b__law_is_heap hx (j_pa_c (j_cv 1) (j_pa_c (j_cv 2) (j_pa_c (j_cv 3) j_pa_nil)))) (j_pe_menu (j_pa_c j_pe_str (j_pa_c j_pe_str j_pa_nil)) (j_pe_callTyF j_c_int (by rfl) T.n_int PyProof.Rows.Boot.«int» (j_pa_c (j_cv 4) j_pa_nil)) (fun _ _ => rfl)) (nomark _)) (j_pss_one (j_ps_ret j_pe_bl)) j_pss_nil)
      (j_pss_cons (j_ps_set (i := 5) sc_law.nd rfl (by first | exact Or.inl rfl | exact Or.inr rfl) (j_pe_makeF T.mk_Heap ((ok_Heap_init T).mono (by decide)) hr rfl T.g_Heap T.b_Heap_init hx (j_pa_c j_pe_int (j_pa_c j_pe_int (j_pa_c j_pe_int j_pa_nil)))))
      (j_pss_cons (j_ps_expr (j_c_meth (j_cv 5) T.cl_Heap T.m_Heap_make ((ok_Heap_make T).mono (by decide)) hr T.b_Heap_make hx (j_pa_c j_pe_int (j_pa_c j_pe_int j_pa_nil))))
      (j_pss_cons (j_ps_expr (j_c_meth (j_cv 5) T.cl_Heap T.m_Heap_hold ((ok_Heap_hold T).mono (by decide)) hr T.b_Heap_hold hx (j_pa_c j_pe_int (j_pa_c j_pe_int j_pa_nil))))
      (j_pss_cons (j_ps_expr (j_c_meth (j_cv 5) T.cl_Heap T.m_Heap_put ((ok_Heap_put T).mono (by decide)) hr T.b_Heap_put hx (j_pa_c j_pe_int (j_pa_c j_pe_int (j_pa_c (j_c_meth (j_cv 5) T.cl_Heap T.m_Heap_held ((ok_Heap_held T).mono (by decide)) hr T.b_Heap_held hx (j_pa_c j_pe_int j_pa_nil)) j_pa_nil)))))
      (j_pss_cons (j_ps_set (i := 6) sc_law.nd rfl (by first | exact Or.inl rfl | exact Or.inr rfl) (j_pe_callF ((ok__law_state T).mono (by decide)) hr rfl T.g__law_state T.fn__law_state.kp T.b__law_state hx (j_pa_c (j_cv 5) j_pa_nil)))
      (j_pss_cons (j_ps_set (i := 7) sc_law.nd rfl (by first | exact Or.inl rfl | exact Or.inr rfl) (j_pe_op j_c_mod (j_pe_callF ((ok__law_draw T).mono (by decide)) hr rfl T.g__law_draw T.fn__law_draw.kp T.b__law_draw hx (j_pa_c (j_cv 0) (j_pa_c j_pe_int j_pa_nil))) j_pe_int))
      (j_pss_cons (j_ps_set (i := 8) sc_law.nd rfl (by first | exact Or.inl rfl | exact Or.inr rfl) (j_pe_menu (j_pa_c (j_pe_un j_c_neg j_pe_int) (j_pa_c j_pe_int (j_pa_c j_pe_int (j_pa_c j_pe_int (j_pa_c j_pe_int (j_pa_c j_pe_int (j_pa_c j_pe_int (j_pa_c j_pe_bl (j_pa_c j_pe_non (j_pa_c j_pe_str (j_pa_c j_pe_bl (j_pa_c (j_pe_op j_c_pow j_pe_int j_pe_int) (j_pa_c (j_pe_lst (j_pa_c j_pe_int j_pa_nil)) j_pa_nil))))))))))))) (j_pe_op j_c_mod (j_pe_callF ((ok__law_draw T).mono (by decide)) hr rfl T.g__law_draw T.fn__law_draw.kp T.b__law_draw hx (j_pa_c (j_cv 0) (j_pa_c j_pe_int j_pa_nil))) j_pe_int) (fun _ _ => rfl)))
      (j_pss_cons (j_ps_set (i := 9) sc_law.nd rfl (by first | exact Or.inl rfl | exact Or.inr rfl) (j_pe_menu (j_pa_c (j_pe_un j_c_neg j_pe_int) (j_pa_c j_pe_int (j_pa_c j_pe_int (j_pa_c j_pe_int (j_pa_c j_pe_int (j_pa_c j_pe_int (j_pa_c j_pe_int (j_pa_c j_pe_bl (j_pa_c j_pe_non (j_pa_c j_pe_str (j_pa_c j_pe_bl (j_pa_c (j_pe_op j_c_pow j_pe_int j_pe_int) (j_pa_c (j_pe_lst (j_pa_c j_pe_int j_pa_nil)) j_pa_nil))))))))))))) (j_pe_op j_c_mod (j_pe_callF ((ok__law_draw T).mono (by decide)) hr rfl T.g__law_draw T.fn__law_draw.kp T.b__law_draw hx (j_pa_c (j_cv 0) (j_pa_c j_pe_int j_pa_nil))) j_pe_int) (fun _ _ => rfl)))
      (j_pss_cons (j_ps_set (i := 10) sc_law.nd rfl (by first | exact Or.inl rfl | exact Or.inr rfl) (j_pe_cmpR (j_c_eqA (hu8 hr)) (j_pe_op j_c_mod (j_pe_callF ((ok__law_draw T).mono (by decide)) hr rfl T.g__law_draw T.fn__law_draw.kp T.b__law_draw hx (j_pa_c (j_cv 0) (j_pa_c j_pe_int j_pa_nil))) j_pe_int) j_pe_int (nomark _)))
      (j_pss_cons (j_ps_set (i := 11) sc_law.nd rfl (by first | exact Or.inl rfl | exact Or.inr rfl) (j_pe_op j_c_mul j_pe_int (j_pe_op j_c_mod (j_pe_op j_c_fdiv (j_pe_callF ((ok__law_draw T).mono (by decide)) hr rfl T.g__law_draw T.fn__law_draw.kp T.b__law_draw hx (j_pa_c (j_cv 0) (j_pa_c j_pe_int j_pa_nil))) j_pe_int) j_pe_int)))
      (j_pss_cons (j_ps_if (j_pt_not (j_pt_truth (j_cv 10) (fun _ => rfl))) (j_pss_one (j_ps_set (i := 11) sc_law.nd rfl (by first | exact Or.inl rfl | exact Or.inr rfl) (j_pe_menu (j_pa_c (j_pe_op j_c_add (j_pe_op j_c_mul j_pe_int (j_pe_op j_c_pow j_pe_int j_pe_int)) j_pe_int) (j_pa_c j_pe_int (j_pa_c (j_pe_un j_c_neg j_pe_int) (j_pa_c j_pe_bl (j_pa_c j_pe_non (j_pa_c j_pe_str (j_pa_c (j_pe_lst (j_pa_c j_pe_int j_pa_nil)) (j_pa_c j_pe_bl j_pa_nil)))))))) (j_pe_op j_c_mod (j_pe_op j_c_fdiv (j_pe_callF ((ok__law_draw T).mono (by decide)) hr rfl T.g__law_draw T.fn__law_draw.kp T.b__law_draw hx (j_pa_c (j_cv 0) (j_pa_c j_pe_int j_pa_nil))) j_pe_int) j_pe_int) (fun _ _ => rfl)))) j_pss_nil)
      (j_pss_cons (j_ps_set (i := 12) sc_law.nd rfl (by first | exact Or.inl rfl | exact Or.inr rfl) (j_pe_callF ((ok__law_due T).mono (by decide)) hr rfl T.g__law_due T.fn__law_due.kp T.b__law_due hx (j_pa_c (j_cv 7) (j_pa_c (j_cv 8) (j_pa_c (j_cv 9) (j_pa_c (j_cv 10) j_pa_nil))))))
      (j_pss_cons (j_ps_if (j_pt_cmpR (j_c_neA (hu8 hr)) (j_pe_callF ((ok__law_call T).mono (by decide)) hr rfl T.g__law_call T.fn__law_call.kp T.b__law_call hx (j_pa_c (j_cv 5) (j_pa_c (j_cv 7) (j_pa_c (j_cv 8) (j_pa_c (j_cv 9) (j_pa_c (j_cv 11) j_pa_nil)))))) (j_cv 12) (nomark _)) (j_pss_one (j_ps_ret j_pe_bl)) j_pss_nil)
      (j_pss_one (j_ps_ret (j_pe_or (j_pe_cmpR (j_c_eqA (hu8 hr)) (j_cv 12) j_pe_str (nomark _)) (j_pe_one (j_pe_and (j_pe_cmpR (j_c_eqA (hu8 hr)) (j_pe_callF ((ok__law_state T).mono (by decide)) hr rfl T.g__law_state T.fn__law_state.kp T.b__law_state hx (j_pa_c (j_cv 5) j_pa_nil)) (j_cv 6) (nomark _)) (j_pe_one (j_pe_cmpR (j_c_eqA (hu8 hr)) (j_pe_callF ((ok__law_call T).mono (by decide)) hr rfl T.g__law_call T.fn__law_call.kp T.b__law_call hx (j_pa_c (j_cv 5) (j_pa_c (j_cv 7) (j_pa_c (j_cv 8) (j_pa_c (j_cv 9) (j_pa_c (j_cv 11) j_pa_nil)))))) (j_cv 12) (nomark _)))))))))))))))))))))))))), ?_⟩
    show tSeq _ _ _ [some (V.ref a), none, none, none, none, none, none, none, none, none, none, none, none] H
    refine seq_mid (fun σ' H' => ∃ v1, Kn H' v1 ∧ Same H H' ∧ σ' = [some (V.ref a), some (v1), none, none, none, none, none, none, none, none, none, none, none]) (fun R hR => ?_) ?_
    · simp only [tCons, tNil, tC, cVar, tAsg, gName, tCallE, and_assoc, Int.reduceLE, List.getElem?_cons_zero, List.set_cons_zero, List.set_cons_succ, V.int.injEq, V.bl.injEq, V.str.injEq, V.ref.injEq, V.ty.injEq, List.cons.injEq, Option.some.injEq, and_true, true_and, exists_eq_left', exists_and_left, sp__law_draw, sp__law_size]
      exact ⟨ns, hS, fun v H' s' k' => hR _ _ ⟨v, k', s', rfl⟩⟩
    rintro _ H1 ⟨v1, k1, s1, rfl⟩
    refine seq_mid (fun σ' H' => ∃ v2, Kn H' v2 ∧ Same H1 H' ∧ σ' = [some (V.ref a), some (v1), some (v2), none, none, none, none, none, none, none, none, none, none]) (fun R hR => ?_) ?_
    · simp only [tCons, tNil, tC, cVar, tAsg, gName, tCallE, and_assoc, Int.reduceLE, List.getElem?_cons_zero, List.set_cons_zero, List.set_cons_succ, V.int.injEq, V.bl.injEq, V.str.injEq, V.ref.injEq, V.ty.injEq, List.cons.injEq, Option.some.injEq, and_true, true_and, exists_eq_left', exists_and_left, sp__law_draw, sp__law_size]
      exact ⟨ns, s1.seq hS, fun v H' s' k' => hR _ _ ⟨v, k', s', rfl⟩⟩
    rintro _ H2 ⟨v2, k2, s2, rfl⟩
    have hS2 := s2.seq (s1.seq hS)
    refine seq_mid (fun σ' H' => ∃ v3, Kn H' v3 ∧ Same H2 H' ∧ σ' = [some (V.ref a), some (v1), some (v2), some (v3), none, none, none, none, none, none, none, none, none]) (fun R hR => ?_) ?_
    · simp only [tCons, tNil, tC, cVar, tAsg, gName, tCallE, and_assoc, Int.reduceLE, List.getElem?_cons_zero, List.set_cons_zero, List.set_cons_succ, V.int.injEq, V.bl.injEq, V.str.injEq, V.ref.injEq, V.ty.injEq, List.cons.injEq, Option.some.injEq, and_true, true_and, exists_eq_left', exists_and_left, sp__law_draw, sp__law_size]
      exact ⟨ns, hS2, fun v H' s' k' => hR _ _ ⟨v, k', s', rfl⟩⟩
    rintro _ H4 ⟨v3, k3, s3, rfl⟩
    have hS4 := s3.seq hS2
    replace k1 := (k1.same s2).same s3
    replace k2 := k2.same s3
    refine seq_mid (fun σ' H' => ∃ gd : Bool, (gd = true ↔ wi v1 1 6 = true ∧ wi v2 4 2000 = true ∧ wi v3 2 500 = true) ∧ H4 = H' ∧ σ' = [some (V.ref a), some (v1), some (v2), some (v3), some (V.bl gd), none, none, none, none, none, none, none, none]) (fun R hR => ?_) ?_
    · simp only [tAndV, tCons, tNil, tC, cVar, tAsg, gName, tCallE, and_assoc, List.getElem?_cons_zero, List.getElem?_cons_succ, List.set_cons_zero, List.set_cons_succ, V.int.injEq, V.bl.injEq, V.str.injEq, V.ref.injEq, V.ty.injEq, List.cons.injEq, Option.some.injEq, and_true, exists_eq_left', exists_and_left, sp__law_fits]
      refine ⟨k1, ?_⟩
      by_cases c1 : wi v1 1 6 = true
      · rw [if_pos c1]
        refine ⟨k2, ?_⟩
        by_cases c2 : wi v2 4 2000 = true
        · rw [if_pos c2]
          exact ⟨k3, hR _ _ ⟨_, ⟨fun z => ⟨c1, c2, z⟩, fun z => z.2.2⟩, rfl, rfl⟩⟩
        · rw [if_neg c2]
          exact hR _ _ ⟨false, ⟨fun z => (by cases z), fun z => absurd z.2.1 c2⟩, rfl, rfl⟩
      · rw [if_neg c1]
        exact hR _ _ ⟨false, ⟨fun z => (by cases z), fun z => absurd z.1 c1⟩, rfl, rfl⟩
    rintro _ _ ⟨gd, hg, rfl, rfl⟩
    refine seq_mid (fun σ' H' => Same H4 H' ∧ σ' = [some (V.ref a), some (v1), some (v2), some (v3), some (V.bl gd), none, none, none, none, none, none, none, none]) (fun R hR => ?_) ?_
    · simp only [tRet, tNext, tIfS, tTest, tOp, tCB, tCons, tNil, tC, cVar, tLst, tCallE, eqv, rIxM, cInt, and_assoc, Int.reduceAdd, Bool.not_eq_true', upd_same, cNeA, cNeL, List.length_cons, List.length_nil, List.getElem?_cons_zero, List.getElem?_cons_succ, V.int.injEq, V.bl.injEq, V.str.injEq, V.ref.injEq, V.ty.injEq, List.cons.injEq, Option.some.injEq, and_true, true_and, exists_eq_left', exists_and_left, Nat.reduceAdd, sz2, sp__law_is_heap]
      refine ⟨k1, k2, k3, ?_⟩
      by_cases c : wi v1 1 6 = true ∧ wi v2 4 2000 = true ∧ wi v3 2 500 = true
      · rw [if_pos c]
        obtain rfl : gd = true := hg.mpr c
        intro H' s' p hp
        rw [rm_upd hp, show atI [V.str (Str.ofString "count"), V.str (Str.ofString "")] (if true = true then 1 else 0) = some (V.str (Str.ofString "")) from rfl]
        dsimp only
        rw [decide_eq_true rfl, if_neg (by intro z; cases z)]
        exact hR _ _ ⟨s', rfl⟩
      · rw [if_neg c]
        obtain rfl : gd = false := by cases gd; rfl; exact absurd (hg.mp rfl) c
        intro H' s' p hp
        rw [rm_upd hp, show atI [V.str (Str.ofString "count"), V.str (Str.ofString "")] (if false = true then 1 else 0) = some (V.str (Str.ofString "count")) from rfl]
        dsimp only
        rw [decide_eq_true rfl, if_neg (by intro z; cases z)]
        exact hR _ _ ⟨s', rfl⟩
    rintro _ H5 ⟨s5, rfl⟩
    clear k1 k2 k3
    refine seq_mid (fun σ' H' => ∃ X : HA, HeAt A.c_Heap A.c_Roots A.c_Hands A.c_Book A.c_Areas A.c_Memory A.c_Space H' X (HS.new 3 40 30) ∧ Same H5 H' ∧ (H5 X.qh = none ∧ H5 X.d = none ∧ H5 X.q = none ∧ H5 X.o = none ∧ H5 X.y = none) ∧ σ' = [some (V.ref a), some (v1), some (v2), some (v3), some (V.bl gd), some (V.ref X.p), none, none, none, none, none, none, none]) (fun R hR => ?_) ?_
    · simp only [tCons, tNil, tC, tAsg, gName, and_assoc, upd_same, tMakeE, List.set_cons_zero, List.set_cons_succ, V.int.injEq, V.bl.injEq, V.str.injEq, V.ref.injEq, V.ty.injEq, List.cons.injEq, Option.some.injEq, and_true, true_and, exists_eq_left', exists_and_left, sp_Heap_init]
      intro p dx hp hdx ne
      have s0 : Same H5 (upd (upd H5 dx (HO.own p)) p (HO.ins A.c_Heap dx [])) := fun b u eb => by rw [upd_ne (ne_of_none eb hp), upd_ne (ne_of_none eb hdx)]; exact eb
      refine ⟨dx, rfl, True.intro, True.intro, True.intro, ?_⟩
      rw [if_pos (by decide)]
      intro X H' hX he f' fr
      rw [← hX]
      have un : ∀ {z : Addr}, upd (upd H5 dx (HO.own p)) p (HO.ins A.c_Heap dx []) z = none → H5 z = none := fun hz => (upd_none (upd_none hz).2).2
      exact hR _ _ ⟨X, he, fun b u eb => f' b u (s0 b u eb) (ne_of_none eb hp), ⟨un fr.1, un fr.2.1, un fr.2.2.1, un fr.2.2.2.1, un fr.2.2.2.2⟩, rfl⟩
    rintro _ H6 ⟨X, he, s6, ⟨f1, f2, f3, f4, f5⟩, rfl⟩
    have ok0 : (HS.new 3 40 30).Ok := (RowsOk.new (n := 3) (by decide) (by decide) (by decide)).Ok (by decide)
    have ok1r := (RowsOk.new (n := 3) (o := 40) (y := 30) (by decide) (by decide) (by decide)).made (a := a) (i := 0) (n := 2) (by decide) (by decide) (by decide)
    have ok1 : (HS.made (HS.new 3 40 30) 0 2).Ok := ok1r.Ok (by decide)
    have ok2 : HS.Ok S18 := (ok1r.hold (WOk.num (n := 7) (by decide) (by decide))).Ok (by decide)
    have step : ∀ {G G' : Hp}, Same H5 G → (∀ b o, G b = some o → b ≠ X.q → b ≠ X.qh → b ≠ X.o → b ≠ X.y → b ≠ X.d → G' b = some o) → Same H5 G' := fun {G G'} s k b o eb => k b o (s b o eb) (ne_of_none eb f3) (ne_of_none eb f1) (ne_of_none eb f4) (ne_of_none eb f5) (ne_of_none eb f2)
    refine seq_mid (fun σ' H' => HeAt A.c_Heap A.c_Roots A.c_Hands A.c_Book A.c_Areas A.c_Memory A.c_Space H' X (HS.made (HS.new 3 40 30) 0 2) ∧ Same H5 H' ∧ σ' = [some (V.ref a), some (v1), some (v2), some (v3), some (V.bl gd), some (V.ref X.p), none, none, none, none, none, none, none]) (fun R hR => ?_) ?_
    · obtain ⟨d0, e0⟩ := he.ob
      simp only [tDrop, tCons, tNil, tC, cVar, and_assoc, cMethE, List.getElem?_cons_zero, List.getElem?_cons_succ, V.int.injEq, V.bl.injEq, V.str.injEq, V.ref.injEq, V.ty.injEq, List.cons.injEq, Option.some.injEq, and_true, true_and, exists_eq_left', exists_and_left, e0, gfl_make, sp_Heap_make]
      refine ⟨X, rfl, _, he, True.intro, True.intro, ok0, by decide, by decide +kernel, by decide, by decide +kernel, ?_⟩
      rw [if_pos (by decide), if_pos (by decide), if_pos (by decide)]
      exact fun H' h' f' => hR _ _ ⟨h', step s6 fun b o eb m1 m2 m3 m4 _ => f' b o eb m1 m2 m3 m4, rfl⟩
    clear he s6
    rintro _ H6 ⟨he, s6, rfl⟩
    refine seq_mid (fun σ' H' => HeAt A.c_Heap A.c_Roots A.c_Hands A.c_Book A.c_Areas A.c_Memory A.c_Space H' X S18 ∧ Same H5 H' ∧ σ' = [some (V.ref a), some (v1), some (v2), some (v3), some (V.bl gd), some (V.ref X.p), none, none, none, none, none, none, none]) (fun R hR => ?_) ?_
    · obtain ⟨d0, e0⟩ := he.ob
      simp only [tDrop, tCons, tNil, tC, cVar, and_assoc, cMethE, List.getElem?_cons_zero, List.getElem?_cons_succ, V.int.injEq, V.bl.injEq, V.str.injEq, V.ref.injEq, V.ty.injEq, List.cons.injEq, Option.some.injEq, and_true, true_and, exists_eq_left', exists_and_left, e0, gfl_hold, sp_Heap_hold]
      refine ⟨X, rfl, _, he, True.intro, True.intro, ?_⟩
      rw [if_pos (by decide)]
      rw [kd_is, if_neg (by decide), if_pos (by decide)]
      exact fun H' h' f' => hR _ _ ⟨h', step s6 fun b o eb _ m2 _ _ _ => f' b o eb m2, rfl⟩
    clear he s6
    rintro _ H6 ⟨he, s6, rfl⟩
    refine seq_mid (fun σ' H' => HeAt A.c_Heap A.c_Roots A.c_Hands A.c_Book A.c_Areas A.c_Memory A.c_Space H' X S19 ∧ Same H5 H' ∧ σ' = [some (V.ref a), some (v1), some (v2), some (v3), some (V.bl gd), some (V.ref X.p), none, none, none, none, none, none, none]) (fun R hR => ?_) ?_
    · obtain ⟨d0, e0⟩ := he.ob
      simp only [tDrop, tCons, tNil, tC, cVar, and_assoc, cMethE, List.getElem?_cons_zero, List.getElem?_cons_succ, V.int.injEq, V.bl.injEq, V.str.injEq, V.ref.injEq, V.ty.injEq, List.cons.injEq, Option.some.injEq, and_true, true_and, exists_eq_left', exists_and_left, e0, gfl_put, gfl_held, sp_Heap_held, sp_Heap_put]
      refine ⟨X, rfl, S18, he, True.intro, ?_⟩
      have w0 : S18.w (iv (V.int 0)) = 81 := by decide +kernel
      have c18 : cellN S18.ws 40 = some 8 := by decide +kernel
      rw [if_pos (by decide +kernel), w0]
      refine ⟨X, rfl, S18, he, True.intro, True.intro, True.intro, ok2, ?_⟩
      rw [w0, if_pos (by decide +kernel), if_pos (by decide)]
      intro n hn
      have hn' : cellN S18.ws 40 = some n := hn
      rw [c18] at hn'
      cases hn'
      rw [if_pos (by decide), kd_is, if_neg (by decide), if_neg (by decide), if_pos (by decide)]
      exact fun H' h' f' => hR _ _ ⟨h', step s6 fun b o eb m1 _ _ _ m5 => f' b o eb m1 m5, rfl⟩
    clear he s6 ok0 ok1r ok1 ok2
    rintro _ H6 ⟨he, s6, rfl⟩
    have hs3 := h19
    generalize S19 = S at *
    have hS6 := s6.seq (s5.seq hS4)
    refine seq_mid (fun σ' H' => ∃ lb, StAt H' S lb ∧ Same H6 H' ∧ σ' = [some (V.ref a), some (v1), some (v2), some (v3), some (V.bl gd), some (V.ref X.p), some (V.ref lb), none, none, none, none, none, none]) (fun R hR => ?_) ?_
    · simp only [tCons, tNil, cVar, tAsg, gName, tCallE, List.getElem?_cons_zero, List.getElem?_cons_succ, List.set_cons_zero, List.set_cons_succ, V.int.injEq, V.bl.injEq, V.str.injEq, V.ref.injEq, V.ty.injEq, List.cons.injEq, Option.some.injEq, and_true, exists_and_left, sp__law_state]
      exact ⟨X, rfl, S, he, hs3, fun l H' s' st => hR _ _ ⟨l, st, s', rfl⟩⟩
    rintro _ H7 ⟨lb, st, s7, rfl⟩
    replace he := he.same s7
    have hS7 := s7.seq hS6
    refine seq_mid (fun σ' H' => ∃ w : Int, 0 ≤ w ∧ w ≤ 6 ∧ H7 = H' ∧ σ' = [some (V.ref a), some (v1), some (v2), some (v3), some (V.bl gd), some (V.ref X.p), some (V.ref lb), some (V.int w), none, none, none, none, none]) (fun R hR => ?_) ?_
    · simp only [tOp, tCons, tNil, tC, cVar, tAsg, gName, tCallE, cMod, and_assoc, Int.reduceLT, Nat.reduceLT, Int.reduceLE, List.getElem?_cons_zero, List.set_cons_zero, List.set_cons_succ, V.int.injEq, V.bl.injEq, V.str.injEq, V.ref.injEq, V.ty.injEq, List.cons.injEq, Option.some.injEq, and_true, true_and, exists_eq_left', exists_and_left, sp__law_draw]
      exact ⟨ns, hS7, hR _ _ ⟨_, by omega, by omega, rfl, rfl⟩⟩
    rintro _ _ ⟨w, w0, w6, rfl, rfl⟩
    refine seq_mid (fun σ' H' => ∃ v : V, Kn H' v ∧ Same H7 H' ∧ σ' = [some (V.ref a), some (v1), some (v2), some (v3), some (V.bl gd), some (V.ref X.p), some (V.ref lb), some (V.int w), some (v), none, none, none, none]) (fun R hR => ?_) ?_
    · simp only [tOp, tUn, tCons, tNil, tC, cVar, tLst, tAsg, gName, tCallE, cMod, cPow, cNeg, rIxM, and_assoc, CPow, Int.reduceLT, Nat.reduceLT, Int.reduceLE, Int.reduceNeg, Int.reducePow, Int.reduceToNat, Int.reduceAdd, upd_same, List.length_cons, List.length_nil, List.getElem?_cons_zero, List.set_cons_zero, List.set_cons_succ, V.int.injEq, V.bl.injEq, V.str.injEq, V.ref.injEq, V.ty.injEq, List.cons.injEq, Option.some.injEq, and_true, true_and, exists_eq_left', exists_and_left, Nat.reduceAdd, sz1, sz13, sp__law_draw]
      refine ⟨by decide, fun p hp p1 hp1 => ⟨ns, ((Same.upd hp).trans (Same.upd hp1)).seq hS7, ?_⟩⟩
      obtain ⟨v, hv, e⟩ := menu_at (xs := [V.int (-1), V.int 0, V.int 0, V.int 0, V.int 1, V.int 2, V.int 3, V.bl true, V.non, V.str (Str.ofString "0"), V.bl false, V.int 100000000000000000000, V.ref p]) (k := cat ns 4 % 13) (by omega) (by show _ < (13 : Int); omega)
      rw [e]
      dsimp only
      rw [rm_upd hp1]
      simp only [List.mem_cons, List.not_mem_nil, or_false] at hv
      refine hR _ _ ⟨v, ?_, Same.upd hp, rfl⟩
      rcases hv with rfl | rfl | rfl | rfl | rfl | rfl | rfl | rfl | rfl | rfl | rfl | rfl | rfl <;> first | exact True.intro | exact .inl ⟨_, upd_same⟩
    rintro _ H8 ⟨v, kv, s8, rfl⟩
    have hS8 := s8.seq hS7
    refine seq_mid (fun σ' H' => ∃ u : V, Kn H' u ∧ Same H8 H' ∧ σ' = [some (V.ref a), some (v1), some (v2), some (v3), some (V.bl gd), some (V.ref X.p), some (V.ref lb), some (V.int w), some (v), some (u), none, none, none]) (fun R hR => ?_) ?_
    · simp only [tOp, tUn, tCons, tNil, tC, cVar, tLst, tAsg, gName, tCallE, cMod, cPow, cNeg, rIxM, and_assoc, CPow, Int.reduceLT, Nat.reduceLT, Int.reduceLE, Int.reduceNeg, Int.reducePow, Int.reduceToNat, Int.reduceAdd, upd_same, List.length_cons, List.length_nil, List.getElem?_cons_zero, List.set_cons_zero, List.set_cons_succ, V.int.injEq, V.bl.injEq, V.str.injEq, V.ref.injEq, V.ty.injEq, List.cons.injEq, Option.some.injEq, and_true, true_and, exists_eq_left', exists_and_left, Nat.reduceAdd, sz1, sz13, sp__law_draw]
      refine ⟨by decide, fun p hp p1 hp1 => ⟨ns, ((Same.upd hp).trans (Same.upd hp1)).seq hS8, ?_⟩⟩
      obtain ⟨v, hv, e⟩ := menu_at (xs := [V.int (-1), V.int 0, V.int 1, V.int 2, V.int 3, V.int 8, V.int 9, V.bl true, V.non, V.str (Str.ofString "1"), V.bl false, V.int 100000000000000000000, V.ref p]) (k := cat ns 5 % 13) (by omega) (by show _ < (13 : Int); omega)
      rw [e]
      dsimp only
      rw [rm_upd hp1]
      simp only [List.mem_cons, List.not_mem_nil, or_false] at hv
      refine hR _ _ ⟨v, ?_, Same.upd hp, rfl⟩
      rcases hv with rfl | rfl | rfl | rfl | rfl | rfl | rfl | rfl | rfl | rfl | rfl | rfl | rfl <;> first | exact True.intro | exact .inl ⟨_, upd_same⟩
    rintro _ H9 ⟨u, ku, s9, rfl⟩
    have hS9 := s9.seq hS8
    refine seq_mid (fun σ' H' => ∃ b : Bool, H9 = H' ∧ σ' = [some (V.ref a), some (v1), some (v2), some (v3), some (V.bl gd), some (V.ref X.p), some (V.ref lb), some (V.int w), some (v), some (u), some (V.bl b), none, none]) (fun R hR => ?_) ?_
    · simp only [tOp, tCons, tNil, tC, cVar, tAsg, gName, tCallE, cMod, eqv, and_assoc, Int.reduceLT, Nat.reduceLT, Int.reduceLE, cEqA, List.getElem?_cons_zero, List.set_cons_zero, List.set_cons_succ, V.int.injEq, V.bl.injEq, V.str.injEq, V.ref.injEq, V.ty.injEq, List.cons.injEq, Option.some.injEq, and_true, true_and, exists_eq_left', exists_and_left, sp__law_draw]
      exact ⟨ns, hS9, hR _ _ ⟨_, rfl, rfl⟩⟩
    rintro _ _ ⟨b, rfl, rfl⟩
    refine seq_mid (fun σ' H' => ∃ m : Int, 0 ≤ m ∧ m ≤ 999 ∧ H9 = H' ∧ σ' = [some (V.ref a), some (v1), some (v2), some (v3), some (V.bl gd), some (V.ref X.p), some (V.ref lb), some (V.int w), some (v), some (u), some (V.bl b), some (V.int (2 * m)), none]) (fun R hR => ?_) ?_
    · simp only [tOp, tCons, tNil, tC, cVar, tAsg, gName, tCallE, cMul, cFdiv, cMod, and_assoc, CDiv, CMul, true_or, Int.reduceLT, Nat.reduceLT, Int.reduceLE, Int.reduceNeg, Int.reducePow, List.getElem?_cons_zero, List.set_cons_zero, List.set_cons_succ, V.int.injEq, V.bl.injEq, V.str.injEq, V.ref.injEq, V.ty.injEq, List.cons.injEq, Option.some.injEq, and_true, true_and, exists_eq_left', exists_and_left, sp__law_draw]
      exact ⟨ns, hS9, hR _ _ ⟨_, by omega, by omega, rfl, rfl⟩⟩
    rintro _ _ ⟨m, m0, m1, rfl, rfl⟩
    refine seq_mid (fun σ' H' => ∃ x : V, Kn H' x ∧ (kd x).isSome = b ∧ Same H9 H' ∧ σ' = [some (V.ref a), some (v1), some (v2), some (v3), some (V.bl gd), some (V.ref X.p), some (V.ref lb), some (V.int w), some (v), some (u), some (V.bl b), some (x), none]) (fun R hR => ?_) ?_
    · cases b with
      | true =>
        simp only [tNext, tIfS, tOp, tUn, tNot, tCons, tNil, tC, cVar, tLst, tAsg, gName, tCallE, cAdd, cMul, cFdiv, cMod, cPow, cNeg, rIxM, TruV, and_assoc, CDiv, CMul, CPow, or_true, Int.reduceLT, Nat.reduceMul, Nat.reduceLT, Int.reduceLE, Int.reduceNeg, Int.reducePow, Int.reduceToNat, Int.reduceMul, Int.reduceAdd, Bool.not_eq_true', Bool.true_eq_false, List.length_cons, List.length_nil, List.getElem?_cons_zero, List.getElem?_cons_succ, List.set_cons_zero, List.set_cons_succ, and_true, true_and, exists_eq_left, ite_false, Nat.reduceAdd, sz1, sz8]
        exact hR _ _ ⟨.int (2 * m), True.intro, by rw [kd_is, if_neg (by omega), if_pos (by omega)]; rfl, Same.refl _, rfl⟩
      | false =>
        simp only [tNext, tIfS, tOp, tUn, tNot, tCons, tNil, tC, cVar, tLst, tAsg, gName, tCallE, cAdd, cMul, cFdiv, cMod, cPow, cNeg, rIxM, TruV, and_assoc, CDiv, CMul, CPow, or_true, Int.reduceLT, Nat.reduceMul, Nat.reduceLT, Int.reduceLE, Int.reduceNeg, Int.reducePow, Int.reduceToNat, Int.reduceMul, Int.reduceAdd, Bool.not_eq_true', upd_same, List.length_cons, List.length_nil, List.getElem?_cons_zero, List.getElem?_cons_succ, List.set_cons_zero, List.set_cons_succ, V.int.injEq, V.bl.injEq, V.str.injEq, V.ref.injEq, V.ty.injEq, List.cons.injEq, Option.some.injEq, and_true, true_and, exists_eq_left', exists_and_left, exists_eq_left, ite_true, Nat.reduceAdd, sz1, sz8, sp__law_draw]
        refine ⟨by decide, fun p hp p1 hp1 => ⟨ns, ((Same.upd hp).trans (Same.upd hp1)).seq hS9, ?_⟩⟩
        obtain ⟨x, hv, e⟩ := menu_at (xs := [V.int 2000000000002, V.int 20001, V.int (-3), V.bl true, V.non, V.str (Str.ofString "2"), V.ref p, V.bl false]) (k := cat ns 6 / 2 % 8) (by omega) (by show _ < (8 : Int); omega)
        rw [e]
        dsimp only
        rw [rm_upd hp1]
        simp only [List.mem_cons, List.not_mem_nil, or_false] at hv
        refine hR _ _ ⟨x, ?_, ?_, Same.upd hp, rfl⟩
        · rcases hv with rfl | rfl | rfl | rfl | rfl | rfl | rfl | rfl <;> first | exact True.intro | exact .inl ⟨_, upd_same⟩
        · rcases hv with rfl | rfl | rfl | rfl | rfl | rfl | rfl | rfl <;> first | (rw [kd_is, if_neg (by decide), if_neg (by decide), if_neg (by decide)]; rfl) | rfl
    rintro _ H10 ⟨x, kx, hb, s10, rfl⟩
    refine seq_mid (fun σ' H' => Same H10 H' ∧ σ' = [some (V.ref a), some (v1), some (v2), some (v3), some (V.bl gd), some (V.ref X.p), some (V.ref lb), some (V.int w), some (v), some (u), some (V.bl b), some (x), some (V.str (due19 w v u b))]) (fun R hR => ?_) ?_
    · simp only [tCons, tNil, cVar, tAsg, gName, tCallE, and_assoc, List.getElem?_cons_zero, List.getElem?_cons_succ, List.set_cons_zero, List.set_cons_succ, V.int.injEq, V.bl.injEq, V.str.injEq, V.ref.injEq, V.ty.injEq, List.cons.injEq, Option.some.injEq, and_true, exists_eq_left', exists_and_left, sp__law_due]
      exact ⟨kv.same (s9.trans s10), ku.same s10, w0, w6, fun H' s' => hR _ _ ⟨s', rfl⟩⟩
    rintro _ H11 ⟨s11, rfl⟩
    have sA := s8.trans (s9.trans (s10.trans s11))
    have he11 := he.same sA
    have kv11 := kv.same (s9.trans (s10.trans s11))
    have ku11 := ku.same (s10.trans s11)
    have kx11 := kx.same s11
    refine seq_mid (fun σ' H' => (due19 w v u b = Str.ofString "" ∨ Same H11 H') ∧ σ' = [some (V.ref a), some (v1), some (v2), some (v3), some (V.bl gd), some (V.ref X.p), some (V.ref lb), some (V.int w), some (v), some (u), some (V.bl b), some (x), some (V.str (due19 w v u b))]) (fun R hR => ?_) ?_
    · simp only [tRet, tNext, tIfS, tTest, tOp, tCons, tNil, tC, cVar, tCallE, eqv, and_assoc, Bool.not_eq_true', cNeA, decide_eq_false_iff_not, List.getElem?_cons_zero, List.getElem?_cons_succ, V.int.injEq, V.bl.injEq, V.str.injEq, V.ref.injEq, V.ty.injEq, List.cons.injEq, Option.some.injEq, and_true, exists_eq_left', exists_and_left, sp__law_call]
      refine ⟨X, rfl, S, he11, hs3, kv11, ku11, kx11, w0, w6, fun H' d => ?_⟩
      rw [hb] at d ⊢
      rw [if_neg (fun z => z rfl)]
      exact hR _ _ ⟨d, rfl⟩
    rintro _ H12 ⟨d, rfl⟩
    simp only [tRet, tOp, tAndV, tOrV, tCons, tNil, tC, cVar, tCallE, eqv, and_assoc, cEqA, cEqL, List.getElem?_cons_zero, List.getElem?_cons_succ, V.int.injEq, V.bl.injEq, V.str.injEq, V.ref.injEq, V.ty.injEq, List.cons.injEq, Option.some.injEq, and_true, exists_eq_left', exists_and_left, ite_false, Bool.false_eq_true, decide_eq_true_eq, sp__law_call, sp__law_state]
    by_cases z : due19 w v u b = Str.ofString ""
    · rw [if_pos z]
      exact h _
    · rw [if_neg z]
      have s12 : Same H11 H12 := d.resolve_left z
      refine ⟨X, rfl, S, he11.same s12, hs3, fun l H13 s13 st2 => ?_⟩
      obtain ⟨l1, l2, l3, a0, a1, a2, a3⟩ := st2
      obtain ⟨m1', m2', m3', b0, b1, b2, b3⟩ := st
      have sB : Same H7 H13 := sA.trans (s12.trans s13)
      rw [a0, sB _ _ b0]
      dsimp only
      rw [if_pos (show [V.ref l1, V.ref l2, V.ref l3].length = [V.ref m1', V.ref m2', V.ref m3'].length from rfl)]
      have dd : allO (List.zipWith (deq H13 2) [V.ref l1, V.ref l2, V.ref l3] [V.ref m1', V.ref m2', V.ref m3']) = some true := by
        show allO [deq H13 2 (V.ref l1) (V.ref m1'), deq H13 2 (V.ref l2) (V.ref m2'), deq H13 2 (V.ref l3) (V.ref m3')] = some true
        rw [deq_ref a1 (sB _ _ b1), deq_ref a2 (sB _ _ b2), deq_ref a3 (sB _ _ b3)]
        rfl
      rw [dd]
      dsimp only
      rw [if_pos rfl]
      refine ⟨X, rfl, S, (he11.same s12).same s13, hs3, kv11.same (s12.trans s13), ku11.same (s12.trans s13), kx11.same (s12.trans s13), w0, w6, fun H14 _ => ?_⟩
      rw [hb, decide_eq_true rfl]
      exact h _

theorem all_mk {l : PySem.W.OpenLaw} {w : World} {K : PySem.W.Frag} {h : Heap} {mg : Str → Option Value} {fa f_is_whole f_Space_init f_Space_room f_Space_extent f_Book_init f_Book_places f_Lasts_init f_Weak_init f__law_draw f__law_alone f__law_size f__law_fits f_is_within f_Space_take f_Heap_is_for_young f__law_due f_is_number f_is_place f_want_slots f_is_head f_fits f_Memory_init f_Memory_want_place f_Space_has f_Hands_init f_Hands_want_hand f_want_number f_want_place f_kind f_Memory_read f_Hands_get f_Heap_want_hand f_number_word f_place_word f_worth f_Memory_write f_Areas_init f_Book_write f_Book_has f_Hands_put f_Roots_init f_Heap_held f_Heap_want_make f_head_word f_head_number f_Book_rub f_is_of_young f_Heap_hold f_Heap_cell_of f_lay f_slots_of f_Heap_init f_Heap_drop f_Heap_note f_aged f_slot_place f_Areas_lay_into f_Heap_place_of f__law_is_heap f_Areas_lay_young f_Areas_lay_old f_Heap_get f_Heap_put f_Heap_make f__law_state f__law_call f_law c_KeepError c_BadNumber c_BadWord c_BadCount c_NoPlace c_NoRoom c_NoSlot c_NoCell c_NoHand c_NothingHeld c_NoName c_NoDeed c_NoImage c_NoProgram c_Memory c_Space c_Areas c_Book c_Hands c_Lasts c_Weak c_Roots c_Heap : Addr} {oc_is_whole kV_is_whole dc_is_whole pm_is_whole cd_is_whole ct_is_whole oc_Space_init kV_Space_init dc_Space_init pm_Space_init cd_Space_init ct_Space_init oc_Space_room kV_Space_room dc_Space_room pm_Space_room cd_Space_room ct_Space_room oc_Space_extent kV_Space_extent dc_Space_extent pm_Space_extent cd_Space_extent ct_Space_extent oc_Book_init kV_Book_init dc_Book_init pm_Book_init cd_Book_init ct_Book_init oc_Book_places kV_Book_places dc_Book_places pm_Book_places cd_Book_places ct_Book_places oc_Lasts_init kV_Lasts_init dc_Lasts_init pm_Lasts_init cd_Lasts_init ct_Lasts_init oc_Weak_init kV_Weak_init dc_Weak_init pm_Weak_init cd_Weak_init ct_Weak_init oc__law_draw kV__law_draw dc__law_draw pm__law_draw cd__law_draw ct__law_draw oc__law_alone kV__law_alone dc__law_alone pm__law_alone cd__law_alone ct__law_alone oc__law_size kV__law_size dc__law_size pm__law_size cd__law_size ct__law_size oc__law_fits kV__law_fits dc__law_fits pm__law_fits cd__law_fits ct__law_fits oc_is_within kV_is_within dc_is_within pm_is_within cd_is_within ct_is_within oc_Space_take kV_Space_take dc_Space_take pm_Space_take cd_Space_take ct_Space_take oc_Heap_is_for_young kV_Heap_is_for_young dc_Heap_is_for_young pm_Heap_is_for_young cd_Heap_is_for_young ct_Heap_is_for_young oc__law_due kV__law_due dc__law_due pm__law_due cd__law_due ct__law_due oc_is_number kV_is_number dc_is_number pm_is_number cd_is_number ct_is_number oc_is_place kV_is_place dc_is_place pm_is_place cd_is_place ct_is_place oc_want_slots kV_want_slots dc_want_slots pm_want_slots cd_want_slots ct_want_slots oc_is_head kV_is_head dc_is_head pm_is_head cd_is_head ct_is_head oc_fits kV_fits dc_fits pm_fits cd_fits ct_fits oc_Memory_init kV_Memory_init dc_Memory_init pm_Memory_init cd_Memory_init ct_Memory_init oc_Memory_want_place kV_Memory_want_place dc_Memory_want_place pm_Memory_want_place cd_Memory_want_place ct_Memory_want_place oc_Space_has kV_Space_has dc_Space_has pm_Space_has cd_Space_has ct_Space_has oc_Hands_init kV_Hands_init dc_Hands_init pm_Hands_init cd_Hands_init ct_Hands_init oc_Hands_want_hand kV_Hands_want_hand dc_Hands_want_hand pm_Hands_want_hand cd_Hands_want_hand ct_Hands_want_hand oc_want_number kV_want_number dc_want_number pm_want_number cd_want_number ct_want_number oc_want_place kV_want_place dc_want_place pm_want_place cd_want_place ct_want_place oc_kind kV_kind dc_kind pm_kind cd_kind ct_kind oc_Memory_read kV_Memory_read dc_Memory_read pm_Memory_read cd_Memory_read ct_Memory_read oc_Hands_get kV_Hands_get dc_Hands_get pm_Hands_get cd_Hands_get ct_Hands_get oc_Heap_want_hand kV_Heap_want_hand dc_Heap_want_hand pm_Heap_want_hand cd_Heap_want_hand ct_Heap_want_hand oc_number_word kV_number_word dc_number_word pm_number_word cd_number_word ct_number_word oc_place_word kV_place_word dc_place_word pm_place_word cd_place_word ct_place_word oc_worth kV_worth dc_worth pm_worth cd_worth ct_worth oc_Memory_write kV_Memory_write dc_Memory_write pm_Memory_write cd_Memory_write ct_Memory_write oc_Areas_init kV_Areas_init dc_Areas_init pm_Areas_init cd_Areas_init ct_Areas_init oc_Book_write kV_Book_write dc_Book_write pm_Book_write cd_Book_write ct_Book_write oc_Book_has kV_Book_has dc_Book_has pm_Book_has cd_Book_has ct_Book_has oc_Hands_put kV_Hands_put dc_Hands_put pm_Hands_put cd_Hands_put ct_Hands_put oc_Roots_init kV_Roots_init dc_Roots_init pm_Roots_init cd_Roots_init ct_Roots_init oc_Heap_held kV_Heap_held dc_Heap_held pm_Heap_held cd_Heap_held ct_Heap_held oc_Heap_want_make kV_Heap_want_make dc_Heap_want_make pm_Heap_want_make cd_Heap_want_make ct_Heap_want_make oc_head_word kV_head_word dc_head_word pm_head_word cd_head_word ct_head_word oc_head_number kV_head_number dc_head_number pm_head_number cd_head_number ct_head_number oc_Book_rub kV_Book_rub dc_Book_rub pm_Book_rub cd_Book_rub ct_Book_rub oc_is_of_young kV_is_of_young dc_is_of_young pm_is_of_young cd_is_of_young ct_is_of_young oc_Heap_hold kV_Heap_hold dc_Heap_hold pm_Heap_hold cd_Heap_hold ct_Heap_hold oc_Heap_cell_of kV_Heap_cell_of dc_Heap_cell_of pm_Heap_cell_of cd_Heap_cell_of ct_Heap_cell_of oc_lay kV_lay dc_lay pm_lay cd_lay ct_lay oc_slots_of kV_slots_of dc_slots_of pm_slots_of cd_slots_of ct_slots_of oc_Heap_init kV_Heap_init dc_Heap_init pm_Heap_init cd_Heap_init ct_Heap_init oc_Heap_drop kV_Heap_drop dc_Heap_drop pm_Heap_drop cd_Heap_drop ct_Heap_drop oc_Heap_note kV_Heap_note dc_Heap_note pm_Heap_note cd_Heap_note ct_Heap_note oc_aged kV_aged dc_aged pm_aged cd_aged ct_aged oc_slot_place kV_slot_place dc_slot_place pm_slot_place cd_slot_place ct_slot_place oc_Areas_lay_into kV_Areas_lay_into dc_Areas_lay_into pm_Areas_lay_into cd_Areas_lay_into ct_Areas_lay_into oc_Heap_place_of kV_Heap_place_of dc_Heap_place_of pm_Heap_place_of cd_Heap_place_of ct_Heap_place_of oc__law_is_heap kV__law_is_heap dc__law_is_heap pm__law_is_heap cd__law_is_heap ct__law_is_heap oc_Areas_lay_young kV_Areas_lay_young dc_Areas_lay_young pm_Areas_lay_young cd_Areas_lay_young ct_Areas_lay_young oc_Areas_lay_old kV_Areas_lay_old dc_Areas_lay_old pm_Areas_lay_old cd_Areas_lay_old ct_Areas_lay_old oc_Heap_get kV_Heap_get dc_Heap_get pm_Heap_get cd_Heap_get ct_Heap_get oc_Heap_put kV_Heap_put dc_Heap_put pm_Heap_put cd_Heap_put ct_Heap_put oc_Heap_make kV_Heap_make dc_Heap_make pm_Heap_make cd_Heap_make ct_Heap_make oc__law_state kV__law_state dc__law_state pm__law_state cd__law_state ct__law_state oc__law_call kV__law_call dc__law_call pm__law_call cd__law_call ct__law_call oc_law kV_law dc_law pm_law cd_law ct_law : Value} {od_is_whole an_is_whole : Option Addr} {sl_is_whole : Array (Option Value)} {od_Space_init an_Space_init : Option Addr} {sl_Space_init : Array (Option Value)} {od_Space_room an_Space_room : Option Addr} {sl_Space_room : Array (Option Value)} {od_Space_extent an_Space_extent : Option Addr} {sl_Space_extent : Array (Option Value)} {od_Book_init an_Book_init : Option Addr} {sl_Book_init : Array (Option Value)} {od_Book_places an_Book_places : Option Addr} {sl_Book_places : Array (Option Value)} {od_Lasts_init an_Lasts_init : Option Addr} {sl_Lasts_init : Array (Option Value)} {od_Weak_init an_Weak_init : Option Addr} {sl_Weak_init : Array (Option Value)} {od__law_draw an__law_draw : Option Addr} {sl__law_draw : Array (Option Value)} {od__law_alone an__law_alone : Option Addr} {sl__law_alone : Array (Option Value)} {od__law_size an__law_size : Option Addr} {sl__law_size : Array (Option Value)} {od__law_fits an__law_fits : Option Addr} {sl__law_fits : Array (Option Value)} {od_is_within an_is_within : Option Addr} {sl_is_within : Array (Option Value)} {od_Space_take an_Space_take : Option Addr} {sl_Space_take : Array (Option Value)} {od_Heap_is_for_young an_Heap_is_for_young : Option Addr} {sl_Heap_is_for_young : Array (Option Value)} {od__law_due an__law_due : Option Addr} {sl__law_due : Array (Option Value)} {od_is_number an_is_number : Option Addr} {sl_is_number : Array (Option Value)} {od_is_place an_is_place : Option Addr} {sl_is_place : Array (Option Value)} {od_want_slots an_want_slots : Option Addr} {sl_want_slots : Array (Option Value)} {od_is_head an_is_head : Option Addr} {sl_is_head : Array (Option Value)} {od_fits an_fits : Option Addr} {sl_fits : Array (Option Value)} {od_Memory_init an_Memory_init : Option Addr} {sl_Memory_init : Array (Option Value)} {od_Memory_want_place an_Memory_want_place : Option Addr} {sl_Memory_want_place : Array (Option Value)} {od_Space_has an_Space_has : Option Addr} {sl_Space_has : Array (Option Value)} {od_Hands_init an_Hands_init : Option Addr} {sl_Hands_init : Array (Option Value)} {od_Hands_want_hand an_Hands_want_hand : Option Addr} {sl_Hands_want_hand : Array (Option Value)} {od_want_number an_want_number : Option Addr} {sl_want_number : Array (Option Value)} {od_want_place an_want_place : Option Addr} {sl_want_place : Array (Option Value)} {od_kind an_kind : Option Addr} {sl_kind : Array (Option Value)} {od_Memory_read an_Memory_read : Option Addr} {sl_Memory_read : Array (Option Value)} {od_Hands_get an_Hands_get : Option Addr} {sl_Hands_get : Array (Option Value)} {od_Heap_want_hand an_Heap_want_hand : Option Addr} {sl_Heap_want_hand : Array (Option Value)} {od_number_word an_number_word : Option Addr} {sl_number_word : Array (Option Value)} {od_place_word an_place_word : Option Addr} {sl_place_word : Array (Option Value)} {od_worth an_worth : Option Addr} {sl_worth : Array (Option Value)} {od_Memory_write an_Memory_write : Option Addr} {sl_Memory_write : Array (Option Value)} {od_Areas_init an_Areas_init : Option Addr} {sl_Areas_init : Array (Option Value)} {od_Book_write an_Book_write : Option Addr} {sl_Book_write : Array (Option Value)} {od_Book_has an_Book_has : Option Addr} {sl_Book_has : Array (Option Value)} {od_Hands_put an_Hands_put : Option Addr} {sl_Hands_put : Array (Option Value)} {od_Roots_init an_Roots_init : Option Addr} {sl_Roots_init : Array (Option Value)} {od_Heap_held an_Heap_held : Option Addr} {sl_Heap_held : Array (Option Value)} {od_Heap_want_make an_Heap_want_make : Option Addr} {sl_Heap_want_make : Array (Option Value)} {od_head_word an_head_word : Option Addr} {sl_head_word : Array (Option Value)} {od_head_number an_head_number : Option Addr} {sl_head_number : Array (Option Value)} {od_Book_rub an_Book_rub : Option Addr} {sl_Book_rub : Array (Option Value)} {od_is_of_young an_is_of_young : Option Addr} {sl_is_of_young : Array (Option Value)} {od_Heap_hold an_Heap_hold : Option Addr} {sl_Heap_hold : Array (Option Value)} {od_Heap_cell_of an_Heap_cell_of : Option Addr} {sl_Heap_cell_of : Array (Option Value)} {od_lay an_lay : Option Addr} {sl_lay : Array (Option Value)} {od_slots_of an_slots_of : Option Addr} {sl_slots_of : Array (Option Value)} {od_Heap_init an_Heap_init : Option Addr} {sl_Heap_init : Array (Option Value)} {od_Heap_drop an_Heap_drop : Option Addr} {sl_Heap_drop : Array (Option Value)} {od_Heap_note an_Heap_note : Option Addr} {sl_Heap_note : Array (Option Value)} {od_aged an_aged : Option Addr} {sl_aged : Array (Option Value)} {od_slot_place an_slot_place : Option Addr} {sl_slot_place : Array (Option Value)} {od_Areas_lay_into an_Areas_lay_into : Option Addr} {sl_Areas_lay_into : Array (Option Value)} {od_Heap_place_of an_Heap_place_of : Option Addr} {sl_Heap_place_of : Array (Option Value)} {od__law_is_heap an__law_is_heap : Option Addr} {sl__law_is_heap : Array (Option Value)} {od_Areas_lay_young an_Areas_lay_young : Option Addr} {sl_Areas_lay_young : Array (Option Value)} {od_Areas_lay_old an_Areas_lay_old : Option Addr} {sl_Areas_lay_old : Array (Option Value)} {od_Heap_get an_Heap_get : Option Addr} {sl_Heap_get : Array (Option Value)} {od_Heap_put an_Heap_put : Option Addr} {sl_Heap_put : Array (Option Value)} {od_Heap_make an_Heap_make : Option Addr} {sl_Heap_make : Array (Option Value)} {od__law_state an__law_state : Option Addr} {sl__law_state : Array (Option Value)} {od__law_call an__law_call : Option Addr} {sl__law_call : Array (Option Value)} {od_law an_law : Option Addr} {sl_law : Array (Option Value)} {t_NOTHING : Tok} {t_MOST_NUMBER : Tok} {t_MOST_PLACE : Tok} {t_MOST_SLOTS : Tok} {t_MOST_AGE : Tok} {t_MOST_WORDS : Tok} {t_LEAST_OLD_WORDS : Tok} {t_MOST_OLD_WORDS : Tok} {t_LEAST_YOUNG_WORDS : Tok} {t_MOST_YOUNG_WORDS : Tok} {t_MOST_HANDS : Tok}
    (X : K.In h) (G : h.Ns mainGlobals mg) (hfa : mg "law" = some (.ref fa))
    (g_KeepError : PySem.W.nsIn K mainGlobals "KeepError" = some (some (.ref c_KeepError)))
    (g_BadNumber : PySem.W.nsIn K mainGlobals "BadNumber" = some (some (.ref c_BadNumber)))
    (g_BadWord : PySem.W.nsIn K mainGlobals "BadWord" = some (some (.ref c_BadWord)))
    (g_BadCount : PySem.W.nsIn K mainGlobals "BadCount" = some (some (.ref c_BadCount)))
    (g_NoPlace : PySem.W.nsIn K mainGlobals "NoPlace" = some (some (.ref c_NoPlace)))
    (g_NoRoom : PySem.W.nsIn K mainGlobals "NoRoom" = some (some (.ref c_NoRoom)))
    (g_NoSlot : PySem.W.nsIn K mainGlobals "NoSlot" = some (some (.ref c_NoSlot)))
    (g_NoCell : PySem.W.nsIn K mainGlobals "NoCell" = some (some (.ref c_NoCell)))
    (g_NoHand : PySem.W.nsIn K mainGlobals "NoHand" = some (some (.ref c_NoHand)))
    (g_NothingHeld : PySem.W.nsIn K mainGlobals "NothingHeld" = some (some (.ref c_NothingHeld)))
    (g_NoName : PySem.W.nsIn K mainGlobals "NoName" = some (some (.ref c_NoName)))
    (g_NoDeed : PySem.W.nsIn K mainGlobals "NoDeed" = some (some (.ref c_NoDeed)))
    (g_NoImage : PySem.W.nsIn K mainGlobals "NoImage" = some (some (.ref c_NoImage)))
    (g_NoProgram : PySem.W.nsIn K mainGlobals "NoProgram" = some (some (.ref c_NoProgram)))
    (g_Memory : PySem.W.nsIn K mainGlobals "Memory" = some (some (.ref c_Memory)))
    (g_Space : PySem.W.nsIn K mainGlobals "Space" = some (some (.ref c_Space)))
    (g_Areas : PySem.W.nsIn K mainGlobals "Areas" = some (some (.ref c_Areas)))
    (g_Book : PySem.W.nsIn K mainGlobals "Book" = some (some (.ref c_Book)))
    (g_Hands : PySem.W.nsIn K mainGlobals "Hands" = some (some (.ref c_Hands)))
    (g_Lasts : PySem.W.nsIn K mainGlobals "Lasts" = some (some (.ref c_Lasts)))
    (g_Weak : PySem.W.nsIn K mainGlobals "Weak" = some (some (.ref c_Weak)))
    (g_Roots : PySem.W.nsIn K mainGlobals "Roots" = some (some (.ref c_Roots)))
    (g_Heap : PySem.W.nsIn K mainGlobals "Heap" = some (some (.ref c_Heap)))
    (pg_Memory : PySem.W.plainGet K c_Memory Str.empty = true)
    (hd_Memory : PySem.W.hasDictIn K c_Memory = true)
    (po_Memory : PySem.W.plainOver K c_Memory = true)
    (sa_Memory : PySem.W.findIn K (.ref c_Memory) "__setattr__" = some (some (.builtin "object.__setattr__")))
    (mk_Memory : PySem.W.makesIn K c_Memory = true)
    (kc_Memory : PySem.W.keepIn K (.ref c_Memory) = true)
    (na_Memory_size : PySem.W.findIn K (.ref c_Memory) "size" = some none)
    (na_Memory_words : PySem.W.findIn K (.ref c_Memory) "words" = some none)
    (pg_Space : PySem.W.plainGet K c_Space Str.empty = true)
    (hd_Space : PySem.W.hasDictIn K c_Space = true)
    (po_Space : PySem.W.plainOver K c_Space = true)
    (sa_Space : PySem.W.findIn K (.ref c_Space) "__setattr__" = some (some (.builtin "object.__setattr__")))
    (mk_Space : PySem.W.makesIn K c_Space = true)
    (kc_Space : PySem.W.keepIn K (.ref c_Space) = true)
    (na_Space_begin : PySem.W.findIn K (.ref c_Space) "begin" = some none)
    (na_Space_end : PySem.W.findIn K (.ref c_Space) "end" = some none)
    (na_Space_top : PySem.W.findIn K (.ref c_Space) "top" = some none)
    (pg_Areas : PySem.W.plainGet K c_Areas Str.empty = true)
    (hd_Areas : PySem.W.hasDictIn K c_Areas = true)
    (po_Areas : PySem.W.plainOver K c_Areas = true)
    (sa_Areas : PySem.W.findIn K (.ref c_Areas) "__setattr__" = some (some (.builtin "object.__setattr__")))
    (mk_Areas : PySem.W.makesIn K c_Areas = true)
    (kc_Areas : PySem.W.keepIn K (.ref c_Areas) = true)
    (na_Areas_memory : PySem.W.findIn K (.ref c_Areas) "memory" = some none)
    (na_Areas_old : PySem.W.findIn K (.ref c_Areas) "old" = some none)
    (na_Areas_young : PySem.W.findIn K (.ref c_Areas) "young" = some none)
    (na_Areas_spare : PySem.W.findIn K (.ref c_Areas) "spare" = some none)
    (pg_Book : PySem.W.plainGet K c_Book Str.empty = true)
    (hd_Book : PySem.W.hasDictIn K c_Book = true)
    (po_Book : PySem.W.plainOver K c_Book = true)
    (sa_Book : PySem.W.findIn K (.ref c_Book) "__setattr__" = some (some (.builtin "object.__setattr__")))
    (mk_Book : PySem.W.makesIn K c_Book = true)
    (kc_Book : PySem.W.keepIn K (.ref c_Book) = true)
    (na_Book_written : PySem.W.findIn K (.ref c_Book) "written" = some none)
    (pg_Hands : PySem.W.plainGet K c_Hands Str.empty = true)
    (hd_Hands : PySem.W.hasDictIn K c_Hands = true)
    (po_Hands : PySem.W.plainOver K c_Hands = true)
    (sa_Hands : PySem.W.findIn K (.ref c_Hands) "__setattr__" = some (some (.builtin "object.__setattr__")))
    (mk_Hands : PySem.W.makesIn K c_Hands = true)
    (kc_Hands : PySem.W.keepIn K (.ref c_Hands) = true)
    (na_Hands_words : PySem.W.findIn K (.ref c_Hands) "words" = some none)
    (pg_Lasts : PySem.W.plainGet K c_Lasts Str.empty = true)
    (hd_Lasts : PySem.W.hasDictIn K c_Lasts = true)
    (po_Lasts : PySem.W.plainOver K c_Lasts = true)
    (sa_Lasts : PySem.W.findIn K (.ref c_Lasts) "__setattr__" = some (some (.builtin "object.__setattr__")))
    (mk_Lasts : PySem.W.makesIn K c_Lasts = true)
    (kc_Lasts : PySem.W.keepIn K (.ref c_Lasts) = true)
    (na_Lasts_waiting : PySem.W.findIn K (.ref c_Lasts) "waiting" = some none)
    (na_Lasts_spoken : PySem.W.findIn K (.ref c_Lasts) "spoken" = some none)
    (pg_Weak : PySem.W.plainGet K c_Weak Str.empty = true)
    (hd_Weak : PySem.W.hasDictIn K c_Weak = true)
    (po_Weak : PySem.W.plainOver K c_Weak = true)
    (sa_Weak : PySem.W.findIn K (.ref c_Weak) "__setattr__" = some (some (.builtin "object.__setattr__")))
    (mk_Weak : PySem.W.makesIn K c_Weak = true)
    (kc_Weak : PySem.W.keepIn K (.ref c_Weak) = true)
    (na_Weak_told : PySem.W.findIn K (.ref c_Weak) "told" = some none)
    (pg_Roots : PySem.W.plainGet K c_Roots Str.empty = true)
    (hd_Roots : PySem.W.hasDictIn K c_Roots = true)
    (po_Roots : PySem.W.plainOver K c_Roots = true)
    (sa_Roots : PySem.W.findIn K (.ref c_Roots) "__setattr__" = some (some (.builtin "object.__setattr__")))
    (mk_Roots : PySem.W.makesIn K c_Roots = true)
    (kc_Roots : PySem.W.keepIn K (.ref c_Roots) = true)
    (na_Roots_hands : PySem.W.findIn K (.ref c_Roots) "hands" = some none)
    (na_Roots_book : PySem.W.findIn K (.ref c_Roots) "book" = some none)
    (na_Roots_weaks : PySem.W.findIn K (.ref c_Roots) "weaks" = some none)
    (na_Roots_lasts : PySem.W.findIn K (.ref c_Roots) "lasts" = some none)
    (pg_Heap : PySem.W.plainGet K c_Heap Str.empty = true)
    (hd_Heap : PySem.W.hasDictIn K c_Heap = true)
    (po_Heap : PySem.W.plainOver K c_Heap = true)
    (sa_Heap : PySem.W.findIn K (.ref c_Heap) "__setattr__" = some (some (.builtin "object.__setattr__")))
    (mk_Heap : PySem.W.makesIn K c_Heap = true)
    (kc_Heap : PySem.W.keepIn K (.ref c_Heap) = true)
    (na_Heap_roots : PySem.W.findIn K (.ref c_Heap) "roots" = some none)
    (na_Heap_areas : PySem.W.findIn K (.ref c_Heap) "areas" = some none)
    (g_is_whole : PySem.W.nsIn K mainGlobals "is_whole" = some (some (.ref f_is_whole)))
    (l_is_whole : K.lookup f_is_whole = some ⟨oc_is_whole, od_is_whole, .func (PySem.W.fnOf "is_whole" "is_whole" (defArgs s_is_whole) (defBody s_is_whole) (defScope s_is_whole) .none kV_is_whole dc_is_whole pm_is_whole an_is_whole cd_is_whole ct_is_whole), sl_is_whole⟩)
    (d_is_whole : PySem.W.codeIn K cd_is_whole "is_whole" = true)
    (k_is_whole : PySem.W.keepIn K (.ref f_is_whole) = true)
    (a_Space_init : PySem.W.findIn K (.ref c_Space) "__init__" = some (some (.ref f_Space_init)))
    (i_Space_init : PySem.W.isFn K (.ref f_Space_init) = true)
    (l_Space_init : K.lookup f_Space_init = some ⟨oc_Space_init, od_Space_init, .func (PySem.W.fnOf "__init__" "Space.__init__" (defArgs s_Space_init) (defBody s_Space_init) (defScope s_Space_init) .none kV_Space_init dc_Space_init pm_Space_init an_Space_init cd_Space_init ct_Space_init), sl_Space_init⟩)
    (d_Space_init : PySem.W.codeIn K cd_Space_init "Space.__init__" = true)
    (k_Space_init : PySem.W.keepIn K (.ref f_Space_init) = true)
    (a_Space_room : PySem.W.findIn K (.ref c_Space) "room" = some (some (.ref f_Space_room)))
    (i_Space_room : PySem.W.isFn K (.ref f_Space_room) = true)
    (l_Space_room : K.lookup f_Space_room = some ⟨oc_Space_room, od_Space_room, .func (PySem.W.fnOf "room" "Space.room" (defArgs s_Space_room) (defBody s_Space_room) (defScope s_Space_room) .none kV_Space_room dc_Space_room pm_Space_room an_Space_room cd_Space_room ct_Space_room), sl_Space_room⟩)
    (d_Space_room : PySem.W.codeIn K cd_Space_room "Space.room" = true)
    (k_Space_room : PySem.W.keepIn K (.ref f_Space_room) = true)
    (a_Space_extent : PySem.W.findIn K (.ref c_Space) "extent" = some (some (.ref f_Space_extent)))
    (i_Space_extent : PySem.W.isFn K (.ref f_Space_extent) = true)
    (l_Space_extent : K.lookup f_Space_extent = some ⟨oc_Space_extent, od_Space_extent, .func (PySem.W.fnOf "extent" "Space.extent" (defArgs s_Space_extent) (defBody s_Space_extent) (defScope s_Space_extent) .none kV_Space_extent dc_Space_extent pm_Space_extent an_Space_extent cd_Space_extent ct_Space_extent), sl_Space_extent⟩)
    (d_Space_extent : PySem.W.codeIn K cd_Space_extent "Space.extent" = true)
    (k_Space_extent : PySem.W.keepIn K (.ref f_Space_extent) = true)
    (a_Book_init : PySem.W.findIn K (.ref c_Book) "__init__" = some (some (.ref f_Book_init)))
    (i_Book_init : PySem.W.isFn K (.ref f_Book_init) = true)
    (l_Book_init : K.lookup f_Book_init = some ⟨oc_Book_init, od_Book_init, .func (PySem.W.fnOf "__init__" "Book.__init__" (defArgs s_Book_init) (defBody s_Book_init) (defScope s_Book_init) .none kV_Book_init dc_Book_init pm_Book_init an_Book_init cd_Book_init ct_Book_init), sl_Book_init⟩)
    (d_Book_init : PySem.W.codeIn K cd_Book_init "Book.__init__" = true)
    (k_Book_init : PySem.W.keepIn K (.ref f_Book_init) = true)
    (a_Book_places : PySem.W.findIn K (.ref c_Book) "places" = some (some (.ref f_Book_places)))
    (i_Book_places : PySem.W.isFn K (.ref f_Book_places) = true)
    (l_Book_places : K.lookup f_Book_places = some ⟨oc_Book_places, od_Book_places, .func (PySem.W.fnOf "places" "Book.places" (defArgs s_Book_places) (defBody s_Book_places) (defScope s_Book_places) .none kV_Book_places dc_Book_places pm_Book_places an_Book_places cd_Book_places ct_Book_places), sl_Book_places⟩)
    (d_Book_places : PySem.W.codeIn K cd_Book_places "Book.places" = true)
    (k_Book_places : PySem.W.keepIn K (.ref f_Book_places) = true)
    (a_Lasts_init : PySem.W.findIn K (.ref c_Lasts) "__init__" = some (some (.ref f_Lasts_init)))
    (i_Lasts_init : PySem.W.isFn K (.ref f_Lasts_init) = true)
    (l_Lasts_init : K.lookup f_Lasts_init = some ⟨oc_Lasts_init, od_Lasts_init, .func (PySem.W.fnOf "__init__" "Lasts.__init__" (defArgs s_Lasts_init) (defBody s_Lasts_init) (defScope s_Lasts_init) .none kV_Lasts_init dc_Lasts_init pm_Lasts_init an_Lasts_init cd_Lasts_init ct_Lasts_init), sl_Lasts_init⟩)
    (d_Lasts_init : PySem.W.codeIn K cd_Lasts_init "Lasts.__init__" = true)
    (k_Lasts_init : PySem.W.keepIn K (.ref f_Lasts_init) = true)
    (a_Weak_init : PySem.W.findIn K (.ref c_Weak) "__init__" = some (some (.ref f_Weak_init)))
    (i_Weak_init : PySem.W.isFn K (.ref f_Weak_init) = true)
    (l_Weak_init : K.lookup f_Weak_init = some ⟨oc_Weak_init, od_Weak_init, .func (PySem.W.fnOf "__init__" "Weak.__init__" (defArgs s_Weak_init) (defBody s_Weak_init) (defScope s_Weak_init) .none kV_Weak_init dc_Weak_init pm_Weak_init an_Weak_init cd_Weak_init ct_Weak_init), sl_Weak_init⟩)
    (d_Weak_init : PySem.W.codeIn K cd_Weak_init "Weak.__init__" = true)
    (k_Weak_init : PySem.W.keepIn K (.ref f_Weak_init) = true)
    (g__law_draw : PySem.W.nsIn K mainGlobals "_law_draw" = some (some (.ref f__law_draw)))
    (l__law_draw : K.lookup f__law_draw = some ⟨oc__law_draw, od__law_draw, .func (PySem.W.fnOf "_law_draw" "_law_draw" (defArgs s__law_draw) (defBody s__law_draw) (defScope s__law_draw) .none kV__law_draw dc__law_draw pm__law_draw an__law_draw cd__law_draw ct__law_draw), sl__law_draw⟩)
    (d__law_draw : PySem.W.codeIn K cd__law_draw "_law_draw" = true)
    (k__law_draw : PySem.W.keepIn K (.ref f__law_draw) = true)
    (g__law_alone : PySem.W.nsIn K mainGlobals "_law_alone" = some (some (.ref f__law_alone)))
    (l__law_alone : K.lookup f__law_alone = some ⟨oc__law_alone, od__law_alone, .func (PySem.W.fnOf "_law_alone" "_law_alone" (defArgs s__law_alone) (defBody s__law_alone) (defScope s__law_alone) .none kV__law_alone dc__law_alone pm__law_alone an__law_alone cd__law_alone ct__law_alone), sl__law_alone⟩)
    (d__law_alone : PySem.W.codeIn K cd__law_alone "_law_alone" = true)
    (k__law_alone : PySem.W.keepIn K (.ref f__law_alone) = true)
    (g__law_size : PySem.W.nsIn K mainGlobals "_law_size" = some (some (.ref f__law_size)))
    (l__law_size : K.lookup f__law_size = some ⟨oc__law_size, od__law_size, .func (PySem.W.fnOf "_law_size" "_law_size" (defArgs s__law_size) (defBody s__law_size) (defScope s__law_size) .none kV__law_size dc__law_size pm__law_size an__law_size cd__law_size ct__law_size), sl__law_size⟩)
    (d__law_size : PySem.W.codeIn K cd__law_size "_law_size" = true)
    (k__law_size : PySem.W.keepIn K (.ref f__law_size) = true)
    (g__law_fits : PySem.W.nsIn K mainGlobals "_law_fits" = some (some (.ref f__law_fits)))
    (l__law_fits : K.lookup f__law_fits = some ⟨oc__law_fits, od__law_fits, .func (PySem.W.fnOf "_law_fits" "_law_fits" (defArgs s__law_fits) (defBody s__law_fits) (defScope s__law_fits) .none kV__law_fits dc__law_fits pm__law_fits an__law_fits cd__law_fits ct__law_fits), sl__law_fits⟩)
    (d__law_fits : PySem.W.codeIn K cd__law_fits "_law_fits" = true)
    (k__law_fits : PySem.W.keepIn K (.ref f__law_fits) = true)
    (g_is_within : PySem.W.nsIn K mainGlobals "is_within" = some (some (.ref f_is_within)))
    (l_is_within : K.lookup f_is_within = some ⟨oc_is_within, od_is_within, .func (PySem.W.fnOf "is_within" "is_within" (defArgs s_is_within) (defBody s_is_within) (defScope s_is_within) .none kV_is_within dc_is_within pm_is_within an_is_within cd_is_within ct_is_within), sl_is_within⟩)
    (d_is_within : PySem.W.codeIn K cd_is_within "is_within" = true)
    (k_is_within : PySem.W.keepIn K (.ref f_is_within) = true)
    (a_Space_take : PySem.W.findIn K (.ref c_Space) "take" = some (some (.ref f_Space_take)))
    (i_Space_take : PySem.W.isFn K (.ref f_Space_take) = true)
    (l_Space_take : K.lookup f_Space_take = some ⟨oc_Space_take, od_Space_take, .func (PySem.W.fnOf "take" "Space.take" (defArgs s_Space_take) (defBody s_Space_take) (defScope s_Space_take) .none kV_Space_take dc_Space_take pm_Space_take an_Space_take cd_Space_take ct_Space_take), sl_Space_take⟩)
    (d_Space_take : PySem.W.codeIn K cd_Space_take "Space.take" = true)
    (k_Space_take : PySem.W.keepIn K (.ref f_Space_take) = true)
    (a_Heap_is_for_young : PySem.W.findIn K (.ref c_Heap) "is_for_young" = some (some (.ref f_Heap_is_for_young)))
    (i_Heap_is_for_young : PySem.W.isFn K (.ref f_Heap_is_for_young) = true)
    (l_Heap_is_for_young : K.lookup f_Heap_is_for_young = some ⟨oc_Heap_is_for_young, od_Heap_is_for_young, .func (PySem.W.fnOf "is_for_young" "Heap.is_for_young" (defArgs s_Heap_is_for_young) (defBody s_Heap_is_for_young) (defScope s_Heap_is_for_young) .none kV_Heap_is_for_young dc_Heap_is_for_young pm_Heap_is_for_young an_Heap_is_for_young cd_Heap_is_for_young ct_Heap_is_for_young), sl_Heap_is_for_young⟩)
    (d_Heap_is_for_young : PySem.W.codeIn K cd_Heap_is_for_young "Heap.is_for_young" = true)
    (k_Heap_is_for_young : PySem.W.keepIn K (.ref f_Heap_is_for_young) = true)
    (g__law_due : PySem.W.nsIn K mainGlobals "_law_due" = some (some (.ref f__law_due)))
    (l__law_due : K.lookup f__law_due = some ⟨oc__law_due, od__law_due, .func (PySem.W.fnOf "_law_due" "_law_due" (defArgs s__law_due) (defBody s__law_due) (defScope s__law_due) .none kV__law_due dc__law_due pm__law_due an__law_due cd__law_due ct__law_due), sl__law_due⟩)
    (d__law_due : PySem.W.codeIn K cd__law_due "_law_due" = true)
    (k__law_due : PySem.W.keepIn K (.ref f__law_due) = true)
    (g_is_number : PySem.W.nsIn K mainGlobals "is_number" = some (some (.ref f_is_number)))
    (l_is_number : K.lookup f_is_number = some ⟨oc_is_number, od_is_number, .func (PySem.W.fnOf "is_number" "is_number" (defArgs s_is_number) (defBody s_is_number) (defScope s_is_number) .none kV_is_number dc_is_number pm_is_number an_is_number cd_is_number ct_is_number), sl_is_number⟩)
    (d_is_number : PySem.W.codeIn K cd_is_number "is_number" = true)
    (k_is_number : PySem.W.keepIn K (.ref f_is_number) = true)
    (g_is_place : PySem.W.nsIn K mainGlobals "is_place" = some (some (.ref f_is_place)))
    (l_is_place : K.lookup f_is_place = some ⟨oc_is_place, od_is_place, .func (PySem.W.fnOf "is_place" "is_place" (defArgs s_is_place) (defBody s_is_place) (defScope s_is_place) .none kV_is_place dc_is_place pm_is_place an_is_place cd_is_place ct_is_place), sl_is_place⟩)
    (d_is_place : PySem.W.codeIn K cd_is_place "is_place" = true)
    (k_is_place : PySem.W.keepIn K (.ref f_is_place) = true)
    (g_want_slots : PySem.W.nsIn K mainGlobals "want_slots" = some (some (.ref f_want_slots)))
    (l_want_slots : K.lookup f_want_slots = some ⟨oc_want_slots, od_want_slots, .func (PySem.W.fnOf "want_slots" "want_slots" (defArgs s_want_slots) (defBody s_want_slots) (defScope s_want_slots) .none kV_want_slots dc_want_slots pm_want_slots an_want_slots cd_want_slots ct_want_slots), sl_want_slots⟩)
    (d_want_slots : PySem.W.codeIn K cd_want_slots "want_slots" = true)
    (k_want_slots : PySem.W.keepIn K (.ref f_want_slots) = true)
    (g_is_head : PySem.W.nsIn K mainGlobals "is_head" = some (some (.ref f_is_head)))
    (l_is_head : K.lookup f_is_head = some ⟨oc_is_head, od_is_head, .func (PySem.W.fnOf "is_head" "is_head" (defArgs s_is_head) (defBody s_is_head) (defScope s_is_head) .none kV_is_head dc_is_head pm_is_head an_is_head cd_is_head ct_is_head), sl_is_head⟩)
    (d_is_head : PySem.W.codeIn K cd_is_head "is_head" = true)
    (k_is_head : PySem.W.keepIn K (.ref f_is_head) = true)
    (g_fits : PySem.W.nsIn K mainGlobals "fits" = some (some (.ref f_fits)))
    (l_fits : K.lookup f_fits = some ⟨oc_fits, od_fits, .func (PySem.W.fnOf "fits" "fits" (defArgs s_fits) (defBody s_fits) (defScope s_fits) .none kV_fits dc_fits pm_fits an_fits cd_fits ct_fits), sl_fits⟩)
    (d_fits : PySem.W.codeIn K cd_fits "fits" = true)
    (k_fits : PySem.W.keepIn K (.ref f_fits) = true)
    (a_Memory_init : PySem.W.findIn K (.ref c_Memory) "__init__" = some (some (.ref f_Memory_init)))
    (i_Memory_init : PySem.W.isFn K (.ref f_Memory_init) = true)
    (l_Memory_init : K.lookup f_Memory_init = some ⟨oc_Memory_init, od_Memory_init, .func (PySem.W.fnOf "__init__" "Memory.__init__" (defArgs s_Memory_init) (defBody s_Memory_init) (defScope s_Memory_init) .none kV_Memory_init dc_Memory_init pm_Memory_init an_Memory_init cd_Memory_init ct_Memory_init), sl_Memory_init⟩)
    (d_Memory_init : PySem.W.codeIn K cd_Memory_init "Memory.__init__" = true)
    (k_Memory_init : PySem.W.keepIn K (.ref f_Memory_init) = true)
    (a_Memory_want_place : PySem.W.findIn K (.ref c_Memory) "want_place" = some (some (.ref f_Memory_want_place)))
    (i_Memory_want_place : PySem.W.isFn K (.ref f_Memory_want_place) = true)
    (l_Memory_want_place : K.lookup f_Memory_want_place = some ⟨oc_Memory_want_place, od_Memory_want_place, .func (PySem.W.fnOf "want_place" "Memory.want_place" (defArgs s_Memory_want_place) (defBody s_Memory_want_place) (defScope s_Memory_want_place) .none kV_Memory_want_place dc_Memory_want_place pm_Memory_want_place an_Memory_want_place cd_Memory_want_place ct_Memory_want_place), sl_Memory_want_place⟩)
    (d_Memory_want_place : PySem.W.codeIn K cd_Memory_want_place "Memory.want_place" = true)
    (k_Memory_want_place : PySem.W.keepIn K (.ref f_Memory_want_place) = true)
    (a_Space_has : PySem.W.findIn K (.ref c_Space) "has" = some (some (.ref f_Space_has)))
    (i_Space_has : PySem.W.isFn K (.ref f_Space_has) = true)
    (l_Space_has : K.lookup f_Space_has = some ⟨oc_Space_has, od_Space_has, .func (PySem.W.fnOf "has" "Space.has" (defArgs s_Space_has) (defBody s_Space_has) (defScope s_Space_has) .none kV_Space_has dc_Space_has pm_Space_has an_Space_has cd_Space_has ct_Space_has), sl_Space_has⟩)
    (d_Space_has : PySem.W.codeIn K cd_Space_has "Space.has" = true)
    (k_Space_has : PySem.W.keepIn K (.ref f_Space_has) = true)
    (a_Hands_init : PySem.W.findIn K (.ref c_Hands) "__init__" = some (some (.ref f_Hands_init)))
    (i_Hands_init : PySem.W.isFn K (.ref f_Hands_init) = true)
    (l_Hands_init : K.lookup f_Hands_init = some ⟨oc_Hands_init, od_Hands_init, .func (PySem.W.fnOf "__init__" "Hands.__init__" (defArgs s_Hands_init) (defBody s_Hands_init) (defScope s_Hands_init) .none kV_Hands_init dc_Hands_init pm_Hands_init an_Hands_init cd_Hands_init ct_Hands_init), sl_Hands_init⟩)
    (d_Hands_init : PySem.W.codeIn K cd_Hands_init "Hands.__init__" = true)
    (k_Hands_init : PySem.W.keepIn K (.ref f_Hands_init) = true)
    (a_Hands_want_hand : PySem.W.findIn K (.ref c_Hands) "want_hand" = some (some (.ref f_Hands_want_hand)))
    (i_Hands_want_hand : PySem.W.isFn K (.ref f_Hands_want_hand) = true)
    (l_Hands_want_hand : K.lookup f_Hands_want_hand = some ⟨oc_Hands_want_hand, od_Hands_want_hand, .func (PySem.W.fnOf "want_hand" "Hands.want_hand" (defArgs s_Hands_want_hand) (defBody s_Hands_want_hand) (defScope s_Hands_want_hand) .none kV_Hands_want_hand dc_Hands_want_hand pm_Hands_want_hand an_Hands_want_hand cd_Hands_want_hand ct_Hands_want_hand), sl_Hands_want_hand⟩)
    (d_Hands_want_hand : PySem.W.codeIn K cd_Hands_want_hand "Hands.want_hand" = true)
    (k_Hands_want_hand : PySem.W.keepIn K (.ref f_Hands_want_hand) = true)
    (g_want_number : PySem.W.nsIn K mainGlobals "want_number" = some (some (.ref f_want_number)))
    (l_want_number : K.lookup f_want_number = some ⟨oc_want_number, od_want_number, .func (PySem.W.fnOf "want_number" "want_number" (defArgs s_want_number) (defBody s_want_number) (defScope s_want_number) .none kV_want_number dc_want_number pm_want_number an_want_number cd_want_number ct_want_number), sl_want_number⟩)
    (d_want_number : PySem.W.codeIn K cd_want_number "want_number" = true)
    (k_want_number : PySem.W.keepIn K (.ref f_want_number) = true)
    (g_want_place : PySem.W.nsIn K mainGlobals "want_place" = some (some (.ref f_want_place)))
    (l_want_place : K.lookup f_want_place = some ⟨oc_want_place, od_want_place, .func (PySem.W.fnOf "want_place" "want_place" (defArgs s_want_place) (defBody s_want_place) (defScope s_want_place) .none kV_want_place dc_want_place pm_want_place an_want_place cd_want_place ct_want_place), sl_want_place⟩)
    (d_want_place : PySem.W.codeIn K cd_want_place "want_place" = true)
    (k_want_place : PySem.W.keepIn K (.ref f_want_place) = true)
    (g_kind : PySem.W.nsIn K mainGlobals "kind" = some (some (.ref f_kind)))
    (l_kind : K.lookup f_kind = some ⟨oc_kind, od_kind, .func (PySem.W.fnOf "kind" "kind" (defArgs s_kind) (defBody s_kind) (defScope s_kind) .none kV_kind dc_kind pm_kind an_kind cd_kind ct_kind), sl_kind⟩)
    (d_kind : PySem.W.codeIn K cd_kind "kind" = true)
    (k_kind : PySem.W.keepIn K (.ref f_kind) = true)
    (a_Memory_read : PySem.W.findIn K (.ref c_Memory) "read" = some (some (.ref f_Memory_read)))
    (i_Memory_read : PySem.W.isFn K (.ref f_Memory_read) = true)
    (l_Memory_read : K.lookup f_Memory_read = some ⟨oc_Memory_read, od_Memory_read, .func (PySem.W.fnOf "read" "Memory.read" (defArgs s_Memory_read) (defBody s_Memory_read) (defScope s_Memory_read) .none kV_Memory_read dc_Memory_read pm_Memory_read an_Memory_read cd_Memory_read ct_Memory_read), sl_Memory_read⟩)
    (d_Memory_read : PySem.W.codeIn K cd_Memory_read "Memory.read" = true)
    (k_Memory_read : PySem.W.keepIn K (.ref f_Memory_read) = true)
    (a_Hands_get : PySem.W.findIn K (.ref c_Hands) "get" = some (some (.ref f_Hands_get)))
    (i_Hands_get : PySem.W.isFn K (.ref f_Hands_get) = true)
    (l_Hands_get : K.lookup f_Hands_get = some ⟨oc_Hands_get, od_Hands_get, .func (PySem.W.fnOf "get" "Hands.get" (defArgs s_Hands_get) (defBody s_Hands_get) (defScope s_Hands_get) .none kV_Hands_get dc_Hands_get pm_Hands_get an_Hands_get cd_Hands_get ct_Hands_get), sl_Hands_get⟩)
    (d_Hands_get : PySem.W.codeIn K cd_Hands_get "Hands.get" = true)
    (k_Hands_get : PySem.W.keepIn K (.ref f_Hands_get) = true)
    (a_Heap_want_hand : PySem.W.findIn K (.ref c_Heap) "want_hand" = some (some (.ref f_Heap_want_hand)))
    (i_Heap_want_hand : PySem.W.isFn K (.ref f_Heap_want_hand) = true)
    (l_Heap_want_hand : K.lookup f_Heap_want_hand = some ⟨oc_Heap_want_hand, od_Heap_want_hand, .func (PySem.W.fnOf "want_hand" "Heap.want_hand" (defArgs s_Heap_want_hand) (defBody s_Heap_want_hand) (defScope s_Heap_want_hand) .none kV_Heap_want_hand dc_Heap_want_hand pm_Heap_want_hand an_Heap_want_hand cd_Heap_want_hand ct_Heap_want_hand), sl_Heap_want_hand⟩)
    (d_Heap_want_hand : PySem.W.codeIn K cd_Heap_want_hand "Heap.want_hand" = true)
    (k_Heap_want_hand : PySem.W.keepIn K (.ref f_Heap_want_hand) = true)
    (g_number_word : PySem.W.nsIn K mainGlobals "number_word" = some (some (.ref f_number_word)))
    (l_number_word : K.lookup f_number_word = some ⟨oc_number_word, od_number_word, .func (PySem.W.fnOf "number_word" "number_word" (defArgs s_number_word) (defBody s_number_word) (defScope s_number_word) .none kV_number_word dc_number_word pm_number_word an_number_word cd_number_word ct_number_word), sl_number_word⟩)
    (d_number_word : PySem.W.codeIn K cd_number_word "number_word" = true)
    (k_number_word : PySem.W.keepIn K (.ref f_number_word) = true)
    (g_place_word : PySem.W.nsIn K mainGlobals "place_word" = some (some (.ref f_place_word)))
    (l_place_word : K.lookup f_place_word = some ⟨oc_place_word, od_place_word, .func (PySem.W.fnOf "place_word" "place_word" (defArgs s_place_word) (defBody s_place_word) (defScope s_place_word) .none kV_place_word dc_place_word pm_place_word an_place_word cd_place_word ct_place_word), sl_place_word⟩)
    (d_place_word : PySem.W.codeIn K cd_place_word "place_word" = true)
    (k_place_word : PySem.W.keepIn K (.ref f_place_word) = true)
    (g_worth : PySem.W.nsIn K mainGlobals "worth" = some (some (.ref f_worth)))
    (l_worth : K.lookup f_worth = some ⟨oc_worth, od_worth, .func (PySem.W.fnOf "worth" "worth" (defArgs s_worth) (defBody s_worth) (defScope s_worth) .none kV_worth dc_worth pm_worth an_worth cd_worth ct_worth), sl_worth⟩)
    (d_worth : PySem.W.codeIn K cd_worth "worth" = true)
    (k_worth : PySem.W.keepIn K (.ref f_worth) = true)
    (a_Memory_write : PySem.W.findIn K (.ref c_Memory) "write" = some (some (.ref f_Memory_write)))
    (i_Memory_write : PySem.W.isFn K (.ref f_Memory_write) = true)
    (l_Memory_write : K.lookup f_Memory_write = some ⟨oc_Memory_write, od_Memory_write, .func (PySem.W.fnOf "write" "Memory.write" (defArgs s_Memory_write) (defBody s_Memory_write) (defScope s_Memory_write) .none kV_Memory_write dc_Memory_write pm_Memory_write an_Memory_write cd_Memory_write ct_Memory_write), sl_Memory_write⟩)
    (d_Memory_write : PySem.W.codeIn K cd_Memory_write "Memory.write" = true)
    (k_Memory_write : PySem.W.keepIn K (.ref f_Memory_write) = true)
    (a_Areas_init : PySem.W.findIn K (.ref c_Areas) "__init__" = some (some (.ref f_Areas_init)))
    (i_Areas_init : PySem.W.isFn K (.ref f_Areas_init) = true)
    (l_Areas_init : K.lookup f_Areas_init = some ⟨oc_Areas_init, od_Areas_init, .func (PySem.W.fnOf "__init__" "Areas.__init__" (defArgs s_Areas_init) (defBody s_Areas_init) (defScope s_Areas_init) .none kV_Areas_init dc_Areas_init pm_Areas_init an_Areas_init cd_Areas_init ct_Areas_init), sl_Areas_init⟩)
    (d_Areas_init : PySem.W.codeIn K cd_Areas_init "Areas.__init__" = true)
    (k_Areas_init : PySem.W.keepIn K (.ref f_Areas_init) = true)
    (a_Book_write : PySem.W.findIn K (.ref c_Book) "write" = some (some (.ref f_Book_write)))
    (i_Book_write : PySem.W.isFn K (.ref f_Book_write) = true)
    (l_Book_write : K.lookup f_Book_write = some ⟨oc_Book_write, od_Book_write, .func (PySem.W.fnOf "write" "Book.write" (defArgs s_Book_write) (defBody s_Book_write) (defScope s_Book_write) .none kV_Book_write dc_Book_write pm_Book_write an_Book_write cd_Book_write ct_Book_write), sl_Book_write⟩)
    (d_Book_write : PySem.W.codeIn K cd_Book_write "Book.write" = true)
    (k_Book_write : PySem.W.keepIn K (.ref f_Book_write) = true)
    (a_Book_has : PySem.W.findIn K (.ref c_Book) "has" = some (some (.ref f_Book_has)))
    (i_Book_has : PySem.W.isFn K (.ref f_Book_has) = true)
    (l_Book_has : K.lookup f_Book_has = some ⟨oc_Book_has, od_Book_has, .func (PySem.W.fnOf "has" "Book.has" (defArgs s_Book_has) (defBody s_Book_has) (defScope s_Book_has) .none kV_Book_has dc_Book_has pm_Book_has an_Book_has cd_Book_has ct_Book_has), sl_Book_has⟩)
    (d_Book_has : PySem.W.codeIn K cd_Book_has "Book.has" = true)
    (k_Book_has : PySem.W.keepIn K (.ref f_Book_has) = true)
    (a_Hands_put : PySem.W.findIn K (.ref c_Hands) "put" = some (some (.ref f_Hands_put)))
    (i_Hands_put : PySem.W.isFn K (.ref f_Hands_put) = true)
    (l_Hands_put : K.lookup f_Hands_put = some ⟨oc_Hands_put, od_Hands_put, .func (PySem.W.fnOf "put" "Hands.put" (defArgs s_Hands_put) (defBody s_Hands_put) (defScope s_Hands_put) .none kV_Hands_put dc_Hands_put pm_Hands_put an_Hands_put cd_Hands_put ct_Hands_put), sl_Hands_put⟩)
    (d_Hands_put : PySem.W.codeIn K cd_Hands_put "Hands.put" = true)
    (k_Hands_put : PySem.W.keepIn K (.ref f_Hands_put) = true)
    (a_Roots_init : PySem.W.findIn K (.ref c_Roots) "__init__" = some (some (.ref f_Roots_init)))
    (i_Roots_init : PySem.W.isFn K (.ref f_Roots_init) = true)
    (l_Roots_init : K.lookup f_Roots_init = some ⟨oc_Roots_init, od_Roots_init, .func (PySem.W.fnOf "__init__" "Roots.__init__" (defArgs s_Roots_init) (defBody s_Roots_init) (defScope s_Roots_init) .none kV_Roots_init dc_Roots_init pm_Roots_init an_Roots_init cd_Roots_init ct_Roots_init), sl_Roots_init⟩)
    (d_Roots_init : PySem.W.codeIn K cd_Roots_init "Roots.__init__" = true)
    (k_Roots_init : PySem.W.keepIn K (.ref f_Roots_init) = true)
    (a_Heap_held : PySem.W.findIn K (.ref c_Heap) "held" = some (some (.ref f_Heap_held)))
    (i_Heap_held : PySem.W.isFn K (.ref f_Heap_held) = true)
    (l_Heap_held : K.lookup f_Heap_held = some ⟨oc_Heap_held, od_Heap_held, .func (PySem.W.fnOf "held" "Heap.held" (defArgs s_Heap_held) (defBody s_Heap_held) (defScope s_Heap_held) .none kV_Heap_held dc_Heap_held pm_Heap_held an_Heap_held cd_Heap_held ct_Heap_held), sl_Heap_held⟩)
    (d_Heap_held : PySem.W.codeIn K cd_Heap_held "Heap.held" = true)
    (k_Heap_held : PySem.W.keepIn K (.ref f_Heap_held) = true)
    (a_Heap_want_make : PySem.W.findIn K (.ref c_Heap) "want_make" = some (some (.ref f_Heap_want_make)))
    (i_Heap_want_make : PySem.W.isFn K (.ref f_Heap_want_make) = true)
    (l_Heap_want_make : K.lookup f_Heap_want_make = some ⟨oc_Heap_want_make, od_Heap_want_make, .func (PySem.W.fnOf "want_make" "Heap.want_make" (defArgs s_Heap_want_make) (defBody s_Heap_want_make) (defScope s_Heap_want_make) .none kV_Heap_want_make dc_Heap_want_make pm_Heap_want_make an_Heap_want_make cd_Heap_want_make ct_Heap_want_make), sl_Heap_want_make⟩)
    (d_Heap_want_make : PySem.W.codeIn K cd_Heap_want_make "Heap.want_make" = true)
    (k_Heap_want_make : PySem.W.keepIn K (.ref f_Heap_want_make) = true)
    (g_head_word : PySem.W.nsIn K mainGlobals "head_word" = some (some (.ref f_head_word)))
    (l_head_word : K.lookup f_head_word = some ⟨oc_head_word, od_head_word, .func (PySem.W.fnOf "head_word" "head_word" (defArgs s_head_word) (defBody s_head_word) (defScope s_head_word) .none kV_head_word dc_head_word pm_head_word an_head_word cd_head_word ct_head_word), sl_head_word⟩)
    (d_head_word : PySem.W.codeIn K cd_head_word "head_word" = true)
    (k_head_word : PySem.W.keepIn K (.ref f_head_word) = true)
    (g_head_number : PySem.W.nsIn K mainGlobals "head_number" = some (some (.ref f_head_number)))
    (l_head_number : K.lookup f_head_number = some ⟨oc_head_number, od_head_number, .func (PySem.W.fnOf "head_number" "head_number" (defArgs s_head_number) (defBody s_head_number) (defScope s_head_number) .none kV_head_number dc_head_number pm_head_number an_head_number cd_head_number ct_head_number), sl_head_number⟩)
    (d_head_number : PySem.W.codeIn K cd_head_number "head_number" = true)
    (k_head_number : PySem.W.keepIn K (.ref f_head_number) = true)
    (a_Book_rub : PySem.W.findIn K (.ref c_Book) "rub" = some (some (.ref f_Book_rub)))
    (i_Book_rub : PySem.W.isFn K (.ref f_Book_rub) = true)
    (l_Book_rub : K.lookup f_Book_rub = some ⟨oc_Book_rub, od_Book_rub, .func (PySem.W.fnOf "rub" "Book.rub" (defArgs s_Book_rub) (defBody s_Book_rub) (defScope s_Book_rub) .none kV_Book_rub dc_Book_rub pm_Book_rub an_Book_rub cd_Book_rub ct_Book_rub), sl_Book_rub⟩)
    (d_Book_rub : PySem.W.codeIn K cd_Book_rub "Book.rub" = true)
    (k_Book_rub : PySem.W.keepIn K (.ref f_Book_rub) = true)
    (g_is_of_young : PySem.W.nsIn K mainGlobals "is_of_young" = some (some (.ref f_is_of_young)))
    (l_is_of_young : K.lookup f_is_of_young = some ⟨oc_is_of_young, od_is_of_young, .func (PySem.W.fnOf "is_of_young" "is_of_young" (defArgs s_is_of_young) (defBody s_is_of_young) (defScope s_is_of_young) .none kV_is_of_young dc_is_of_young pm_is_of_young an_is_of_young cd_is_of_young ct_is_of_young), sl_is_of_young⟩)
    (d_is_of_young : PySem.W.codeIn K cd_is_of_young "is_of_young" = true)
    (k_is_of_young : PySem.W.keepIn K (.ref f_is_of_young) = true)
    (a_Heap_hold : PySem.W.findIn K (.ref c_Heap) "hold" = some (some (.ref f_Heap_hold)))
    (i_Heap_hold : PySem.W.isFn K (.ref f_Heap_hold) = true)
    (l_Heap_hold : K.lookup f_Heap_hold = some ⟨oc_Heap_hold, od_Heap_hold, .func (PySem.W.fnOf "hold" "Heap.hold" (defArgs s_Heap_hold) (defBody s_Heap_hold) (defScope s_Heap_hold) .none kV_Heap_hold dc_Heap_hold pm_Heap_hold an_Heap_hold cd_Heap_hold ct_Heap_hold), sl_Heap_hold⟩)
    (d_Heap_hold : PySem.W.codeIn K cd_Heap_hold "Heap.hold" = true)
    (k_Heap_hold : PySem.W.keepIn K (.ref f_Heap_hold) = true)
    (a_Heap_cell_of : PySem.W.findIn K (.ref c_Heap) "cell_of" = some (some (.ref f_Heap_cell_of)))
    (i_Heap_cell_of : PySem.W.isFn K (.ref f_Heap_cell_of) = true)
    (l_Heap_cell_of : K.lookup f_Heap_cell_of = some ⟨oc_Heap_cell_of, od_Heap_cell_of, .func (PySem.W.fnOf "cell_of" "Heap.cell_of" (defArgs s_Heap_cell_of) (defBody s_Heap_cell_of) (defScope s_Heap_cell_of) .none kV_Heap_cell_of dc_Heap_cell_of pm_Heap_cell_of an_Heap_cell_of cd_Heap_cell_of ct_Heap_cell_of), sl_Heap_cell_of⟩)
    (d_Heap_cell_of : PySem.W.codeIn K cd_Heap_cell_of "Heap.cell_of" = true)
    (k_Heap_cell_of : PySem.W.keepIn K (.ref f_Heap_cell_of) = true)
    (g_lay : PySem.W.nsIn K mainGlobals "lay" = some (some (.ref f_lay)))
    (l_lay : K.lookup f_lay = some ⟨oc_lay, od_lay, .func (PySem.W.fnOf "lay" "lay" (defArgs s_lay) (defBody s_lay) (defScope s_lay) .none kV_lay dc_lay pm_lay an_lay cd_lay ct_lay), sl_lay⟩)
    (d_lay : PySem.W.codeIn K cd_lay "lay" = true)
    (k_lay : PySem.W.keepIn K (.ref f_lay) = true)
    (g_slots_of : PySem.W.nsIn K mainGlobals "slots_of" = some (some (.ref f_slots_of)))
    (l_slots_of : K.lookup f_slots_of = some ⟨oc_slots_of, od_slots_of, .func (PySem.W.fnOf "slots_of" "slots_of" (defArgs s_slots_of) (defBody s_slots_of) (defScope s_slots_of) .none kV_slots_of dc_slots_of pm_slots_of an_slots_of cd_slots_of ct_slots_of), sl_slots_of⟩)
    (d_slots_of : PySem.W.codeIn K cd_slots_of "slots_of" = true)
    (k_slots_of : PySem.W.keepIn K (.ref f_slots_of) = true)
    (a_Heap_init : PySem.W.findIn K (.ref c_Heap) "__init__" = some (some (.ref f_Heap_init)))
    (i_Heap_init : PySem.W.isFn K (.ref f_Heap_init) = true)
    (l_Heap_init : K.lookup f_Heap_init = some ⟨oc_Heap_init, od_Heap_init, .func (PySem.W.fnOf "__init__" "Heap.__init__" (defArgs s_Heap_init) (defBody s_Heap_init) (defScope s_Heap_init) .none kV_Heap_init dc_Heap_init pm_Heap_init an_Heap_init cd_Heap_init ct_Heap_init), sl_Heap_init⟩)
    (d_Heap_init : PySem.W.codeIn K cd_Heap_init "Heap.__init__" = true)
    (k_Heap_init : PySem.W.keepIn K (.ref f_Heap_init) = true)
    (a_Heap_drop : PySem.W.findIn K (.ref c_Heap) "drop" = some (some (.ref f_Heap_drop)))
    (i_Heap_drop : PySem.W.isFn K (.ref f_Heap_drop) = true)
    (l_Heap_drop : K.lookup f_Heap_drop = some ⟨oc_Heap_drop, od_Heap_drop, .func (PySem.W.fnOf "drop" "Heap.drop" (defArgs s_Heap_drop) (defBody s_Heap_drop) (defScope s_Heap_drop) .none kV_Heap_drop dc_Heap_drop pm_Heap_drop an_Heap_drop cd_Heap_drop ct_Heap_drop), sl_Heap_drop⟩)
    (d_Heap_drop : PySem.W.codeIn K cd_Heap_drop "Heap.drop" = true)
    (k_Heap_drop : PySem.W.keepIn K (.ref f_Heap_drop) = true)
    (a_Heap_note : PySem.W.findIn K (.ref c_Heap) "note" = some (some (.ref f_Heap_note)))
    (i_Heap_note : PySem.W.isFn K (.ref f_Heap_note) = true)
    (l_Heap_note : K.lookup f_Heap_note = some ⟨oc_Heap_note, od_Heap_note, .func (PySem.W.fnOf "note" "Heap.note" (defArgs s_Heap_note) (defBody s_Heap_note) (defScope s_Heap_note) .none kV_Heap_note dc_Heap_note pm_Heap_note an_Heap_note cd_Heap_note ct_Heap_note), sl_Heap_note⟩)
    (d_Heap_note : PySem.W.codeIn K cd_Heap_note "Heap.note" = true)
    (k_Heap_note : PySem.W.keepIn K (.ref f_Heap_note) = true)
    (g_aged : PySem.W.nsIn K mainGlobals "aged" = some (some (.ref f_aged)))
    (l_aged : K.lookup f_aged = some ⟨oc_aged, od_aged, .func (PySem.W.fnOf "aged" "aged" (defArgs s_aged) (defBody s_aged) (defScope s_aged) .none kV_aged dc_aged pm_aged an_aged cd_aged ct_aged), sl_aged⟩)
    (d_aged : PySem.W.codeIn K cd_aged "aged" = true)
    (k_aged : PySem.W.keepIn K (.ref f_aged) = true)
    (g_slot_place : PySem.W.nsIn K mainGlobals "slot_place" = some (some (.ref f_slot_place)))
    (l_slot_place : K.lookup f_slot_place = some ⟨oc_slot_place, od_slot_place, .func (PySem.W.fnOf "slot_place" "slot_place" (defArgs s_slot_place) (defBody s_slot_place) (defScope s_slot_place) .none kV_slot_place dc_slot_place pm_slot_place an_slot_place cd_slot_place ct_slot_place), sl_slot_place⟩)
    (d_slot_place : PySem.W.codeIn K cd_slot_place "slot_place" = true)
    (k_slot_place : PySem.W.keepIn K (.ref f_slot_place) = true)
    (a_Areas_lay_into : PySem.W.findIn K (.ref c_Areas) "lay_into" = some (some (.ref f_Areas_lay_into)))
    (i_Areas_lay_into : PySem.W.isFn K (.ref f_Areas_lay_into) = true)
    (l_Areas_lay_into : K.lookup f_Areas_lay_into = some ⟨oc_Areas_lay_into, od_Areas_lay_into, .func (PySem.W.fnOf "lay_into" "Areas.lay_into" (defArgs s_Areas_lay_into) (defBody s_Areas_lay_into) (defScope s_Areas_lay_into) .none kV_Areas_lay_into dc_Areas_lay_into pm_Areas_lay_into an_Areas_lay_into cd_Areas_lay_into ct_Areas_lay_into), sl_Areas_lay_into⟩)
    (d_Areas_lay_into : PySem.W.codeIn K cd_Areas_lay_into "Areas.lay_into" = true)
    (k_Areas_lay_into : PySem.W.keepIn K (.ref f_Areas_lay_into) = true)
    (a_Heap_place_of : PySem.W.findIn K (.ref c_Heap) "place_of" = some (some (.ref f_Heap_place_of)))
    (i_Heap_place_of : PySem.W.isFn K (.ref f_Heap_place_of) = true)
    (l_Heap_place_of : K.lookup f_Heap_place_of = some ⟨oc_Heap_place_of, od_Heap_place_of, .func (PySem.W.fnOf "place_of" "Heap.place_of" (defArgs s_Heap_place_of) (defBody s_Heap_place_of) (defScope s_Heap_place_of) .none kV_Heap_place_of dc_Heap_place_of pm_Heap_place_of an_Heap_place_of cd_Heap_place_of ct_Heap_place_of), sl_Heap_place_of⟩)
    (d_Heap_place_of : PySem.W.codeIn K cd_Heap_place_of "Heap.place_of" = true)
    (k_Heap_place_of : PySem.W.keepIn K (.ref f_Heap_place_of) = true)
    (g__law_is_heap : PySem.W.nsIn K mainGlobals "_law_is_heap" = some (some (.ref f__law_is_heap)))
    (l__law_is_heap : K.lookup f__law_is_heap = some ⟨oc__law_is_heap, od__law_is_heap, .func (PySem.W.fnOf "_law_is_heap" "_law_is_heap" (defArgs s__law_is_heap) (defBody s__law_is_heap) (defScope s__law_is_heap) .none kV__law_is_heap dc__law_is_heap pm__law_is_heap an__law_is_heap cd__law_is_heap ct__law_is_heap), sl__law_is_heap⟩)
    (d__law_is_heap : PySem.W.codeIn K cd__law_is_heap "_law_is_heap" = true)
    (k__law_is_heap : PySem.W.keepIn K (.ref f__law_is_heap) = true)
    (a_Areas_lay_young : PySem.W.findIn K (.ref c_Areas) "lay_young" = some (some (.ref f_Areas_lay_young)))
    (i_Areas_lay_young : PySem.W.isFn K (.ref f_Areas_lay_young) = true)
    (l_Areas_lay_young : K.lookup f_Areas_lay_young = some ⟨oc_Areas_lay_young, od_Areas_lay_young, .func (PySem.W.fnOf "lay_young" "Areas.lay_young" (defArgs s_Areas_lay_young) (defBody s_Areas_lay_young) (defScope s_Areas_lay_young) .none kV_Areas_lay_young dc_Areas_lay_young pm_Areas_lay_young an_Areas_lay_young cd_Areas_lay_young ct_Areas_lay_young), sl_Areas_lay_young⟩)
    (d_Areas_lay_young : PySem.W.codeIn K cd_Areas_lay_young "Areas.lay_young" = true)
    (k_Areas_lay_young : PySem.W.keepIn K (.ref f_Areas_lay_young) = true)
    (a_Areas_lay_old : PySem.W.findIn K (.ref c_Areas) "lay_old" = some (some (.ref f_Areas_lay_old)))
    (i_Areas_lay_old : PySem.W.isFn K (.ref f_Areas_lay_old) = true)
    (l_Areas_lay_old : K.lookup f_Areas_lay_old = some ⟨oc_Areas_lay_old, od_Areas_lay_old, .func (PySem.W.fnOf "lay_old" "Areas.lay_old" (defArgs s_Areas_lay_old) (defBody s_Areas_lay_old) (defScope s_Areas_lay_old) .none kV_Areas_lay_old dc_Areas_lay_old pm_Areas_lay_old an_Areas_lay_old cd_Areas_lay_old ct_Areas_lay_old), sl_Areas_lay_old⟩)
    (d_Areas_lay_old : PySem.W.codeIn K cd_Areas_lay_old "Areas.lay_old" = true)
    (k_Areas_lay_old : PySem.W.keepIn K (.ref f_Areas_lay_old) = true)
    (a_Heap_get : PySem.W.findIn K (.ref c_Heap) "get" = some (some (.ref f_Heap_get)))
    (i_Heap_get : PySem.W.isFn K (.ref f_Heap_get) = true)
    (l_Heap_get : K.lookup f_Heap_get = some ⟨oc_Heap_get, od_Heap_get, .func (PySem.W.fnOf "get" "Heap.get" (defArgs s_Heap_get) (defBody s_Heap_get) (defScope s_Heap_get) .none kV_Heap_get dc_Heap_get pm_Heap_get an_Heap_get cd_Heap_get ct_Heap_get), sl_Heap_get⟩)
    (d_Heap_get : PySem.W.codeIn K cd_Heap_get "Heap.get" = true)
    (k_Heap_get : PySem.W.keepIn K (.ref f_Heap_get) = true)
    (a_Heap_put : PySem.W.findIn K (.ref c_Heap) "put" = some (some (.ref f_Heap_put)))
    (i_Heap_put : PySem.W.isFn K (.ref f_Heap_put) = true)
    (l_Heap_put : K.lookup f_Heap_put = some ⟨oc_Heap_put, od_Heap_put, .func (PySem.W.fnOf "put" "Heap.put" (defArgs s_Heap_put) (defBody s_Heap_put) (defScope s_Heap_put) .none kV_Heap_put dc_Heap_put pm_Heap_put an_Heap_put cd_Heap_put ct_Heap_put), sl_Heap_put⟩)
    (d_Heap_put : PySem.W.codeIn K cd_Heap_put "Heap.put" = true)
    (k_Heap_put : PySem.W.keepIn K (.ref f_Heap_put) = true)
    (a_Heap_make : PySem.W.findIn K (.ref c_Heap) "make" = some (some (.ref f_Heap_make)))
    (i_Heap_make : PySem.W.isFn K (.ref f_Heap_make) = true)
    (l_Heap_make : K.lookup f_Heap_make = some ⟨oc_Heap_make, od_Heap_make, .func (PySem.W.fnOf "make" "Heap.make" (defArgs s_Heap_make) (defBody s_Heap_make) (defScope s_Heap_make) .none kV_Heap_make dc_Heap_make pm_Heap_make an_Heap_make cd_Heap_make ct_Heap_make), sl_Heap_make⟩)
    (d_Heap_make : PySem.W.codeIn K cd_Heap_make "Heap.make" = true)
    (k_Heap_make : PySem.W.keepIn K (.ref f_Heap_make) = true)
    (g__law_state : PySem.W.nsIn K mainGlobals "_law_state" = some (some (.ref f__law_state)))
    (l__law_state : K.lookup f__law_state = some ⟨oc__law_state, od__law_state, .func (PySem.W.fnOf "_law_state" "_law_state" (defArgs s__law_state) (defBody s__law_state) (defScope s__law_state) .none kV__law_state dc__law_state pm__law_state an__law_state cd__law_state ct__law_state), sl__law_state⟩)
    (d__law_state : PySem.W.codeIn K cd__law_state "_law_state" = true)
    (k__law_state : PySem.W.keepIn K (.ref f__law_state) = true)
    (g__law_call : PySem.W.nsIn K mainGlobals "_law_call" = some (some (.ref f__law_call)))
    (l__law_call : K.lookup f__law_call = some ⟨oc__law_call, od__law_call, .func (PySem.W.fnOf "_law_call" "_law_call" (defArgs s__law_call) (defBody s__law_call) (defScope s__law_call) .none kV__law_call dc__law_call pm__law_call an__law_call cd__law_call ct__law_call), sl__law_call⟩)
    (d__law_call : PySem.W.codeIn K cd__law_call "_law_call" = true)
    (k__law_call : PySem.W.keepIn K (.ref f__law_call) = true)
    (g_law : PySem.W.nsIn K mainGlobals "law" = some (some (.ref f_law)))
    (l_law : K.lookup f_law = some ⟨oc_law, od_law, .func (PySem.W.fnOf "law" "law" (defArgs s_law) (defBody s_law) (defScope s_law) .none kV_law dc_law pm_law an_law cd_law ct_law), sl_law⟩)
    (d_law : PySem.W.codeIn K cd_law "law" = true)
    (k_law : PySem.W.keepIn K (.ref f_law) = true)
    (v_NOTHING : PySem.W.nsIn K mainGlobals "NOTHING" = some (some (.int (-1) t_NOTHING)))
    (v_MOST_NUMBER : PySem.W.nsIn K mainGlobals "MOST_NUMBER" = some (some (.int (1000000000000) t_MOST_NUMBER)))
    (v_MOST_PLACE : PySem.W.nsIn K mainGlobals "MOST_PLACE" = some (some (.int (9999) t_MOST_PLACE)))
    (v_MOST_SLOTS : PySem.W.nsIn K mainGlobals "MOST_SLOTS" = some (some (.int (8) t_MOST_SLOTS)))
    (v_MOST_AGE : PySem.W.nsIn K mainGlobals "MOST_AGE" = some (some (.int (2) t_MOST_AGE)))
    (v_MOST_WORDS : PySem.W.nsIn K mainGlobals "MOST_WORDS" = some (some (.int (4000) t_MOST_WORDS)))
    (v_LEAST_OLD_WORDS : PySem.W.nsIn K mainGlobals "LEAST_OLD_WORDS" = some (some (.int (4) t_LEAST_OLD_WORDS)))
    (v_MOST_OLD_WORDS : PySem.W.nsIn K mainGlobals "MOST_OLD_WORDS" = some (some (.int (2000) t_MOST_OLD_WORDS)))
    (v_LEAST_YOUNG_WORDS : PySem.W.nsIn K mainGlobals "LEAST_YOUNG_WORDS" = some (some (.int (2) t_LEAST_YOUNG_WORDS)))
    (v_MOST_YOUNG_WORDS : PySem.W.nsIn K mainGlobals "MOST_YOUNG_WORDS" = some (some (.int (500) t_MOST_YOUNG_WORDS)))
    (v_MOST_HANDS : PySem.W.nsIn K mainGlobals "MOST_HANDS" = some (some (.int (6) t_MOST_HANDS)))
    (x_BadCount : PySem.W.excIn K c_BadCount bmV "ValueError.__new__" = true)
    (kiga_BadCount : PySem.W.findIn K (.ref c_BadCount) "__getattribute__" = some (some (.builtin "BaseException.__getattribute__")))
    (kigt_BadCount : PySem.W.findIn K (.ref c_BadCount) "__getattr__" = some none)
    (kicl_BadCount : PySem.W.findIn K (.ref c_BadCount) "__class__" = some (some (.builtin "object.__class__")))
    (kimb_BadCount : PySem.W.mroIn K c_BadCount (.type "BaseException") = some true)
    (kimo_BadCount : PySem.W.mroIn K c_BadCount (.type "object") = some true)
    (em_BadCount_KeepError : PySem.W.exmOne K (.ref c_BadCount) (.ref c_KeepError) = some true)
    (k2_BadCount_BadCount : PySem.W.kitOne K (.ref c_BadCount) (.ref c_BadCount) = some true)
    (k2_BadCount_BadWord : PySem.W.kitOne K (.ref c_BadCount) (.ref c_BadWord) = some false)
    (k2_BadCount_NoHand : PySem.W.kitOne K (.ref c_BadCount) (.ref c_NoHand) = some false)
    (k2_BadCount_NoSlot : PySem.W.kitOne K (.ref c_BadCount) (.ref c_NoSlot) = some false)
    (k2_BadCount_NothingHeld : PySem.W.kitOne K (.ref c_BadCount) (.ref c_NothingHeld) = some false)
    (k2_BadCount_BadNumber : PySem.W.kitOne K (.ref c_BadCount) (.ref c_BadNumber) = some false)
    (k2_BadCount_NoCell : PySem.W.kitOne K (.ref c_BadCount) (.ref c_NoCell) = some false)
    (k2_BadCount_NoDeed : PySem.W.kitOne K (.ref c_BadCount) (.ref c_NoDeed) = some false)
    (k2_BadCount_NoImage : PySem.W.kitOne K (.ref c_BadCount) (.ref c_NoImage) = some false)
    (k2_BadCount_NoName : PySem.W.kitOne K (.ref c_BadCount) (.ref c_NoName) = some false)
    (k2_BadCount_NoPlace : PySem.W.kitOne K (.ref c_BadCount) (.ref c_NoPlace) = some false)
    (k2_BadCount_NoProgram : PySem.W.kitOne K (.ref c_BadCount) (.ref c_NoProgram) = some false)
    (k2_BadCount_NoRoom : PySem.W.kitOne K (.ref c_BadCount) (.ref c_NoRoom) = some false)
    (k2_BadCount_ValueError : PySem.W.kitOne K (.ref c_BadCount) (.type "ValueError") = some true)
    (x_BadNumber : PySem.W.excIn K c_BadNumber bmV "ValueError.__new__" = true)
    (kiga_BadNumber : PySem.W.findIn K (.ref c_BadNumber) "__getattribute__" = some (some (.builtin "BaseException.__getattribute__")))
    (kigt_BadNumber : PySem.W.findIn K (.ref c_BadNumber) "__getattr__" = some none)
    (kicl_BadNumber : PySem.W.findIn K (.ref c_BadNumber) "__class__" = some (some (.builtin "object.__class__")))
    (kimb_BadNumber : PySem.W.mroIn K c_BadNumber (.type "BaseException") = some true)
    (kimo_BadNumber : PySem.W.mroIn K c_BadNumber (.type "object") = some true)
    (em_BadNumber_KeepError : PySem.W.exmOne K (.ref c_BadNumber) (.ref c_KeepError) = some true)
    (x_BadWord : PySem.W.excIn K c_BadWord bmV "ValueError.__new__" = true)
    (kiga_BadWord : PySem.W.findIn K (.ref c_BadWord) "__getattribute__" = some (some (.builtin "BaseException.__getattribute__")))
    (kigt_BadWord : PySem.W.findIn K (.ref c_BadWord) "__getattr__" = some none)
    (kicl_BadWord : PySem.W.findIn K (.ref c_BadWord) "__class__" = some (some (.builtin "object.__class__")))
    (kimb_BadWord : PySem.W.mroIn K c_BadWord (.type "BaseException") = some true)
    (kimo_BadWord : PySem.W.mroIn K c_BadWord (.type "object") = some true)
    (em_BadWord_KeepError : PySem.W.exmOne K (.ref c_BadWord) (.ref c_KeepError) = some true)
    (k2_BadWord_BadCount : PySem.W.kitOne K (.ref c_BadWord) (.ref c_BadCount) = some false)
    (k2_BadWord_BadWord : PySem.W.kitOne K (.ref c_BadWord) (.ref c_BadWord) = some true)
    (k2_BadWord_NoHand : PySem.W.kitOne K (.ref c_BadWord) (.ref c_NoHand) = some false)
    (k2_BadWord_NoSlot : PySem.W.kitOne K (.ref c_BadWord) (.ref c_NoSlot) = some false)
    (k2_BadWord_NothingHeld : PySem.W.kitOne K (.ref c_BadWord) (.ref c_NothingHeld) = some false)
    (k2_BadWord_BadNumber : PySem.W.kitOne K (.ref c_BadWord) (.ref c_BadNumber) = some false)
    (k2_BadWord_NoCell : PySem.W.kitOne K (.ref c_BadWord) (.ref c_NoCell) = some false)
    (k2_BadWord_NoDeed : PySem.W.kitOne K (.ref c_BadWord) (.ref c_NoDeed) = some false)
    (k2_BadWord_NoImage : PySem.W.kitOne K (.ref c_BadWord) (.ref c_NoImage) = some false)
    (k2_BadWord_NoName : PySem.W.kitOne K (.ref c_BadWord) (.ref c_NoName) = some false)
    (k2_BadWord_NoPlace : PySem.W.kitOne K (.ref c_BadWord) (.ref c_NoPlace) = some false)
    (k2_BadWord_NoProgram : PySem.W.kitOne K (.ref c_BadWord) (.ref c_NoProgram) = some false)
    (k2_BadWord_NoRoom : PySem.W.kitOne K (.ref c_BadWord) (.ref c_NoRoom) = some false)
    (k2_BadWord_ValueError : PySem.W.kitOne K (.ref c_BadWord) (.type "ValueError") = some true)
    (x_NoCell : PySem.W.excIn K c_NoCell bmV "ValueError.__new__" = true)
    (kiga_NoCell : PySem.W.findIn K (.ref c_NoCell) "__getattribute__" = some (some (.builtin "BaseException.__getattribute__")))
    (kigt_NoCell : PySem.W.findIn K (.ref c_NoCell) "__getattr__" = some none)
    (kicl_NoCell : PySem.W.findIn K (.ref c_NoCell) "__class__" = some (some (.builtin "object.__class__")))
    (kimb_NoCell : PySem.W.mroIn K c_NoCell (.type "BaseException") = some true)
    (kimo_NoCell : PySem.W.mroIn K c_NoCell (.type "object") = some true)
    (em_NoCell_KeepError : PySem.W.exmOne K (.ref c_NoCell) (.ref c_KeepError) = some true)
    (x_NoHand : PySem.W.excIn K c_NoHand bmV "ValueError.__new__" = true)
    (kiga_NoHand : PySem.W.findIn K (.ref c_NoHand) "__getattribute__" = some (some (.builtin "BaseException.__getattribute__")))
    (kigt_NoHand : PySem.W.findIn K (.ref c_NoHand) "__getattr__" = some none)
    (kicl_NoHand : PySem.W.findIn K (.ref c_NoHand) "__class__" = some (some (.builtin "object.__class__")))
    (kimb_NoHand : PySem.W.mroIn K c_NoHand (.type "BaseException") = some true)
    (kimo_NoHand : PySem.W.mroIn K c_NoHand (.type "object") = some true)
    (em_NoHand_KeepError : PySem.W.exmOne K (.ref c_NoHand) (.ref c_KeepError) = some true)
    (k2_NoHand_BadCount : PySem.W.kitOne K (.ref c_NoHand) (.ref c_BadCount) = some false)
    (k2_NoHand_BadWord : PySem.W.kitOne K (.ref c_NoHand) (.ref c_BadWord) = some false)
    (k2_NoHand_NoHand : PySem.W.kitOne K (.ref c_NoHand) (.ref c_NoHand) = some true)
    (k2_NoHand_NoSlot : PySem.W.kitOne K (.ref c_NoHand) (.ref c_NoSlot) = some false)
    (k2_NoHand_NothingHeld : PySem.W.kitOne K (.ref c_NoHand) (.ref c_NothingHeld) = some false)
    (k2_NoHand_BadNumber : PySem.W.kitOne K (.ref c_NoHand) (.ref c_BadNumber) = some false)
    (k2_NoHand_NoCell : PySem.W.kitOne K (.ref c_NoHand) (.ref c_NoCell) = some false)
    (k2_NoHand_NoDeed : PySem.W.kitOne K (.ref c_NoHand) (.ref c_NoDeed) = some false)
    (k2_NoHand_NoImage : PySem.W.kitOne K (.ref c_NoHand) (.ref c_NoImage) = some false)
    (k2_NoHand_NoName : PySem.W.kitOne K (.ref c_NoHand) (.ref c_NoName) = some false)
    (k2_NoHand_NoPlace : PySem.W.kitOne K (.ref c_NoHand) (.ref c_NoPlace) = some false)
    (k2_NoHand_NoProgram : PySem.W.kitOne K (.ref c_NoHand) (.ref c_NoProgram) = some false)
    (k2_NoHand_NoRoom : PySem.W.kitOne K (.ref c_NoHand) (.ref c_NoRoom) = some false)
    (k2_NoHand_ValueError : PySem.W.kitOne K (.ref c_NoHand) (.type "ValueError") = some true)
    (x_NoPlace : PySem.W.excIn K c_NoPlace bmV "ValueError.__new__" = true)
    (kiga_NoPlace : PySem.W.findIn K (.ref c_NoPlace) "__getattribute__" = some (some (.builtin "BaseException.__getattribute__")))
    (kigt_NoPlace : PySem.W.findIn K (.ref c_NoPlace) "__getattr__" = some none)
    (kicl_NoPlace : PySem.W.findIn K (.ref c_NoPlace) "__class__" = some (some (.builtin "object.__class__")))
    (kimb_NoPlace : PySem.W.mroIn K c_NoPlace (.type "BaseException") = some true)
    (kimo_NoPlace : PySem.W.mroIn K c_NoPlace (.type "object") = some true)
    (em_NoPlace_KeepError : PySem.W.exmOne K (.ref c_NoPlace) (.ref c_KeepError) = some true)
    (x_NoRoom : PySem.W.excIn K c_NoRoom bmV "ValueError.__new__" = true)
    (kiga_NoRoom : PySem.W.findIn K (.ref c_NoRoom) "__getattribute__" = some (some (.builtin "BaseException.__getattribute__")))
    (kigt_NoRoom : PySem.W.findIn K (.ref c_NoRoom) "__getattr__" = some none)
    (kicl_NoRoom : PySem.W.findIn K (.ref c_NoRoom) "__class__" = some (some (.builtin "object.__class__")))
    (kimb_NoRoom : PySem.W.mroIn K c_NoRoom (.type "BaseException") = some true)
    (kimo_NoRoom : PySem.W.mroIn K c_NoRoom (.type "object") = some true)
    (em_NoRoom_KeepError : PySem.W.exmOne K (.ref c_NoRoom) (.ref c_KeepError) = some true)
    (x_NoSlot : PySem.W.excIn K c_NoSlot bmV "ValueError.__new__" = true)
    (kiga_NoSlot : PySem.W.findIn K (.ref c_NoSlot) "__getattribute__" = some (some (.builtin "BaseException.__getattribute__")))
    (kigt_NoSlot : PySem.W.findIn K (.ref c_NoSlot) "__getattr__" = some none)
    (kicl_NoSlot : PySem.W.findIn K (.ref c_NoSlot) "__class__" = some (some (.builtin "object.__class__")))
    (kimb_NoSlot : PySem.W.mroIn K c_NoSlot (.type "BaseException") = some true)
    (kimo_NoSlot : PySem.W.mroIn K c_NoSlot (.type "object") = some true)
    (em_NoSlot_KeepError : PySem.W.exmOne K (.ref c_NoSlot) (.ref c_KeepError) = some true)
    (k2_NoSlot_BadCount : PySem.W.kitOne K (.ref c_NoSlot) (.ref c_BadCount) = some false)
    (k2_NoSlot_BadWord : PySem.W.kitOne K (.ref c_NoSlot) (.ref c_BadWord) = some false)
    (k2_NoSlot_NoHand : PySem.W.kitOne K (.ref c_NoSlot) (.ref c_NoHand) = some false)
    (k2_NoSlot_NoSlot : PySem.W.kitOne K (.ref c_NoSlot) (.ref c_NoSlot) = some true)
    (k2_NoSlot_NothingHeld : PySem.W.kitOne K (.ref c_NoSlot) (.ref c_NothingHeld) = some false)
    (k2_NoSlot_BadNumber : PySem.W.kitOne K (.ref c_NoSlot) (.ref c_BadNumber) = some false)
    (k2_NoSlot_NoCell : PySem.W.kitOne K (.ref c_NoSlot) (.ref c_NoCell) = some false)
    (k2_NoSlot_NoDeed : PySem.W.kitOne K (.ref c_NoSlot) (.ref c_NoDeed) = some false)
    (k2_NoSlot_NoImage : PySem.W.kitOne K (.ref c_NoSlot) (.ref c_NoImage) = some false)
    (k2_NoSlot_NoName : PySem.W.kitOne K (.ref c_NoSlot) (.ref c_NoName) = some false)
    (k2_NoSlot_NoPlace : PySem.W.kitOne K (.ref c_NoSlot) (.ref c_NoPlace) = some false)
    (k2_NoSlot_NoProgram : PySem.W.kitOne K (.ref c_NoSlot) (.ref c_NoProgram) = some false)
    (k2_NoSlot_NoRoom : PySem.W.kitOne K (.ref c_NoSlot) (.ref c_NoRoom) = some false)
    (k2_NoSlot_ValueError : PySem.W.kitOne K (.ref c_NoSlot) (.type "ValueError") = some true)
    (x_NothingHeld : PySem.W.excIn K c_NothingHeld bmV "ValueError.__new__" = true)
    (kiga_NothingHeld : PySem.W.findIn K (.ref c_NothingHeld) "__getattribute__" = some (some (.builtin "BaseException.__getattribute__")))
    (kigt_NothingHeld : PySem.W.findIn K (.ref c_NothingHeld) "__getattr__" = some none)
    (kicl_NothingHeld : PySem.W.findIn K (.ref c_NothingHeld) "__class__" = some (some (.builtin "object.__class__")))
    (kimb_NothingHeld : PySem.W.mroIn K c_NothingHeld (.type "BaseException") = some true)
    (kimo_NothingHeld : PySem.W.mroIn K c_NothingHeld (.type "object") = some true)
    (em_NothingHeld_KeepError : PySem.W.exmOne K (.ref c_NothingHeld) (.ref c_KeepError) = some true)
    (k2_NothingHeld_BadCount : PySem.W.kitOne K (.ref c_NothingHeld) (.ref c_BadCount) = some false)
    (k2_NothingHeld_BadWord : PySem.W.kitOne K (.ref c_NothingHeld) (.ref c_BadWord) = some false)
    (k2_NothingHeld_NoHand : PySem.W.kitOne K (.ref c_NothingHeld) (.ref c_NoHand) = some false)
    (k2_NothingHeld_NoSlot : PySem.W.kitOne K (.ref c_NothingHeld) (.ref c_NoSlot) = some false)
    (k2_NothingHeld_NothingHeld : PySem.W.kitOne K (.ref c_NothingHeld) (.ref c_NothingHeld) = some true)
    (k2_NothingHeld_BadNumber : PySem.W.kitOne K (.ref c_NothingHeld) (.ref c_BadNumber) = some false)
    (k2_NothingHeld_NoCell : PySem.W.kitOne K (.ref c_NothingHeld) (.ref c_NoCell) = some false)
    (k2_NothingHeld_NoDeed : PySem.W.kitOne K (.ref c_NothingHeld) (.ref c_NoDeed) = some false)
    (k2_NothingHeld_NoImage : PySem.W.kitOne K (.ref c_NothingHeld) (.ref c_NoImage) = some false)
    (k2_NothingHeld_NoName : PySem.W.kitOne K (.ref c_NothingHeld) (.ref c_NoName) = some false)
    (k2_NothingHeld_NoPlace : PySem.W.kitOne K (.ref c_NothingHeld) (.ref c_NoPlace) = some false)
    (k2_NothingHeld_NoProgram : PySem.W.kitOne K (.ref c_NothingHeld) (.ref c_NoProgram) = some false)
    (k2_NothingHeld_NoRoom : PySem.W.kitOne K (.ref c_NothingHeld) (.ref c_NoRoom) = some false)
    (k2_NothingHeld_ValueError : PySem.W.kitOne K (.ref c_NothingHeld) (.type "ValueError") = some true)
    (kihn : PySem.W.specialIn K (.builtin "object.__class__") "__get__" = some (some (.builtin "getset_descriptor.__get__")))
    (kitk : PySem.W.takesIn K (.builtin "object.__class__") = some true)
    (kt_NoneType_int : PySem.W.kitOne K (.type "NoneType") (.type "int") = some false)
    (kt_NoneType_bool : PySem.W.kitOne K (.type "NoneType") (.type "bool") = some false)
    (kt_bool_int : PySem.W.kitOne K (.type "bool") (.type "int") = some true)
    (kt_bool_bool : PySem.W.kitOne K (.type "bool") (.type "bool") = some true)
    (kt_int_int : PySem.W.kitOne K (.type "int") (.type "int") = some true)
    (kt_int_bool : PySem.W.kitOne K (.type "int") (.type "bool") = some false)
    (kt_str_int : PySem.W.kitOne K (.type "str") (.type "int") = some false)
    (kt_str_bool : PySem.W.kitOne K (.type "str") (.type "bool") = some false)
    (kt_list_int : PySem.W.kitOne K (.type "list") (.type "int") = some false)
    (kt_list_bool : PySem.W.kitOne K (.type "list") (.type "bool") = some false)
    (kt_tuple_int : PySem.W.kitOne K (.type "tuple") (.type "int") = some false)
    (kt_tuple_bool : PySem.W.kitOne K (.type "tuple") (.type "bool") = some false)
    (kt_dict_int : PySem.W.kitOne K (.type "dict") (.type "int") = some false)
    (kt_dict_bool : PySem.W.kitOne K (.type "dict") (.type "bool") = some false)
    (n_ValueError : PySem.W.nsIn K mainGlobals "ValueError" = some none)
    (n_bool : PySem.W.nsIn K mainGlobals "bool" = some none)
    (n_int : PySem.W.nsIn K mainGlobals "int" = some none)
    (n_isinstance : PySem.W.nsIn K mainGlobals "isinstance" = some none)
    (n_len : PySem.W.nsIn K mainGlobals "len" = some none)
    (n_range : PySem.W.nsIn K mainGlobals "range" = some none)
    (n_sorted : PySem.W.nsIn K mainGlobals "sorted" = some none)
    : ∃ fd : FuncData, (∀ (s : Shared) (v : Value), BindsTo s fd ⟨[v], []⟩ [("_law_script", v)]) ∧ ∀ base : Heap, K.In base → base.Ns mainGlobals mg → FnOk l.prog w K mg base (CXE l.prog w) true 13 fa fd ["_law_script"] (sp_law K) := by
  have e := hfa.symm.trans (PySem.W.mg_of X G g_law)
  cases e
  let A : Ad := ⟨f_is_whole, (PySem.W.fnOf "is_whole" "is_whole" (defArgs s_is_whole) (defBody s_is_whole) (defScope s_is_whole) .none kV_is_whole dc_is_whole pm_is_whole an_is_whole cd_is_whole ct_is_whole), f_Space_init, (PySem.W.fnOf "__init__" "Space.__init__" (defArgs s_Space_init) (defBody s_Space_init) (defScope s_Space_init) .none kV_Space_init dc_Space_init pm_Space_init an_Space_init cd_Space_init ct_Space_init), f_Space_room, (PySem.W.fnOf "room" "Space.room" (defArgs s_Space_room) (defBody s_Space_room) (defScope s_Space_room) .none kV_Space_room dc_Space_room pm_Space_room an_Space_room cd_Space_room ct_Space_room), f_Space_extent, (PySem.W.fnOf "extent" "Space.extent" (defArgs s_Space_extent) (defBody s_Space_extent) (defScope s_Space_extent) .none kV_Space_extent dc_Space_extent pm_Space_extent an_Space_extent cd_Space_extent ct_Space_extent), f_Book_init, (PySem.W.fnOf "__init__" "Book.__init__" (defArgs s_Book_init) (defBody s_Book_init) (defScope s_Book_init) .none kV_Book_init dc_Book_init pm_Book_init an_Book_init cd_Book_init ct_Book_init), f_Book_places, (PySem.W.fnOf "places" "Book.places" (defArgs s_Book_places) (defBody s_Book_places) (defScope s_Book_places) .none kV_Book_places dc_Book_places pm_Book_places an_Book_places cd_Book_places ct_Book_places), f_Lasts_init, (PySem.W.fnOf "__init__" "Lasts.__init__" (defArgs s_Lasts_init) (defBody s_Lasts_init) (defScope s_Lasts_init) .none kV_Lasts_init dc_Lasts_init pm_Lasts_init an_Lasts_init cd_Lasts_init ct_Lasts_init), f_Weak_init, (PySem.W.fnOf "__init__" "Weak.__init__" (defArgs s_Weak_init) (defBody s_Weak_init) (defScope s_Weak_init) .none kV_Weak_init dc_Weak_init pm_Weak_init an_Weak_init cd_Weak_init ct_Weak_init), f__law_draw, (PySem.W.fnOf "_law_draw" "_law_draw" (defArgs s__law_draw) (defBody s__law_draw) (defScope s__law_draw) .none kV__law_draw dc__law_draw pm__law_draw an__law_draw cd__law_draw ct__law_draw), f__law_alone, (PySem.W.fnOf "_law_alone" "_law_alone" (defArgs s__law_alone) (defBody s__law_alone) (defScope s__law_alone) .none kV__law_alone dc__law_alone pm__law_alone an__law_alone cd__law_alone ct__law_alone), f__law_size, (PySem.W.fnOf "_law_size" "_law_size" (defArgs s__law_size) (defBody s__law_size) (defScope s__law_size) .none kV__law_size dc__law_size pm__law_size an__law_size cd__law_size ct__law_size), f__law_fits, (PySem.W.fnOf "_law_fits" "_law_fits" (defArgs s__law_fits) (defBody s__law_fits) (defScope s__law_fits) .none kV__law_fits dc__law_fits pm__law_fits an__law_fits cd__law_fits ct__law_fits), f_is_within, (PySem.W.fnOf "is_within" "is_within" (defArgs s_is_within) (defBody s_is_within) (defScope s_is_within) .none kV_is_within dc_is_within pm_is_within an_is_within cd_is_within ct_is_within), f_Space_take, (PySem.W.fnOf "take" "Space.take" (defArgs s_Space_take) (defBody s_Space_take) (defScope s_Space_take) .none kV_Space_take dc_Space_take pm_Space_take an_Space_take cd_Space_take ct_Space_take), f_Heap_is_for_young, (PySem.W.fnOf "is_for_young" "Heap.is_for_young" (defArgs s_Heap_is_for_young) (defBody s_Heap_is_for_young) (defScope s_Heap_is_for_young) .none kV_Heap_is_for_young dc_Heap_is_for_young pm_Heap_is_for_young an_Heap_is_for_young cd_Heap_is_for_young ct_Heap_is_for_young), f__law_due, (PySem.W.fnOf "_law_due" "_law_due" (defArgs s__law_due) (defBody s__law_due) (defScope s__law_due) .none kV__law_due dc__law_due pm__law_due an__law_due cd__law_due ct__law_due), f_is_number, (PySem.W.fnOf "is_number" "is_number" (defArgs s_is_number) (defBody s_is_number) (defScope s_is_number) .none kV_is_number dc_is_number pm_is_number an_is_number cd_is_number ct_is_number), f_is_place, (PySem.W.fnOf "is_place" "is_place" (defArgs s_is_place) (defBody s_is_place) (defScope s_is_place) .none kV_is_place dc_is_place pm_is_place an_is_place cd_is_place ct_is_place), f_want_slots, (PySem.W.fnOf "want_slots" "want_slots" (defArgs s_want_slots) (defBody s_want_slots) (defScope s_want_slots) .none kV_want_slots dc_want_slots pm_want_slots an_want_slots cd_want_slots ct_want_slots), f_is_head, (PySem.W.fnOf "is_head" "is_head" (defArgs s_is_head) (defBody s_is_head) (defScope s_is_head) .none kV_is_head dc_is_head pm_is_head an_is_head cd_is_head ct_is_head), f_fits, (PySem.W.fnOf "fits" "fits" (defArgs s_fits) (defBody s_fits) (defScope s_fits) .none kV_fits dc_fits pm_fits an_fits cd_fits ct_fits), f_Memory_init, (PySem.W.fnOf "__init__" "Memory.__init__" (defArgs s_Memory_init) (defBody s_Memory_init) (defScope s_Memory_init) .none kV_Memory_init dc_Memory_init pm_Memory_init an_Memory_init cd_Memory_init ct_Memory_init), f_Memory_want_place, (PySem.W.fnOf "want_place" "Memory.want_place" (defArgs s_Memory_want_place) (defBody s_Memory_want_place) (defScope s_Memory_want_place) .none kV_Memory_want_place dc_Memory_want_place pm_Memory_want_place an_Memory_want_place cd_Memory_want_place ct_Memory_want_place), f_Space_has, (PySem.W.fnOf "has" "Space.has" (defArgs s_Space_has) (defBody s_Space_has) (defScope s_Space_has) .none kV_Space_has dc_Space_has pm_Space_has an_Space_has cd_Space_has ct_Space_has), f_Hands_init, (PySem.W.fnOf "__init__" "Hands.__init__" (defArgs s_Hands_init) (defBody s_Hands_init) (defScope s_Hands_init) .none kV_Hands_init dc_Hands_init pm_Hands_init an_Hands_init cd_Hands_init ct_Hands_init), f_Hands_want_hand, (PySem.W.fnOf "want_hand" "Hands.want_hand" (defArgs s_Hands_want_hand) (defBody s_Hands_want_hand) (defScope s_Hands_want_hand) .none kV_Hands_want_hand dc_Hands_want_hand pm_Hands_want_hand an_Hands_want_hand cd_Hands_want_hand ct_Hands_want_hand), f_want_number, (PySem.W.fnOf "want_number" "want_number" (defArgs s_want_number) (defBody s_want_number) (defScope s_want_number) .none kV_want_number dc_want_number pm_want_number an_want_number cd_want_number ct_want_number), f_want_place, (PySem.W.fnOf "want_place" "want_place" (defArgs s_want_place) (defBody s_want_place) (defScope s_want_place) .none kV_want_place dc_want_place pm_want_place an_want_place cd_want_place ct_want_place), f_kind, (PySem.W.fnOf "kind" "kind" (defArgs s_kind) (defBody s_kind) (defScope s_kind) .none kV_kind dc_kind pm_kind an_kind cd_kind ct_kind), f_Memory_read, (PySem.W.fnOf "read" "Memory.read" (defArgs s_Memory_read) (defBody s_Memory_read) (defScope s_Memory_read) .none kV_Memory_read dc_Memory_read pm_Memory_read an_Memory_read cd_Memory_read ct_Memory_read), f_Hands_get, (PySem.W.fnOf "get" "Hands.get" (defArgs s_Hands_get) (defBody s_Hands_get) (defScope s_Hands_get) .none kV_Hands_get dc_Hands_get pm_Hands_get an_Hands_get cd_Hands_get ct_Hands_get), f_Heap_want_hand, (PySem.W.fnOf "want_hand" "Heap.want_hand" (defArgs s_Heap_want_hand) (defBody s_Heap_want_hand) (defScope s_Heap_want_hand) .none kV_Heap_want_hand dc_Heap_want_hand pm_Heap_want_hand an_Heap_want_hand cd_Heap_want_hand ct_Heap_want_hand), f_number_word, (PySem.W.fnOf "number_word" "number_word" (defArgs s_number_word) (defBody s_number_word) (defScope s_number_word) .none kV_number_word dc_number_word pm_number_word an_number_word cd_number_word ct_number_word), f_place_word, (PySem.W.fnOf "place_word" "place_word" (defArgs s_place_word) (defBody s_place_word) (defScope s_place_word) .none kV_place_word dc_place_word pm_place_word an_place_word cd_place_word ct_place_word), f_worth, (PySem.W.fnOf "worth" "worth" (defArgs s_worth) (defBody s_worth) (defScope s_worth) .none kV_worth dc_worth pm_worth an_worth cd_worth ct_worth), f_Memory_write, (PySem.W.fnOf "write" "Memory.write" (defArgs s_Memory_write) (defBody s_Memory_write) (defScope s_Memory_write) .none kV_Memory_write dc_Memory_write pm_Memory_write an_Memory_write cd_Memory_write ct_Memory_write), f_Areas_init, (PySem.W.fnOf "__init__" "Areas.__init__" (defArgs s_Areas_init) (defBody s_Areas_init) (defScope s_Areas_init) .none kV_Areas_init dc_Areas_init pm_Areas_init an_Areas_init cd_Areas_init ct_Areas_init), f_Book_write, (PySem.W.fnOf "write" "Book.write" (defArgs s_Book_write) (defBody s_Book_write) (defScope s_Book_write) .none kV_Book_write dc_Book_write pm_Book_write an_Book_write cd_Book_write ct_Book_write), f_Book_has, (PySem.W.fnOf "has" "Book.has" (defArgs s_Book_has) (defBody s_Book_has) (defScope s_Book_has) .none kV_Book_has dc_Book_has pm_Book_has an_Book_has cd_Book_has ct_Book_has), f_Hands_put, (PySem.W.fnOf "put" "Hands.put" (defArgs s_Hands_put) (defBody s_Hands_put) (defScope s_Hands_put) .none kV_Hands_put dc_Hands_put pm_Hands_put an_Hands_put cd_Hands_put ct_Hands_put), f_Roots_init, (PySem.W.fnOf "__init__" "Roots.__init__" (defArgs s_Roots_init) (defBody s_Roots_init) (defScope s_Roots_init) .none kV_Roots_init dc_Roots_init pm_Roots_init an_Roots_init cd_Roots_init ct_Roots_init), f_Heap_held, (PySem.W.fnOf "held" "Heap.held" (defArgs s_Heap_held) (defBody s_Heap_held) (defScope s_Heap_held) .none kV_Heap_held dc_Heap_held pm_Heap_held an_Heap_held cd_Heap_held ct_Heap_held), f_Heap_want_make, (PySem.W.fnOf "want_make" "Heap.want_make" (defArgs s_Heap_want_make) (defBody s_Heap_want_make) (defScope s_Heap_want_make) .none kV_Heap_want_make dc_Heap_want_make pm_Heap_want_make an_Heap_want_make cd_Heap_want_make ct_Heap_want_make), f_head_word, (PySem.W.fnOf "head_word" "head_word" (defArgs s_head_word) (defBody s_head_word) (defScope s_head_word) .none kV_head_word dc_head_word pm_head_word an_head_word cd_head_word ct_head_word), f_head_number, (PySem.W.fnOf "head_number" "head_number" (defArgs s_head_number) (defBody s_head_number) (defScope s_head_number) .none kV_head_number dc_head_number pm_head_number an_head_number cd_head_number ct_head_number), f_Book_rub, (PySem.W.fnOf "rub" "Book.rub" (defArgs s_Book_rub) (defBody s_Book_rub) (defScope s_Book_rub) .none kV_Book_rub dc_Book_rub pm_Book_rub an_Book_rub cd_Book_rub ct_Book_rub), f_is_of_young, (PySem.W.fnOf "is_of_young" "is_of_young" (defArgs s_is_of_young) (defBody s_is_of_young) (defScope s_is_of_young) .none kV_is_of_young dc_is_of_young pm_is_of_young an_is_of_young cd_is_of_young ct_is_of_young), f_Heap_hold, (PySem.W.fnOf "hold" "Heap.hold" (defArgs s_Heap_hold) (defBody s_Heap_hold) (defScope s_Heap_hold) .none kV_Heap_hold dc_Heap_hold pm_Heap_hold an_Heap_hold cd_Heap_hold ct_Heap_hold), f_Heap_cell_of, (PySem.W.fnOf "cell_of" "Heap.cell_of" (defArgs s_Heap_cell_of) (defBody s_Heap_cell_of) (defScope s_Heap_cell_of) .none kV_Heap_cell_of dc_Heap_cell_of pm_Heap_cell_of an_Heap_cell_of cd_Heap_cell_of ct_Heap_cell_of), f_lay, (PySem.W.fnOf "lay" "lay" (defArgs s_lay) (defBody s_lay) (defScope s_lay) .none kV_lay dc_lay pm_lay an_lay cd_lay ct_lay), f_slots_of, (PySem.W.fnOf "slots_of" "slots_of" (defArgs s_slots_of) (defBody s_slots_of) (defScope s_slots_of) .none kV_slots_of dc_slots_of pm_slots_of an_slots_of cd_slots_of ct_slots_of), f_Heap_init, (PySem.W.fnOf "__init__" "Heap.__init__" (defArgs s_Heap_init) (defBody s_Heap_init) (defScope s_Heap_init) .none kV_Heap_init dc_Heap_init pm_Heap_init an_Heap_init cd_Heap_init ct_Heap_init), f_Heap_drop, (PySem.W.fnOf "drop" "Heap.drop" (defArgs s_Heap_drop) (defBody s_Heap_drop) (defScope s_Heap_drop) .none kV_Heap_drop dc_Heap_drop pm_Heap_drop an_Heap_drop cd_Heap_drop ct_Heap_drop), f_Heap_note, (PySem.W.fnOf "note" "Heap.note" (defArgs s_Heap_note) (defBody s_Heap_note) (defScope s_Heap_note) .none kV_Heap_note dc_Heap_note pm_Heap_note an_Heap_note cd_Heap_note ct_Heap_note), f_aged, (PySem.W.fnOf "aged" "aged" (defArgs s_aged) (defBody s_aged) (defScope s_aged) .none kV_aged dc_aged pm_aged an_aged cd_aged ct_aged), f_slot_place, (PySem.W.fnOf "slot_place" "slot_place" (defArgs s_slot_place) (defBody s_slot_place) (defScope s_slot_place) .none kV_slot_place dc_slot_place pm_slot_place an_slot_place cd_slot_place ct_slot_place), f_Areas_lay_into, (PySem.W.fnOf "lay_into" "Areas.lay_into" (defArgs s_Areas_lay_into) (defBody s_Areas_lay_into) (defScope s_Areas_lay_into) .none kV_Areas_lay_into dc_Areas_lay_into pm_Areas_lay_into an_Areas_lay_into cd_Areas_lay_into ct_Areas_lay_into), f_Heap_place_of, (PySem.W.fnOf "place_of" "Heap.place_of" (defArgs s_Heap_place_of) (defBody s_Heap_place_of) (defScope s_Heap_place_of) .none kV_Heap_place_of dc_Heap_place_of pm_Heap_place_of an_Heap_place_of cd_Heap_place_of ct_Heap_place_of), f__law_is_heap, (PySem.W.fnOf "_law_is_heap" "_law_is_heap" (defArgs s__law_is_heap) (defBody s__law_is_heap) (defScope s__law_is_heap) .none kV__law_is_heap dc__law_is_heap pm__law_is_heap an__law_is_heap cd__law_is_heap ct__law_is_heap), f_Areas_lay_young, (PySem.W.fnOf "lay_young" "Areas.lay_young" (defArgs s_Areas_lay_young) (defBody s_Areas_lay_young) (defScope s_Areas_lay_young) .none kV_Areas_lay_young dc_Areas_lay_young pm_Areas_lay_young an_Areas_lay_young cd_Areas_lay_young ct_Areas_lay_young), f_Areas_lay_old, (PySem.W.fnOf "lay_old" "Areas.lay_old" (defArgs s_Areas_lay_old) (defBody s_Areas_lay_old) (defScope s_Areas_lay_old) .none kV_Areas_lay_old dc_Areas_lay_old pm_Areas_lay_old an_Areas_lay_old cd_Areas_lay_old ct_Areas_lay_old), f_Heap_get, (PySem.W.fnOf "get" "Heap.get" (defArgs s_Heap_get) (defBody s_Heap_get) (defScope s_Heap_get) .none kV_Heap_get dc_Heap_get pm_Heap_get an_Heap_get cd_Heap_get ct_Heap_get), f_Heap_put, (PySem.W.fnOf "put" "Heap.put" (defArgs s_Heap_put) (defBody s_Heap_put) (defScope s_Heap_put) .none kV_Heap_put dc_Heap_put pm_Heap_put an_Heap_put cd_Heap_put ct_Heap_put), f_Heap_make, (PySem.W.fnOf "make" "Heap.make" (defArgs s_Heap_make) (defBody s_Heap_make) (defScope s_Heap_make) .none kV_Heap_make dc_Heap_make pm_Heap_make an_Heap_make cd_Heap_make ct_Heap_make), f__law_state, (PySem.W.fnOf "_law_state" "_law_state" (defArgs s__law_state) (defBody s__law_state) (defScope s__law_state) .none kV__law_state dc__law_state pm__law_state an__law_state cd__law_state ct__law_state), f__law_call, (PySem.W.fnOf "_law_call" "_law_call" (defArgs s__law_call) (defBody s__law_call) (defScope s__law_call) .none kV__law_call dc__law_call pm__law_call an__law_call cd__law_call ct__law_call), fa, (PySem.W.fnOf "law" "law" (defArgs s_law) (defBody s_law) (defScope s_law) .none kV_law dc_law pm_law an_law cd_law ct_law), c_KeepError, c_BadNumber, c_BadWord, c_BadCount, c_NoPlace, c_NoRoom, c_NoSlot, c_NoCell, c_NoHand, c_NothingHeld, c_NoName, c_NoDeed, c_NoImage, c_NoProgram, c_Memory, c_Space, c_Areas, c_Book, c_Hands, c_Lasts, c_Weak, c_Roots, c_Heap⟩
  have T : Txt K mg A := {
    g_KeepError := PySem.W.mg_of X G g_KeepError,
    g_BadNumber := PySem.W.mg_of X G g_BadNumber,
    g_BadWord := PySem.W.mg_of X G g_BadWord,
    g_BadCount := PySem.W.mg_of X G g_BadCount,
    g_NoPlace := PySem.W.mg_of X G g_NoPlace,
    g_NoRoom := PySem.W.mg_of X G g_NoRoom,
    g_NoSlot := PySem.W.mg_of X G g_NoSlot,
    g_NoCell := PySem.W.mg_of X G g_NoCell,
    g_NoHand := PySem.W.mg_of X G g_NoHand,
    g_NothingHeld := PySem.W.mg_of X G g_NothingHeld,
    g_NoName := PySem.W.mg_of X G g_NoName,
    g_NoDeed := PySem.W.mg_of X G g_NoDeed,
    g_NoImage := PySem.W.mg_of X G g_NoImage,
    g_NoProgram := PySem.W.mg_of X G g_NoProgram,
    g_Memory := PySem.W.mg_of X G g_Memory,
    g_Space := PySem.W.mg_of X G g_Space,
    g_Areas := PySem.W.mg_of X G g_Areas,
    g_Book := PySem.W.mg_of X G g_Book,
    g_Hands := PySem.W.mg_of X G g_Hands,
    g_Lasts := PySem.W.mg_of X G g_Lasts,
    g_Weak := PySem.W.mg_of X G g_Weak,
    g_Roots := PySem.W.mg_of X G g_Roots,
    g_Heap := PySem.W.mg_of X G g_Heap,
    v_KeepError := ⟨_, PySem.W.mg_of X G g_KeepError, rfl⟩,
    v_BadNumber := ⟨_, PySem.W.mg_of X G g_BadNumber, rfl⟩,
    v_BadWord := ⟨_, PySem.W.mg_of X G g_BadWord, rfl⟩,
    v_BadCount := ⟨_, PySem.W.mg_of X G g_BadCount, rfl⟩,
    v_NoPlace := ⟨_, PySem.W.mg_of X G g_NoPlace, rfl⟩,
    v_NoRoom := ⟨_, PySem.W.mg_of X G g_NoRoom, rfl⟩,
    v_NoSlot := ⟨_, PySem.W.mg_of X G g_NoSlot, rfl⟩,
    v_NoCell := ⟨_, PySem.W.mg_of X G g_NoCell, rfl⟩,
    v_NoHand := ⟨_, PySem.W.mg_of X G g_NoHand, rfl⟩,
    v_NothingHeld := ⟨_, PySem.W.mg_of X G g_NothingHeld, rfl⟩,
    v_NoName := ⟨_, PySem.W.mg_of X G g_NoName, rfl⟩,
    v_NoDeed := ⟨_, PySem.W.mg_of X G g_NoDeed, rfl⟩,
    v_NoImage := ⟨_, PySem.W.mg_of X G g_NoImage, rfl⟩,
    v_NoProgram := ⟨_, PySem.W.mg_of X G g_NoProgram, rfl⟩,
    cl_Memory := ⟨pg_Memory, hd_Memory, po_Memory, sa_Memory⟩,
    mk_Memory := ⟨mk_Memory, a_Memory_init, i_Memory_init, kc_Memory⟩,
    na_Memory_size := na_Memory_size,
    na_Memory_words := na_Memory_words,
    cl_Space := ⟨pg_Space, hd_Space, po_Space, sa_Space⟩,
    mk_Space := ⟨mk_Space, a_Space_init, i_Space_init, kc_Space⟩,
    na_Space_begin := na_Space_begin,
    na_Space_end := na_Space_end,
    na_Space_top := na_Space_top,
    cl_Areas := ⟨pg_Areas, hd_Areas, po_Areas, sa_Areas⟩,
    mk_Areas := ⟨mk_Areas, a_Areas_init, i_Areas_init, kc_Areas⟩,
    na_Areas_memory := na_Areas_memory,
    na_Areas_old := na_Areas_old,
    na_Areas_young := na_Areas_young,
    na_Areas_spare := na_Areas_spare,
    cl_Book := ⟨pg_Book, hd_Book, po_Book, sa_Book⟩,
    mk_Book := ⟨mk_Book, a_Book_init, i_Book_init, kc_Book⟩,
    na_Book_written := na_Book_written,
    cl_Hands := ⟨pg_Hands, hd_Hands, po_Hands, sa_Hands⟩,
    mk_Hands := ⟨mk_Hands, a_Hands_init, i_Hands_init, kc_Hands⟩,
    na_Hands_words := na_Hands_words,
    cl_Lasts := ⟨pg_Lasts, hd_Lasts, po_Lasts, sa_Lasts⟩,
    mk_Lasts := ⟨mk_Lasts, a_Lasts_init, i_Lasts_init, kc_Lasts⟩,
    na_Lasts_waiting := na_Lasts_waiting,
    na_Lasts_spoken := na_Lasts_spoken,
    cl_Weak := ⟨pg_Weak, hd_Weak, po_Weak, sa_Weak⟩,
    mk_Weak := ⟨mk_Weak, a_Weak_init, i_Weak_init, kc_Weak⟩,
    na_Weak_told := na_Weak_told,
    cl_Roots := ⟨pg_Roots, hd_Roots, po_Roots, sa_Roots⟩,
    mk_Roots := ⟨mk_Roots, a_Roots_init, i_Roots_init, kc_Roots⟩,
    na_Roots_hands := na_Roots_hands,
    na_Roots_book := na_Roots_book,
    na_Roots_weaks := na_Roots_weaks,
    na_Roots_lasts := na_Roots_lasts,
    cl_Heap := ⟨pg_Heap, hd_Heap, po_Heap, sa_Heap⟩,
    mk_Heap := ⟨mk_Heap, a_Heap_init, i_Heap_init, kc_Heap⟩,
    na_Heap_roots := na_Heap_roots,
    na_Heap_areas := na_Heap_areas,
    g_is_whole := PySem.W.mg_of X G g_is_whole,
    fn_is_whole := fun_mk (st := s_is_whole) l_is_whole d_is_whole k_is_whole,
    b_is_whole := (fun_mk (st := s_is_whole) l_is_whole d_is_whole k_is_whole).binds (ps := ["thing"]) fun _ _ _ _ _ _ us hl => match us, hl with | [_], _ => rfl,
    fn_Space_init := fun_mk (st := s_Space_init) l_Space_init d_Space_init k_Space_init,
    b_Space_init := (fun_mk (st := s_Space_init) l_Space_init d_Space_init k_Space_init).binds (ps := ["self", "begin", "end"]) fun _ _ _ _ _ _ us hl => match us, hl with | [_, _, _], _ => rfl,
    m_Space_room := ⟨a_Space_room, i_Space_room, k_Space_room⟩,
    fn_Space_room := fun_mk (st := s_Space_room) l_Space_room d_Space_room k_Space_room,
    b_Space_room := (fun_mk (st := s_Space_room) l_Space_room d_Space_room k_Space_room).binds (ps := ["self"]) fun _ _ _ _ _ _ us hl => match us, hl with | [_], _ => rfl,
    m_Space_extent := ⟨a_Space_extent, i_Space_extent, k_Space_extent⟩,
    fn_Space_extent := fun_mk (st := s_Space_extent) l_Space_extent d_Space_extent k_Space_extent,
    b_Space_extent := (fun_mk (st := s_Space_extent) l_Space_extent d_Space_extent k_Space_extent).binds (ps := ["self"]) fun _ _ _ _ _ _ us hl => match us, hl with | [_], _ => rfl,
    fn_Book_init := fun_mk (st := s_Book_init) l_Book_init d_Book_init k_Book_init,
    b_Book_init := (fun_mk (st := s_Book_init) l_Book_init d_Book_init k_Book_init).binds (ps := ["self"]) fun _ _ _ _ _ _ us hl => match us, hl with | [_], _ => rfl,
    m_Book_places := ⟨a_Book_places, i_Book_places, k_Book_places⟩,
    fn_Book_places := fun_mk (st := s_Book_places) l_Book_places d_Book_places k_Book_places,
    b_Book_places := (fun_mk (st := s_Book_places) l_Book_places d_Book_places k_Book_places).binds (ps := ["self"]) fun _ _ _ _ _ _ us hl => match us, hl with | [_], _ => rfl,
    fn_Lasts_init := fun_mk (st := s_Lasts_init) l_Lasts_init d_Lasts_init k_Lasts_init,
    b_Lasts_init := (fun_mk (st := s_Lasts_init) l_Lasts_init d_Lasts_init k_Lasts_init).binds (ps := ["self"]) fun _ _ _ _ _ _ us hl => match us, hl with | [_], _ => rfl,
    fn_Weak_init := fun_mk (st := s_Weak_init) l_Weak_init d_Weak_init k_Weak_init,
    b_Weak_init := (fun_mk (st := s_Weak_init) l_Weak_init d_Weak_init k_Weak_init).binds (ps := ["self"]) fun _ _ _ _ _ _ us hl => match us, hl with | [_], _ => rfl,
    g__law_draw := PySem.W.mg_of X G g__law_draw,
    fn__law_draw := fun_mk (st := s__law_draw) l__law_draw d__law_draw k__law_draw,
    b__law_draw := (fun_mk (st := s__law_draw) l__law_draw d__law_draw k__law_draw).binds (ps := ["_law_script", "_law_k"]) fun _ _ _ _ _ _ us hl => match us, hl with | [_, _], _ => rfl,
    g__law_alone := PySem.W.mg_of X G g__law_alone,
    fn__law_alone := fun_mk (st := s__law_alone) l__law_alone d__law_alone k__law_alone,
    b__law_alone := (fun_mk (st := s__law_alone) l__law_alone d__law_alone k__law_alone).binds (ps := ["_law_e"]) fun _ _ _ _ _ _ us hl => match us, hl with | [_], _ => rfl,
    g__law_size := PySem.W.mg_of X G g__law_size,
    fn__law_size := fun_mk (st := s__law_size) l__law_size d__law_size k__law_size,
    b__law_size := (fun_mk (st := s__law_size) l__law_size d__law_size k__law_size).binds (ps := ["_law_cell", "_law_least", "_law_most"]) fun _ _ _ _ _ _ us hl => match us, hl with | [_, _, _], _ => rfl,
    g__law_fits := PySem.W.mg_of X G g__law_fits,
    fn__law_fits := fun_mk (st := s__law_fits) l__law_fits d__law_fits k__law_fits,
    b__law_fits := (fun_mk (st := s__law_fits) l__law_fits d__law_fits k__law_fits).binds (ps := ["_law_size_here", "_law_least", "_law_most"]) fun _ _ _ _ _ _ us hl => match us, hl with | [_, _, _], _ => rfl,
    g_is_within := PySem.W.mg_of X G g_is_within,
    fn_is_within := fun_mk (st := s_is_within) l_is_within d_is_within k_is_within,
    b_is_within := (fun_mk (st := s_is_within) l_is_within d_is_within k_is_within).binds (ps := ["thing", "least", "most"]) fun _ _ _ _ _ _ us hl => match us, hl with | [_, _, _], _ => rfl,
    m_Space_take := ⟨a_Space_take, i_Space_take, k_Space_take⟩,
    fn_Space_take := fun_mk (st := s_Space_take) l_Space_take d_Space_take k_Space_take,
    b_Space_take := (fun_mk (st := s_Space_take) l_Space_take d_Space_take k_Space_take).binds (ps := ["self", "many"]) fun _ _ _ _ _ _ us hl => match us, hl with | [_, _], _ => rfl,
    m_Heap_is_for_young := ⟨a_Heap_is_for_young, i_Heap_is_for_young, k_Heap_is_for_young⟩,
    fn_Heap_is_for_young := fun_mk (st := s_Heap_is_for_young) l_Heap_is_for_young d_Heap_is_for_young k_Heap_is_for_young,
    b_Heap_is_for_young := (fun_mk (st := s_Heap_is_for_young) l_Heap_is_for_young d_Heap_is_for_young k_Heap_is_for_young).binds (ps := ["self", "slots"]) fun _ _ _ _ _ _ us hl => match us, hl with | [_, _], _ => rfl,
    g__law_due := PySem.W.mg_of X G g__law_due,
    fn__law_due := fun_mk (st := s__law_due) l__law_due d__law_due k__law_due,
    b__law_due := (fun_mk (st := s__law_due) l__law_due d__law_due k__law_due).binds (ps := ["_law_way", "_law_hand", "_law_thing", "_law_is_word"]) fun _ _ _ _ _ _ us hl => match us, hl with | [_, _, _, _], _ => rfl,
    g_is_number := PySem.W.mg_of X G g_is_number,
    fn_is_number := fun_mk (st := s_is_number) l_is_number d_is_number k_is_number,
    b_is_number := (fun_mk (st := s_is_number) l_is_number d_is_number k_is_number).binds (ps := ["thing"]) fun _ _ _ _ _ _ us hl => match us, hl with | [_], _ => rfl,
    g_is_place := PySem.W.mg_of X G g_is_place,
    fn_is_place := fun_mk (st := s_is_place) l_is_place d_is_place k_is_place,
    b_is_place := (fun_mk (st := s_is_place) l_is_place d_is_place k_is_place).binds (ps := ["thing"]) fun _ _ _ _ _ _ us hl => match us, hl with | [_], _ => rfl,
    g_want_slots := PySem.W.mg_of X G g_want_slots,
    fn_want_slots := fun_mk (st := s_want_slots) l_want_slots d_want_slots k_want_slots,
    b_want_slots := (fun_mk (st := s_want_slots) l_want_slots d_want_slots k_want_slots).binds (ps := ["slots"]) fun _ _ _ _ _ _ us hl => match us, hl with | [_], _ => rfl,
    g_is_head := PySem.W.mg_of X G g_is_head,
    fn_is_head := fun_mk (st := s_is_head) l_is_head d_is_head k_is_head,
    b_is_head := (fun_mk (st := s_is_head) l_is_head d_is_head k_is_head).binds (ps := ["number"]) fun _ _ _ _ _ _ us hl => match us, hl with | [_], _ => rfl,
    g_fits := PySem.W.mg_of X G g_fits,
    fn_fits := fun_mk (st := s_fits) l_fits d_fits k_fits,
    b_fits := (fun_mk (st := s_fits) l_fits d_fits k_fits).binds (ps := ["memory", "at", "slots"]) fun _ _ _ _ _ _ us hl => match us, hl with | [_, _, _], _ => rfl,
    fn_Memory_init := fun_mk (st := s_Memory_init) l_Memory_init d_Memory_init k_Memory_init,
    b_Memory_init := (fun_mk (st := s_Memory_init) l_Memory_init d_Memory_init k_Memory_init).binds (ps := ["self", "size"]) fun _ _ _ _ _ _ us hl => match us, hl with | [_, _], _ => rfl,
    m_Memory_want_place := ⟨a_Memory_want_place, i_Memory_want_place, k_Memory_want_place⟩,
    fn_Memory_want_place := fun_mk (st := s_Memory_want_place) l_Memory_want_place d_Memory_want_place k_Memory_want_place,
    b_Memory_want_place := (fun_mk (st := s_Memory_want_place) l_Memory_want_place d_Memory_want_place k_Memory_want_place).binds (ps := ["self", "at"]) fun _ _ _ _ _ _ us hl => match us, hl with | [_, _], _ => rfl,
    m_Space_has := ⟨a_Space_has, i_Space_has, k_Space_has⟩,
    fn_Space_has := fun_mk (st := s_Space_has) l_Space_has d_Space_has k_Space_has,
    b_Space_has := (fun_mk (st := s_Space_has) l_Space_has d_Space_has k_Space_has).binds (ps := ["self", "at"]) fun _ _ _ _ _ _ us hl => match us, hl with | [_, _], _ => rfl,
    fn_Hands_init := fun_mk (st := s_Hands_init) l_Hands_init d_Hands_init k_Hands_init,
    b_Hands_init := (fun_mk (st := s_Hands_init) l_Hands_init d_Hands_init k_Hands_init).binds (ps := ["self", "many"]) fun _ _ _ _ _ _ us hl => match us, hl with | [_, _], _ => rfl,
    m_Hands_want_hand := ⟨a_Hands_want_hand, i_Hands_want_hand, k_Hands_want_hand⟩,
    fn_Hands_want_hand := fun_mk (st := s_Hands_want_hand) l_Hands_want_hand d_Hands_want_hand k_Hands_want_hand,
    b_Hands_want_hand := (fun_mk (st := s_Hands_want_hand) l_Hands_want_hand d_Hands_want_hand k_Hands_want_hand).binds (ps := ["self", "hand"]) fun _ _ _ _ _ _ us hl => match us, hl with | [_, _], _ => rfl,
    g_want_number := PySem.W.mg_of X G g_want_number,
    fn_want_number := fun_mk (st := s_want_number) l_want_number d_want_number k_want_number,
    b_want_number := (fun_mk (st := s_want_number) l_want_number d_want_number k_want_number).binds (ps := ["thing"]) fun _ _ _ _ _ _ us hl => match us, hl with | [_], _ => rfl,
    g_want_place := PySem.W.mg_of X G g_want_place,
    fn_want_place := fun_mk (st := s_want_place) l_want_place d_want_place k_want_place,
    b_want_place := (fun_mk (st := s_want_place) l_want_place d_want_place k_want_place).binds (ps := ["thing"]) fun _ _ _ _ _ _ us hl => match us, hl with | [_], _ => rfl,
    g_kind := PySem.W.mg_of X G g_kind,
    fn_kind := fun_mk (st := s_kind) l_kind d_kind k_kind,
    b_kind := (fun_mk (st := s_kind) l_kind d_kind k_kind).binds (ps := ["word"]) fun _ _ _ _ _ _ us hl => match us, hl with | [_], _ => rfl,
    m_Memory_read := ⟨a_Memory_read, i_Memory_read, k_Memory_read⟩,
    fn_Memory_read := fun_mk (st := s_Memory_read) l_Memory_read d_Memory_read k_Memory_read,
    b_Memory_read := (fun_mk (st := s_Memory_read) l_Memory_read d_Memory_read k_Memory_read).binds (ps := ["self", "at"]) fun _ _ _ _ _ _ us hl => match us, hl with | [_, _], _ => rfl,
    m_Hands_get := ⟨a_Hands_get, i_Hands_get, k_Hands_get⟩,
    fn_Hands_get := fun_mk (st := s_Hands_get) l_Hands_get d_Hands_get k_Hands_get,
    b_Hands_get := (fun_mk (st := s_Hands_get) l_Hands_get d_Hands_get k_Hands_get).binds (ps := ["self", "hand"]) fun _ _ _ _ _ _ us hl => match us, hl with | [_, _], _ => rfl,
    m_Heap_want_hand := ⟨a_Heap_want_hand, i_Heap_want_hand, k_Heap_want_hand⟩,
    fn_Heap_want_hand := fun_mk (st := s_Heap_want_hand) l_Heap_want_hand d_Heap_want_hand k_Heap_want_hand,
    b_Heap_want_hand := (fun_mk (st := s_Heap_want_hand) l_Heap_want_hand d_Heap_want_hand k_Heap_want_hand).binds (ps := ["self", "hand"]) fun _ _ _ _ _ _ us hl => match us, hl with | [_, _], _ => rfl,
    g_number_word := PySem.W.mg_of X G g_number_word,
    fn_number_word := fun_mk (st := s_number_word) l_number_word d_number_word k_number_word,
    b_number_word := (fun_mk (st := s_number_word) l_number_word d_number_word k_number_word).binds (ps := ["n"]) fun _ _ _ _ _ _ us hl => match us, hl with | [_], _ => rfl,
    g_place_word := PySem.W.mg_of X G g_place_word,
    fn_place_word := fun_mk (st := s_place_word) l_place_word d_place_word k_place_word,
    b_place_word := (fun_mk (st := s_place_word) l_place_word d_place_word k_place_word).binds (ps := ["at"]) fun _ _ _ _ _ _ us hl => match us, hl with | [_], _ => rfl,
    g_worth := PySem.W.mg_of X G g_worth,
    fn_worth := fun_mk (st := s_worth) l_worth d_worth k_worth,
    b_worth := (fun_mk (st := s_worth) l_worth d_worth k_worth).binds (ps := ["word"]) fun _ _ _ _ _ _ us hl => match us, hl with | [_], _ => rfl,
    m_Memory_write := ⟨a_Memory_write, i_Memory_write, k_Memory_write⟩,
    fn_Memory_write := fun_mk (st := s_Memory_write) l_Memory_write d_Memory_write k_Memory_write,
    b_Memory_write := (fun_mk (st := s_Memory_write) l_Memory_write d_Memory_write k_Memory_write).binds (ps := ["self", "at", "word"]) fun _ _ _ _ _ _ us hl => match us, hl with | [_, _, _], _ => rfl,
    fn_Areas_init := fun_mk (st := s_Areas_init) l_Areas_init d_Areas_init k_Areas_init,
    b_Areas_init := (fun_mk (st := s_Areas_init) l_Areas_init d_Areas_init k_Areas_init).binds (ps := ["self", "old_words", "young_words"]) fun _ _ _ _ _ _ us hl => match us, hl with | [_, _, _], _ => rfl,
    m_Book_write := ⟨a_Book_write, i_Book_write, k_Book_write⟩,
    fn_Book_write := fun_mk (st := s_Book_write) l_Book_write d_Book_write k_Book_write,
    b_Book_write := (fun_mk (st := s_Book_write) l_Book_write d_Book_write k_Book_write).binds (ps := ["self", "place"]) fun _ _ _ _ _ _ us hl => match us, hl with | [_, _], _ => rfl,
    m_Book_has := ⟨a_Book_has, i_Book_has, k_Book_has⟩,
    fn_Book_has := fun_mk (st := s_Book_has) l_Book_has d_Book_has k_Book_has,
    b_Book_has := (fun_mk (st := s_Book_has) l_Book_has d_Book_has k_Book_has).binds (ps := ["self", "place"]) fun _ _ _ _ _ _ us hl => match us, hl with | [_, _], _ => rfl,
    m_Hands_put := ⟨a_Hands_put, i_Hands_put, k_Hands_put⟩,
    fn_Hands_put := fun_mk (st := s_Hands_put) l_Hands_put d_Hands_put k_Hands_put,
    b_Hands_put := (fun_mk (st := s_Hands_put) l_Hands_put d_Hands_put k_Hands_put).binds (ps := ["self", "hand", "word"]) fun _ _ _ _ _ _ us hl => match us, hl with | [_, _, _], _ => rfl,
    fn_Roots_init := fun_mk (st := s_Roots_init) l_Roots_init d_Roots_init k_Roots_init,
    b_Roots_init := (fun_mk (st := s_Roots_init) l_Roots_init d_Roots_init k_Roots_init).binds (ps := ["self", "many"]) fun _ _ _ _ _ _ us hl => match us, hl with | [_, _], _ => rfl,
    m_Heap_held := ⟨a_Heap_held, i_Heap_held, k_Heap_held⟩,
    fn_Heap_held := fun_mk (st := s_Heap_held) l_Heap_held d_Heap_held k_Heap_held,
    b_Heap_held := (fun_mk (st := s_Heap_held) l_Heap_held d_Heap_held k_Heap_held).binds (ps := ["self", "hand"]) fun _ _ _ _ _ _ us hl => match us, hl with | [_, _], _ => rfl,
    m_Heap_want_make := ⟨a_Heap_want_make, i_Heap_want_make, k_Heap_want_make⟩,
    fn_Heap_want_make := fun_mk (st := s_Heap_want_make) l_Heap_want_make d_Heap_want_make k_Heap_want_make,
    b_Heap_want_make := (fun_mk (st := s_Heap_want_make) l_Heap_want_make d_Heap_want_make k_Heap_want_make).binds (ps := ["self", "hand", "slots"]) fun _ _ _ _ _ _ us hl => match us, hl with | [_, _, _], _ => rfl,
    g_head_word := PySem.W.mg_of X G g_head_word,
    fn_head_word := fun_mk (st := s_head_word) l_head_word d_head_word k_head_word,
    b_head_word := (fun_mk (st := s_head_word) l_head_word d_head_word k_head_word).binds (ps := ["slots", "age"]) fun _ _ _ _ _ _ us hl => match us, hl with | [_, _], _ => rfl,
    g_head_number := PySem.W.mg_of X G g_head_number,
    fn_head_number := fun_mk (st := s_head_number) l_head_number d_head_number k_head_number,
    b_head_number := (fun_mk (st := s_head_number) l_head_number d_head_number k_head_number).binds (ps := ["memory", "at"]) fun _ _ _ _ _ _ us hl => match us, hl with | [_, _], _ => rfl,
    m_Book_rub := ⟨a_Book_rub, i_Book_rub, k_Book_rub⟩,
    fn_Book_rub := fun_mk (st := s_Book_rub) l_Book_rub d_Book_rub k_Book_rub,
    b_Book_rub := (fun_mk (st := s_Book_rub) l_Book_rub d_Book_rub k_Book_rub).binds (ps := ["self", "place"]) fun _ _ _ _ _ _ us hl => match us, hl with | [_, _], _ => rfl,
    g_is_of_young := PySem.W.mg_of X G g_is_of_young,
    fn_is_of_young := fun_mk (st := s_is_of_young) l_is_of_young d_is_of_young k_is_of_young,
    b_is_of_young := (fun_mk (st := s_is_of_young) l_is_of_young d_is_of_young k_is_of_young).binds (ps := ["areas", "word"]) fun _ _ _ _ _ _ us hl => match us, hl with | [_, _], _ => rfl,
    m_Heap_hold := ⟨a_Heap_hold, i_Heap_hold, k_Heap_hold⟩,
    fn_Heap_hold := fun_mk (st := s_Heap_hold) l_Heap_hold d_Heap_hold k_Heap_hold,
    b_Heap_hold := (fun_mk (st := s_Heap_hold) l_Heap_hold d_Heap_hold k_Heap_hold).binds (ps := ["self", "hand", "word"]) fun _ _ _ _ _ _ us hl => match us, hl with | [_, _, _], _ => rfl,
    m_Heap_cell_of := ⟨a_Heap_cell_of, i_Heap_cell_of, k_Heap_cell_of⟩,
    fn_Heap_cell_of := fun_mk (st := s_Heap_cell_of) l_Heap_cell_of d_Heap_cell_of k_Heap_cell_of,
    b_Heap_cell_of := (fun_mk (st := s_Heap_cell_of) l_Heap_cell_of d_Heap_cell_of k_Heap_cell_of).binds (ps := ["self", "hand"]) fun _ _ _ _ _ _ us hl => match us, hl with | [_, _], _ => rfl,
    g_lay := PySem.W.mg_of X G g_lay,
    fn_lay := fun_mk (st := s_lay) l_lay d_lay k_lay,
    b_lay := (fun_mk (st := s_lay) l_lay d_lay k_lay).binds (ps := ["memory", "at", "slots"]) fun _ _ _ _ _ _ us hl => match us, hl with | [_, _, _], _ => rfl,
    g_slots_of := PySem.W.mg_of X G g_slots_of,
    fn_slots_of := fun_mk (st := s_slots_of) l_slots_of d_slots_of k_slots_of,
    b_slots_of := (fun_mk (st := s_slots_of) l_slots_of d_slots_of k_slots_of).binds (ps := ["memory", "at"]) fun _ _ _ _ _ _ us hl => match us, hl with | [_, _], _ => rfl,
    fn_Heap_init := fun_mk (st := s_Heap_init) l_Heap_init d_Heap_init k_Heap_init,
    b_Heap_init := (fun_mk (st := s_Heap_init) l_Heap_init d_Heap_init k_Heap_init).binds (ps := ["self", "hands", "old_words", "young_words"]) fun _ _ _ _ _ _ us hl => match us, hl with | [_, _, _, _], _ => rfl,
    m_Heap_drop := ⟨a_Heap_drop, i_Heap_drop, k_Heap_drop⟩,
    fn_Heap_drop := fun_mk (st := s_Heap_drop) l_Heap_drop d_Heap_drop k_Heap_drop,
    b_Heap_drop := (fun_mk (st := s_Heap_drop) l_Heap_drop d_Heap_drop k_Heap_drop).binds (ps := ["self", "hand"]) fun _ _ _ _ _ _ us hl => match us, hl with | [_, _], _ => rfl,
    m_Heap_note := ⟨a_Heap_note, i_Heap_note, k_Heap_note⟩,
    fn_Heap_note := fun_mk (st := s_Heap_note) l_Heap_note d_Heap_note k_Heap_note,
    b_Heap_note := (fun_mk (st := s_Heap_note) l_Heap_note d_Heap_note k_Heap_note).binds (ps := ["self", "place", "word"]) fun _ _ _ _ _ _ us hl => match us, hl with | [_, _, _], _ => rfl,
    g_aged := PySem.W.mg_of X G g_aged,
    fn_aged := fun_mk (st := s_aged) l_aged d_aged k_aged,
    b_aged := (fun_mk (st := s_aged) l_aged d_aged k_aged).binds (ps := ["memory", "at", "age"]) fun _ _ _ _ _ _ us hl => match us, hl with | [_, _, _], _ => rfl,
    g_slot_place := PySem.W.mg_of X G g_slot_place,
    fn_slot_place := fun_mk (st := s_slot_place) l_slot_place d_slot_place k_slot_place,
    b_slot_place := (fun_mk (st := s_slot_place) l_slot_place d_slot_place k_slot_place).binds (ps := ["memory", "at", "slot"]) fun _ _ _ _ _ _ us hl => match us, hl with | [_, _, _], _ => rfl,
    m_Areas_lay_into := ⟨a_Areas_lay_into, i_Areas_lay_into, k_Areas_lay_into⟩,
    fn_Areas_lay_into := fun_mk (st := s_Areas_lay_into) l_Areas_lay_into d_Areas_lay_into k_Areas_lay_into,
    b_Areas_lay_into := (fun_mk (st := s_Areas_lay_into) l_Areas_lay_into d_Areas_lay_into k_Areas_lay_into).binds (ps := ["self", "space", "slots", "age"]) fun _ _ _ _ _ _ us hl => match us, hl with | [_, _, _, _], _ => rfl,
    m_Heap_place_of := ⟨a_Heap_place_of, i_Heap_place_of, k_Heap_place_of⟩,
    fn_Heap_place_of := fun_mk (st := s_Heap_place_of) l_Heap_place_of d_Heap_place_of k_Heap_place_of,
    b_Heap_place_of := (fun_mk (st := s_Heap_place_of) l_Heap_place_of d_Heap_place_of k_Heap_place_of).binds (ps := ["self", "hand", "slot"]) fun _ _ _ _ _ _ us hl => match us, hl with | [_, _, _], _ => rfl,
    g__law_is_heap := PySem.W.mg_of X G g__law_is_heap,
    fn__law_is_heap := fun_mk (st := s__law_is_heap) l__law_is_heap d__law_is_heap k__law_is_heap,
    b__law_is_heap := (fun_mk (st := s__law_is_heap) l__law_is_heap d__law_is_heap k__law_is_heap).binds (ps := ["_law_hands", "_law_old_words", "_law_young_words"]) fun _ _ _ _ _ _ us hl => match us, hl with | [_, _, _], _ => rfl,
    m_Areas_lay_young := ⟨a_Areas_lay_young, i_Areas_lay_young, k_Areas_lay_young⟩,
    fn_Areas_lay_young := fun_mk (st := s_Areas_lay_young) l_Areas_lay_young d_Areas_lay_young k_Areas_lay_young,
    b_Areas_lay_young := (fun_mk (st := s_Areas_lay_young) l_Areas_lay_young d_Areas_lay_young k_Areas_lay_young).binds (ps := ["self", "slots"]) fun _ _ _ _ _ _ us hl => match us, hl with | [_, _], _ => rfl,
    m_Areas_lay_old := ⟨a_Areas_lay_old, i_Areas_lay_old, k_Areas_lay_old⟩,
    fn_Areas_lay_old := fun_mk (st := s_Areas_lay_old) l_Areas_lay_old d_Areas_lay_old k_Areas_lay_old,
    b_Areas_lay_old := (fun_mk (st := s_Areas_lay_old) l_Areas_lay_old d_Areas_lay_old k_Areas_lay_old).binds (ps := ["self", "slots"]) fun _ _ _ _ _ _ us hl => match us, hl with | [_, _], _ => rfl,
    m_Heap_get := ⟨a_Heap_get, i_Heap_get, k_Heap_get⟩,
    fn_Heap_get := fun_mk (st := s_Heap_get) l_Heap_get d_Heap_get k_Heap_get,
    b_Heap_get := (fun_mk (st := s_Heap_get) l_Heap_get d_Heap_get k_Heap_get).binds (ps := ["self", "hand", "slot"]) fun _ _ _ _ _ _ us hl => match us, hl with | [_, _, _], _ => rfl,
    m_Heap_put := ⟨a_Heap_put, i_Heap_put, k_Heap_put⟩,
    fn_Heap_put := fun_mk (st := s_Heap_put) l_Heap_put d_Heap_put k_Heap_put,
    b_Heap_put := (fun_mk (st := s_Heap_put) l_Heap_put d_Heap_put k_Heap_put).binds (ps := ["self", "hand", "slot", "word"]) fun _ _ _ _ _ _ us hl => match us, hl with | [_, _, _, _], _ => rfl,
    m_Heap_make := ⟨a_Heap_make, i_Heap_make, k_Heap_make⟩,
    fn_Heap_make := fun_mk (st := s_Heap_make) l_Heap_make d_Heap_make k_Heap_make,
    b_Heap_make := (fun_mk (st := s_Heap_make) l_Heap_make d_Heap_make k_Heap_make).binds (ps := ["self", "hand", "slots"]) fun _ _ _ _ _ _ us hl => match us, hl with | [_, _, _], _ => rfl,
    g__law_state := PySem.W.mg_of X G g__law_state,
    fn__law_state := fun_mk (st := s__law_state) l__law_state d__law_state k__law_state,
    b__law_state := (fun_mk (st := s__law_state) l__law_state d__law_state k__law_state).binds (ps := ["_law_heap"]) fun _ _ _ _ _ _ us hl => match us, hl with | [_], _ => rfl,
    g__law_call := PySem.W.mg_of X G g__law_call,
    fn__law_call := fun_mk (st := s__law_call) l__law_call d__law_call k__law_call,
    b__law_call := (fun_mk (st := s__law_call) l__law_call d__law_call k__law_call).binds (ps := ["_law_heap", "_law_way", "_law_hand", "_law_thing", "_law_word"]) fun _ _ _ _ _ _ us hl => match us, hl with | [_, _, _, _, _], _ => rfl,
    g_law := PySem.W.mg_of X G g_law,
    fn_law := fun_mk (st := s_law) l_law d_law k_law,
    b_law := (fun_mk (st := s_law) l_law d_law k_law).binds (ps := ["_law_script"]) fun _ _ _ _ _ _ us hl => match us, hl with | [_], _ => rfl,
    v_NOTHING := ⟨_, PySem.W.mg_of X G v_NOTHING, ⟨_, rfl⟩⟩,
    v_MOST_NUMBER := ⟨_, PySem.W.mg_of X G v_MOST_NUMBER, ⟨_, rfl⟩⟩,
    v_MOST_PLACE := ⟨_, PySem.W.mg_of X G v_MOST_PLACE, ⟨_, rfl⟩⟩,
    v_MOST_SLOTS := ⟨_, PySem.W.mg_of X G v_MOST_SLOTS, ⟨_, rfl⟩⟩,
    v_MOST_AGE := ⟨_, PySem.W.mg_of X G v_MOST_AGE, ⟨_, rfl⟩⟩,
    v_MOST_WORDS := ⟨_, PySem.W.mg_of X G v_MOST_WORDS, ⟨_, rfl⟩⟩,
    v_LEAST_OLD_WORDS := ⟨_, PySem.W.mg_of X G v_LEAST_OLD_WORDS, ⟨_, rfl⟩⟩,
    v_MOST_OLD_WORDS := ⟨_, PySem.W.mg_of X G v_MOST_OLD_WORDS, ⟨_, rfl⟩⟩,
    v_LEAST_YOUNG_WORDS := ⟨_, PySem.W.mg_of X G v_LEAST_YOUNG_WORDS, ⟨_, rfl⟩⟩,
    v_MOST_YOUNG_WORDS := ⟨_, PySem.W.mg_of X G v_MOST_YOUNG_WORDS, ⟨_, rfl⟩⟩,
    v_MOST_HANDS := ⟨_, PySem.W.mg_of X G v_MOST_HANDS, ⟨_, rfl⟩⟩,
    x_BadCount := x_BadCount,
    ki_BadCount := ⟨kiga_BadCount, kigt_BadCount, kicl_BadCount, kihn, kitk, kimb_BadCount, kimo_BadCount⟩,
    em_BadCount_KeepError := em_BadCount_KeepError,
    k2_BadCount_BadCount := k2_BadCount_BadCount,
    k2_BadCount_BadWord := k2_BadCount_BadWord,
    k2_BadCount_NoHand := k2_BadCount_NoHand,
    k2_BadCount_NoSlot := k2_BadCount_NoSlot,
    k2_BadCount_NothingHeld := k2_BadCount_NothingHeld,
    k2_BadCount_BadNumber := k2_BadCount_BadNumber,
    k2_BadCount_NoCell := k2_BadCount_NoCell,
    k2_BadCount_NoDeed := k2_BadCount_NoDeed,
    k2_BadCount_NoImage := k2_BadCount_NoImage,
    k2_BadCount_NoName := k2_BadCount_NoName,
    k2_BadCount_NoPlace := k2_BadCount_NoPlace,
    k2_BadCount_NoProgram := k2_BadCount_NoProgram,
    k2_BadCount_NoRoom := k2_BadCount_NoRoom,
    k2_BadCount_ValueError := k2_BadCount_ValueError,
    x_BadNumber := x_BadNumber,
    ki_BadNumber := ⟨kiga_BadNumber, kigt_BadNumber, kicl_BadNumber, kihn, kitk, kimb_BadNumber, kimo_BadNumber⟩,
    em_BadNumber_KeepError := em_BadNumber_KeepError,
    x_BadWord := x_BadWord,
    ki_BadWord := ⟨kiga_BadWord, kigt_BadWord, kicl_BadWord, kihn, kitk, kimb_BadWord, kimo_BadWord⟩,
    em_BadWord_KeepError := em_BadWord_KeepError,
    k2_BadWord_BadCount := k2_BadWord_BadCount,
    k2_BadWord_BadWord := k2_BadWord_BadWord,
    k2_BadWord_NoHand := k2_BadWord_NoHand,
    k2_BadWord_NoSlot := k2_BadWord_NoSlot,
    k2_BadWord_NothingHeld := k2_BadWord_NothingHeld,
    k2_BadWord_BadNumber := k2_BadWord_BadNumber,
    k2_BadWord_NoCell := k2_BadWord_NoCell,
    k2_BadWord_NoDeed := k2_BadWord_NoDeed,
    k2_BadWord_NoImage := k2_BadWord_NoImage,
    k2_BadWord_NoName := k2_BadWord_NoName,
    k2_BadWord_NoPlace := k2_BadWord_NoPlace,
    k2_BadWord_NoProgram := k2_BadWord_NoProgram,
    k2_BadWord_NoRoom := k2_BadWord_NoRoom,
    k2_BadWord_ValueError := k2_BadWord_ValueError,
    x_NoCell := x_NoCell,
    ki_NoCell := ⟨kiga_NoCell, kigt_NoCell, kicl_NoCell, kihn, kitk, kimb_NoCell, kimo_NoCell⟩,
    em_NoCell_KeepError := em_NoCell_KeepError,
    x_NoHand := x_NoHand,
    ki_NoHand := ⟨kiga_NoHand, kigt_NoHand, kicl_NoHand, kihn, kitk, kimb_NoHand, kimo_NoHand⟩,
    em_NoHand_KeepError := em_NoHand_KeepError,
    k2_NoHand_BadCount := k2_NoHand_BadCount,
    k2_NoHand_BadWord := k2_NoHand_BadWord,
    k2_NoHand_NoHand := k2_NoHand_NoHand,
    k2_NoHand_NoSlot := k2_NoHand_NoSlot,
    k2_NoHand_NothingHeld := k2_NoHand_NothingHeld,
    k2_NoHand_BadNumber := k2_NoHand_BadNumber,
    k2_NoHand_NoCell := k2_NoHand_NoCell,
    k2_NoHand_NoDeed := k2_NoHand_NoDeed,
    k2_NoHand_NoImage := k2_NoHand_NoImage,
    k2_NoHand_NoName := k2_NoHand_NoName,
    k2_NoHand_NoPlace := k2_NoHand_NoPlace,
    k2_NoHand_NoProgram := k2_NoHand_NoProgram,
    k2_NoHand_NoRoom := k2_NoHand_NoRoom,
    k2_NoHand_ValueError := k2_NoHand_ValueError,
    x_NoPlace := x_NoPlace,
    ki_NoPlace := ⟨kiga_NoPlace, kigt_NoPlace, kicl_NoPlace, kihn, kitk, kimb_NoPlace, kimo_NoPlace⟩,
    em_NoPlace_KeepError := em_NoPlace_KeepError,
    x_NoRoom := x_NoRoom,
    ki_NoRoom := ⟨kiga_NoRoom, kigt_NoRoom, kicl_NoRoom, kihn, kitk, kimb_NoRoom, kimo_NoRoom⟩,
    em_NoRoom_KeepError := em_NoRoom_KeepError,
    x_NoSlot := x_NoSlot,
    ki_NoSlot := ⟨kiga_NoSlot, kigt_NoSlot, kicl_NoSlot, kihn, kitk, kimb_NoSlot, kimo_NoSlot⟩,
    em_NoSlot_KeepError := em_NoSlot_KeepError,
    k2_NoSlot_BadCount := k2_NoSlot_BadCount,
    k2_NoSlot_BadWord := k2_NoSlot_BadWord,
    k2_NoSlot_NoHand := k2_NoSlot_NoHand,
    k2_NoSlot_NoSlot := k2_NoSlot_NoSlot,
    k2_NoSlot_NothingHeld := k2_NoSlot_NothingHeld,
    k2_NoSlot_BadNumber := k2_NoSlot_BadNumber,
    k2_NoSlot_NoCell := k2_NoSlot_NoCell,
    k2_NoSlot_NoDeed := k2_NoSlot_NoDeed,
    k2_NoSlot_NoImage := k2_NoSlot_NoImage,
    k2_NoSlot_NoName := k2_NoSlot_NoName,
    k2_NoSlot_NoPlace := k2_NoSlot_NoPlace,
    k2_NoSlot_NoProgram := k2_NoSlot_NoProgram,
    k2_NoSlot_NoRoom := k2_NoSlot_NoRoom,
    k2_NoSlot_ValueError := k2_NoSlot_ValueError,
    x_NothingHeld := x_NothingHeld,
    ki_NothingHeld := ⟨kiga_NothingHeld, kigt_NothingHeld, kicl_NothingHeld, kihn, kitk, kimb_NothingHeld, kimo_NothingHeld⟩,
    em_NothingHeld_KeepError := em_NothingHeld_KeepError,
    k2_NothingHeld_BadCount := k2_NothingHeld_BadCount,
    k2_NothingHeld_BadWord := k2_NothingHeld_BadWord,
    k2_NothingHeld_NoHand := k2_NothingHeld_NoHand,
    k2_NothingHeld_NoSlot := k2_NothingHeld_NoSlot,
    k2_NothingHeld_NothingHeld := k2_NothingHeld_NothingHeld,
    k2_NothingHeld_BadNumber := k2_NothingHeld_BadNumber,
    k2_NothingHeld_NoCell := k2_NothingHeld_NoCell,
    k2_NothingHeld_NoDeed := k2_NothingHeld_NoDeed,
    k2_NothingHeld_NoImage := k2_NothingHeld_NoImage,
    k2_NothingHeld_NoName := k2_NothingHeld_NoName,
    k2_NothingHeld_NoPlace := k2_NothingHeld_NoPlace,
    k2_NothingHeld_NoProgram := k2_NothingHeld_NoProgram,
    k2_NothingHeld_NoRoom := k2_NothingHeld_NoRoom,
    k2_NothingHeld_ValueError := k2_NothingHeld_ValueError,
    kt_NoneType_int := kt_NoneType_int,
    kt_NoneType_bool := kt_NoneType_bool,
    kt_bool_int := kt_bool_int,
    kt_bool_bool := kt_bool_bool,
    kt_int_int := kt_int_int,
    kt_int_bool := kt_int_bool,
    kt_str_int := kt_str_int,
    kt_str_bool := kt_str_bool,
    kt_list_int := kt_list_int,
    kt_list_bool := kt_list_bool,
    kt_tuple_int := kt_tuple_int,
    kt_tuple_bool := kt_tuple_bool,
    kt_dict_int := kt_dict_int,
    kt_dict_bool := kt_dict_bool,
    n_ValueError := PySem.W.mg_none_of X G n_ValueError,
    n_bool := PySem.W.mg_none_of X G n_bool,
    n_int := PySem.W.mg_none_of X G n_int,
    n_isinstance := PySem.W.mg_none_of X G n_isinstance,
    n_len := PySem.W.mg_none_of X G n_len,
    n_range := PySem.W.mg_none_of X G n_range,
    n_sorted := PySem.W.mg_none_of X G n_sorted }
  exact ⟨_, fun s v => .of_eq rfl, fun base _ _ => ok_law T⟩
theorem walk {l : PySem.W.OpenLaw} {q : Program} {loose : List Str} {XP : (Str → Option Value) → Heap → Prop} {YP : World → Heap → Prop} {d : DefRec} {K : Params → PySem.W.Frag} (hn : l.most = some 63) (hdf : d.params.defaults = [])
    (hY : ∀ (w : World) (h : Heap), YP w h → (K w.params).In h)
    (F : ∀ (w : World) (mg : Str → Option Value) (fa : Addr) (h : Heap), (K w.params).In h → h.Ns mainGlobals mg → mg d.name = some (.ref fa) →
      ∃ fd : FuncData, (∀ (s : Shared) (u : Value), BindsTo s fd ⟨[u], []⟩ [("_law_script", u)]) ∧ ∀ base : Heap, (K w.params).In base → base.Ns mainGlobals mg → FnOk l.prog w (K w.params) mg base (CXE l.prog w) true 13 fa fd ["_law_script"] (sp_law (K w.params))) :
    PySem.W.WalkO q loose XP YP l.row.toRowW d [] (fun f vs => PySem.call f vs) :=
  L2.walk_of (n := 63) (k := 13) (x := "_law_script") (ca := true) (CX := fun w => CXE l.prog w) (sp := fun w => sp_law (K w.params)) hn (by decide) hdf ⟨fun _ => rfl, by decide, by decide⟩ hY F (fun _ _ a ns hl _ hS => ⟨a, ns, rfl, hS, hl, fun _ => rfl⟩)
    fun _ _ _ _ _ ⟨_, _, _, _, _, _, _, _, _, _, _, _, z⟩ => z
theorem walkZ {l : PySem.W.OpenLaw} {q : Program} {loose : List Str} {XP : (Str → Option Value) → Heap → Prop} {d : DefRec} {K : Params → PySem.W.Frag} (hn : l.most = some 63) (hdf : d.params.defaults = [])
    (F : ∀ (w : World) (mg : Str → Option Value) (fa : Addr) (h : Heap), (K w.params).In h → h.Ns mainGlobals mg → mg d.name = some (.ref fa) →
      ∃ fd : FuncData, (∀ (s : Shared) (u : Value), BindsTo s fd ⟨[u], []⟩ [("_law_script", u)]) ∧ ∀ base : Heap, (K w.params).In base → base.Ns mainGlobals mg → FnOk l.prog w (K w.params) mg base (CXE l.prog w) true 13 fa fd ["_law_script"] (sp_law (K w.params))) :
    PySem.W.WalkO q loose XP (PySem.W.InK K) l.row.toRowW d [] (fun f vs => PySem.call f vs) := walk hn hdf (fun _ _ Y => Y) F
end
end K19
def PySem.W.Fast.tw11913064950050617448 : Unit := ()
def PySem.W.Fast.tw2383007438537104384 : Unit := ()
def PySem.W.Fast.tw2952315147299318540 : Unit := ()
def PySem.W.Fast.tw2660312945131670070 : Unit := ()
def PySem.W.Fast.tw1108308180098145552 : Unit := ()
def PySem.W.Fast.tw2862576328209848930 : Unit := ()
def PySem.W.Fast.tw2605275623869583146 : Unit := ()
def PySem.W.Fast.tw15967104390519714502 : Unit := ()
def PySem.W.Fast.tw3339855258510282620 : Unit := ()
def PySem.W.Fast.tw10623008999529383391 : Unit := ()
def PySem.W.Fast.tw16672240556107270298 : Unit := ()
def PySem.W.Fast.tw9972372112233347091 : Unit := ()
def PySem.W.Fast.tw10730514790793530425 : Unit := ()
def PySem.W.Fast.tw11248157845746804504 : Unit := ()
def PySem.W.Fast.tw16731706446349385878 : Unit := ()
def PySem.W.Fast.tw1382065616789920633 : Unit := ()
def PySem.W.Fast.tw4862362850025645813 : Unit := ()
def PySem.W.Fast.tw15948572746399611472 : Unit := ()
def PySem.W.Fast.tw14742474144421250917 : Unit := ()
def PySem.W.Fast.tw17697597212143526915 : Unit := ()
def PySem.W.Fast.tw9296192393776031315 : Unit := ()
def PySem.W.Fast.tw14138571896177883010 : Unit := ()
def PySem.W.Fast.tw15666643669561046518 : Unit := ()
def PySem.W.Fast.tw17630845962249825789 : Unit := ()
def PySem.W.Fast.tw12653055507735305052 : Unit := ()
def PySem.W.Fast.tw7941398754921231483 : Unit := ()
def PySem.W.Fast.tw8100060487137380191 : Unit := ()
def PySem.W.Fast.tw11424642811668548524 : Unit := ()
def PySem.W.Fast.tw3330353768489421834 : Unit := ()
def PySem.W.Fast.tw13934701190846472681 : Unit := ()
def PySem.W.Fast.tw14632206331209551985 : Unit := ()
def PySem.W.Fast.tw2269898304376635733 : Unit := ()
def PySem.W.Fast.tw4343277221425885548 : Unit := ()
def PySem.W.Fast.tw17613804653090151021 : Unit := ()
def PySem.W.Fast.tw14072342969426734593 : Unit := ()
def PySem.W.Fast.tw13638331744634604193 : Unit := ()
def PySem.W.Fast.tw11013088900975541329 : Unit := ()
def PySem.W.Fast.tw5785478326094628096 : Unit := ()
def PySem.W.Fast.tw11006193719382107949 : Unit := ()
def PySem.W.Fast.tw12180226067882013615 : Unit := ()
def PySem.W.Fast.tw15645888900099877016 : Unit := ()
def PySem.W.Fast.tw6120701176115668640 : Unit := ()
def PySem.W.Fast.tw6041811042301275118 : Unit := ()
def PySem.W.Fast.tw5181180731177604413 : Unit := ()
def PySem.W.Fast.tw14592440531972448950 : Unit := ()
def PySem.W.Fast.tw10547592558974991311 : Unit := ()
def PySem.W.Fast.tw8196653188389955189 : Unit := ()
def PySem.W.Fast.tw5057747823814243465 : Unit := ()
def PySem.W.Fast.tw4144190322508681878 : Unit := ()
def PySem.W.Fast.tw15079687424475420915 : Unit := ()
def PySem.W.Fast.tw1551806600008950428 : Unit := ()
def PySem.W.Fast.tw15810162623548137943 : Unit := ()
def PySem.W.Fast.tw16381622420144906044 : Unit := ()
def PySem.W.Fast.tw17026758844185521369 : Unit := ()
def PySem.W.Fast.tw631872008969317575 : Unit := ()
def PySem.W.Fast.tw2024898702194699190 : Unit := ()
open PySem PySem.W PySem.W.X PySem.W.ZRun PyProof.Rows
set_option maxRecDepth 100000 in
set_option maxHeartbeats 0 in
theorem PySem.Challenge.cw_cellkeep_k19_deeds_refused_holds : PySem.Challenge.rw_cellkeep_k19_deeds_refused.Holds := by
  w_on; o_law; z_head; (case hw => w_witness2)
  k_fill
  intro w s₀ s₁ mg mb G y fa o pm cd doc dV kV ho hd hcd hD hmg hg args vals as L hpre hlay hrd hwl hlo
  z_open y L KX ZH ZN ZT
  refine K19.walkZ (l := PySem.Challenge.rw_cellkeep_k19_deeds_refused) rfl rfl ?F w s₀ s₁ mg mb G KX fa o pm cd doc dV kV ho hd hcd hD hmg hg args vals as hpre hlay hrd hwl hlo
  case F =>
    intro w mg fa h KX G hmg
    refine' K19.all_mk KX G hmg ?g_KeepError ?g_BadNumber ?g_BadWord ?g_BadCount ?g_NoPlace ?g_NoRoom ?g_NoSlot ?g_NoCell ?g_NoHand ?g_NothingHeld ?g_NoName ?g_NoDeed ?g_NoImage ?g_NoProgram ?g_Memory ?g_Space ?g_Areas ?g_Book ?g_Hands ?g_Lasts ?g_Weak ?g_Roots ?g_Heap ?pg_Memory ?hd_Memory ?po_Memory ?sa_Memory ?mk_Memory ?kc_Memory ?na_Memory_size ?na_Memory_words ?pg_Space ?hd_Space ?po_Space ?sa_Space ?mk_Space ?kc_Space ?na_Space_begin ?na_Space_end ?na_Space_top ?pg_Areas ?hd_Areas ?po_Areas ?sa_Areas ?mk_Areas ?kc_Areas ?na_Areas_memory ?na_Areas_old ?na_Areas_young ?na_Areas_spare ?pg_Book ?hd_Book ?po_Book ?sa_Book ?mk_Book ?kc_Book ?na_Book_written ?pg_Hands ?hd_Hands ?po_Hands ?sa_Hands ?mk_Hands ?kc_Hands ?na_Hands_words ?pg_Lasts ?hd_Lasts ?po_Lasts ?sa_Lasts ?mk_Lasts ?kc_Lasts ?na_Lasts_waiting ?na_Lasts_spoken ?pg_Weak ?hd_Weak ?po_Weak ?sa_Weak ?mk_Weak ?kc_Weak ?na_Weak_told ?pg_Roots ?hd_Roots ?po_Roots ?sa_Roots ?mk_Roots ?kc_Roots ?na_Roots_hands ?na_Roots_book ?na_Roots_weaks ?na_Roots_lasts ?pg_Heap ?hd_Heap ?po_Heap ?sa_Heap ?mk_Heap ?kc_Heap ?na_Heap_roots ?na_Heap_areas ?g_is_whole ?l_is_whole ?d_is_whole ?k_is_whole ?a_Space_init ?i_Space_init ?l_Space_init ?d_Space_init ?k_Space_init ?a_Space_room ?i_Space_room ?l_Space_room ?d_Space_room ?k_Space_room ?a_Space_extent ?i_Space_extent ?l_Space_extent ?d_Space_extent ?k_Space_extent ?a_Book_init ?i_Book_init ?l_Book_init ?d_Book_init ?k_Book_init ?a_Book_places ?i_Book_places ?l_Book_places ?d_Book_places ?k_Book_places ?a_Lasts_init ?i_Lasts_init ?l_Lasts_init ?d_Lasts_init ?k_Lasts_init ?a_Weak_init ?i_Weak_init ?l_Weak_init ?d_Weak_init ?k_Weak_init ?g__law_draw ?l__law_draw ?d__law_draw ?k__law_draw ?g__law_alone ?l__law_alone ?d__law_alone ?k__law_alone ?g__law_size ?l__law_size ?d__law_size ?k__law_size ?g__law_fits ?l__law_fits ?d__law_fits ?k__law_fits ?g_is_within ?l_is_within ?d_is_within ?k_is_within ?a_Space_take ?i_Space_take ?l_Space_take ?d_Space_take ?k_Space_take ?a_Heap_is_for_young ?i_Heap_is_for_young ?l_Heap_is_for_young ?d_Heap_is_for_young ?k_Heap_is_for_young ?g__law_due ?l__law_due ?d__law_due ?k__law_due ?g_is_number ?l_is_number ?d_is_number ?k_is_number ?g_is_place ?l_is_place ?d_is_place ?k_is_place ?g_want_slots ?l_want_slots ?d_want_slots ?k_want_slots ?g_is_head ?l_is_head ?d_is_head ?k_is_head ?g_fits ?l_fits ?d_fits ?k_fits ?a_Memory_init ?i_Memory_init ?l_Memory_init ?d_Memory_init ?k_Memory_init ?a_Memory_want_place ?i_Memory_want_place ?l_Memory_want_place ?d_Memory_want_place ?k_Memory_want_place ?a_Space_has ?i_Space_has ?l_Space_has ?d_Space_has ?k_Space_has ?a_Hands_init ?i_Hands_init ?l_Hands_init ?d_Hands_init ?k_Hands_init ?a_Hands_want_hand ?i_Hands_want_hand ?l_Hands_want_hand ?d_Hands_want_hand ?k_Hands_want_hand ?g_want_number ?l_want_number ?d_want_number ?k_want_number ?g_want_place ?l_want_place ?d_want_place ?k_want_place ?g_kind ?l_kind ?d_kind ?k_kind ?a_Memory_read ?i_Memory_read ?l_Memory_read ?d_Memory_read ?k_Memory_read ?a_Hands_get ?i_Hands_get ?l_Hands_get ?d_Hands_get ?k_Hands_get ?a_Heap_want_hand ?i_Heap_want_hand ?l_Heap_want_hand ?d_Heap_want_hand ?k_Heap_want_hand ?g_number_word ?l_number_word ?d_number_word ?k_number_word ?g_place_word ?l_place_word ?d_place_word ?k_place_word ?g_worth ?l_worth ?d_worth ?k_worth ?a_Memory_write ?i_Memory_write ?l_Memory_write ?d_Memory_write ?k_Memory_write ?a_Areas_init ?i_Areas_init ?l_Areas_init ?d_Areas_init ?k_Areas_init ?a_Book_write ?i_Book_write ?l_Book_write ?d_Book_write ?k_Book_write ?a_Book_has ?i_Book_has ?l_Book_has ?d_Book_has ?k_Book_has ?a_Hands_put ?i_Hands_put ?l_Hands_put ?d_Hands_put ?k_Hands_put ?a_Roots_init ?i_Roots_init ?l_Roots_init ?d_Roots_init ?k_Roots_init ?a_Heap_held ?i_Heap_held ?l_Heap_held ?d_Heap_held ?k_Heap_held ?a_Heap_want_make ?i_Heap_want_make ?l_Heap_want_make ?d_Heap_want_make ?k_Heap_want_make ?g_head_word ?l_head_word ?d_head_word ?k_head_word ?g_head_number ?l_head_number ?d_head_number ?k_head_number ?a_Book_rub ?i_Book_rub ?l_Book_rub ?d_Book_rub ?k_Book_rub ?g_is_of_young ?l_is_of_young ?d_is_of_young ?k_is_of_young ?a_Heap_hold ?i_Heap_hold ?l_Heap_hold ?d_Heap_hold ?k_Heap_hold ?a_Heap_cell_of ?i_Heap_cell_of ?l_Heap_cell_of ?d_Heap_cell_of ?k_Heap_cell_of ?g_lay ?l_lay ?d_lay ?k_lay ?g_slots_of ?l_slots_of ?d_slots_of ?k_slots_of ?a_Heap_init ?i_Heap_init ?l_Heap_init ?d_Heap_init ?k_Heap_init ?a_Heap_drop ?i_Heap_drop ?l_Heap_drop ?d_Heap_drop ?k_Heap_drop ?a_Heap_note ?i_Heap_note ?l_Heap_note ?d_Heap_note ?k_Heap_note ?g_aged ?l_aged ?d_aged ?k_aged ?g_slot_place ?l_slot_place ?d_slot_place ?k_slot_place ?a_Areas_lay_into ?i_Areas_lay_into ?l_Areas_lay_into ?d_Areas_lay_into ?k_Areas_lay_into ?a_Heap_place_of ?i_Heap_place_of ?l_Heap_place_of ?d_Heap_place_of ?k_Heap_place_of ?g__law_is_heap ?l__law_is_heap ?d__law_is_heap ?k__law_is_heap ?a_Areas_lay_young ?i_Areas_lay_young ?l_Areas_lay_young ?d_Areas_lay_young ?k_Areas_lay_young ?a_Areas_lay_old ?i_Areas_lay_old ?l_Areas_lay_old ?d_Areas_lay_old ?k_Areas_lay_old ?a_Heap_get ?i_Heap_get ?l_Heap_get ?d_Heap_get ?k_Heap_get ?a_Heap_put ?i_Heap_put ?l_Heap_put ?d_Heap_put ?k_Heap_put ?a_Heap_make ?i_Heap_make ?l_Heap_make ?d_Heap_make ?k_Heap_make ?g__law_state ?l__law_state ?d__law_state ?k__law_state ?g__law_call ?l__law_call ?d__law_call ?k__law_call ?g_law ?l_law ?d_law ?k_law ?v_NOTHING ?v_MOST_NUMBER ?v_MOST_PLACE ?v_MOST_SLOTS ?v_MOST_AGE ?v_MOST_WORDS ?v_LEAST_OLD_WORDS ?v_MOST_OLD_WORDS ?v_LEAST_YOUNG_WORDS ?v_MOST_YOUNG_WORDS ?v_MOST_HANDS ?x_BadCount ?kiga_BadCount ?kigt_BadCount ?kicl_BadCount ?kimb_BadCount ?kimo_BadCount ?em_BadCount_KeepError ?k2_BadCount_BadCount ?k2_BadCount_BadWord ?k2_BadCount_NoHand ?k2_BadCount_NoSlot ?k2_BadCount_NothingHeld ?k2_BadCount_BadNumber ?k2_BadCount_NoCell ?k2_BadCount_NoDeed ?k2_BadCount_NoImage ?k2_BadCount_NoName ?k2_BadCount_NoPlace ?k2_BadCount_NoProgram ?k2_BadCount_NoRoom ?k2_BadCount_ValueError ?x_BadNumber ?kiga_BadNumber ?kigt_BadNumber ?kicl_BadNumber ?kimb_BadNumber ?kimo_BadNumber ?em_BadNumber_KeepError ?x_BadWord ?kiga_BadWord ?kigt_BadWord ?kicl_BadWord ?kimb_BadWord ?kimo_BadWord ?em_BadWord_KeepError ?k2_BadWord_BadCount ?k2_BadWord_BadWord ?k2_BadWord_NoHand ?k2_BadWord_NoSlot ?k2_BadWord_NothingHeld ?k2_BadWord_BadNumber ?k2_BadWord_NoCell ?k2_BadWord_NoDeed ?k2_BadWord_NoImage ?k2_BadWord_NoName ?k2_BadWord_NoPlace ?k2_BadWord_NoProgram ?k2_BadWord_NoRoom ?k2_BadWord_ValueError ?x_NoCell ?kiga_NoCell ?kigt_NoCell ?kicl_NoCell ?kimb_NoCell ?kimo_NoCell ?em_NoCell_KeepError ?x_NoHand ?kiga_NoHand ?kigt_NoHand ?kicl_NoHand ?kimb_NoHand ?kimo_NoHand ?em_NoHand_KeepError ?k2_NoHand_BadCount ?k2_NoHand_BadWord ?k2_NoHand_NoHand ?k2_NoHand_NoSlot ?k2_NoHand_NothingHeld ?k2_NoHand_BadNumber ?k2_NoHand_NoCell ?k2_NoHand_NoDeed ?k2_NoHand_NoImage ?k2_NoHand_NoName ?k2_NoHand_NoPlace ?k2_NoHand_NoProgram ?k2_NoHand_NoRoom ?k2_NoHand_ValueError ?x_NoPlace ?kiga_NoPlace ?kigt_NoPlace ?kicl_NoPlace ?kimb_NoPlace ?kimo_NoPlace ?em_NoPlace_KeepError ?x_NoRoom ?kiga_NoRoom ?kigt_NoRoom ?kicl_NoRoom ?kimb_NoRoom ?kimo_NoRoom ?em_NoRoom_KeepError ?x_NoSlot ?kiga_NoSlot ?kigt_NoSlot ?kicl_NoSlot ?kimb_NoSlot ?kimo_NoSlot ?em_NoSlot_KeepError ?k2_NoSlot_BadCount ?k2_NoSlot_BadWord ?k2_NoSlot_NoHand ?k2_NoSlot_NoSlot ?k2_NoSlot_NothingHeld ?k2_NoSlot_BadNumber ?k2_NoSlot_NoCell ?k2_NoSlot_NoDeed ?k2_NoSlot_NoImage ?k2_NoSlot_NoName ?k2_NoSlot_NoPlace ?k2_NoSlot_NoProgram ?k2_NoSlot_NoRoom ?k2_NoSlot_ValueError ?x_NothingHeld ?kiga_NothingHeld ?kigt_NothingHeld ?kicl_NothingHeld ?kimb_NothingHeld ?kimo_NothingHeld ?em_NothingHeld_KeepError ?k2_NothingHeld_BadCount ?k2_NothingHeld_BadWord ?k2_NothingHeld_NoHand ?k2_NothingHeld_NoSlot ?k2_NothingHeld_NothingHeld ?k2_NothingHeld_BadNumber ?k2_NothingHeld_NoCell ?k2_NothingHeld_NoDeed ?k2_NothingHeld_NoImage ?k2_NothingHeld_NoName ?k2_NothingHeld_NoPlace ?k2_NothingHeld_NoProgram ?k2_NothingHeld_NoRoom ?k2_NothingHeld_ValueError ?kihn ?kitk ?kt_NoneType_int ?kt_NoneType_bool ?kt_bool_int ?kt_bool_bool ?kt_int_int ?kt_int_bool ?kt_str_int ?kt_str_bool ?kt_list_int ?kt_list_bool ?kt_tuple_int ?kt_tuple_bool ?kt_dict_int ?kt_dict_bool ?n_ValueError ?n_bool ?n_int ?n_isinstance ?n_len ?n_range ?n_sorted
    (case g_KeepError => k_is)
    (case g_BadNumber => k_is)
    (case g_BadWord => k_is)
    (case g_BadCount => k_is)
    (case g_NoPlace => k_is)
    (case g_NoRoom => k_is)
    (case g_NoSlot => k_is)
    (case g_NoCell => k_is)
    (case g_NoHand => k_is)
    (case g_NothingHeld => k_is)
    (case g_NoName => k_is)
    (case g_NoDeed => k_is)
    (case g_NoImage => k_is)
    (case g_NoProgram => k_is)
    (case g_Memory => k_is)
    (case g_Space => k_is)
    (case g_Areas => k_is)
    (case g_Book => k_is)
    (case g_Hands => k_is)
    (case g_Lasts => k_is)
    (case g_Weak => k_is)
    (case g_Roots => k_is)
    (case g_Heap => k_is)
    (case pg_Memory => k_is)
    (case hd_Memory => k_is)
    (case po_Memory => k_is)
    (case sa_Memory => k_is)
    (case mk_Memory => k_is)
    (case kc_Memory => k_is)
    (case na_Memory_size => k_is)
    (case na_Memory_words => k_is)
    (case pg_Space => k_is)
    (case hd_Space => k_is)
    (case po_Space => k_is)
    (case sa_Space => k_is)
    (case mk_Space => k_is)
    (case kc_Space => k_is)
    (case na_Space_begin => k_is)
    (case na_Space_end => k_is)
    (case na_Space_top => k_is)
    (case pg_Areas => k_is)
    (case hd_Areas => k_is)
    (case po_Areas => k_is)
    (case sa_Areas => k_is)
    (case mk_Areas => k_is)
    (case kc_Areas => k_is)
    (case na_Areas_memory => k_is)
    (case na_Areas_old => k_is)
    (case na_Areas_young => k_is)
    (case na_Areas_spare => k_is)
    (case pg_Book => k_is)
    (case hd_Book => k_is)
    (case po_Book => k_is)
    (case sa_Book => k_is)
    (case mk_Book => k_is)
    (case kc_Book => k_is)
    (case na_Book_written => k_is)
    (case pg_Hands => k_is)
    (case hd_Hands => k_is)
    (case po_Hands => k_is)
    (case sa_Hands => k_is)
    (case mk_Hands => k_is)
    (case kc_Hands => k_is)
    (case na_Hands_words => k_is)
    (case pg_Lasts => k_is)
    (case hd_Lasts => k_is)
    (case po_Lasts => k_is)
    (case sa_Lasts => k_is)
    (case mk_Lasts => k_is)
    (case kc_Lasts => k_is)
    (case na_Lasts_waiting => k_is)
    (case na_Lasts_spoken => k_is)
    (case pg_Weak => k_is)
    (case hd_Weak => k_is)
    (case po_Weak => k_is)
    (case sa_Weak => k_is)
    (case mk_Weak => k_is)
    (case kc_Weak => k_is)
    (case na_Weak_told => k_is)
    (case pg_Roots => k_is)
    (case hd_Roots => k_is)
    (case po_Roots => k_is)
    (case sa_Roots => k_is)
    (case mk_Roots => k_is)
    (case kc_Roots => k_is)
    (case na_Roots_hands => k_is)
    (case na_Roots_book => k_is)
    (case na_Roots_weaks => k_is)
    (case na_Roots_lasts => k_is)
    (case pg_Heap => k_is)
    (case hd_Heap => k_is)
    (case po_Heap => k_is)
    (case sa_Heap => k_is)
    (case mk_Heap => k_is)
    (case kc_Heap => k_is)
    (case na_Heap_roots => k_is)
    (case na_Heap_areas => k_is)
    (case g_is_whole => k_is)
    (case l_is_whole => k_is)
    (case d_is_whole => k_is)
    (case k_is_whole => k_is)
    (case a_Space_init => k_is)
    (case i_Space_init => k_is)
    (case l_Space_init => k_is)
    (case d_Space_init => k_is)
    (case k_Space_init => k_is)
    (case a_Space_room => k_is)
    (case i_Space_room => k_is)
    (case l_Space_room => k_is)
    (case d_Space_room => k_is)
    (case k_Space_room => k_is)
    (case a_Space_extent => k_is)
    (case i_Space_extent => k_is)
    (case l_Space_extent => k_is)
    (case d_Space_extent => k_is)
    (case k_Space_extent => k_is)
    (case a_Book_init => k_is)
    (case i_Book_init => k_is)
    (case l_Book_init => k_is)
    (case d_Book_init => k_is)
    (case k_Book_init => k_is)
    (case a_Book_places => k_is)
    (case i_Book_places => k_is)
    (case l_Book_places => k_is)
    (case d_Book_places => k_is)
    (case k_Book_places => k_is)
    (case a_Lasts_init => k_is)
    (case i_Lasts_init => k_is)
    (case l_Lasts_init => k_is)
    (case d_Lasts_init => k_is)
    (case k_Lasts_init => k_is)
    (case a_Weak_init => k_is)
    (case i_Weak_init => k_is)
    (case l_Weak_init => k_is)
    (case d_Weak_init => k_is)
    (case k_Weak_init => k_is)
    (case g__law_draw => k_is)
    (case l__law_draw => k_is)
    (case d__law_draw => k_is)
    (case k__law_draw => k_is)
    (case g__law_alone => k_is)
    (case l__law_alone => k_is)
    (case d__law_alone => k_is)
    (case k__law_alone => k_is)
    (case g__law_size => k_is)
    (case l__law_size => k_is)
    (case d__law_size => k_is)
    (case k__law_size => k_is)
    (case g__law_fits => k_is)
    (case l__law_fits => k_is)
    (case d__law_fits => k_is)
    (case k__law_fits => k_is)
    (case g_is_within => k_is)
    (case l_is_within => k_is)
    (case d_is_within => k_is)
    (case k_is_within => k_is)
    (case a_Space_take => k_is)
    (case i_Space_take => k_is)
    (case l_Space_take => k_is)
    (case d_Space_take => k_is)
    (case k_Space_take => k_is)
    (case a_Heap_is_for_young => k_is)
    (case i_Heap_is_for_young => k_is)
    (case l_Heap_is_for_young => k_is)
    (case d_Heap_is_for_young => k_is)
    (case k_Heap_is_for_young => k_is)
    (case g__law_due => k_is)
    (case l__law_due => k_is)
    (case d__law_due => k_is)
    (case k__law_due => k_is)
    (case g_is_number => k_is)
    (case l_is_number => k_is)
    (case d_is_number => k_is)
    (case k_is_number => k_is)
    (case g_is_place => k_is)
    (case l_is_place => k_is)
    (case d_is_place => k_is)
    (case k_is_place => k_is)
    (case g_want_slots => k_is)
    (case l_want_slots => k_is)
    (case d_want_slots => k_is)
    (case k_want_slots => k_is)
    (case g_is_head => k_is)
    (case l_is_head => k_is)
    (case d_is_head => k_is)
    (case k_is_head => k_is)
    (case g_fits => k_is)
    (case l_fits => k_is)
    (case d_fits => k_is)
    (case k_fits => k_is)
    (case a_Memory_init => k_is)
    (case i_Memory_init => k_is)
    (case l_Memory_init => k_is)
    (case d_Memory_init => k_is)
    (case k_Memory_init => k_is)
    (case a_Memory_want_place => k_is)
    (case i_Memory_want_place => k_is)
    (case l_Memory_want_place => k_is)
    (case d_Memory_want_place => k_is)
    (case k_Memory_want_place => k_is)
    (case a_Space_has => k_is)
    (case i_Space_has => k_is)
    (case l_Space_has => k_is)
    (case d_Space_has => k_is)
    (case k_Space_has => k_is)
    (case a_Hands_init => k_is)
    (case i_Hands_init => k_is)
    (case l_Hands_init => k_is)
    (case d_Hands_init => k_is)
    (case k_Hands_init => k_is)
    (case a_Hands_want_hand => k_is)
    (case i_Hands_want_hand => k_is)
    (case l_Hands_want_hand => k_is)
    (case d_Hands_want_hand => k_is)
    (case k_Hands_want_hand => k_is)
    (case g_want_number => k_is)
    (case l_want_number => k_is)
    (case d_want_number => k_is)
    (case k_want_number => k_is)
    (case g_want_place => k_is)
    (case l_want_place => k_is)
    (case d_want_place => k_is)
    (case k_want_place => k_is)
    (case g_kind => k_is)
    (case l_kind => k_is)
    (case d_kind => k_is)
    (case k_kind => k_is)
    (case a_Memory_read => k_is)
    (case i_Memory_read => k_is)
    (case l_Memory_read => k_is)
    (case d_Memory_read => k_is)
    (case k_Memory_read => k_is)
    (case a_Hands_get => k_is)
    (case i_Hands_get => k_is)
    (case l_Hands_get => k_is)
    (case d_Hands_get => k_is)
    (case k_Hands_get => k_is)
    (case a_Heap_want_hand => k_is)
    (case i_Heap_want_hand => k_is)
    (case l_Heap_want_hand => k_is)
    (case d_Heap_want_hand => k_is)
    (case k_Heap_want_hand => k_is)
    (case g_number_word => k_is)
    (case l_number_word => k_is)
    (case d_number_word => k_is)
    (case k_number_word => k_is)
    (case g_place_word => k_is)
    (case l_place_word => k_is)
    (case d_place_word => k_is)
    (case k_place_word => k_is)
    (case g_worth => k_is)
    (case l_worth => k_is)
    (case d_worth => k_is)
    (case k_worth => k_is)
    (case a_Memory_write => k_is)
    (case i_Memory_write => k_is)
    (case l_Memory_write => k_is)
    (case d_Memory_write => k_is)
    (case k_Memory_write => k_is)
    (case a_Areas_init => k_is)
    (case i_Areas_init => k_is)
    (case l_Areas_init => k_is)
    (case d_Areas_init => k_is)
    (case k_Areas_init => k_is)
    (case a_Book_write => k_is)
    (case i_Book_write => k_is)
    (case l_Book_write => k_is)
    (case d_Book_write => k_is)
    (case k_Book_write => k_is)
    (case a_Book_has => k_is)
    (case i_Book_has => k_is)
    (case l_Book_has => k_is)
    (case d_Book_has => k_is)
    (case k_Book_has => k_is)
    (case a_Hands_put => k_is)
    (case i_Hands_put => k_is)
    (case l_Hands_put => k_is)
    (case d_Hands_put => k_is)
    (case k_Hands_put => k_is)
    (case a_Roots_init => k_is)
    (case i_Roots_init => k_is)
    (case l_Roots_init => k_is)
    (case d_Roots_init => k_is)
    (case k_Roots_init => k_is)
    (case a_Heap_held => k_is)
    (case i_Heap_held => k_is)
    (case l_Heap_held => k_is)
    (case d_Heap_held => k_is)
    (case k_Heap_held => k_is)
    (case a_Heap_want_make => k_is)
    (case i_Heap_want_make => k_is)
    (case l_Heap_want_make => k_is)
    (case d_Heap_want_make => k_is)
    (case k_Heap_want_make => k_is)
    (case g_head_word => k_is)
    (case l_head_word => k_is)
    (case d_head_word => k_is)
    (case k_head_word => k_is)
    (case g_head_number => k_is)
    (case l_head_number => k_is)
    (case d_head_number => k_is)
    (case k_head_number => k_is)
    (case a_Book_rub => k_is)
    (case i_Book_rub => k_is)
    (case l_Book_rub => k_is)
    (case d_Book_rub => k_is)
    (case k_Book_rub => k_is)
    (case g_is_of_young => k_is)
    (case l_is_of_young => k_is)
    (case d_is_of_young => k_is)
    (case k_is_of_young => k_is)
    (case a_Heap_hold => k_is)
    (case i_Heap_hold => k_is)
    (case l_Heap_hold => k_is)
    (case d_Heap_hold => k_is)
    (case k_Heap_hold => k_is)
    (case a_Heap_cell_of => k_is)
    (case i_Heap_cell_of => k_is)
    (case l_Heap_cell_of => k_is)
    (case d_Heap_cell_of => k_is)
    (case k_Heap_cell_of => k_is)
    (case g_lay => k_is)
    (case l_lay => k_is)
    (case d_lay => k_is)
    (case k_lay => k_is)
    (case g_slots_of => k_is)
    (case l_slots_of => k_is)
    (case d_slots_of => k_is)
    (case k_slots_of => k_is)
    (case a_Heap_init => k_is)
    (case i_Heap_init => k_is)
    (case l_Heap_init => k_is)
    (case d_Heap_init => k_is)
    (case k_Heap_init => k_is)
    (case a_Heap_drop => k_is)
    (case i_Heap_drop => k_is)
    (case l_Heap_drop => k_is)
    (case d_Heap_drop => k_is)
    (case k_Heap_drop => k_is)
    (case a_Heap_note => k_is)
    (case i_Heap_note => k_is)
    (case l_Heap_note => k_is)
    (case d_Heap_note => k_is)
    (case k_Heap_note => k_is)
    (case g_aged => k_is)
    (case l_aged => k_is)
    (case d_aged => k_is)
    (case k_aged => k_is)
    (case g_slot_place => k_is)
    (case l_slot_place => k_is)
    (case d_slot_place => k_is)
    (case k_slot_place => k_is)
    (case a_Areas_lay_into => k_is)
    (case i_Areas_lay_into => k_is)
    (case l_Areas_lay_into => k_is)
    (case d_Areas_lay_into => k_is)
    (case k_Areas_lay_into => k_is)
    (case a_Heap_place_of => k_is)
    (case i_Heap_place_of => k_is)
    (case l_Heap_place_of => k_is)
    (case d_Heap_place_of => k_is)
    (case k_Heap_place_of => k_is)
    (case g__law_is_heap => k_is)
    (case l__law_is_heap => k_is)
    (case d__law_is_heap => k_is)
    (case k__law_is_heap => k_is)
    (case a_Areas_lay_young => k_is)
    (case i_Areas_lay_young => k_is)
    (case l_Areas_lay_young => k_is)
    (case d_Areas_lay_young => k_is)
    (case k_Areas_lay_young => k_is)
    (case a_Areas_lay_old => k_is)
    (case i_Areas_lay_old => k_is)
    (case l_Areas_lay_old => k_is)
    (case d_Areas_lay_old => k_is)
    (case k_Areas_lay_old => k_is)
    (case a_Heap_get => k_is)
    (case i_Heap_get => k_is)
    (case l_Heap_get => k_is)
    (case d_Heap_get => k_is)
    (case k_Heap_get => k_is)
    (case a_Heap_put => k_is)
    (case i_Heap_put => k_is)
    (case l_Heap_put => k_is)
    (case d_Heap_put => k_is)
    (case k_Heap_put => k_is)
    (case a_Heap_make => k_is)
    (case i_Heap_make => k_is)
    (case l_Heap_make => k_is)
    (case d_Heap_make => k_is)
    (case k_Heap_make => k_is)
    (case g__law_state => k_is)
    (case l__law_state => k_is)
    (case d__law_state => k_is)
    (case k__law_state => k_is)
    (case g__law_call => k_is)
    (case l__law_call => k_is)
    (case d__law_call => k_is)
    (case k__law_call => k_is)
    (case g_law => k_is)
    (case l_law => k_is)
    (case d_law => k_is)
    (case k_law => k_is)
    (case v_NOTHING => k_is)
    (case v_MOST_NUMBER => k_is)
    (case v_MOST_PLACE => k_is)
    (case v_MOST_SLOTS => k_is)
    (case v_MOST_AGE => k_is)
    (case v_MOST_WORDS => k_is)
    (case v_LEAST_OLD_WORDS => k_is)
    (case v_MOST_OLD_WORDS => k_is)
    (case v_LEAST_YOUNG_WORDS => k_is)
    (case v_MOST_YOUNG_WORDS => k_is)
    (case v_MOST_HANDS => k_is)
    (case x_BadCount => k_exc)
    (case kiga_BadCount => k_is)
    (case kigt_BadCount => k_is)
    (case kicl_BadCount => k_is)
    (case kimb_BadCount => k_is)
    (case kimo_BadCount => k_is)
    (case em_BadCount_KeepError => kts_exm)
    (case k2_BadCount_BadCount => kit_is)
    (case k2_BadCount_BadWord => kit_is)
    (case k2_BadCount_NoHand => kit_is)
    (case k2_BadCount_NoSlot => kit_is)
    (case k2_BadCount_NothingHeld => kit_is)
    (case k2_BadCount_BadNumber => kit_is)
    (case k2_BadCount_NoCell => kit_is)
    (case k2_BadCount_NoDeed => kit_is)
    (case k2_BadCount_NoImage => kit_is)
    (case k2_BadCount_NoName => kit_is)
    (case k2_BadCount_NoPlace => kit_is)
    (case k2_BadCount_NoProgram => kit_is)
    (case k2_BadCount_NoRoom => kit_is)
    (case k2_BadCount_ValueError => kit_is)
    (case x_BadNumber => k_exc)
    (case kiga_BadNumber => k_is)
    (case kigt_BadNumber => k_is)
    (case kicl_BadNumber => k_is)
    (case kimb_BadNumber => k_is)
    (case kimo_BadNumber => k_is)
    (case em_BadNumber_KeepError => kts_exm)
    (case x_BadWord => k_exc)
    (case kiga_BadWord => k_is)
    (case kigt_BadWord => k_is)
    (case kicl_BadWord => k_is)
    (case kimb_BadWord => k_is)
    (case kimo_BadWord => k_is)
    (case em_BadWord_KeepError => kts_exm)
    (case k2_BadWord_BadCount => kit_is)
    (case k2_BadWord_BadWord => kit_is)
    (case k2_BadWord_NoHand => kit_is)
    (case k2_BadWord_NoSlot => kit_is)
    (case k2_BadWord_NothingHeld => kit_is)
    (case k2_BadWord_BadNumber => kit_is)
    (case k2_BadWord_NoCell => kit_is)
    (case k2_BadWord_NoDeed => kit_is)
    (case k2_BadWord_NoImage => kit_is)
    (case k2_BadWord_NoName => kit_is)
    (case k2_BadWord_NoPlace => kit_is)
    (case k2_BadWord_NoProgram => kit_is)
    (case k2_BadWord_NoRoom => kit_is)
    (case k2_BadWord_ValueError => kit_is)
    (case x_NoCell => k_exc)
    (case kiga_NoCell => k_is)
    (case kigt_NoCell => k_is)
    (case kicl_NoCell => k_is)
    (case kimb_NoCell => k_is)
    (case kimo_NoCell => k_is)
    (case em_NoCell_KeepError => kts_exm)
    (case x_NoHand => k_exc)
    (case kiga_NoHand => k_is)
    (case kigt_NoHand => k_is)
    (case kicl_NoHand => k_is)
    (case kimb_NoHand => k_is)
    (case kimo_NoHand => k_is)
    (case em_NoHand_KeepError => kts_exm)
    (case k2_NoHand_BadCount => kit_is)
    (case k2_NoHand_BadWord => kit_is)
    (case k2_NoHand_NoHand => kit_is)
    (case k2_NoHand_NoSlot => kit_is)
    (case k2_NoHand_NothingHeld => kit_is)
    (case k2_NoHand_BadNumber => kit_is)
    (case k2_NoHand_NoCell => kit_is)
    (case k2_NoHand_NoDeed => kit_is)
    (case k2_NoHand_NoImage => kit_is)
    (case k2_NoHand_NoName => kit_is)
    (case k2_NoHand_NoPlace => kit_is)
    (case k2_NoHand_NoProgram => kit_is)
    (case k2_NoHand_NoRoom => kit_is)
    (case k2_NoHand_ValueError => kit_is)
    (case x_NoPlace => k_exc)
    (case kiga_NoPlace => k_is)
    (case kigt_NoPlace => k_is)
    (case kicl_NoPlace => k_is)
    (case kimb_NoPlace => k_is)
    (case kimo_NoPlace => k_is)
    (case em_NoPlace_KeepError => kts_exm)
    (case x_NoRoom => k_exc)
    (case kiga_NoRoom => k_is)
    (case kigt_NoRoom => k_is)
    (case kicl_NoRoom => k_is)
    (case kimb_NoRoom => k_is)
    (case kimo_NoRoom => k_is)
    (case em_NoRoom_KeepError => kts_exm)
    (case x_NoSlot => k_exc)
    (case kiga_NoSlot => k_is)
    (case kigt_NoSlot => k_is)
    (case kicl_NoSlot => k_is)
    (case kimb_NoSlot => k_is)
    (case kimo_NoSlot => k_is)
    (case em_NoSlot_KeepError => kts_exm)
    (case k2_NoSlot_BadCount => kit_is)
    (case k2_NoSlot_BadWord => kit_is)
    (case k2_NoSlot_NoHand => kit_is)
    (case k2_NoSlot_NoSlot => kit_is)
    (case k2_NoSlot_NothingHeld => kit_is)
    (case k2_NoSlot_BadNumber => kit_is)
    (case k2_NoSlot_NoCell => kit_is)
    (case k2_NoSlot_NoDeed => kit_is)
    (case k2_NoSlot_NoImage => kit_is)
    (case k2_NoSlot_NoName => kit_is)
    (case k2_NoSlot_NoPlace => kit_is)
    (case k2_NoSlot_NoProgram => kit_is)
    (case k2_NoSlot_NoRoom => kit_is)
    (case k2_NoSlot_ValueError => kit_is)
    (case x_NothingHeld => k_exc)
    (case kiga_NothingHeld => k_is)
    (case kigt_NothingHeld => k_is)
    (case kicl_NothingHeld => k_is)
    (case kimb_NothingHeld => k_is)
    (case kimo_NothingHeld => k_is)
    (case em_NothingHeld_KeepError => kts_exm)
    (case k2_NothingHeld_BadCount => kit_is)
    (case k2_NothingHeld_BadWord => kit_is)
    (case k2_NothingHeld_NoHand => kit_is)
    (case k2_NothingHeld_NoSlot => kit_is)
    (case k2_NothingHeld_NothingHeld => kit_is)
    (case k2_NothingHeld_BadNumber => kit_is)
    (case k2_NothingHeld_NoCell => kit_is)
    (case k2_NothingHeld_NoDeed => kit_is)
    (case k2_NothingHeld_NoImage => kit_is)
    (case k2_NothingHeld_NoName => kit_is)
    (case k2_NothingHeld_NoPlace => kit_is)
    (case k2_NothingHeld_NoProgram => kit_is)
    (case k2_NothingHeld_NoRoom => kit_is)
    (case k2_NothingHeld_ValueError => kit_is)
    (case kihn => k_is)
    (case kitk => k_is)
    (case kt_NoneType_int => kit_is)
    (case kt_NoneType_bool => kit_is)
    (case kt_bool_int => kit_is)
    (case kt_bool_bool => kit_is)
    (case kt_int_int => kit_is)
    (case kt_int_bool => kit_is)
    (case kt_str_int => kit_is)
    (case kt_str_bool => kit_is)
    (case kt_list_int => kit_is)
    (case kt_list_bool => kit_is)
    (case kt_tuple_int => kit_is)
    (case kt_tuple_bool => kit_is)
    (case kt_dict_int => kit_is)
    (case kt_dict_bool => kit_is)
    (case n_ValueError => k_is)
    (case n_bool => k_is)
    (case n_int => k_is)
    (case n_isinstance => k_is)
    (case n_len => k_is)
    (case n_range => k_is)
    (case n_sorted => k_is)


