import PyProof.Rows.All
import Wide.All
import OpenK.AllK
import Wide.FinOn
import Lean
import PyProof.EqAt
import PyProof.EqKinds
import PyProof.TupleCall
import PySem.Challenge.RW_cellkeep_k29_frames
set_option Elab.async false
set_option linter.all false
set_option maxRecDepth 100000
set_option maxHeartbeats 4000000
/-! THE HAND LAYER, for ints, bools, texts, own classes, LISTS and tuples (index, slices, in, append, pop ..), calls, loops. Paste it whole ahead of your own text; what your proof does not reach may be deleted. -/
namespace L2
open PySem PySem.Spec PyProof.Rows

/-- a key: an int or a str -/
abbrev Key := Sum Int Str
def keyIs : Key → Value → Bool
  | .inl k, v => Value.isInt k v
  | .inr x, v => Value.isStrOf x v
def keyH (w : World) : Key → Int
  | .inl k => hashInt k
  | .inr x => hashStr w x
theorem keyIs_shape : ∀ {k : Key} {v : Value}, keyIs k v = true → (∃ i t, k = Sum.inl i ∧ v = Value.int i t) ∨ (∃ x t, k = Sum.inr x ∧ v = Value.str x t)
  | .inl i, v, h => by
    obtain ⟨t, e⟩ := Value.isInt_shape (k := i) (v := v) h
    exact .inl ⟨i, t, rfl, e⟩
  | .inr x, v, h => by
    obtain ⟨t, e⟩ := Value.isStrOf_shape (x := x) (v := v) h
    exact .inr ⟨x, t, rfl, e⟩
theorem keyIs_int (i : Int) (t : Tok) : keyIs (.inl i) (.int i t) = true := by simp [keyIs, Value.isInt]
theorem keyIs_str (x : Str) (t : Tok) : keyIs (.inr x) (.str x t) = true := by simp [keyIs, Value.isStrOf]
theorem key_ll (a b : Int) : decide ((Sum.inl a : Key) = Sum.inl b) = (a == b) := by
  by_cases e : a = b
  · subst e; simp
  · have h : ¬ (Sum.inl a : Key) = Sum.inl b := fun q => e (Sum.inl.inj q)
    rw [decide_eq_false h]
    exact (beq_eq_false_iff_ne.mpr e).symm
theorem key_rr (a b : Str) : decide ((Sum.inr a : Key) = Sum.inr b) = decide (a = b) := by
  by_cases e : a = b
  · subst e; simp
  · have h : ¬ (Sum.inr a : Key) = Sum.inr b := fun q => e (Sum.inr.inj q)
    rw [decide_eq_false h, decide_eq_false e]
theorem key_lr (a : Int) (b : Str) : decide ((Sum.inl a : Key) = Sum.inr b) = false := decide_eq_false (fun q => nomatch q)
theorem key_rl (a : Str) (b : Int) : decide ((Sum.inr a : Key) = Sum.inl b) = false := decide_eq_false (fun q => nomatch q)

def mixKind (prog : Program) (w : World) : PySem.KeyKind prog w Key where
  is := keyIs
  hash := keyH w
  inj := fun v a b ha hb => by
    rcases keyIs_shape ha with ⟨i, t, rfl, rfl⟩ | ⟨x, t, rfl, rfl⟩
    · rcases keyIs_shape hb with ⟨j, u, rfl, e⟩ | ⟨y, u, rfl, e⟩
      · injection e with e1 _; rw [e1]
      · exact nomatch e
    · rcases keyIs_shape hb with ⟨j, u, rfl, e⟩ | ⟨y, u, rfl, e⟩
      · exact nomatch e
      · injection e with e1 _; rw [e1]
  byValue := fun k v h => by
    rcases keyIs_shape h with ⟨i, t, rfl, rfl⟩ | ⟨x, t, rfl, rfl⟩ <;> rfl
  pyHash := fun hv h => by
    rcases keyIs_shape hv with ⟨i, t, rfl, rfl⟩ | ⟨x, t, rfl, rfl⟩
    · exact wpAny_pyHash_int h
    · exact wpAny_pyHash_str h
  eqBool := fun hu hv h => by
    rcases keyIs_shape hu with ⟨i, t, rfl, rfl⟩ | ⟨x, t, rfl, rfl⟩
    · rcases keyIs_shape hv with ⟨j, u, rfl, rfl⟩ | ⟨y, u, rfl, rfl⟩
      · rw [key_ll] at h; exact wpAny_eqBool_int h
      · rw [key_lr] at h; exact SeqAt.EqAt.int_str i t y u _ _ _ _ h
    · rcases keyIs_shape hv with ⟨j, u, rfl, rfl⟩ | ⟨y, u, rfl, rfl⟩
      · rw [key_rl] at h; exact SeqAt.EqAt.str_int x t j u _ _ _ _ h
      · rw [key_rr] at h; exact wpAny_eqBool_str h
  «strs» := fun k x t v h => by
    rcases keyIs_shape h with ⟨i, u, rfl, e⟩ | ⟨y, u, rfl, e⟩
    · exact nomatch e
    · injection e with e1 _
      subst e1
      cases v <;> rfl

theorem mixKind_int (prog : Program) (w : World) (i : Int) (t : Tok) : (mixKind prog w).is (.inl i) (.int i t) = true := keyIs_int i t
theorem mixKind_str (prog : Program) (w : World) (x : Str) (t : Tok) : (mixKind prog w).is (.inr x) (.str x t) = true := keyIs_str x t
end L2

namespace L2
open PySem PySem.Spec PyProof.Rows

/-- a value, without the heap -/
inductive V where
  | non | bl (b : Bool) | int (i : Int) | str (x : Str) | byt (b : Array UInt8) | flt (b : UInt64) | ref (a : Addr) | ty (n : String)
  deriving DecidableEq

def RelV : V → Value → Prop
  | .non, u => u = Value.none
  | .bl b, u => u = Value.bool b
  | .int i, u => ∃ t, u = Value.int i t
  | .str x, u => ∃ t, u = Value.str x t
  | .byt b, u => ∃ t, u = Value.bytes b t
  | .flt b, u => ∃ t, u = Value.float b t
  | .ref a, u => u = Value.ref a
  | .ty n, u => u = Value.type n

abbrev Vals : List V → List Value → Prop := Paired RelV
theorem Vals.length {xs : List V} {us : List Value} (r : Vals xs us) : xs.length = us.length := Paired.length r
theorem Vals.get : ∀ {xs : List V} {us : List Value} {i : Nat} {x : V}, Vals xs us → xs[i]? = some x → ∃ u, us[i]? = some u ∧ RelV x u
  | _, _, _, _, .nil, e => by simp at e
  | _, _, 0, _, .cons r _, e => by simp at e; subst e; exact ⟨_, rfl, r⟩
  | _, _, i + 1, x, .cons _ t, e => by
    obtain ⟨u, h1, h2⟩ := Vals.get (i := i) (x := x) t (by simpa using e)
    exact ⟨u, by simpa using h1, h2⟩
theorem Vals.set {x : V} {u : Value} (r : RelV x u) : ∀ {xs : List V} {us : List Value} (i : Nat), Vals xs us → Vals (xs.set i x) (us.set i u)
  | _, _, _, .nil => .nil
  | _, _, 0, .cons _ t => .cons r t
  | _, _, i + 1, .cons q t => .cons q (Vals.set r i t)
theorem Vals.append : ∀ {xs ys : List V} {us ws : List Value}, Vals xs us → Vals ys ws → Vals (xs ++ ys) (us ++ ws)
  | _, _, _, _, .nil, s => s
  | _, _, _, _, .cons r t, s => .cons r (Vals.append t s)
theorem Vals.take : ∀ {xs : List V} {us : List Value} (n : Nat), Vals xs us → Vals (xs.take n) (us.take n)
  | _, _, 0, _ => .nil
  | _, _, _ + 1, .nil => .nil
  | _, _, n + 1, .cons r t => .cons r (Vals.take n t)
theorem Vals.drop : ∀ {xs : List V} {us : List Value} (n : Nat), Vals xs us → Vals (xs.drop n) (us.drop n)
  | _, _, 0, r => r
  | _, _, _ + 1, .nil => .nil
  | _, _, n + 1, .cons _ t => Vals.drop n t
theorem Vals.none_of : ∀ {xs : List V} {us : List Value} {i : Nat}, Vals xs us → xs[i]? = none → us[i]? = none := fun {xs us i} r e => by
  have h1 := r.length
  have h2 : xs.length ≤ i := List.getElem?_eq_none_iff.mp e
  exact List.getElem?_eq_none_iff.mpr (by omega)

def RelO : Option V → Option Value → Prop
  | some v, some u => RelV v u
  | none, none => True
  | _, _ => False
def KV {κ : Type} : List (κ × V) → List (κ × Value) → Prop := Paired fun (p : κ × V) (q : κ × Value) => p.1 = q.1 ∧ RelV p.2 q.2

/-- a key of a dict (00_mix): an int or a text -/
def kV : Key → V
  | .inl i => .int i
  | .inr x => .str x

/-- what stands at a tracked address -/
inductive HO where
  /-- a list -/
  | lst (xs : List V)
  /-- a tuple (never changes) -/
  | tup (xs : List V)
  /-- a dict whose keys are ints and texts; one whose keys are tuples of ints and texts (the empty one is both) -/
  | dK (kvs : List (Key × V)) | dT (kvs : List (List Key × V))
  /-- a set of ints: its members, its size -/
  | set (S : Int → Bool) (n : Nat)
  /-- an instance of the class at C, its dict at dx, its attributes -/
  | ins (C dx : Addr) (fs : List (Str × V))
  /-- the dict of the instance at x -/
  | own (x : Addr)
  /-- the dict of an exception -/
  | xd (fs : List (Str × V))
  /-- a bound method, f of x -/
  | met (f x : Addr)
  /-- a range object lo, lo + 1, .. below hi -/
  | rng (lo hi : Int)
  /-- a thing that is known to the object (the script; a dict while a loop walks it): read, never written while it is so -/
  | frz (o : Obj) (u : HO)
  /-- a code object's table -/
  | tbl (ps : Array Value)
  /-- any other thing, by what is true of its one object (a def of one's own: SetO a S n := HO.ext fun h => ..) -/
  | ext (φ : Heap → Prop)
  /-- an exception that was caught, by its class -/
  | exc (cls : Value)

abbrev Hp := Addr → Option HO
def upd (H : Hp) (a : Addr) (o : HO) : Hp := fun b => if b = a then some o else H b
theorem upd_same {H : Hp} {a : Addr} {o : HO} : upd H a o a = some o := by unfold upd; rw [if_pos rfl]
theorem upd_ne {H : Hp} {a b : Addr} {o : HO} (h : b ≠ a) : upd H a o b = H b := by unfold upd; rw [if_neg h]
/-- two objects of different content stand apart -/
theorem ne_of {H : Hp} {a b : Addr} {o u : HO} (h : H a = some o) (h' : H b = some u) (d : o ≠ u) : a ≠ b := by
  intro e; subst e; rw [h] at h'; exact d (Option.some.inj h')
theorem ne_of_none {H : Hp} {a b : Addr} {o : HO} (h : H a = some o) (h' : H b = none) : a ≠ b := by
  intro e; subst e; rw [h] at h'; cases h'

section
variable (P : Program) (w : World)
def ObjOk (H : Hp) (h : Heap) (a : Addr) : HO → Prop
  | .lst xs => xs.length ≤ sizeLine ∧ ∃ (its : List Value) (n : Nat), Vals xs its ∧ h.get? a = some { cls := .type "list", data := .seq its.toArray n }
  | .tup xs => xs.length ≤ sizeLine ∧ ∃ its : List Value, Vals xs its ∧ IsTup h a its.toArray
  | .dK kvs => kvs.length ≤ sizeLine ∧ (a == sysModules) = false ∧ ∃ vs, KV kvs vs ∧ h.DictOf (mixKind P w) a vs
  | .dT kvs => kvs.length ≤ sizeLine ∧ (a == sysModules) = false ∧ ∃ xs : List (List Key × Addr × Value),
      Paired (fun (p : List Key × V) (q : List Key × Addr × Value) => p.1 = q.1 ∧ H q.2.1 = some (.tup (p.1.map kV)) ∧ RelV p.2 q.2.2) kvs xs ∧
      ∃ o es ep, h.get? a = some o ∧ o.ExactDict ∧ o.data = .dict es ep ∧ es.toList = xs.map (entryOfKey (tupleKind (mixKind P w))) ∧ (xs.map (·.1)).Nodup
  | .set S n => h.SetOf (intKind P w) a S n
  | .ins C dx fs => H dx = some (.own a) ∧ fs.length ≤ 1000 ∧ dx ≠ a ∧ h.get? a = some (PySem.W.instObj C dx) ∧
      ∃ mA, h.Ns1 dx mA ∧ (∀ f, RelO (fs.lookup f) (mA f)) ∧ PySem.Within mA (fs.map (·.1))
  | .own _ => ∃ o, h.get? a = some o
  | .xd fs => ∃ mA, h.Ns1 a mA ∧ ∀ f, RelO (fs.lookup f) (mA f)
  | .rng lo hi => ∃ t u v, h.get? a = some { cls := .type "range", data := .fields #[.int lo t, .int hi u, .int 1 v] }
  | .frz o u => h.get? a = some o ∧ ObjOk H h a u
  | .tbl ps => h.get? a = some { cls := .none, data := .fields ps }
  | .met f x => h.get? a = some (PySem.W.methodObj (.ref f) (.ref x))
  | .exc cls => ∃ o vs, h.get? a = some o ∧ o.cls = cls ∧ o.data = .fields vs
  | .ext φ => φ h ∧ (∃ o, h.get? a = some o) ∧ ∀ h1 h2 : Heap, φ h1 → (∀ o, h1.get? a = some o → h2.get? a = some o) → φ h2
/-- the abstract heap is held -/
def HOk (H : Hp) (h : Heap) : Prop := ∀ a o, H a = some o → ObjOk P w H h a o
end

section
variable {P : Program} {w : World} {H H' : Hp} {h h' : Heap} {a : Addr} {o : HO}
theorem ObjOk.lt (x : ObjOk P w H h a o) : a < h.objs.size := by
  cases o with
  | lst xs => obtain ⟨_, _, _, _, e⟩ := x; exact Heap.lt_size e
  | tup xs => obtain ⟨_, _, _, p⟩ := x; exact p.lt
  | dK kvs => obtain ⟨_, _, _, _, o, _, _, e, _⟩ := x; exact Heap.lt_size e
  | dT kvs => obtain ⟨_, _, _, _, o, _, _, e, _⟩ := x; exact Heap.lt_size e
  | set S n => obtain ⟨o, _, _, _, e, _⟩ := x; exact Heap.lt_size e
  | ins C dx fs => obtain ⟨_, _, _, e, _⟩ := x; exact Heap.lt_size e
  | own y => obtain ⟨_, e⟩ := x; exact Heap.lt_size e
  | xd fs => obtain ⟨_, ⟨_, _, _, e, _⟩, _⟩ := x; exact Heap.lt_size e
  | rng lo hi => obtain ⟨_, _, _, e⟩ := x; exact Heap.lt_size e
  | frz ob u => obtain ⟨e, _⟩ := x; exact Heap.lt_size e
  | tbl ps => exact Heap.lt_size (show h.get? a = some _ from x)
  | met f y => exact Heap.lt_size (show h.get? a = some _ from x)
  | ext φ => obtain ⟨_, ⟨_, e⟩, _⟩ := x; exact Heap.lt_size e
  | exc cls => obtain ⟨_, _, e, _⟩ := x; exact Heap.lt_size e
theorem Paired.mapP {α β : Type} {F G : α → β → Prop} : ∀ {l₁ : List α} {l₂ : List β}, Paired F l₁ l₂ → (∀ a b, F a b → G a b) → Paired G l₁ l₂
  | _, _, .nil, _ => .nil
  | _, _, .cons r t, f => .cons (f _ _ r) (Paired.mapP t f)
/-- what an object's description leans on: its own object, its own dict, the tuples -/
theorem ObjOk.stay (x : ObjOk P w H h a o) (k : ∀ b u, (b = a ∨ H b = some (.own a)) → h.get? b = some u → h'.get? b = some u)
    (ho : ∀ b, H b = some (.own a) → H' b = some (.own a)) (ht : ∀ b xs, H b = some (.tup xs) → H' b = some (.tup xs)) : ObjOk P w H' h' a o := by
  induction o with
  | lst xs => obtain ⟨z, its, n, r, e⟩ := x; exact ⟨z, its, n, r, k _ _ (.inl rfl) e⟩
  | tup xs => obtain ⟨z, its, r, ob, e, c⟩ := x; exact ⟨z, its, r, ob, k _ _ (.inl rfl) e, c⟩
  | dK kvs => obtain ⟨z, y, vs, r, ob, es, ep, e, c⟩ := x; exact ⟨z, y, vs, r, ob, es, ep, k _ _ (.inl rfl) e, c⟩
  | dT kvs =>
    obtain ⟨z, y, xs, r, ob, es, ep, e, c⟩ := x
    exact ⟨z, y, xs, Paired.mapP r fun p q z => ⟨z.1, ht _ _ z.2.1, z.2.2⟩, ob, es, ep, k _ _ (.inl rfl) e, c⟩
  | set S n => obtain ⟨ob, es, ep, t, e, c⟩ := x; exact ⟨ob, es, ep, t, k _ _ (.inl rfl) e, c⟩
  | ins C dx fs =>
    obtain ⟨d, z, ne, e, mA, ⟨od, es, ep, e2, c⟩, r⟩ := x
    exact ⟨ho _ d, z, ne, k _ _ (.inl rfl) e, mA, ⟨od, es, ep, k _ _ (.inr d) e2, c⟩, r⟩
  | own y => obtain ⟨ob, e⟩ := x; exact ⟨ob, k _ _ (.inl rfl) e⟩
  | xd fs => obtain ⟨mA, ⟨od, es, ep, e, c⟩, r⟩ := x; exact ⟨mA, ⟨od, es, ep, k _ _ (.inl rfl) e, c⟩, r⟩
  | rng lo hi => obtain ⟨t, u, v, e⟩ := x; exact ⟨t, u, v, k _ _ (.inl rfl) e⟩
  | frz ob u ih => obtain ⟨e, q⟩ := x; exact ⟨k _ _ (.inl rfl) e, ih q⟩
  | tbl ps =>
    have e : h.get? a = some { cls := .none, data := .fields ps } := x
    show h'.get? a = some { cls := .none, data := .fields ps }
    exact k a _ (.inl rfl) e
  | met f y =>
    have e : h.get? a = some (PySem.W.methodObj (.ref f) (.ref y)) := x
    show h'.get? a = some (PySem.W.methodObj (.ref f) (.ref y))
    exact k a _ (.inl rfl) e
  | exc cls => obtain ⟨o, vs, e, c⟩ := x; exact ⟨o, vs, k _ _ (.inl rfl) e, c⟩
  | ext φ => obtain ⟨p, ⟨o, e⟩, st⟩ := x; exact ⟨st _ _ p fun o q => k _ _ (.inl rfl) q, ⟨o, k _ _ (.inl rfl) e⟩, st⟩
theorem HOk.lt (x : HOk P w H h) (e : H a = some o) : a < h.objs.size := (x a o e).lt
theorem HOk.fresh (x : HOk P w H h) (e : h.objs.size ≤ a) : H a = none := by
  cases q : H a with
  | none => rfl
  | some u => exact absurd (Nat.lt_of_lt_of_le (x.lt q) e) (Nat.lt_irrefl _)
/-- every object of the heap is kept -/
theorem HOk.kept (x : HOk P w H h) (k : ∀ b u, h.get? b = some u → h'.get? b = some u) : HOk P w H h' := fun a o e =>
  (x a o e).stay (fun b u _ q => k b u q) (fun _ q => q) fun _ _ q => q
/-- a new object is laid and tracked -/
theorem HOk.laid (x : HOk P w H h) (k : ∀ b u, h.get? b = some u → h'.get? b = some u) (hp : h.objs.size ≤ a) (new : ObjOk P w (upd H a o) h' a o) : HOk P w (upd H a o) h' := fun b u e => by
  have hn := x.fresh hp
  by_cases hb : b = a
  · subst hb; rw [upd_same] at e; cases e; exact new
  · rw [upd_ne hb] at e
    exact (x b u e).stay (fun c v _ q => k c v q) (fun c q => by rw [upd_ne (ne_of_none q hn)]; exact q) fun c xs q => by rw [upd_ne (ne_of_none q hn)]; exact q
end

/-- what may be read as u: it is u, or a known u -/
def Rd (H : Hp) (a : Addr) (u : HO) : Prop := H a = some u ∨ ∃ o, H a = some (.frz o u)
theorem Rd.of {H : Hp} {a : Addr} {u : HO} (h : H a = some u) : Rd H a u := .inl h
theorem Rd.ok {P : Program} {w : World} {H : Hp} {h : Heap} {a : Addr} {u : HO} (r : Rd H a u) (x : HOk P w H h) : ObjOk P w H h a u := by
  rcases r with r | ⟨o, r⟩
  · exact x a u r
  · obtain ⟨_, q⟩ := x a _ r
    exact q
/-- what may be written -/
def Mut : Option HO → Prop
  | some (.lst _) => True
  | some (.dK _) => True
  | some (.dT _) => True
  | some (.set _ _) => True
  | some (.ins _ _ _) => True
  | some (.ext _) => True
  | _ => False
section
variable {P : Program} {w : World} {H : Hp} {h h' : Heap} {x e : Addr} {o' : HO}
/-- the object at e is changed: x itself, or the dict of the instance x -/
theorem HOk.write (ok : HOk P w H h) (mu : Mut (H x)) (he : e = x ∨ H e = some (.own x)) (k : ∀ b u, b ≠ e → h.get? b = some u → h'.get? b = some u) (heo : ∃ u, h'.get? e = some u)
    (new : ObjOk P w (upd H x o') h' x o') : HOk P w (upd H x o') h' := fun b u q => by
  have nown : ∀ c y, H c = some (.own y) → c ≠ x := fun c y r z => by subst z; rw [r] at mu; exact mu
  have ntup : ∀ c xs, H c = some (.tup xs) → c ≠ x := fun c xs r z => by subst z; rw [r] at mu; exact mu
  by_cases hb : b = x
  · subst hb; rw [upd_same] at q; cases q; exact new
  · rw [upd_ne hb] at q
    by_cases hbe : b = e
    · have q' : H b = some (.own x) := by
        rcases he with z | z
        · exact absurd (hbe.trans z) hb
        · rw [hbe]; exact z
      rw [q] at q'; cases q'
      obtain ⟨v, hv⟩ := heo
      exact ⟨v, by rw [hbe]; exact hv⟩
    · refine (ok b u q).stay (fun c v hc r => k c v ?_ r) (fun c r => by rw [upd_ne (nown c b r)]; exact r) fun c xs r => by rw [upd_ne (ntup c xs r)]; exact r
      rcases hc with rfl | hc
      · exact hbe
      · rintro rfl
        rcases he with z | z
        · exact nown c b hc z
        · rw [hc] at z; cases z; exact hb rfl
end

/-! ### kept unless tracked; of the frames at fs (the callers') the slots may change (an exception that passes writes there); of the records at ex (iterators) nothing is said -/
structure Un (fs ex : List Addr) (H H' : Hp) (h h' : Heap) : Prop where
  keep : ∀ b o, h.get? b = some o → H b = none → b ∉ fs → b ∉ ex → h'.get? b = some o
  slot : ∀ b o, h.get? b = some o → H b = none → b ∈ fs → b ∉ ex → ∃ sl, h'.get? b = some { o with slots := sl }
  free : ∀ b o, h.get? b = some o → H b = none → b ∉ ex → H' b = none
  there : ∀ b o, h.get? b = some o → b ∉ ex → ∃ o', h'.get? b = some o'
  tups : ∀ b xs, H b = some (.tup xs) → H' b = some (.tup xs)
  frzs : ∀ b o u, H b = some (.frz o u) → H' b = some (.frz o u)
  tbls : ∀ b ps, H b = some (.tbl ps) → ∃ more, H' b = some (.tbl (ps ++ more))
section
variable {fs fs' ex ex' : List Addr} {H H1 H2 : Hp} {h h1 h2 h' : Heap} {a x e : Addr} {o : HO}
theorem Un.any (u : Un fs ex H H1 h h1) {b : Addr} {ob : Obj} (q : h.get? b = some ob) (n : H b = none) (hx : b ∉ ex) : ∃ sl, h1.get? b = some { ob with slots := sl } := by
  by_cases hb : b ∈ fs
  · exact u.slot b ob q n hb hx
  · exact ⟨ob.slots, u.keep b ob q n hb hx⟩
theorem Un.trans (a : Un fs ex H H1 h h1) (b : Un fs ex H1 H2 h1 h2) : Un fs ex H H2 h h2 where
  keep := fun c ob q n hc hx => b.keep c ob (a.keep c ob q n hc hx) (a.free c ob q n hx) hc hx
  slot := fun c ob q n hc hx => by
    obtain ⟨sl, e1⟩ := a.slot c ob q n hc hx
    obtain ⟨sl', e2⟩ := b.slot c _ e1 (a.free c ob q n hx) hc hx
    exact ⟨sl', e2⟩
  free := fun c ob q n hx => by
    obtain ⟨o', e1⟩ := a.there c ob q hx
    exact b.free c o' e1 (a.free c ob q n hx) hx
  there := fun c ob q hx => by
    obtain ⟨o', e1⟩ := a.there c ob q hx
    exact b.there c o' e1 hx
  tups := fun c xs q => b.tups c xs (a.tups c xs q)
  frzs := fun c ob xs q => b.frzs c ob xs (a.frzs c ob xs q)
  tbls := fun c ps q => by
    obtain ⟨m1, e1⟩ := a.tbls c ps q
    obtain ⟨m2, e2⟩ := b.tbls c _ e1
    exact ⟨m1 ++ m2, by rw [e2, Array.append_assoc]⟩
theorem Un.kept (k : ∀ b u, h.get? b = some u → h'.get? b = some u) : Un fs ex H H h h' :=
  ⟨fun b ob q _ _ _ => k b ob q, fun b ob q _ _ _ => ⟨ob.slots, k b ob q⟩, fun _ _ _ n _ => n, fun b ob q _ => ⟨ob, k b ob q⟩, fun _ _ q => q, fun _ _ _ q => q, fun _ ps q => ⟨#[], by rw [q]; simp⟩⟩
theorem Un.refl : Un fs ex H H h h := Un.kept fun _ _ q => q
theorem Un.laid (k : ∀ b u, h.get? b = some u → h'.get? b = some u) (hp : h.objs.size ≤ a) (hn : H a = none) : Un fs ex H (upd H a o) h h' where
  keep := fun b u q _ _ _ => k b u q
  slot := fun b u q _ _ _ => ⟨u.slots, k b u q⟩
  free := fun b u q n _ => by rw [upd_ne (Nat.ne_of_lt (Nat.lt_of_lt_of_le (Heap.lt_size q) hp))]; exact n
  there := fun b u q _ => ⟨u, k b u q⟩
  tups := fun b xs q => by rw [upd_ne (ne_of_none q hn)]; exact q
  frzs := fun b u xs q => by rw [upd_ne (ne_of_none q hn)]; exact q
  tbls := fun b ps q => ⟨#[], by rw [upd_ne (ne_of_none q hn), q]; simp⟩
theorem Un.write (mu : Mut (H x)) (he : e = x ∨ H e = some (.own x)) (k : ∀ b u, b ≠ e → h.get? b = some u → h'.get? b = some u) (heo : ∃ u, h'.get? e = some u) : Un fs ex H (upd H x o) h h' := by
  have hx : ∀ b, H b = none → b ≠ x := fun b n z => by subst z; rw [n] at mu; exact mu
  have hb : ∀ b, H b = none → b ≠ e := fun b n z => by
    subst z
    rcases he with r | r
    · exact hx b n r
    · rw [n] at r; cases r
  have hm : ∀ b u, H b = some u → ¬ Mut (some u) → b ≠ x := fun b u q nm z => by subst z; rw [q] at mu; exact nm mu
  refine ⟨fun b u q n _ _ => k b u (hb b n) q, fun b u q n _ _ => ⟨u.slots, k b u (hb b n) q⟩, fun b u q n _ => by rw [upd_ne (hx b n)]; exact n, fun b u q _ => ?_,
    fun b xs q => by rw [upd_ne (hm b _ q fun z => z)]; exact q, fun b u xs q => by rw [upd_ne (hm b _ q fun z => z)]; exact q, fun b ps q => ⟨#[], by rw [upd_ne (hm b _ q fun z => z), q]; simp⟩⟩
  by_cases hbe : b = e
  · subst hbe; exact heo
  · exact ⟨u, k b u hbe q⟩
theorem Un.mono (u : Un fs ex H H1 h h1) (hs : ∀ b ∈ fs, b ∈ fs') (hx : ∀ b ∈ ex, b ∈ ex') : Un fs' ex' H H1 h h1 :=
  ⟨fun b ob q n hb he => u.keep b ob q n (fun z => hb (hs b z)) fun z => he (hx b z), fun _ _ q n _ he => u.any q n fun z => he (hx _ z), fun b ob q n he => u.free b ob q n fun z => he (hx b z), fun b ob q he => u.there b ob q fun z => he (hx b z), u.tups, u.frzs, u.tbls⟩
end

/-! ### the heap without what is tracked -/
def trk (h : Heap) (H : Hp) : List Addr := (List.range h.objs.size).filter fun a => (H a).isSome
def hidT (h : Heap) (H : Hp) : Heap := PySem.W.hideAll h (trk h H)
theorem hidT_size (h : Heap) (H : Hp) : (hidT h H).objs.size = h.objs.size := PySem.W.hideAll_size _ _
theorem hidT_get {h : Heap} {H : Hp} {b : Addr} {o : Obj} (e : h.get? b = some o) (n : H b = none) : (hidT h H).get? b = some o :=
  PySem.W.hideAll_get _ e fun hm => by
    have q : (H b).isSome = true := (List.mem_filter.mp hm).2
    rw [n] at q; simp at q
theorem of_hidT {h : Heap} {H : Hp} {b : Addr} {o : Obj} (e : (hidT h H).get? b = some o) : h.get? b = some o ∧ H b = none := by
  have e' : h.get? b = some o := PySem.W.of_hideAll (trk h H) e
  refine ⟨e', ?_⟩
  cases q : H b with
  | none => rfl
  | some x =>
    have hm : b ∈ trk h H := List.mem_filter.mpr ⟨List.mem_range.mpr (Heap.lt_size e'), by simp [q]⟩
    have z : (hidT h H).get? b = none := PySem.W.hideAll_none (trk h H) hm
    rw [z] at e; cases e

/-! ### OpenK's ledger, filled with every new object but one -/
def allNews (g h : Heap) (L : Addr) : List (Addr × Obj) := (List.range h.objs.size).filterMap fun a => if a = L ∨ (g.get? a).isSome = true then none else (h.get? a).map fun o => (a, o)
def rest (g h : Heap) (L d : Addr) : List (Addr × Obj) := (allNews g h L).filter fun p => decide (p.1 ≠ d)
end L2

namespace L2
open PySem PySem.Spec PyProof.Rows

/-- the module's facts, over the base: the heap at the law's entry without what is tracked there -/
structure Mod (K : PySem.W.Frag) (mg : Str → Option Value) (base : Heap) : Prop where
  kin : K.In base
  glob : base.Ns mainGlobals mg
  blt : ∃ mb, base.Ns builtinsNs mb ∧ ∀ x : Str, x ≠ "__name__" → mb x = bootBuiltins x
  nolimit : base.NoLimit

/-- the context: a def's body (or a comprehension's block) running. base: fixed through the whole law; s₀, H₀: the entry; outer: the frames whose slots others may change (a def's callers); stack: all frames that run;
   ex: iterators that were made ahead of the entry and are walked here (a comprehension's); fn: the names whose cells were made at the entry (a def: all; a comprehension's block: its own); calm: not within an except suite; pn: pins that every state bears; xe: what is wanted of an exception that leaves the code -/
structure Cx where
  prog : Program
  w : World
  K : PySem.W.Frag
  mg : Str → Option Value
  base : Heap
  A : Around
  N : List Str
  s₀ : Shared
  H₀ : Hp
  env : Env
  outer : List Env
  stack : List Env
  ex : List Addr
  fn : Str → Bool
  calm : Bool
  pn : List (Addr × Obj)
  xe : Value → Shared → Prop
/-- the callers' frames -/
def frs (l : List Env) : List Addr := l.filterMap (·.frame)
abbrev Cx.fs (X : Cx) : List Addr := frs X.outer

def Vis (sc : Scope) (x : Str) : Prop := sc.names.lookup x = some .local ∨ sc.names.lookup x = some .cell ∨ sc.names.lookup x = some .free
def Loc (sc : Scope) (x : Str) : Prop := sc.names.lookup x = some .local ∨ sc.names.lookup x = some .cell
def Look (env : Env) (h : Heap) (m : Str → Option Value) (x : Str) (u : Value) : Prop :=
  (env.kindOf x = some .local ∧ m x = some u) ∨ ((env.kindOf x = some .cell ∨ env.kindOf x = some .free) ∧ ∃ c, env.cells.lookup x = some c ∧ h.IsCell c (some u))

structure Cx.Ok (X : Cx) : Prop where
  mod : Mod X.K X.mg X.base
  kind : X.env.scope.kind = .function
  glob : X.env.globals = mainGlobals
  blt : X.env.builtins = builtinsNs
  above : X.s₀.heap.objs.size ≤ X.env.locals
  inj : ∀ x y c, X.env.cells.lookup x = some c → X.env.cells.lookup y = some c → x = y
  has : ∀ x, (X.env.kindOf x = some .cell ∨ X.env.kindOf x = some .free) → ∃ c, X.env.cells.lookup x = some c
  cab : ∀ x c, X.fn x = true → X.env.cells.lookup x = some c → X.s₀.heap.objs.size ≤ c
  hd : X.calm = true → X.A.handled = none
  frames : X.A.frames = some X.stack
  stk : X.stack = X.outer ∨ (X.stack = X.env :: X.outer ∧ X.env.frame = some X.env.locals)
  exf : ∀ b ∈ X.ex, b ≠ X.env.locals ∧ ∀ x c, X.env.cells.lookup x = some c → c ≠ b
  bs : ∀ b o, X.base.get? b = some o → X.s₀.heap.get? b = some o ∧ X.H₀ b = none
  bsz : X.base.objs.size ≤ X.s₀.heap.objs.size
  noex : ∀ b o, X.base.get? b = some o → b ∉ X.ex
  exfs : ∀ b ∈ X.ex, b ∉ X.fs
  funs : X.s₀.heap.FunFrames X.base X.outer
  frf : ∀ b ∈ X.fs, X.H₀ b = none

structure Inv (X : Cx) (pins : List (Addr × Obj)) (σ : List (Option V)) (H : Hp) (s : Shared) : Prop where
  ok : X.Ok
  os : s.os = X.s₀.os
  bare : AllBare s.gens
  base : Un X.fs X.ex X.H₀ H X.s₀.heap s.heap
  loc : ∃ m, s.heap.Ns X.env.locals m ∧ ∀ (i : Nat) (x : Str) (v : V), X.N[i]? = some x → σ[i]? = some (some v) → Vis X.env.scope x → ∃ u, RelV v u ∧ Look X.env s.heap m x u
  cell : ∀ x c, X.env.cells.lookup x = some c → ∃ v, s.heap.IsCell c v
  free : H X.env.locals = none
  freeC : ∀ x c, X.env.cells.lookup x = some c → H c = none
  pin : ∀ p ∈ X.pn ++ pins, s.heap.get? p.1 = some p.2 ∧ H p.1 = none ∧ p.1 ≠ X.env.locals ∧ p.1 ∉ X.fs ∧ ∀ v, p.2.data ≠ .cell v
  hok : HOk X.prog X.w H s.heap
  len : σ.length = X.N.length

section
variable {X : Cx} {pins : List (Addr × Obj)} {σ : List (Option V)} {H H' : Hp} {s : Shared} {h' : Heap}

theorem Cx.Ok.nofr (ok : X.Ok) {b : Addr} {o : Obj} (e : X.base.get? b = some o) : b ∉ X.fs := fun hb => by
  have := (ok.funs.mem hb).1
  rw [e] at this; cases this
theorem Inv.bs (I : Inv X pins σ H s) : ∀ b o, X.base.get? b = some o → s.heap.get? b = some o ∧ H b = none := fun b o e =>
  ⟨I.base.keep b o (I.ok.bs b o e).1 (I.ok.bs b o e).2 (I.ok.nofr e) (I.ok.noex b o e), I.base.free b o (I.ok.bs b o e).1 (I.ok.bs b o e).2 (I.ok.noex b o e)⟩
theorem Inv.bk (I : Inv X pins σ H s) : ∀ b o, X.base.get? b = some o → s.heap.get? b = some o := fun b o e => (I.bs b o e).1
theorem Inv.mod (I : Inv X pins σ H s) : Mod X.K X.mg X.base := I.ok.mod
theorem Inv.kIn (I : Inv X pins σ H s) : X.K.In s.heap := I.ok.mod.kin.keeps I.bk
theorem Inv.nolimit (I : Inv X pins σ H s) : s.heap.NoLimit := I.ok.mod.nolimit.keeps I.bk
/-- the frame over the base: for OpenK's rules (K.In X.base is I.mod.kin) -/
theorem Inv.fr (I : Inv X pins σ H s) : ∃ m, Fr X.base X.env.locals s.heap m :=
  let ⟨m, hn, _⟩ := I.loc
  ⟨m, hn, I.bk, Nat.le_trans I.ok.bsz I.ok.above⟩
theorem Inv.lt (I : Inv X pins σ H s) : X.env.locals < s.heap.objs.size := let ⟨_, hn, _⟩ := I.loc; hn.lt
theorem Inv.sz (I : Inv X pins σ H s) : X.s₀.heap.objs.size ≤ s.heap.objs.size := Nat.le_trans I.ok.above (Nat.le_of_lt I.lt)
theorem Inv.nofs (I : Inv X pins σ H s) {a : Addr} (h : s.heap.objs.size ≤ a) : a ∉ X.fs := fun hb => by
  obtain ⟨_, o, ho, _⟩ := I.ok.funs.mem hb
  exact absurd (Nat.lt_of_lt_of_le (Heap.lt_size ho) (Nat.le_trans I.sz h)) (Nat.lt_irrefl _)
theorem Inv.cne (I : Inv X pins σ H s) : ∀ x c, X.env.cells.lookup x = some c → c ≠ X.env.locals := fun x c e z => by
  obtain ⟨v, o, ho, hd⟩ := I.cell x c e
  obtain ⟨m, ⟨o', es, ep, ho', hd', _⟩, _⟩ := I.loc
  rw [z, ho'] at ho; cases ho; rw [hd'] at hd; cases hd
theorem Inv.funs (I : Inv X pins σ H s) : s.heap.FunFrames X.base X.outer := by
  have all : ∀ (l : List Env), (∀ b ∈ frs l, b ∈ X.fs) → X.s₀.heap.FunFrames X.base l → s.heap.FunFrames X.base l := by
    intro l
    induction l with
    | nil => intro _ _; trivial
    | cons env r ih =>
      intro hs hl
      obtain ⟨hk, ⟨L, o, hf, hn, ho, hd⟩, hr⟩ := hl
      have hL : L ∈ X.fs := hs L (by unfold frs; rw [List.filterMap_cons, hf]; exact List.mem_cons_self)
      obtain ⟨sl, e⟩ := I.base.slot L o ho (I.ok.frf L hL) hL fun z => I.ok.exfs L z hL
      exact ⟨hk, ⟨L, _, hf, hn, e, hd⟩, ih (fun b hb => hs b (by unfold frs; rw [List.filterMap_cons, hf]; exact List.mem_cons_of_mem _ hb)) hr⟩
  exact all X.outer (fun _ hb => hb) I.ok.funs

/-- the frames that run, for a call -/
theorem Inv.stack (I : Inv X pins σ H s) : s.heap.FunFrames X.base X.stack := by
  rcases I.ok.stk with e | ⟨e, hf⟩
  · rw [e]; exact I.funs
  · rw [e]
    obtain ⟨m, hn, _⟩ := I.loc
    refine .cons (by rw [I.ok.kind]; decide) hf hn ?_ I.funs
    exact Heap.get?_none_of_le (Nat.le_trans I.ok.bsz I.ok.above)
theorem Inv.stkSub (I : Inv X pins σ H s) : ∀ b ∈ frs X.stack, b ∈ X.env.locals :: X.fs := fun b hb => by
  rcases I.ok.stk with e | ⟨e, hf⟩
  · rw [e] at hb; exact List.mem_cons_of_mem _ hb
  · rw [e] at hb
    unfold frs at hb
    rw [List.filterMap_cons, hf] at hb
    exact hb
theorem Inv.stkFree (I : Inv X pins σ H s) : ∀ b ∈ frs X.stack, H b = none := fun b hb => by
  rcases List.mem_cons.mp (I.stkSub b hb) with e | hb
  · rw [e]; exact I.free
  · obtain ⟨_, o, ho, _⟩ := I.ok.funs.mem hb
    exact I.base.free b o ho (I.ok.frf b hb) fun z => I.ok.exfs b z hb

/-- THE STEP: the untracked objects but the frame and the records at ch are kept (the callers' frames up to slots), the frame's map is kept, the new abstract heap is held -/
theorem Inv.step {g' : Array GenState} {t' : Nat} {d' : Drawn} {ch : List Addr} (I : Inv X pins σ H s)
    (hch : ∀ b ∈ ch, (b ∈ X.ex ∨ X.s₀.heap.objs.size ≤ b) ∧ b ≠ X.env.locals ∧ (∀ x c, X.env.cells.lookup x = some c → c ≠ b) ∧ ∀ p ∈ X.pn ++ pins, p.1 ≠ b)
    (keep : ∀ b o, b ≠ X.env.locals → b ∉ X.fs → b ∉ ch → s.heap.get? b = some o → H b = none → h'.get? b = some o)
    (slot : ∀ b o, b ≠ X.env.locals → b ∈ X.fs → b ∉ ch → s.heap.get? b = some o → H b = none → ∃ sl, h'.get? b = some { o with slots := sl }) (free : ∀ b o, b ∉ ch → s.heap.get? b = some o → H b = none → H' b = none)
    (there : ∀ b o, b ∉ ch → s.heap.get? b = some o → ∃ o', h'.get? b = some o')
    (tups : ∀ b xs, H b = some (.tup xs) → H' b = some (.tup xs)) (frzs : ∀ b o u, H b = some (.frz o u) → H' b = some (.frz o u)) (tbls : ∀ b ps, H b = some (.tbl ps) → ∃ more, H' b = some (.tbl (ps ++ more)))
    (ns : ∀ m, s.heap.Ns X.env.locals m → h'.Ns X.env.locals m) (hok : HOk X.prog X.w H' h') (hg : AllBare g') :
    Inv X pins σ H' { s with heap := h', gens := g', drawn := d', toks := t' } := by
  have neL : ∀ b o, X.s₀.heap.get? b = some o → b ≠ X.env.locals := fun b o e => Nat.ne_of_lt (Nat.lt_of_lt_of_le (Heap.lt_size e) I.ok.above)
  have neC : ∀ b o, X.s₀.heap.get? b = some o → b ∉ X.ex → b ∉ ch := fun b o e hx hb => by
    rcases (hch b hb).1 with z | z
    · exact hx z
    · exact absurd (Nat.lt_of_lt_of_le (Heap.lt_size e) z) (Nat.lt_irrefl _)
  have cellK : ∀ x c, X.env.cells.lookup x = some c → ∀ v, s.heap.IsCell c v → h'.IsCell c v := fun x c e v ⟨o, ho, hd⟩ => by
    have nch : c ∉ ch := fun z => (hch c z).2.2.1 x c e rfl
    by_cases hc : c ∈ X.fs
    · obtain ⟨sl, q⟩ := slot c o (I.cne x c e) hc nch ho (I.freeC x c e)
      exact ⟨_, q, hd⟩
    · exact ⟨o, keep c o (I.cne x c e) hc nch ho (I.freeC x c e), hd⟩
  refine ⟨I.ok, I.os, hg, ⟨fun b o e n hb hx => ?_, fun b o e n hb hx => ?_, fun b o e n hx => ?_, fun b o e hx => ?_, fun b xs e => tups b xs (I.base.tups b xs e), fun b o xs e => frzs b o xs (I.base.frzs b o xs e), fun b ps e => ?_⟩, ?_, fun x c e => ?_, ?_, fun x c e => ?_, fun p hp => ?_, hok, I.len⟩
  · exact keep b o (neL b o e) hb (neC b o e hx) (I.base.keep b o e n hb hx) (I.base.free b o e n hx)
  · obtain ⟨sl, e1⟩ := I.base.slot b o e n hb hx
    obtain ⟨sl', e2⟩ := slot b _ (neL b o e) hb (neC b o e hx) e1 (I.base.free b o e n hx)
    exact ⟨sl', e2⟩
  · obtain ⟨o', e1⟩ := I.base.there b o e hx
    exact free b o' (neC b o e hx) e1 (I.base.free b o e n hx)
  · obtain ⟨o', e1⟩ := I.base.there b o e hx
    exact there b o' (neC b o e hx) e1
  · obtain ⟨m1, e1⟩ := I.base.tbls b ps e
    obtain ⟨m2, e2⟩ := tbls b _ e1
    exact ⟨m1 ++ m2, by rw [e2, Array.append_assoc]⟩
  · obtain ⟨m, hn, hl⟩ := I.loc
    refine ⟨m, ns m hn, fun i x v e1 e2 e3 => ?_⟩
    obtain ⟨u, r, l⟩ := hl i x v e1 e2 e3
    refine ⟨u, r, ?_⟩
    rcases l with l | ⟨k, c, e, z⟩
    · exact .inl l
    · exact .inr ⟨k, c, e, cellK x c e _ z⟩
  · obtain ⟨v, z⟩ := I.cell x c e
    exact ⟨v, cellK x c e v z⟩
  · obtain ⟨m, ⟨o, _, _, ho, _⟩, _⟩ := I.loc
    exact free _ o (fun z => (hch _ z).2.1 rfl) ho I.free
  · obtain ⟨v, o, ho, hd⟩ := I.cell x c e
    exact free c o (fun z => (hch c z).2.2.1 x c e rfl) ho (I.freeC x c e)
  · obtain ⟨e, n, ne, nf, d⟩ := I.pin p hp
    have nch : p.1 ∉ ch := fun z => (hch p.1 z).2.2.2 p hp rfl
    exact ⟨keep p.1 p.2 ne nf nch e n, free p.1 p.2 nch e n, ne, nf, d⟩
/-- .. where the frame's own object is kept too -/
theorem Inv.un {t' : Nat} (I : Inv X pins σ H s) (u : Un X.fs [] H H' s.heap h') (hok : HOk X.prog X.w H' h') : Inv X pins σ H' { s with heap := h', toks := t' } := by
  obtain ⟨m, ⟨o, es, ep, ho, r⟩, _⟩ := id I.loc
  obtain ⟨sl, hL⟩ := u.any ho I.free (by simp)
  exact I.step (g' := s.gens) (d' := s.drawn) (ch := []) (fun _ z => nomatch z) (fun b o _ hb _ e n => u.keep b o e n hb (by simp)) (fun b o _ hb _ e n => u.slot b o e n hb (by simp)) (fun b o _ e n => u.free b o e n (by simp)) (fun b o _ e => u.there b o e (by simp)) u.tups u.frzs u.tbls (fun m' hm => by
    obtain ⟨o', es', ep', ho', r'⟩ := hm
    rw [ho] at ho'; cases ho'
    exact ⟨_, es', ep', hL, r'⟩) hok I.bare
/-- behind a call (or a comprehension's block): the slots of this frame may have changed too, the records at ch may have turned -/
theorem Inv.call {g' : Array GenState} {t' : Nat} {d' : Drawn} {ch : List Addr} (I : Inv X pins σ H s) (u : Un (frs X.stack) ch H H' s.heap h') (hok : HOk X.prog X.w H' h') (hg : AllBare g')
    (hch : ∀ b ∈ ch, (b ∈ X.ex ∨ X.s₀.heap.objs.size ≤ b) ∧ b ≠ X.env.locals ∧ (∀ x c, X.env.cells.lookup x = some c → c ≠ b) ∧ ∀ p ∈ X.pn ++ pins, p.1 ≠ b) :
    Inv X pins σ H' { s with heap := h', gens := g', drawn := d', toks := t' } := by
  obtain ⟨m, ⟨o, es, ep, ho, r⟩, _⟩ := id I.loc
  obtain ⟨sl, hL⟩ := u.any ho I.free fun z => (hch _ z).2.1 rfl
  exact I.step (ch := ch) hch (fun b o hL hb hc e n => u.keep b o e n (fun z => (List.mem_cons.mp (I.stkSub b z)).elim hL hb) hc) (fun b o _ _ hc e n => u.any e n hc) (fun b o hc e n => u.free b o e n hc) (fun b o hc e => u.there b o e hc) u.tups u.frzs u.tbls (fun m' hm => by
    obtain ⟨o', es', ep', ho', r'⟩ := hm
    rw [ho] at ho'; cases ho'
    exact ⟨_, es', ep', hL, r'⟩) hok hg
/-- an untracked record of ours (an iterator) has turned -/
theorem Inv.turned {t' : Nat} {it : Addr} (I : Inv X pins σ H s) (k : ∀ b o, b ≠ it → s.heap.get? b = some o → h'.get? b = some o) (hn : H it = none) (hL : it ≠ X.env.locals)
    (h1 : it ∈ X.ex ∨ X.s₀.heap.objs.size ≤ it) (h2 : ∀ x c, X.env.cells.lookup x = some c → c ≠ it) (h3 : ∀ p ∈ X.pn ++ pins, p.1 ≠ it) : Inv X pins σ H { s with heap := h', toks := t' } := by
  have nit : ∀ b u, H b = some u → b ≠ it := fun b u e z => by rw [z, hn] at e; cases e
  refine I.step (g' := s.gens) (d' := s.drawn) (ch := [it]) (fun b hb => ?_) (fun b o _ _ hc e _ => k b o (fun z => hc (by simp [z])) e) (fun b o _ _ hc e _ => ⟨o.slots, k b o (fun z => hc (by simp [z])) e⟩) (fun _ _ _ _ n => n)
    (fun b o hc e => ⟨o, k b o (fun z => hc (by simp [z])) e⟩) (fun _ _ e => e) (fun _ _ _ e => e) (fun b ps e => ⟨#[], by rw [e]; simp⟩) (fun m hm => ?_) (fun b u e => ?_) I.bare
  · have e : b = it := by simpa using hb
    subst e
    exact ⟨h1, hL, h2, h3⟩
  · obtain ⟨o, es, ep, ho, r⟩ := hm
    exact ⟨o, es, ep, k _ o (Ne.symm hL) ho, r⟩
  · refine (I.hok b u e).stay (fun c v hc q => k c v ?_ q) (fun _ q => q) fun _ _ q => q
    rcases hc with z | z
    · rw [z]; exact nit b u e
    · exact nit c _ z
theorem Inv.tok (I : Inv X pins σ H s) (t : Nat) : Inv X pins σ H { s with toks := t } := I.un (h' := s.heap) (t' := t) Un.refl I.hok
/-- all objects kept -/
theorem Inv.kept {t' : Nat} (I : Inv X pins σ H s) (k : ∀ b u, s.heap.get? b = some u → h'.get? b = some u) : Inv X pins σ H { s with heap := h', toks := t' } := I.un (Un.kept k) (I.hok.kept k)
/-- a new object laid and tracked -/
theorem Inv.laid {a : Addr} {o : HO} {t' : Nat} (I : Inv X pins σ H s) (k : ∀ b u, s.heap.get? b = some u → h'.get? b = some u) (hp : s.heap.objs.size ≤ a) (new : ObjOk X.prog X.w (upd H a o) h' a o) :
    Inv X pins σ (upd H a o) { s with heap := h', toks := t' } := I.un (Un.laid k hp (I.hok.fresh hp)) (I.hok.laid k hp new)
/-- an object written -/
theorem Inv.write {x e : Addr} {o : HO} {t' : Nat} (I : Inv X pins σ H s) (mu : Mut (H x)) (he : e = x ∨ H e = some (.own x)) (k : ∀ b u, b ≠ e → s.heap.get? b = some u → h'.get? b = some u) (heo : ∃ u, h'.get? e = some u)
    (new : ObjOk X.prog X.w (upd H x o) h' x o) : Inv X pins σ (upd H x o) { s with heap := h', toks := t' } := I.un (Un.write mu he k heo) (I.hok.write mu he k heo new)
theorem Inv.pins_of {pins' : List (Addr × Obj)} (I : Inv X pins σ H s) (h : ∀ p ∈ pins', s.heap.get? p.1 = some p.2 ∧ H p.1 = none ∧ p.1 ≠ X.env.locals ∧ p.1 ∉ X.fs ∧ ∀ v, p.2.data ≠ .cell v) : Inv X pins' σ H s :=
  ⟨I.ok, I.os, I.bare, I.base, I.loc, I.cell, I.free, I.freeC, fun p hp => (List.mem_append.mp hp).elim (fun z => I.pin p (List.mem_append_left _ z)) (h p), I.hok, I.len⟩

theorem nodup_ix {N : List Str} (hN : N.Nodup) {i j : Nat} {x : Str} (a : N[i]? = some x) (b : N[j]? = some x) : i = j := by
  obtain ⟨h1, e1⟩ := List.getElem?_eq_some_iff.mp a
  obtain ⟨h2, e2⟩ := List.getElem?_eq_some_iff.mp b
  exact (List.getElem_inj hN).mp (e1.trans e2.symm)

/-- a name is stored; what changed -/
theorem store_ok2 {M : Model} {A : Around} {E : Value → Shared → Prop} {i : Nat} {x : Str} {v : V} {u : Value} {Q : Unit → Shared → Prop} (I : Inv X pins σ H s) (hN : X.N.Nodup) (hi : X.N[i]? = some x) (hx : Loc X.env.scope x) (r : RelV v u)
    (h : ∀ s', Inv X pins (σ.set i (some v)) H s' → (∃ a, Heap.SameBut a s.heap s'.heap ∧ (a = X.env.locals ∨ X.env.cells.lookup x = some a)) → Q () s') (hf : X.fn x = true ∨ X.env.scope.names.lookup x = some .local := by first | exact .inl rfl | exact .inr rfl | assumption) : wpAny M A (storeName X.env x u) Q E s := by
  obtain ⟨m, hn, hl⟩ := id I.loc
  have hcls : (X.env.scope.kind == .class || (X.env.scope.kind == .module && X.env.locals != X.env.globals)) = false := by rw [I.ok.kind]; rfl
  have hiσ : i < σ.length := by rw [I.len]; exact (List.getElem?_eq_some_iff.mp hi).1
  have cne := I.cne
  have tracked : ∀ {a : Addr} {h' : Heap}, (∃ o, s.heap.get? a = some o ∧ H a = none) → Heap.SameBut a s.heap h' → HOk X.prog X.w H h' := fun {a h'} ha hs b ob e => by
    obtain ⟨_, _, hfree⟩ := ha
    refine (I.hok b ob e).stay (fun c w' hc q => (hs.2 c ?_).trans q) (fun _ q => q) fun _ _ q => q
    rintro rfl
    rcases hc with rfl | hc
    · rw [hfree] at e; cases e
    · rw [hfree] at hc; cases hc
  rcases hx with hk | hk
  · refine wpAny_storeName_local hk hn (fun h' hn' hs => ?_) hcls
    obtain ⟨oL, _, _, hoL, _⟩ := id hn
    refine h _ ⟨I.ok, I.os, I.bare, ⟨fun b o e n hb hx => ?_, fun b o e n hb hx => ?_, I.base.free, fun b o e hx => ?_, I.base.tups, I.base.frzs, I.base.tbls⟩, ⟨_, hn', fun j y v' e1 e2 e3 => ?_⟩, fun y c e => ?_, I.free, I.freeC, fun p hp => ?_, tracked ⟨oL, hoL, I.free⟩ hs, by simpa using I.len⟩ ⟨_, hs, .inl rfl⟩
    · exact (hs.2 b (Nat.ne_of_lt (Nat.lt_of_lt_of_le (Heap.lt_size e) I.ok.above))).trans (I.base.keep b o e n hb hx)
    · obtain ⟨sl, e1⟩ := I.base.slot b o e n hb hx
      exact ⟨sl, (hs.2 b (Nat.ne_of_lt (Nat.lt_of_lt_of_le (Heap.lt_size e) I.ok.above))).trans e1⟩
    · obtain ⟨o', e1⟩ := I.base.there b o e hx
      exact ⟨o', (hs.2 b (Nat.ne_of_lt (Nat.lt_of_lt_of_le (Heap.lt_size e) I.ok.above))).trans e1⟩
    · by_cases hj : j = i
      · subst hj
        rw [hi] at e1; cases e1
        rw [List.getElem?_set_self hiσ] at e2
        cases e2
        exact ⟨u, r, .inl ⟨hk, by simp⟩⟩
      · rw [List.getElem?_set_ne (Ne.symm hj)] at e2
        obtain ⟨u', r', q⟩ := hl j y v' e1 e2 e3
        refine ⟨u', r', ?_⟩
        rcases q with ⟨k, e⟩ | ⟨k, c, e, z⟩
        · refine .inl ⟨k, ?_⟩
          have : y ≠ x := fun e => hj (nodup_ix hN e1 (e ▸ hi))
          simp [this, e]
        · exact .inr ⟨k, c, e, z.sameBut hs (cne y c e)⟩
    · obtain ⟨w', z⟩ := I.cell y c e
      exact ⟨w', z.sameBut hs (cne y c e)⟩
    · obtain ⟨e, n, ne, nf, d⟩ := I.pin p hp
      exact ⟨(hs.2 p.1 ne).trans e, n, ne, nf, d⟩
  · have hfn : X.fn x = true := by
      rcases hf with z | z
      · exact z
      · rw [z] at hk; cases hk
    obtain ⟨c, hc⟩ := I.ok.has x (.inl hk)
    obtain ⟨w', z⟩ := I.cell x c hc
    refine wpAny_storeName_cell I.ok.kind hk hc z (fun h' hc' hs => ?_)
    obtain ⟨oc, hoc, hocd⟩ := id z
    refine h { s with heap := h' } ⟨I.ok, I.os, I.bare, ⟨fun b o e n hb hx => ?_, fun b o e n hb hx => ?_, I.base.free, fun b o e hx => ?_, I.base.tups, I.base.frzs, I.base.tbls⟩, ⟨m, hn.sameBut hs (Ne.symm (cne x c hc)), fun j y v' e1 e2 e3 => ?_⟩, fun y c' e => ?_, I.free, I.freeC, fun p hp => ?_, tracked ⟨oc, hoc, I.freeC x c hc⟩ hs, by simpa using I.len⟩ ⟨c, hs, .inr hc⟩
    · exact (hs.2 b (Nat.ne_of_lt (Nat.lt_of_lt_of_le (Heap.lt_size e) (I.ok.cab x c hfn hc)))).trans (I.base.keep b o e n hb hx)
    · obtain ⟨sl, e1⟩ := I.base.slot b o e n hb hx
      exact ⟨sl, (hs.2 b (Nat.ne_of_lt (Nat.lt_of_lt_of_le (Heap.lt_size e) (I.ok.cab x c hfn hc)))).trans e1⟩
    · obtain ⟨o', e1⟩ := I.base.there b o e hx
      exact ⟨o', (hs.2 b (Nat.ne_of_lt (Nat.lt_of_lt_of_le (Heap.lt_size e) (I.ok.cab x c hfn hc)))).trans e1⟩
    · by_cases hj : j = i
      · subst hj
        rw [hi] at e1; cases e1
        rw [List.getElem?_set_self hiσ] at e2
        cases e2
        exact ⟨u, r, .inr ⟨.inl hk, c, hc, hc'⟩⟩
      · rw [List.getElem?_set_ne (Ne.symm hj)] at e2
        obtain ⟨u', r', q⟩ := hl j y v' e1 e2 e3
        refine ⟨u', r', ?_⟩
        rcases q with q | ⟨k, c', e, z'⟩
        · exact .inl q
        · refine .inr ⟨k, c', e, z'.sameBut hs ?_⟩
          rintro rfl
          exact hj (nodup_ix hN e1 (I.ok.inj _ _ _ e hc ▸ hi))
    · by_cases hcc : c' = c
      · subst hcc; exact ⟨_, hc'⟩
      · obtain ⟨w2, z2⟩ := I.cell y c' e
        exact ⟨w2, z2.sameBut hs hcc⟩
    · obtain ⟨e, n, ne, nf, d⟩ := I.pin p hp
      refine ⟨(hs.2 p.1 ?_).trans e, n, ne, nf, d⟩
      intro q
      rw [q, hoc] at e
      have q' : oc = p.2 := Option.some.inj e
      exact d w' (by rw [← q']; exact hocd)
theorem store_ok {M : Model} {A : Around} {E : Value → Shared → Prop} {i : Nat} {x : Str} {v : V} {u : Value} {Q : Unit → Shared → Prop} (I : Inv X pins σ H s) (hN : X.N.Nodup) (hi : X.N[i]? = some x) (hx : Loc X.env.scope x) (r : RelV v u)
    (h : ∀ s', Inv X pins (σ.set i (some v)) H s' → Q () s') (hf : X.fn x = true ∨ X.env.scope.names.lookup x = some .local := by first | exact .inl rfl | exact .inr rfl | assumption) : wpAny M A (storeName X.env x u) Q E s :=
  store_ok2 I hN hi hx r (fun s' I' _ => h s' I') hf
/-- behind a call or a block, the state as it is -/
theorem Inv.call' {s' : Shared} {ch : List Addr} (I : Inv X pins σ H s) (ho : s'.os = s.os) (u : Un (frs X.stack) ch H H' s.heap s'.heap) (hok : HOk X.prog X.w H' s'.heap) (hg : AllBare s'.gens)
    (hch : ∀ b ∈ ch, (b ∈ X.ex ∨ X.s₀.heap.objs.size ≤ b) ∧ b ≠ X.env.locals ∧ (∀ x c, X.env.cells.lookup x = some c → c ≠ b) ∧ ∀ p ∈ X.pn ++ pins, p.1 ≠ b) : Inv X pins σ H' s' := by
  obtain ⟨h', g', d', t', o'⟩ := s'
  have e : o' = s.os := ho
  subst e
  exact I.call (g' := g') (t' := t') (d' := d') u hok hg hch
end

/-! ### the judgements -/
/-- an exception: its class, its own dict's address (where it has one), the abstract heap behind it -/
abbrev XK := Value → Option Addr → Hp → Prop
abbrev St := List (Option V)
abbrev VK := V → Hp → Prop
/-- an expression's reading; a test's; an argument list's -/
abbrev TE := St → Hp → VK → Prop
abbrev TT := St → Hp → (Bool → Hp → Prop) → Prop
abbrev TA := St → Hp → (List V → Hp → Prop) → Prop
/-- what is wanted behind a statement -/
structure Ends where
  nx : St → Hp → Prop
  rt : VK
  bk : St → Hp → Prop := fun _ _ => False
  ct : St → Hp → Prop := fun _ _ => False
abbrev TS := Ends → St → Hp → Prop

def EP (X : Cx) (pins : List (Addr × Obj)) (σ : St) (Q : VK) (u : Value) (s' : Shared) : Prop := ∃ v H', Inv X pins σ H' s' ∧ RelV v u ∧ Q v H'
def TP (X : Cx) (pins : List (Addr × Obj)) (σ : St) (Q : Bool → Hp → Prop) (b : Bool) (s' : Shared) : Prop := ∃ H', Inv X pins σ H' s' ∧ Q b H'
def AP (X : Cx) (pins : List (Addr × Obj)) (σ : St) (Q : List V → Hp → Prop) (us : List Value) (s' : Shared) : Prop := ∃ vs H', Inv X pins σ H' s' ∧ Vals vs us ∧ Q vs H'
def SP (X : Cx) (pins : List (Addr × Obj)) (D : Ends) (f : Flow) (s' : Shared) : Prop :=
  match f with
  | .next => ∃ σ' H', Inv X pins σ' H' s' ∧ D.nx σ' H'
  | .brk => ∃ σ' H', Inv X pins σ' H' s' ∧ D.bk σ' H'
  | .cont => ∃ σ' H', Inv X pins σ' H' s' ∧ D.ct σ' H'
  | .ret u => ∃ v σ' H', Inv X pins σ' H' s' ∧ RelV v u ∧ D.rt v H'

def PE (X : Cx) (e : Expr) (t : TE) : Prop :=
  ∀ (pins : List (Addr × Obj)) (s : Shared) (σ : St) (H : Hp) (Q : VK), Inv X pins σ H s → t σ H Q → wpAny (model X.prog X.w) X.A (eval e X.env) (EP X pins σ Q) X.xe s
def PT (X : Cx) (e : Expr) (t : TT) : Prop :=
  ∀ (pins : List (Addr × Obj)) (s : Shared) (σ : St) (H : Hp) (Q : Bool → Hp → Prop), Inv X pins σ H s → t σ H Q → wpAny (model X.prog X.w) X.A (isTrue e X.env (eval e X.env)) (TP X pins σ Q) X.xe s
/-- a test whatever its 'whole' is (and, or) -/
def PW (X : Cx) (e : Expr) (t : TT) : Prop :=
  ∀ (whole : Sem Value) (pins : List (Addr × Obj)) (s : Shared) (σ : St) (H : Hp) (Q : Bool → Hp → Prop), Inv X pins σ H s → t σ H Q → wpAny (model X.prog X.w) X.A (isTrue e X.env whole) (TP X pins σ Q) X.xe s
theorem PW.pt {X : Cx} {e : Expr} {t : TT} (h : PW X e t) : PT X e t := h _
/-- an argument list (no star), from the left -/
def PA (X : Cx) (es : List Expr) (t : TA) : Prop :=
  ∀ (pos : Pos) (pins : List (Addr × Obj)) (s : Shared) (σ : St) (H : Hp) (Q : List V → Hp → Prop), Inv X pins σ H s → t σ H Q → wpAny (model X.prog X.w) X.A (spliced (backTo pos (starEach es X.env))) (AP X pins σ Q) X.xe s
def PS (X : Cx) (st : Stmt) (t : TS) : Prop :=
  ∀ (pins : List (Addr × Obj)) (s : Shared) (σ : St) (H : Hp) (D : Ends), Inv X pins σ H s → t D σ H → wpAny (model X.prog X.w) X.A (exec st X.env) (SP X pins D) X.xe s
def PSs (X : Cx) (st : List Stmt) (t : TS) : Prop :=
  ∀ (pins : List (Addr × Obj)) (s : Shared) (σ : St) (H : Hp) (D : Ends), Inv X pins σ H s → t D σ H → wpAny (model X.prog X.w) X.A (execs st X.env) (SP X pins D) X.xe s
/-- weaken the end -/
theorem thn {α : Type} {t : Sem α} {Q Q' : α → Shared → Prop} {M : Model} {A : Around} {E : Value → Shared → Prop} {s : Shared} (h : wpAny M A t Q E s) (hQ : ∀ a s, Q a s → Q' a s) : wpAny M A t Q' E s := wpAny_mono h hQ fun _ _ x => x
end L2

namespace L2
open PySem PySem.Spec PyProof.Rows
section
variable {X : Cx}

/-! ### names and constants -/
def tVar (i : Nat) : TE := fun σ H Q => ∃ v, σ[i]? = some (some v) ∧ Q v H
def tC (v : V) : TE := fun _ H Q => Q v H
theorem pe_var {i : Nat} {x : Str} {pos : Pos} (hN : X.N[i]? = some x) (hv : Vis X.env.scope x) (hd : (x == ("__debug__" : Str)) = false := by decide) (hcd : (x == ("__classdict__" : Str)) = false := by decide) : PE X (.Name x pos) (tVar i) := by
  intro pins s σ H Q I h
  obtain ⟨v, e, h⟩ := h
  obtain ⟨m, hn, hl⟩ := I.loc
  obtain ⟨u, r, l⟩ := hl i x v hN e hv
  have fin : EP X pins σ Q u s := ⟨v, H, I, r, h⟩
  rcases l with ⟨hk, hm⟩ | ⟨hk, c, hc, hcell⟩
  · exact wpAny_Name (wpAny_loadName_local I.ok.kind hk hn hm fin) hd
  · rcases hk with hk | hk
    · exact wpAny_Name (wpAny_loadName_cell I.ok.kind hk hc hcell fin) hd
    · exact wpAny_Name (wpAny_loadName_free I.ok.kind hk hc hcell fin hcd) hd
theorem pe_int {i j pos} : PE X (.Constant (.int i) j pos) (tC (.int i)) := fun _ _ _ H _ I h => wpAny_Constant_int ⟨.int i, H, I.tok _, ⟨_, rfl⟩, h⟩
theorem pe_bl {b j pos} : PE X (.Constant (.bool b) j pos) (tC (.bl b)) := fun _ _ _ H _ I h => Constant_bool ⟨.bl b, H, I, rfl, h⟩
theorem pe_non {j pos} : PE X (.Constant .none j pos) (tC .non) := fun _ _ _ H _ I h => Constant_none ⟨.non, H, I, rfl, h⟩
theorem pe_str {x j pos} : PE X (.Constant (.str x) j pos) (tC (.str x)) := fun _ _ _ H _ I h => Calls.Constant_str ⟨.str x, H, I.tok _, ⟨_, rfl⟩, h⟩

/-- a global name of the def -/
def Gl (X : Cx) (x : Str) : Prop := X.env.kindOf x = some .globalImplicit
theorem ld_glob {E : Value → Shared → Prop} {pins : List (Addr × Obj)} {s : Shared} {σ : St} {H : Hp} {x : Str} {u : Value} {pos : Pos} {Q : Value → Shared → Prop} (I : Inv X pins σ H s) (hg : Gl X x) (hm : X.mg x = some u) (h : Q u s)
    (hd : (x == ("__debug__" : Str)) = false := by decide) : wpAny (model X.prog X.w) X.A (eval (.Name x pos) X.env) Q E s :=
  Calls.Name_function_global I.ok.kind hg (Calls.loadGlobal_global (by rw [I.ok.glob]; exact I.mod.glob.keeps I.bk) hm h) hd
theorem ld_blt {E : Value → Shared → Prop} {pins : List (Addr × Obj)} {s : Shared} {σ : St} {H : Hp} {x : Str} {u : Value} {pos : Pos} {Q : Value → Shared → Prop} (I : Inv X pins σ H s) (hg : Gl X x) (hm : X.mg x = none) (hv : bootBuiltins x = some u) (h : Q u s)
    (hn : x ≠ "__name__" := by decide) (hd : (x == ("__debug__" : Str)) = false := by decide) : wpAny (model X.prog X.w) X.A (eval (.Name x pos) X.env) Q E s := by
  obtain ⟨mb, h1, h2⟩ := I.mod.blt
  exact Calls.Name_function_global I.ok.kind hg (Calls.loadGlobal_builtin (by rw [I.ok.glob]; exact I.mod.glob.keeps I.bk) hm (by rw [I.ok.blt]; exact h1.keeps I.bk) ((h2 x hn).trans hv) h) hd
/-- a module's constant, a class, a function, as a value -/
theorem pe_glob {x : Str} {v : V} {u : Value} {pos : Pos} (hg : Gl X x) (hm : X.mg x = some u) (r : RelV v u) (hd : (x == ("__debug__" : Str)) = false := by decide) : PE X (.Name x pos) (tC v) :=
  fun _ _ _ H _ I h => ld_glob I hg hm ⟨v, H, I, r, h⟩ hd
theorem pe_bltn {x : Str} {v : V} {u : Value} {pos : Pos} (hg : Gl X x) (hm : X.mg x = none) (hv : bootBuiltins x = some u) (r : RelV v u) (hn : x ≠ "__name__" := by decide) (hd : (x == ("__debug__" : Str)) = false := by decide) : PE X (.Name x pos) (tC v) :=
  fun _ _ _ H _ I h => ld_blt I hg hm hv ⟨v, H, I, r, h⟩ hn hd

/-! ### arithmetic -/
variable {a b : Expr} {ta tb : TE} {pos : Pos}
/-! ### comparisons -/
/-! ### and, or, not -/
variable {tA tB' : TT} {rest : List Expr}
def tAnd (t u : TT) : TT := fun σ H Q => t σ H fun c H1 => if c = true then u σ H1 Q else Q false H1
def tOr (t u : TT) : TT := fun σ H Q => t σ H fun c H1 => if c = true then Q true H1 else u σ H1 Q
def tNot (t : TT) : TT := fun σ H Q => t σ H fun c H1 => Q (!c) H1
theorem pw_and1 (ha : PT X a tA) : PW X (.BoolOp .And [a] pos) tA := by
  intro wh pins s σ H Q I h
  refine isTrue_and (thn (ha pins s σ H Q I h) fun c s1 e => ?_)
  cases c with
  | true => exact isTrue_and_nil e
  | false => exact e
theorem pw_or1 (ha : PT X a tA) : PW X (.BoolOp .Or [a] pos) tA := by
  intro wh pins s σ H Q I h
  refine isTrue_or (thn (ha pins s σ H Q I h) fun c s1 e => ?_)
  cases c with
  | false => exact isTrue_or_nil e
  | true => exact e
theorem pw_and (ha : PT X a tA) (hb : PW X (.BoolOp .And (b :: rest) pos) tB') : PW X (.BoolOp .And (a :: b :: rest) pos) (tAnd tA tB') := by
  intro wh pins s σ H Q I h
  refine isTrue_and (thn (ha pins s σ H _ I h) fun c s1 ⟨H1, I1, q1⟩ => ?_)
  cases c with
  | true => exact hb wh pins s1 σ H1 Q I1 q1
  | false => exact ⟨H1, I1, q1⟩
theorem pw_or (ha : PT X a tA) (hb : PW X (.BoolOp .Or (b :: rest) pos) tB') : PW X (.BoolOp .Or (a :: b :: rest) pos) (tOr tA tB') := by
  intro wh pins s σ H Q I h
  refine isTrue_or (thn (ha pins s σ H _ I h) fun c s1 ⟨H1, I1, q1⟩ => ?_)
  cases c with
  | true => exact ⟨H1, I1, q1⟩
  | false => exact hb wh pins s1 σ H1 Q I1 q1
theorem pt_not (ha : PT X a tA) : PT X (.UnaryOp .Not a pos) (tNot tA) := by
  intro pins s σ H Q I h
  exact isTrue_not (ha pins s σ H (fun c H1 => Q (!c) H1) I h)
/-- .. as values (bools) -/
def tAndV (ta tb : TE) : TE := fun σ H Q => ta σ H fun x H1 => ∃ c, x = .bl c ∧ if c = true then tb σ H1 Q else Q (.bl false) H1
def tNotV (ta : TE) : TE := fun σ H Q => ta σ H fun x H1 => ∃ c, x = .bl c ∧ Q (.bl (!c)) H1
theorem pe_one {op} {t : TE} (h : PE X a t) : PE X (.BoolOp op [a] pos) t := fun pins s σ H Q I hw => BoolOp_one (h pins s σ H Q I hw)
theorem pe_and (ha : PE X a ta) (hb : PE X (.BoolOp .And (b :: rest) pos) tb) : PE X (.BoolOp .And (a :: b :: rest) pos) (tAndV ta tb) := by
  intro pins s σ H Q I h
  refine BoolOp_and (thn (ha pins s σ H _ I h) fun v s1 ⟨x, H1, I1, r1, q1⟩ => ?_)
  obtain ⟨c, rfl, q1⟩ := q1
  cases r1
  refine wpAny_truthy_bool ?_
  cases c with
  | true => exact hb pins s1 σ H1 Q I1 q1
  | false => exact ⟨.bl false, H1, I1, rfl, q1⟩
theorem pe_not (ha : PE X a ta) : PE X (.UnaryOp .Not a pos) (tNotV ta) := by
  intro pins s σ H Q I h
  refine UnaryOp_ (thn (ha pins s σ H _ I h) fun v s1 ⟨x, H1, I1, r1, q1⟩ => ?_)
  obtain ⟨c, rfl, q1⟩ := q1
  cases r1
  exact not_of (wpAny_truthy_bool ⟨.bl (!c), H1, I1, rfl, q1⟩)
/-- a if t else b -/
def tIf (t : TT) (ta tb : TE) : TE := fun σ H Q => t σ H fun c H1 => if c = true then ta σ H1 Q else tb σ H1 Q
theorem pe_ifExp {c : Expr} (hc : PT X c tA) (ha : PE X a ta) (hb : PE X b tb) : PE X (.IfExp c a b pos) (tIf tA ta tb) := by
  intro pins s σ H Q I h
  refine wpAny_IfExp (thn (hc pins s σ H _ I h) fun d s1 ⟨H1, I1, q1⟩ => ?_)
  cases d with
  | true => exact ha pins s1 σ H1 Q I1 q1
  | false => exact hb pins s1 σ H1 Q I1 q1
end
end L2

namespace L2
open PySem PySem.Spec PyProof.Rows

/-! ### a list, a tuple that is read: tracked, frozen, or an object of the module -/
def SqL (K : PySem.W.Frag) (H : Hp) (a : Addr) (xs : List V) : Prop :=
  Rd H a (.lst xs) ∨
    ∃ (o : Obj) (its : Array Value) (n : Nat), K.lookup a = some o ∧ o.cls = .type "list" ∧ o.dict = none ∧ o.data = .seq its n ∧ its.size ≤ sizeLine ∧ Vals xs its.toList
def SqT (K : PySem.W.Frag) (H : Hp) (a : Addr) (xs : List V) : Prop :=
  Rd H a (.tup xs) ∨
    ∃ (o : Obj) (its : Array Value) (n : Nat), K.lookup a = some o ∧ o.cls = .type "tuple" ∧ o.data = .seq its n ∧ its.size ≤ sizeLine ∧ Vals xs its.toList
def absV : Value → Option V
  | .none => some .non
  | .bool b => some (.bl b)
  | .int i _ => some (.int i)
  | .str x _ => some (.str x)
  | .bytes b _ => some (.byt b)
  | .float b _ => some (.flt b)
  | .ref a => some (.ref a)
  | .type n => some (.ty n)
  | _ => none
theorem RelV.abs {x : V} {u : Value} (r : RelV x u) : absV u = some x := by
  cases x with
  | non => cases r; rfl
  | bl _ => cases r; rfl
  | int _ => obtain ⟨t, rfl⟩ := r; rfl
  | str _ => obtain ⟨t, rfl⟩ := r; rfl
  | byt _ => obtain ⟨t, rfl⟩ := r; rfl
  | flt _ => obtain ⟨t, rfl⟩ := r; rfl
  | ref _ => cases r; rfl
  | ty _ => cases r; rfl
theorem RelV.inj {x y : V} {u : Value} (r : RelV x u) (q : RelV y u) : x = y := Option.some.inj (r.abs.symm.trans q.abs)
theorem Vals.inj : ∀ {xs ys : List V} {us : List Value}, Vals xs us → Vals ys us → xs = ys
  | _, _, _, .nil, .nil => rfl
  | _, _, _, .cons r t, .cons r' t' => by rw [r.inj r', Vals.inj t t']
section
variable {X : Cx} {pins : List (Addr × Obj)} {σ : St} {H : Hp} {s : Shared} {a : Addr} {xs ys : List V}
theorem SqL.of {K : PySem.W.Frag} (h : H a = some (.lst xs)) : SqL K H a xs := .inl (.inl h)
theorem SqT.of {K : PySem.W.Frag} (h : H a = some (.tup xs)) : SqT K H a xs := .inl (.inl h)
theorem Inv.list (I : Inv X pins σ H s) (h : SqL X.K H a xs) : ∃ its : List Value, Vals xs its ∧ PlainL s.heap a its.toArray ∧ xs.length ≤ sizeLine := by
  rcases h with h | ⟨o, its, n, hk, hc, hd, hs, hz, r⟩
  · obtain ⟨z, its, n, r, e⟩ := h.ok I.hok
    exact ⟨its, r, ⟨_, n, e, rfl, rfl, rfl⟩, z⟩
  · refine ⟨its.toList, r, ⟨o, n, I.kIn a o hk, hc, hd, by simpa using hs⟩, ?_⟩
    have e := r.length
    simp only [Array.length_toList] at e
    omega
theorem Inv.tuple (I : Inv X pins σ H s) (h : SqT X.K H a xs) : ∃ its : List Value, Vals xs its ∧ IsTup s.heap a its.toArray ∧ xs.length ≤ sizeLine := by
  rcases h with h | ⟨o, its, n, hk, hc, hs, hz, r⟩
  · obtain ⟨z, its, r, p⟩ := h.ok I.hok
    exact ⟨its, r, p, z⟩
  · refine ⟨its.toList, r, ⟨o, I.kIn a o hk, hc, n, by simpa using hs⟩, ?_⟩
    have e := r.length
    simp only [Array.length_toList] at e
    omega
theorem Inv.list_inj (I : Inv X pins σ H s) (h : SqL X.K H a xs) (h' : SqL X.K H a ys) : xs = ys := by
  obtain ⟨its, r, ⟨o, n, e, _, _, d⟩, _⟩ := I.list h
  obtain ⟨its', r', ⟨o', n', e', _, _, d'⟩, _⟩ := I.list h'
  rw [e] at e'; cases e'
  rw [d] at d'
  injection d' with d1 _
  have : its = its' := by simpa using congrArg Array.toList d1
  subst this
  exact r.inj r'
end

/-! ### another wish about exceptions -/
abbrev Cx.wish (X : Cx) (E : Value → Shared → Prop) : Cx := { X with xe := E }
/-- no exception leaves -/
abbrev Cx.nox (X : Cx) : Cx := X.wish fun _ _ => False
theorem Cx.Ok.wish {X : Cx} (ok : X.Ok) (E : Value → Shared → Prop) : (X.wish E).Ok :=
  ⟨ok.mod, ok.kind, ok.glob, ok.blt, ok.above, ok.inj, ok.has, ok.cab, ok.hd, ok.frames, ok.stk, ok.exf, ok.bs, ok.bsz, ok.noex, ok.exfs, ok.funs, ok.frf⟩
theorem Cx.Ok.unwish {X : Cx} {E : Value → Shared → Prop} (ok : (X.wish E).Ok) : X.Ok :=
  ⟨ok.mod, ok.kind, ok.glob, ok.blt, ok.above, ok.inj, ok.has, ok.cab, ok.hd, ok.frames, ok.stk, ok.exf, ok.bs, ok.bsz, ok.noex, ok.exfs, ok.funs, ok.frf⟩
section
variable {X : Cx} {pins : List (Addr × Obj)} {σ : St} {H : Hp} {s : Shared} {E : Value → Shared → Prop}
theorem Inv.wish (I : Inv X pins σ H s) (E : Value → Shared → Prop) : Inv (X.wish E) pins σ H s := ⟨I.ok.wish E, I.os, I.bare, I.base, I.loc, I.cell, I.free, I.freeC, I.pin, I.hok, I.len⟩
theorem Inv.unwish (I : Inv (X.wish E) pins σ H s) : Inv X pins σ H s := ⟨I.ok.unwish, I.os, I.bare, I.base, I.loc, I.cell, I.free, I.freeC, I.pin, I.hok, I.len⟩
theorem SP.unwish {D : Ends} {f : Flow} {s' : Shared} (h : SP (X.wish E) pins D f s') : SP X pins D f s' := by
  cases f with
  | next => obtain ⟨σ', H', I, q⟩ := h; exact ⟨σ', H', I.unwish, q⟩
  | brk => obtain ⟨σ', H', I, q⟩ := h; exact ⟨σ', H', I.unwish, q⟩
  | cont => obtain ⟨σ', H', I, q⟩ := h; exact ⟨σ', H', I.unwish, q⟩
  | ret u => obtain ⟨v, σ', H', I, r, q⟩ := h; exact ⟨v, σ', H', I.unwish, r, q⟩
theorem PE.nox {e : Expr} {t : TE} (h : PE X.nox e t) : PE X e t := fun pins s σ H Q I hw =>
  wpAny_mono (h pins s σ H Q (I.wish _) hw) (fun _ _ ⟨v, H', I', r, q⟩ => ⟨v, H', I'.unwish, r, q⟩) fun _ _ z => False.elim z
theorem PT.nox {e : Expr} {t : TT} (h : PT X.nox e t) : PT X e t := fun pins s σ H Q I hw =>
  wpAny_mono (h pins s σ H Q (I.wish _) hw) (fun _ _ ⟨H', I', q⟩ => ⟨H', I'.unwish, q⟩) fun _ _ z => False.elim z
theorem PSs.nox {st : List Stmt} {t : TS} (h : PSs X.nox st t) : PSs X st t := fun pins s σ H D I hw =>
  wpAny_mono (h pins s σ H D (I.wish _) hw) (fun _ _ q => q.unwish) fun _ _ z => False.elim z
end

/-! ### blocks and small statements -/
section
variable {X : Cx} {st : Stmt} {rest : List Stmt} {t u : TS} {e : Expr} {te : TE} {pos : Pos}
def tNext : TS := fun D σ H => D.nx σ H
def tSeq (t u : TS) : TS := fun D σ H => t { D with nx := u D } σ H
theorem pss_nil : PSs X [] tNext := fun _ _ σ H _ I h => wpAny_execs_nil ⟨σ, H, I, h⟩
theorem pss_cons (h1 : PS X st t) (h2 : PSs X rest u) : PSs X (st :: rest) (tSeq t u) := by
  intro pins s σ H D I h
  refine wpAny_execs_cons (thn (h1 pins s σ H { D with nx := u D } I h) fun f s1 q => ?_)
  cases f with
  | next =>
    obtain ⟨σ', H', I', q⟩ := q
    exact h2 pins s1 σ' H' D I' q
  | ret v => exact q
  | brk => exact q
  | cont => exact q
theorem pss_one (h1 : PS X st t) : PSs X [st] t := by
  intro pins s σ H D I h
  refine wpAny_execs_cons (thn (h1 pins s σ H D I h) fun f s1 q => ?_)
  cases f with
  | next => exact wpAny_execs_nil q
  | ret v => exact q
  | brk => exact q
  | cont => exact q
/-- in a def's body nothing is shown -/
theorem Inv.quiet {pins : List (Addr × Obj)} {σ : St} {H : Hp} {s : Shared} (I : Inv X pins σ H s) : interactive X.env = false := by simp [interactive, I.ok.kind]
/-- an expression whose value is dropped -/
def tDrop (te : TE) : TS := fun D σ H => te σ H fun _ H1 => D.nx σ H1
theorem ps_expr (he : PE X e te) (hs : swapsWith e none pos.line X.env = pure false := by rfl) : PS X (.Expr e pos) (tDrop te) := by
  intro pins s σ H D I h
  exact wpAny_Expr_any (thn (he pins s σ H _ I h) fun v s1 ⟨x, H1, I1, r1, q1⟩ => ⟨σ, H1, I1, q1⟩) I.quiet hs
def tRet (te : TE) : TS := fun D σ H => te σ H D.rt
theorem ps_ret (he : PE X e te) : PS X (.Return (some e) pos) (tRet te) := by
  intro pins s σ H D I h
  exact wpAny_Return_some (thn (he pins s σ H _ I h) fun v s1 ⟨x, H1, I1, r1, q1⟩ => ⟨x, σ, H1, I1, r1, q1⟩)
def tIfS (c : TT) (t u : TS) : TS := fun D σ H => c σ H fun b H1 => if b = true then t D σ H1 else u D σ H1
theorem ps_if {c : Expr} {a b : List Stmt} {tc : TT} (hc : PT X c tc) (ha : PSs X a t) (hb : PSs X b u) : PS X (.If c a b pos) (tIfS tc t u) := by
  intro pins s σ H D I h
  refine wpAny_If (thn (hc pins s σ H _ I h) fun d s1 ⟨H1, I1, q1⟩ => ?_)
  cases d with
  | true => exact ha pins s1 σ H1 D I1 q1
  | false => exact hb pins s1 σ H1 D I1 q1
end

/-! ### targets -/
abbrev TG := V → St → Hp → (St → Hp → Prop) → Prop
abbrev TGs := List V → St → Hp → (St → Hp → Prop) → Prop
def PG (X : Cx) (target : Expr) (t : TG) : Prop :=
  ∀ (pins : List (Addr × Obj)) (s : Shared) (σ : St) (H : Hp) (v : V) (u : Value) (Q : St → Hp → Prop), Inv X pins σ H s → RelV v u → t v σ H Q →
    wpAny (model X.prog X.w) X.A (assign target X.env u) (fun _ s' => ∃ σ' H', Inv X pins σ' H' s' ∧ Q σ' H') X.xe s
/-- several targets, one after another -/
def PGs (X : Cx) (ts : List Expr) (t : TGs) : Prop :=
  ∀ (pins : List (Addr × Obj)) (s : Shared) (σ : St) (H : Hp) (vs : List V) (us : List Value) (Q : St → Hp → Prop), Inv X pins σ H s → Vals vs us → t vs σ H Q →
    wpAny (model X.prog X.w) X.A (assignInOrder ((assignEach ts X.env).map (·.2)) us) (fun _ s' => ∃ σ' H', Inv X pins σ' H' s' ∧ Q σ' H') X.xe s
/-- o[i] = v, by values -/
abbrev TSet := V → V → V → Hp → (Hp → Prop) → Prop
def PSet (X : Cx) (t : TSet) : Prop :=
  ∀ (pins : List (Addr × Obj)) (s : Shared) (σ : St) (H : Hp) (o i v : V) (ov iv u : Value) (Q : Hp → Prop), Inv X pins σ H s → RelV o ov → RelV i iv → RelV v u → t o i v H Q →
    wpAny (model X.prog X.w) X.A (setItem ov iv u) (fun _ s' => ∃ H', Inv X pins σ H' s' ∧ Q H') X.xe s
section
variable {X : Cx} {pos : Pos}
def gName (i : Nat) : TG := fun v σ H Q => Q (σ.set i (some v)) H
theorem pg_name {i : Nat} {x : Str} (hN : X.N.Nodup) (hi : X.N[i]? = some x) (hx : Loc X.env.scope x) (hf : X.fn x = true ∨ X.env.scope.names.lookup x = some .local := by first | exact .inl rfl | exact .inr rfl | assumption) : PG X (.Name x pos) (gName i) := by
  intro pins s σ H v u Q I r h
  exact wpAny_assign_Name (store_ok I hN hi hx r (fun s' I' => ⟨_, H, I', h⟩) hf)
def gNil : TGs := fun vs σ H Q => vs = [] ∧ Q σ H
def gCons (t : TG) (u : TGs) : TGs := fun vs σ H Q => ∃ v r, vs = v :: r ∧ t v σ H fun σ' H' => u r σ' H' Q
theorem pgs_nil : PGs X [] gNil := by
  intro pins s σ H vs us Q I r h
  obtain ⟨e, h⟩ := h
  subst e
  cases r
  exact assignInOrder_nil ⟨σ, H, I, h⟩
theorem pgs_cons {e : Expr} {es : List Expr} {t : TG} {u : TGs} (h1 : PG X e t) (h2 : PGs X es u)
    (hs : (assignEach (e :: es) X.env).map (·.2) = assign e X.env :: (assignEach es X.env).map (·.2) := by rfl) : PGs X (e :: es) (gCons t u) := by
  intro pins s σ H vs us Q I r h
  obtain ⟨v, vr, e1, h⟩ := h
  subst e1
  cases r with
  | cons r rr =>
    rw [hs]
    refine assignInOrder_cons (thn (h1 pins s σ H _ _ _ I r h) fun _ s1 ⟨σ1, H1, I1, q1⟩ => ?_)
    exact h2 pins s1 σ1 H1 _ _ Q I1 rr q1
/-- (a, b, ..) = a tuple of that length -/
def gTup (K : PySem.W.Frag) (n : Nat) (t : TGs) : TG := fun v σ H Q => ∃ a xs, v = .ref a ∧ SqT K H a xs ∧ xs.length = n ∧ t xs σ H Q
theorem pg_tup {es : List Expr} {k : Nat} {t : TGs} {n : Nat} (hc : X.calm = true) (h : PGs X es t)
    (hn : (assignEach es X.env).length = n := by rfl) (hst : (assignEach es X.env).findIdx? (·.1) = none := by rfl) : PG X (.Tuple es k pos) (gTup X.K n t) := by
  intro pins s σ H v u Q I r hw
  obtain ⟨a, xs, e1, hq, hl, hw⟩ := hw
  subst e1
  cases r
  obtain ⟨its, rv, ht, hz⟩ := I.tuple hq
  refine assign_Tuple_tuple (I.ok.hd hc) ht (by simp [hn, ← hl, rv.length]) hst fun h' hx => ?_
  have I1 : Inv X pins σ H { s with heap := h' } := I.kept (t' := s.toks) fun b o e => hx b o (Nat.ne_of_lt (Heap.lt_size e)) e
  exact h pins _ σ H xs _ Q I1 (by simpa using rv) hw
/-- o[i] = .. -/
def gSub (to ti : TE) (t : TSet) : TG := fun v σ H Q => to σ H fun o H1 => ti σ H1 fun i H2 => t o i v H2 fun H3 => Q σ H3
theorem pg_sub {o i : Expr} {to ti : TE} {t : TSet} (ho : PE X o to) (hi : PE X i ti) (hs : PSet X t)
    (ha : ∀ v, assign (.Subscript o i pos) X.env v = (do
      let ov ← holding [v] (eval o X.env)
      let iv ← holding [v, ov] (eval i X.env)
      standAt pos
      holding [v, ov, iv] (setItem ov iv v)
      release [v, ov, iv] []) := by intro _; rfl) : PG X (.Subscript o i pos) (gSub to ti t) := by
  intro pins s σ H v u Q I r h
  rw [ha]
  refine wpAny_bind (wpAny_holding (thn (ho pins s σ H _ I h) fun ov s1 ⟨x, H1, I1, r1, q1⟩ => ?_))
  refine wpAny_bind (wpAny_holding (thn (hi pins s1 σ H1 _ I1 q1) fun iv s2 ⟨y, H2, I2, r2, q2⟩ => ?_))
  refine wpAny_bind (wpAny_standAt (wpAny_bind (wpAny_holding (thn (hs pins s2 σ H2 x y v ov iv u _ I2 r1 r2 r q2) fun _ s3 ⟨H3, I3, q3⟩ => ?_))))
  exact wpAny_release ⟨σ, H3, I3, q3⟩
/-- target = value -/
def tAsg (te : TE) (g : TG) : TS := fun D σ H => te σ H fun x H1 => g x σ H1 D.nx
theorem ps_asg {tg e : Expr} {te : TE} {g : TG} (he : PE X e te) (hg : PG X tg g) (hs : swapsWithSole [tg] e pos.line X.env = pure false := by rfl) (hw : swappedStores [tg] e X.env = pure none := by rfl)
    (h1 : (assignEach [tg] X.env).map (·.2) = [assign tg X.env] := by rfl) : PS X (.Assign [tg] e pos) (tAsg te g) := by
  intro pins s σ H D I h
  refine wpAny_Assign_stores (thn (he pins s σ H _ I h) fun v s1 ⟨x, H1, I1, r1, q1⟩ => ?_) hs hw
  rw [h1]
  exact thn (hg pins s1 σ H1 x v _ I1 r1 q1) fun _ s2 q => q
/-- name = value -/
theorem ps_set {i : Nat} {x : Str} {e : Expr} {te : TE} {pos' : Pos} (hN : X.N.Nodup) (hi : X.N[i]? = some x) (hx : Loc X.env.scope x) (he : PE X e te) (hs : swapsWith e (some (.Name x pos')) pos.line X.env = pure false := by rfl) (hf : X.fn x = true ∨ X.env.scope.names.lookup x = some .local := by first | exact .inl rfl | exact .inr rfl | assumption) :
    PS X (.Assign [.Name x pos'] e pos) (tAsg te (gName i)) := by
  intro pins s σ H D I h
  refine wpAny_Assign_Name (thn (he pins s σ H _ I h) fun v s1 ⟨y, H1, I1, r1, q1⟩ => ?_) hs
  exact store_ok I1 hN hi hx r1 (fun s2 I2 => ⟨_, H1, I2, q1⟩) hf
end

/-! ### while -/
section
variable {X : Cx} {pos : Pos}
end

/-! ### what a loop or a comprehension walks -/
/-- at turn i: it yields x (the heap may grow), or it stops -/
structure It where
  go : Nat → Hp → Prop
  yld : Nat → Hp → V → Hp → Prop
  stop : Nat → Hp → Prop
/-- the iterator's own objects may turn: they are not the frame's, not pinned, younger than the entry (or a comprehension's own) -/
def FpOk (X : Cx) (pins : List (Addr × Obj)) (H : Hp) (b : Addr) : Prop :=
  H b = none ∧ b ≠ X.env.locals ∧ b ∉ X.fs ∧ (b ∈ X.ex ∨ X.s₀.heap.objs.size ≤ b) ∧ (∀ x c, X.env.cells.lookup x = some c → c ≠ b) ∧ ∀ p ∈ X.pn ++ pins, p.1 ≠ b
theorem Inv.fpOk {X : Cx} {pins : List (Addr × Obj)} {σ : St} {H H' : Hp} {s : Shared} {b : Addr} (I : Inv X pins σ H s) (hb : s.heap.objs.size ≤ b) (hn : H' b = none) : FpOk X pins H' b := by
  refine ⟨hn, Nat.ne_of_gt (Nat.lt_of_lt_of_le I.lt hb), I.nofs hb, .inr (Nat.le_trans I.sz hb), fun x c e z => ?_, fun p hp z => ?_⟩
  · obtain ⟨v, q⟩ := I.cell x c e
    exact absurd (Nat.lt_of_lt_of_le q.lt (by rw [z]; exact hb)) (Nat.lt_irrefl _)
  · exact absurd (Nat.lt_of_lt_of_le (Heap.lt_size (I.pin p hp).1) (by rw [z]; exact hb)) (Nat.lt_irrefl _)
structure Turn (P : Program) (w : World) (K : PySem.W.Frag) (tg : Expr) (J : It) (fp : List Addr) (it : Addr) (tn : Nat → Heap → Prop) : Prop where
  mem : it ∈ fp
  obj : ∀ i h, tn i h → ∀ b ∈ fp, ∃ o, h.get? b = some o ∧ ∀ v, o.data ≠ .cell v
  keep : ∀ i h h', tn i h → (∀ b ∈ fp, ∀ o, h.get? b = some o → h'.get? b = some o) → tn i h'
  item : ∀ (X : Cx), X.prog = P → X.w = w → X.K = K → X.calm = true → ∀ (i : Nat) (pins : List (Addr × Obj)) (s : Shared) (σ : St) (H : Hp) (E : Value → Shared → Prop), Inv X pins σ H s → (∀ b ∈ fp, FpOk X pins H b) → tn i s.heap → J.go i H →
    wpAny (model P w) X.A (pyNext (.ref it)) (fun r s1 => ∃ u, r = some u ∧
      wpAny (model P w) X.A (letOwnedTupleGo tg (.ref it) u) (fun _ s2 => ∃ x H', Inv X pins σ H' s2 ∧ RelV x u ∧ J.yld i H x H' ∧ tn (i + 1) s2.heap ∧ ∀ b ∈ fp, H' b = none) E s1) E s
  done : ∀ (X : Cx), X.prog = P → X.w = w → X.K = K → X.calm = true → ∀ (i : Nat) (pins : List (Addr × Obj)) (s : Shared) (σ : St) (H : Hp) (E : Value → Shared → Prop), Inv X pins σ H s → (∀ b ∈ fp, FpOk X pins H b) → tn i s.heap → J.stop i H →
    wpAny (model P w) X.A (pyNext (.ref it)) (fun r s1 => r = none ∧ Inv X pins σ H s1) E s
  self : ∀ (A : Around) (i : Nat) (s : Shared) (Q : Value → Shared → Prop) (E : Value → Shared → Prop), tn i s.heap → Q (.ref it) s → wpAny (model P w) A (pyIter (.ref it)) Q E s
abbrev TI := St → Hp → (It → Hp → Prop) → Prop
/-- an iterator has come -/
def PIE (X : Cx) (pins : List (Addr × Obj)) (σ : St) (tg : Expr) (R : It → Hp → Prop) (itv : Value) (s2 : Shared) : Prop :=
  ∃ (it : Addr) (fp : List Addr) (tn : Nat → Heap → Prop) (J : It) (H' : Hp), itv = .ref it ∧ Inv X pins σ H' s2 ∧ Turn X.prog X.w X.K tg J fp it tn ∧ tn 0 s2.heap ∧ (∀ b ∈ fp, FpOk X pins H' b) ∧ R J H'
def PI (X : Cx) (tg iter : Expr) (wi : TI) : Prop :=
  ∀ (pins : List (Addr × Obj)) (s : Shared) (σ : St) (H : Hp) (R : It → Hp → Prop), Inv X pins σ H s → wi σ H R →
    wpAny (model X.prog X.w) X.A (eval iter X.env) (fun v s1 => wpAny (model X.prog X.w) X.A (pyIter v) (PIE X pins σ tg R) X.xe s1) X.xe s

/-- the step ahead of the store is nothing for an iterator that keeps no tuple -/
theorem go_of {M : Model} {A : Around} {E : Value → Shared → Prop} {s : Shared} {tg : Expr} {it : Addr} {u : Value} {o : Obj} {n : String} {vs : Array Value} {Q : Unit → Shared → Prop} (ho : s.heap.get? it = some o) (hc : o.cls = .type n) (hd : o.data = .fields vs)
    (hn : ["enumerate", "zip", "dict_itemiterator", "dict_reverseitemiterator", "odict_iterator", "itertools.zip_longest", "itertools.pairwise"].contains n = false) (hQ : Q () s) : wpAny M A (letOwnedTupleGo tg (.ref it) u) Q E s := by
  unfold letOwnedTupleGo
  cases tg <;> first
    | exact wpAny_pure hQ
    | (cases u <;> first
        | exact wpAny_pure hQ
        | (refine wpAny_bind (wpAny_load ho ?_)
           rw [hc, hd]
           show wpAny M A (if (["enumerate", "zip", "dict_itemiterator", "dict_reverseitemiterator", "odict_iterator", "itertools.zip_longest", "itertools.pairwise"].contains n && vs[0]? == some (rawInt _)) = true then _ else _) Q E s
           rw [if_neg (by intro h; rw [hn, Bool.false_and] at h; cases h)]
           exact wpAny_pure hQ))

/-- the list at a, as it stands at each turn (a loop may append to it) -/
def Itl (K : PySem.W.Frag) (a : Addr) : It :=
  ⟨fun i H => ∃ xs x, SqL K H a xs ∧ xs[i]? = some x, fun i H x H' => H' = H ∧ ∀ xs, SqL K H a xs → xs[i]? = some x, fun i H => ∃ xs, SqL K H a xs ∧ xs.length ≤ i⟩
def Itt (K : PySem.W.Frag) (a : Addr) : It :=
  ⟨fun i H => ∃ xs x, SqT K H a xs ∧ xs[i]? = some x, fun i H x H' => H' = H ∧ ∀ xs, SqT K H a xs → xs[i]? = some x, fun i H => ∃ xs, SqT K H a xs ∧ xs.length ≤ i⟩
/-- lo, lo + 1, .. (n of them) -/
def Itr (lo : Int) (n : Nat) : It := ⟨fun i _ => i < n, fun i H x H' => H' = H ∧ x = .int (lo + i), fun i _ => n ≤ i⟩
theorem turn_list {P : Program} {w : World} {K : PySem.W.Frag} {tg : Expr} (a it : Addr) : Turn P w K tg (Itl K a) [it] it (fun i h => h.IsListIter it a i) where
  mem := by simp
  obj := fun i h st b hb => by
    have e : b = it := by simpa using hb
    subst e
    obtain ⟨o, e, c, d⟩ := st
    exact ⟨o, e, fun v z => by rw [d] at z; cases z⟩
  keep := fun i h h' st k => st.at fun o e => k it (by simp) o e
  item := by
    intro X hP hw hK hc i pins s σ H E I hf st hg
    subst hP hw hK
    obtain ⟨xs, x, hq, hx⟩ := hg
    obtain ⟨its, rv, p, hz⟩ := I.list hq
    obtain ⟨u, hu, ru⟩ := rv.get hx
    obtain ⟨f0, f1, f2, f3, f4, f5⟩ := hf it (by simp)
    refine wpAny_pyNext_list_item st p.isList (x := u) (by simpa using hu) fun h' st' sb => ?_
    have I1 : Inv X pins σ H { s with heap := h' } := I.turned (t' := s.toks) (fun b o hb e => (sb.2 b hb).trans e) f0 f1 f3 f4 f5
    obtain ⟨o, e, c, d⟩ := id st'
    exact ⟨u, rfl, go_of (s := { s with heap := h' }) e c d (by decide) ⟨x, H, I1, ru, ⟨rfl, fun ys hy => by rw [I.list_inj hy hq]; exact hx⟩, st', fun b hb => (hf b hb).1⟩⟩
  done := by
    intro X hP hw hK hc i pins s σ H E I hf st hg
    subst hP hw hK
    obtain ⟨xs, hq, hx⟩ := hg
    obtain ⟨its, rv, p, hz⟩ := I.list hq
    obtain ⟨f0, f1, f2, f3, f4, f5⟩ := hf it (by simp)
    have hl := rv.length
    exact wpAny_pyNext_list_end (I.ok.hd hc) st p.isList (by simp; omega) fun h' eb => ⟨rfl, I.turned (t' := s.toks) (fun b o hb e => eb b o hb e) f0 f1 f3 f4 f5⟩
  self := fun _ _ _ _ _ st h => wpAny_pyIter_listiter st h
theorem turn_range {P : Program} {w : World} {K : PySem.W.Frag} {tg : Expr} (it : Addr) (lo : Int) (n : Nat) : Turn P w K tg (Itr lo n) [it] it (fun i h => IsRangeIter h it (lo + (i : Nat) * 1) ((n : Int) - (i : Nat)) 1) where
  mem := by simp
  obj := fun i h st b hb => by
    have e : b = it := by simpa using hb
    subst e
    exact ⟨_, st, fun v z => by
      have z' : Data.fields _ = Data.cell v := z
      cases z'⟩
  keep := fun i h h' st k => k it (by simp) _ st
  item := by
    intro X hP hw hK hc i pins s σ H E I hf st hg
    subst hP hw hK
    obtain ⟨f0, f1, f2, f3, f4, f5⟩ := hf it (by simp)
    have W := Walks.range (prog := X.prog) (w := X.w) (I.ok.hd hc) it lo 1 n
    refine W.item i s _ _ hg st fun v h' tk hv st' kk => ?_
    obtain ⟨t, rfl⟩ := hv
    have I1 : Inv X pins σ H { s with heap := h', toks := tk } := I.turned (fun b o hb e => kk b o (by simpa using hb) e) f0 f1 f3 f4 f5
    refine ⟨_, rfl, go_of (s := { s with heap := h', toks := tk }) (n := "range_iterator") st' rfl rfl (by decide) ⟨.int (lo + i), H, I1, ⟨t, ?_⟩, ⟨rfl, rfl⟩, st', fun b hb => (hf b hb).1⟩⟩
    rw [Int.mul_one]
  done := by
    intro X hP hw hK hc i pins s σ H E I hf st hg
    subst hP hw hK
    obtain ⟨f0, f1, f2, f3, f4, f5⟩ := hf it (by simp)
    exact wpAny_pyNext_range_end (I.ok.hd hc) st (by have : n ≤ i := hg; omega) fun h' eb => ⟨rfl, I.turned (t' := s.toks) (fun b o hb e => eb b o hb e) f0 f1 f3 f4 f5⟩
  self := fun _ _ _ _ _ st h => wpAny_pyIter_rangeiter st h
end L2

namespace L2
open PySem PySem.Spec PyProof.Rows
section
variable {X : Cx} {tg : Expr}
def iList (K : PySem.W.Frag) (tl : TE) : TI := fun σ H R => tl σ H fun x H1 => ∃ a, x = .ref a ∧ (∃ xs, SqL K H1 a xs) ∧ R (Itl K a) H1
theorem pi_list {l : Expr} {tl : TE} (hl : PE X l tl) : PI X tg l (iList X.K tl) := by
  intro pins s σ H R I h
  refine thn (hl pins s σ H _ I h) fun v s1 ⟨x, H1, I1, r1, q1⟩ => ?_
  obtain ⟨a, e, ⟨xs, hq⟩, q⟩ := q1
  subst e
  cases r1
  obtain ⟨its, rv, p, hz⟩ := I1.list hq
  refine wpAny_pyIter_list p.isList ?_
  refine ⟨s1.heap.objs.size, [s1.heap.objs.size], _, _, H1, rfl, I1.kept (t' := s1.toks) fun b o e => Heap.get?_push_of_some _ e, turn_list a _, ⟨_, Heap.get?_push_size _ rfl, rfl, rfl⟩, fun b hb => ?_, q⟩
  have e : b = s1.heap.objs.size := by simpa using hb
  subst e
  exact I1.fpOk (Nat.le_refl _) (I1.hok.fresh (Nat.le_refl _))
/-- a range object just made, walked -/
theorem range_it {pins : List (Addr × Obj)} {σ : St} {H : Hp} {s : Shared} {R : It → Hp → Prop} {E : Value → Shared → Prop} {lo hi : Int} {t u v : Tok} {tk : Nat} (I : Inv X pins σ H s) (h1 : -(2 ^ 62) ≤ lo) (h2 : lo < 2 ^ 62) (h3 : -(2 ^ 62) ≤ hi) (h4 : hi < 2 ^ 62)
    (q : R (Itr lo (hi - lo).toNat) H) : wpAny (model X.prog X.w) X.A (pyIter (.ref s.heap.objs.size)) (PIE X pins σ tg R) E { s with heap := s.heap.push { cls := .type "range", data := .fields #[.int lo t, .int hi u, .int 1 v] }, toks := tk } := by
  refine wpAny_pyIter_range (IsRange.new ..) (small_one h1 h2 h3 h4) ?_
  have I1 : Inv X pins σ H { s with heap := s.heap.push { cls := .type "range", data := .fields #[.int lo t, .int hi u, .int 1 v] }, toks := tk } := I.kept fun b o e => Heap.get?_push_of_some _ e
  refine ⟨(s.heap.push { cls := .type "range", data := .fields #[.int lo t, .int hi u, .int 1 v] }).objs.size, [(s.heap.push { cls := .type "range", data := .fields #[.int lo t, .int hi u, .int 1 v] }).objs.size], _, _, H, rfl,
    I1.kept (t' := tk) fun b o e => Heap.get?_push_of_some _ e, turn_range _ lo (hi - lo).toNat, ?_, fun b hb => ?_, q⟩
  · have e1 : lo + ((0 : Nat) : Int) * 1 = lo := by simp
    have e2 : (((hi - lo).toNat : Nat) : Int) - ((0 : Nat) : Int) = Builtin.Range.rangeSize lo hi 1 := by rw [rangeSize_one]; split <;> omega
    show IsRangeIter _ _ (lo + ((0 : Nat) : Int) * 1) ((((hi - lo).toNat : Nat) : Int) - ((0 : Nat) : Int)) 1
    rw [e1, e2]
    exact Heap.get?_push_size _ rfl
  · have e : b = (s.heap.push { cls := .type "range", data := .fields #[.int lo t, .int hi u, .int 1 v] }).objs.size := by simpa using hb
    subst e
    exact I1.fpOk (Nat.le_refl _) (I1.hok.fresh (Nat.le_refl _))
def iRng1 (ta : TA) : TI := fun σ H R => ta σ H fun vs H1 => ∃ j : Int, vs = [.int j] ∧ -(2 ^ 62) ≤ j ∧ j < 2 ^ 62 ∧ R (Itr 0 j.toNat) H1
theorem pi_range1 {a : Expr} {ta : TA} {p pos : Pos} (hg : Gl X "range") (hm : X.mg "range" = none) (ha : PA X [a] ta) (hs : starEach [a] X.env = [(false, eval a X.env)] := by rfl) : PI X tg (.Call (.Name "range" p) [a] [] pos) (iRng1 ta) := by
  intro pins s σ H R I h
  refine Call_ (ld_blt I hg hm boot_range (PyProof.Rows.callWith_type1 (thn (ha pos pins s σ H _ I h) fun us s1 ⟨vs, H1, I1, r1, q1⟩ => ?_) hs rfl))
  obtain ⟨j, e, q1, q2, q⟩ := q1
  subst e
  cases r1 with
  | cons r rr =>
    cases rr
    obtain ⟨t, rfl⟩ := r
    exact call_range_1 (range_it I1 (by omega) (by omega) q1 q2 (by simpa using q))
/-! ### for -/
/-- W: the invariant by the turn and a measure; N: what the body is to reach -/
def tFor (wi : TI) (g : TG) (tb : TS) : TS := fun D σ H => wi σ H fun J H1 => ∃ W : Nat → Nat → St → Hp → Prop, (∃ m, W 0 m σ H1) ∧ ∀ i m σ H, W i m σ H →
  (J.stop i H ∧ D.nx σ H) ∨ (J.go i H ∧ ∃ N : St → Hp → Prop, (∀ σ' H', N σ' H' → ∃ m', m' < m ∧ W (i + 1) m' σ' H') ∧ ∀ x H', J.yld i H x H' → g x σ H' fun σ2 H2 => tb { D with nx := N, ct := N, bk := D.nx } σ2 H2)
/-- the records at fp as they stand -/
def pinsAt (fp : List Addr) (h : Heap) : List (Addr × Obj) := fp.filterMap fun b => (h.get? b).map fun o => (b, o)
theorem mem_pinsAt {fp : List Addr} {h : Heap} {b : Addr} {o : Obj} (hb : b ∈ fp) (e : h.get? b = some o) : (b, o) ∈ pinsAt fp h := List.mem_filterMap.mpr ⟨b, hb, by rw [e]; rfl⟩
theorem of_pinsAt {fp : List Addr} {h : Heap} {p : Addr × Obj} (hp : p ∈ pinsAt fp h) : p.1 ∈ fp ∧ h.get? p.1 = some p.2 := by
  obtain ⟨b, hb, e⟩ := List.mem_filterMap.mp hp
  cases q : h.get? b with
  | none => rw [q] at e; cases e
  | some o =>
    rw [q] at e
    have e' : (b, o) = p := Option.some.inj e
    subst e'
    exact ⟨hb, q⟩
theorem Inv.pinned {pins : List (Addr × Obj)} {σ : St} {H : Hp} {s : Shared} {fp : List Addr} (I : Inv X pins σ H s) (hf : ∀ b ∈ fp, FpOk X pins H b) (ho : ∀ b ∈ fp, ∃ o, s.heap.get? b = some o ∧ ∀ v, o.data ≠ .cell v) : Inv X (pins ++ pinsAt fp s.heap) σ H s :=
  I.pins_of fun p hp => (List.mem_append.mp hp).elim (fun z => I.pin p (List.mem_append_right _ z)) fun z => by
    obtain ⟨hb, e⟩ := of_pinsAt z
    obtain ⟨f0, f1, f2, _⟩ := hf p.1 hb
    obtain ⟨o, e', d⟩ := ho p.1 hb
    rw [e] at e'; cases e'
    exact ⟨e, f0, f1, f2, d⟩
theorem Inv.unpinned {pins pl : List (Addr × Obj)} {σ : St} {H : Hp} {s : Shared} (I : Inv X (pins ++ pl) σ H s) : Inv X pins σ H s := I.pins_of fun p hp => I.pin p (List.mem_append_right _ (List.mem_append_left _ hp))
theorem ps_for {iter : Expr} {body : List Stmt} {wi : TI} {g : TG} {tb : TS} {pos : Pos} (hp : PassesOwn (model X.prog X.w) X.A X.env X.xe) (hc : X.calm = true) (hi : PI X tg iter wi) (hg : PG X tg g) (hb : PSs X body tb)
    (hs : ∀ x, foldedSetIterable iter X.env x = pure x := by intro _; rfl) : PS X (.For tg iter body [] pos) (tFor wi g tb) := by
  intro pins s σ H D I h
  refine wpAny_For (thn (hi pins s σ H _ I h) fun v s1 h1 => thn h1 fun itv s2 h2 => ?_) hs
  obtain ⟨it, fp, tn, J, H2, e, I2, T, st2, f2, W, ⟨m0, w0⟩, turn⟩ := h2
  subst e
  -- what stays true of the iterator's objects through the loop
  have stat : ∀ {H' : Hp}, (∀ b ∈ fp, H' b = none) → ∀ b ∈ fp, FpOk X pins H' b := fun hn b hb => ⟨hn b hb, (f2 b hb).2⟩
  refine codeAny_forLoop_any (fun n s' => ∃ i σ' H', Inv X pins σ' H' s' ∧ tn i s'.heap ∧ (∀ b ∈ fp, H' b = none) ∧ W i n σ' H') ?_ m0 ⟨0, σ, H2, I2, st2, fun b hb => (f2 b hb).1, w0⟩
  rintro n s3 ⟨i, σ3, H3, I3, st3, fr3, w3⟩
  rcases turn i n σ3 H3 w3 with ⟨stop, qn⟩ | ⟨go, N, hN, step⟩
  · refine wpAny_passesOwn hp (thn (T.done X rfl rfl rfl hc i pins s3 σ3 H3 X.xe I3 (stat fr3) st3 stop) fun r s4 ⟨hr, I4⟩ => ?_)
    subst hr
    exact wpAny_execs_nil ⟨σ3, H3, I4, qn⟩
  · refine wpAny_passesOwn hp (thn (T.item X rfl rfl rfl hc i pins s3 σ3 H3 X.xe I3 (stat fr3) st3 go) fun r s4 ⟨u, hr, h4⟩ => ?_)
    subst hr
    refine wpAny_passesOwn hp (thn h4 fun _ s5 ⟨x, H5, I5, r5, y5, st5, fr5⟩ => ?_)
    have I5' := I5.pinned (stat fr5) (T.obj _ _ st5)
    refine wpAny_passesOwn hp (thn (hg _ s5 σ3 H5 x u _ I5' r5 (step x H5 y5)) fun _ s6 ⟨σ6, H6, I6, q6⟩ => ?_)
    refine wpAny_passesOwn hp (thn (hb _ s6 σ6 H6 _ I6 q6) fun f s7 q7 => ?_)
    have again : ∀ {σ7 : St} {H7 : Hp}, Inv X (pins ++ pinsAt fp s5.heap) σ7 H7 s7 → N σ7 H7 → ∃ m, m < n ∧ ∃ i σ' H', Inv X pins σ' H' s7 ∧ tn i s7.heap ∧ (∀ b ∈ fp, H' b = none) ∧ W i m σ' H' := fun {σ7 H7} I7 n7 => by
      obtain ⟨m', hm, w7⟩ := hN σ7 H7 n7
      refine ⟨m', hm, i + 1, σ7, H7, I7.unpinned, T.keep _ _ _ st5 fun b hb o e => (I7.pin (b, o) (List.mem_append_right _ (List.mem_append_right _ (mem_pinsAt hb e)))).1, fun b hb => ?_, w7⟩
      obtain ⟨o, e, d⟩ := T.obj _ _ st5 b hb
      exact (I7.pin (b, o) (List.mem_append_right _ (List.mem_append_right _ (mem_pinsAt hb e)))).2.1
    cases f with
    | next => obtain ⟨σ7, H7, I7, n7⟩ := q7; exact again I7 n7
    | cont => obtain ⟨σ7, H7, I7, n7⟩ := q7; exact again I7 n7
    | brk => obtain ⟨σ7, H7, I7, q7⟩ := q7; exact ⟨σ7, H7, I7.unpinned, q7⟩
    | ret v => obtain ⟨x7, σ7, H7, I7, r7, q7⟩ := q7; exact ⟨x7, σ7, H7, I7.unpinned, r7, q7⟩
end

/-! ### the forms one uses -/
/-- over a list that the body leaves as it is -/
theorem for_list {K : PySem.W.Frag} {a : Addr} {xs : List V} {g : TG} {tb : TS} {D : Ends} {σ : St} {H : Hp} (Pv : Nat → St → Hp → Prop) (h0 : Pv 0 σ H) (hl : ∀ i σ H, i ≤ xs.length → Pv i σ H → SqL K H a xs)
    (hs : ∀ i x σ H, xs[i]? = some x → Pv i σ H → g x σ H fun σ2 H2 => tb { D with nx := Pv (i + 1), ct := Pv (i + 1), bk := D.nx } σ2 H2) (hd : ∀ σ H, Pv xs.length σ H → D.nx σ H) :
    ∃ W : Nat → Nat → St → Hp → Prop, (∃ m, W 0 m σ H) ∧ ∀ i m σ H, W i m σ H →
      ((Itl K a).stop i H ∧ D.nx σ H) ∨ ((Itl K a).go i H ∧ ∃ N : St → Hp → Prop, (∀ σ' H', N σ' H' → ∃ m', m' < m ∧ W (i + 1) m' σ' H') ∧ ∀ x H', (Itl K a).yld i H x H' → g x σ H' fun σ2 H2 => tb { D with nx := N, ct := N, bk := D.nx } σ2 H2) := by
  refine ⟨fun i m σ H => m = xs.length - i ∧ i ≤ xs.length ∧ Pv i σ H, ⟨xs.length, by simp, Nat.zero_le _, h0⟩, ?_⟩
  rintro i m σ H ⟨rfl, hi, p⟩
  have q := hl i σ H hi p
  by_cases hlt : i < xs.length
  · refine .inr ⟨⟨xs, xs[i], q, by simp [hlt]⟩, Pv (i + 1), fun σ' H' p' => ⟨xs.length - (i + 1), by omega, rfl, hlt, p'⟩, fun x H' y => ?_⟩
    obtain ⟨e, y⟩ := y
    subst e
    exact hs i x σ _ (y xs q) p
  · have e : i = xs.length := by omega
    subst e
    exact .inl ⟨⟨xs, q, Nat.le_refl _⟩, hd σ H p⟩
theorem for_tup {K : PySem.W.Frag} {a : Addr} {xs : List V} {g : TG} {tb : TS} {D : Ends} {σ : St} {H : Hp} (Pv : Nat → St → Hp → Prop) (h0 : Pv 0 σ H) (hl : ∀ i σ H, i ≤ xs.length → Pv i σ H → SqT K H a xs)
    (hs : ∀ i x σ H, xs[i]? = some x → Pv i σ H → g x σ H fun σ2 H2 => tb { D with nx := Pv (i + 1), ct := Pv (i + 1), bk := D.nx } σ2 H2) (hd : ∀ σ H, Pv xs.length σ H → D.nx σ H) :
    ∃ W : Nat → Nat → St → Hp → Prop, (∃ m, W 0 m σ H) ∧ ∀ i m σ H, W i m σ H →
      ((Itt K a).stop i H ∧ D.nx σ H) ∨ ((Itt K a).go i H ∧ ∃ N : St → Hp → Prop, (∀ σ' H', N σ' H' → ∃ m', m' < m ∧ W (i + 1) m' σ' H') ∧ ∀ x H', (Itt K a).yld i H x H' → g x σ H' fun σ2 H2 => tb { D with nx := N, ct := N, bk := D.nx } σ2 H2) := by
  refine ⟨fun i m σ H => m = xs.length - i ∧ i ≤ xs.length ∧ Pv i σ H, ⟨xs.length, by simp, Nat.zero_le _, h0⟩, ?_⟩
  rintro i m σ H ⟨rfl, hi, p⟩
  have q := hl i σ H hi p
  by_cases hlt : i < xs.length
  · refine .inr ⟨⟨xs, xs[i], q, by simp [hlt]⟩, Pv (i + 1), fun σ' H' p' => ⟨xs.length - (i + 1), by omega, rfl, hlt, p'⟩, fun x H' y => ?_⟩
    obtain ⟨e, y⟩ := y
    subst e
    exact hs i x σ _ (y xs q) p
  · have e : i = xs.length := by omega
    subst e
    exact .inl ⟨⟨xs, q, Nat.le_refl _⟩, hd σ H p⟩
theorem for_range {lo : Int} {n : Nat} {g : TG} {tb : TS} {D : Ends} {σ : St} {H : Hp} (Pv : Nat → St → Hp → Prop) (h0 : Pv 0 σ H)
    (hs : ∀ i σ H, i < n → Pv i σ H → g (.int (lo + i)) σ H fun σ2 H2 => tb { D with nx := Pv (i + 1), ct := Pv (i + 1), bk := D.nx } σ2 H2) (hd : ∀ σ H, Pv n σ H → D.nx σ H) :
    ∃ W : Nat → Nat → St → Hp → Prop, (∃ m, W 0 m σ H) ∧ ∀ i m σ H, W i m σ H →
      ((Itr lo n).stop i H ∧ D.nx σ H) ∨ ((Itr lo n).go i H ∧ ∃ N : St → Hp → Prop, (∀ σ' H', N σ' H' → ∃ m', m' < m ∧ W (i + 1) m' σ' H') ∧ ∀ x H', (Itr lo n).yld i H x H' → g x σ H' fun σ2 H2 => tb { D with nx := N, ct := N, bk := D.nx } σ2 H2) := by
  refine ⟨fun i m σ H => m = n - i ∧ i ≤ n ∧ Pv i σ H, ⟨n, by simp, Nat.zero_le _, h0⟩, ?_⟩
  rintro i m σ H ⟨rfl, hi, p⟩
  by_cases hlt : i < n
  · refine .inr ⟨hlt, Pv (i + 1), fun σ' H' p' => ⟨n - (i + 1), by omega, rfl, hlt, p'⟩, fun x H' y => ?_⟩
    obtain ⟨e, y⟩ := y
    subst e y
    exact hs i σ _ hlt p
  · have e : i = n := by omega
    subst e
    exact .inl ⟨Nat.le_refl _, hd σ H p⟩
end L2

namespace L2
open PySem PySem.Spec PyProof.Rows

abbrev R2 := V → V → Hp → VK → Prop
/-- a two-place operation on values: f is binaryOp op, inplaceOp op or compareOp op -/
def OpR (X : Cx) (f : Value → Value → Sem Value) (r : R2) : Prop :=
  ∀ (pins : List (Addr × Obj)) (s : Shared) (σ : St) (H : Hp) (x y : V) (v u : Value) (Q : VK), Inv X pins σ H s → RelV x v → RelV y u → r x y H Q →
    wpAny (model X.prog X.w) X.A (f v u) (EP X pins σ Q) X.xe s
/-- a one-place operation -/
def UnR (X : Cx) (f : Value → Sem Value) (r : V → Hp → VK → Prop) : Prop :=
  ∀ (pins : List (Addr × Obj)) (s : Shared) (σ : St) (H : Hp) (x : V) (v : Value) (Q : VK), Inv X pins σ H s → RelV x v → r x H Q →
    wpAny (model X.prog X.w) X.A (f v) (EP X pins σ Q) X.xe s
/-- a call of a value that is known (a builtin, a type) with values -/
def CallR (X : Cx) (f : Value) (r : List V → Hp → VK → Prop) : Prop :=
  ∀ (pins : List (Addr × Obj)) (s : Shared) (σ : St) (H : Hp) (xs : List V) (us : List Value) (Q : VK), Inv X pins σ H s → Vals xs us → r xs H Q →
    wpAny (model X.prog X.w) X.A (call f us) (EP X pins σ Q) X.xe s
/-- a value's truth -/
def TruR (X : Cx) (r : V → Hp → (Bool → Hp → Prop) → Prop) : Prop :=
  ∀ (pins : List (Addr × Obj)) (s : Shared) (σ : St) (H : Hp) (x : V) (v : Value) (Q : Bool → Hp → Prop), Inv X pins σ H s → RelV x v → r x H Q →
    wpAny (model X.prog X.w) X.A (truthy v) (TP X pins σ Q) X.xe s

def tOp (r : R2) (ta tb : TE) : TE := fun σ H Q => ta σ H fun x H1 => tb σ H1 fun y H2 => r x y H2 Q
def tUn (r : V → Hp → VK → Prop) (ta : TE) : TE := fun σ H Q => ta σ H fun x H1 => r x H1 Q
/-- ints in, under C, and a value out -/
def rI (C : Int → Int → Prop) (g : Int → Int → V) : R2 := fun x y H Q => ∃ i j, x = .int i ∧ y = .int j ∧ C i j ∧ Q (g i j) H
def rI0 (g : Int → Int → V) : R2 := fun x y H Q => ∃ i j, x = .int i ∧ y = .int j ∧ Q (g i j) H
def rU (g : Int → V) : V → Hp → VK → Prop := fun x H Q => ∃ i, x = .int i ∧ Q (g i) H

section
variable {X : Cx} {a b c : Expr} {ta tb tc : TE} {pos : Pos}

theorem binT (ha : PE X a ta) (hb : PE X b tb) {pins : List (Addr × Obj)} {s : Shared} {σ : St} {H : Hp} {R : V → V → Hp → Prop} (I : Inv X pins σ H s)
    (h : ta σ H fun x H1 => tb σ H1 fun y H2 => R x y H2) {Q : Value → Shared → Prop} {f : Value → Value → Sem Value}
    (hf : ∀ v u s2 x y H2, Inv X pins σ H2 s2 → RelV x v → RelV y u → R x y H2 → wpAny (model X.prog X.w) X.A (f v u) Q X.xe s2) :
    wpAny (model X.prog X.w) X.A (eval a X.env) (fun v s₁ => wpAny (model X.prog X.w) X.A (eval b X.env) (fun u s₂ => wpAny (model X.prog X.w) X.A (f v u) Q X.xe s₂) X.xe s₁) X.xe s := by
  refine thn (ha pins s σ H _ I h) fun v s1 ⟨x, H1, I1, r1, q1⟩ => ?_
  refine thn (hb pins s1 σ H1 _ I1 q1) fun u s2 ⟨y, H2, I2, r2, q2⟩ => ?_
  exact hf v u s2 x y H2 I2 r1 r2 q2

theorem pe_op {op : Operator} {r : R2} (ho : OpR X (binaryOp op) r) (ha : PE X a ta) (hb : PE X b tb) : PE X (.BinOp a op b pos) (tOp r ta tb) := by
  intro pins s σ H Q I h
  exact wpAny_BinOp (binT ha hb I h fun v u s2 x y H2 I2 rx ry q => ho pins s2 σ H2 x y v u Q I2 rx ry q)
theorem pe_un {op : UnaryOp} {r : V → Hp → VK → Prop} (ho : UnR X (unaryOp op) r) (ha : PE X a ta) : PE X (.UnaryOp op a pos) (tUn r ta) := by
  intro pins s σ H Q I h
  exact UnaryOp_ (thn (ha pins s σ H _ I h) fun v s1 ⟨x, H1, I1, r1, q1⟩ => ho pins s1 σ H1 x v Q I1 r1 q1)
/-! ### ints -/
theorem opI {f : Value → Value → Sem Value} {C : Int → Int → Prop} {g : Int → Int → Int}
    (rule : ∀ (i j : Int) (t u : Tok) (s : Shared) (Q : Value → Shared → Prop) (E : Value → Shared → Prop), C i j → Q (.int (g i j) s.toks) { s with toks := s.toks + 1 } → wpAny (model X.prog X.w) X.A (f (.int i t) (.int j u)) Q E s) :
    OpR X f (rI C fun i j => .int (g i j)) := by
  intro pins s σ H x y v u Q I rx ry h
  obtain ⟨i, j, rfl, rfl, hc, q⟩ := h
  obtain ⟨t, rfl⟩ := rx
  obtain ⟨t', rfl⟩ := ry
  exact rule i j t t' s _ _ hc ⟨.int (g i j), H, I.tok _, ⟨_, rfl⟩, q⟩
theorem opI0 {f : Value → Value → Sem Value} {g : Int → Int → Int}
    (rule : ∀ (i j : Int) (t u : Tok) (s : Shared) (Q : Value → Shared → Prop) (E : Value → Shared → Prop), Q (.int (g i j) s.toks) { s with toks := s.toks + 1 } → wpAny (model X.prog X.w) X.A (f (.int i t) (.int j u)) Q E s) :
    OpR X f (rI0 fun i j => .int (g i j)) := by
  intro pins s σ H x y v u Q I rx ry h
  obtain ⟨i, j, rfl, rfl, q⟩ := h
  obtain ⟨t, rfl⟩ := rx
  obtain ⟨t', rfl⟩ := ry
  exact rule i j t t' s _ _ ⟨.int (g i j), H, I.tok _, ⟨_, rfl⟩, q⟩
theorem opB0 {f : Value → Value → Sem Value} {g : Int → Int → Bool}
    (rule : ∀ (i j : Int) (t u : Tok) (s : Shared) (Q : Value → Shared → Prop) (E : Value → Shared → Prop), Q (.bool (g i j)) s → wpAny (model X.prog X.w) X.A (f (.int i t) (.int j u)) Q E s) :
    OpR X f (rI0 fun i j => .bl (g i j)) := by
  intro pins s σ H x y v u Q I rx ry h
  obtain ⟨i, j, rfl, rfl, q⟩ := h
  obtain ⟨t, rfl⟩ := rx
  obtain ⟨t', rfl⟩ := ry
  exact rule i j t t' s _ _ ⟨.bl (g i j), H, I, rfl, q⟩

def CDiv (i j : Int) : Prop := 0 < j ∧ j < 1073741824
def CMul (i j : Int) : Prop := (-(2 ^ 64) < i ∧ i < 2 ^ 64) ∨ (-(2 ^ 64) < j ∧ j < 2 ^ 64)
theorem CMul.ok {i j : Int} (h : CMul i j) : IntMulOk i j := by
  rcases h with ⟨h1, h2⟩ | ⟨h1, h2⟩
  · exact .of_left (intBits_le_64 h1 h2)
  · exact .of_right (intBits_le_64 h1 h2)
theorem op_add : OpR X (binaryOp .Add) (rI0 fun i j => .int (i + j)) := opI0 fun _ _ _ _ _ _ _ q => add_int q
theorem op_sub : OpR X (binaryOp .Sub) (rI0 fun i j => .int (i - j)) := opI0 fun _ _ _ _ _ _ _ q => sub_int q
theorem op_mul : OpR X (binaryOp .Mult) (rI CMul fun i j => .int (i * j)) := opI fun _ _ _ _ _ _ _ hc q => mul_int q hc.ok
/-- // by a positive divisor -/
theorem op_fdiv : OpR X (binaryOp .FloorDiv) (rI CDiv fun i j => .int (i / j)) := opI fun i j _ _ _ _ _ hc q => by
  have h1 : (0 : Int) < j := hc.1
  have h2 : j < 1073741824 := hc.2
  exact floordiv_int (by omega) (by rw [Int.fdiv_eq_ediv_of_nonneg i (by omega)]; exact q) (.inl (PyProof.noPylong_small (by omega)))
/-- % by a positive divisor of any size -/
theorem op_mod : OpR X (binaryOp .Mod) (rI (fun _ j => 0 < j) fun i j => .int (i % j)) := opI fun i j _ _ _ _ _ hc q => by
  have h1 : (0 : Int) < j := hc
  exact mod_int' (by omega) (by rw [Int.fmod_eq_emod_of_nonneg i (by omega)]; exact q)
theorem unI {f : Value → Sem Value} {g : Int → Int}
    (rule : ∀ (i : Int) (t : Tok) (s : Shared) (Q : Value → Shared → Prop) (E : Value → Shared → Prop), Q (.int (g i) s.toks) { s with toks := s.toks + 1 } → wpAny (model X.prog X.w) X.A (f (.int i t)) Q E s) :
    UnR X f (rU fun i => .int (g i)) := by
  intro pins s σ H x v Q I rx h
  obtain ⟨i, rfl, q⟩ := h
  obtain ⟨t, rfl⟩ := rx
  exact rule i t s _ _ ⟨.int (g i), H, I.tok _, ⟨_, rfl⟩, q⟩
theorem un_neg : UnR X (unaryOp .USub) (rU fun i => .int (-i)) := unI fun _ _ _ _ _ q => neg_int q
/-! ### bools among ints: n += (a < b) -/
end

/-! ### comparisons -/
/-- the scalars that == tells apart as data does -/
def scal : V → V → Bool
  | .non, .non => true | .non, .int _ => true | .int _, .non => true | .non, .bl _ => true | .bl _, .non => true | .non, .str _ => true | .str _, .non => true
  | .int _, .int _ => true | .bl _, .bl _ => true | .str _, .str _ => true | .byt _, .byt _ => true
  | .int _, .str _ => true | .str _, .int _ => true | .bl _, .str _ => true | .str _, .bl _ => true
  | _, _ => false
def rEq : R2 := fun x y H Q => scal x y = true ∧ Q (.bl (decide (x = y))) H
def rNe : R2 := fun x y H Q => scal x y = true ∧ Q (.bl (!decide (x = y))) H

theorem dec_int {i j : Int} : decide (V.int i = V.int j) = (i == j) := by
  rw [Bool.eq_iff_iff]
  simp
theorem dec_bl {i j : Bool} : decide (V.bl i = V.bl j) = (i == j) := by
  rw [Bool.eq_iff_iff]
  simp
theorem dec_str {i j : Str} : decide (V.str i = V.str j) = (i == j) := by
  rw [Bool.eq_iff_iff]
  simp
theorem dec_byt {i j : Array UInt8} : decide (V.byt i = V.byt j) = (i.toList == j.toList) := by
  rw [Bool.eq_iff_iff]
  cases i
  cases j
  simp

section
variable {X : Cx} {a b c : Expr} {ta tb tc : TE} {pos : Pos}
theorem fin_bl {pins : List (Addr × Obj)} {σ : St} {H : Hp} {s : Shared} {Q : VK} {k k' : Bool} (I : Inv X pins σ H s) (q : Q (.bl k) H) (e : k = k') : EP X pins σ Q (.bool k') s := by
  subst e
  exact ⟨.bl k, H, I, rfl, q⟩
theorem op_eq : OpR X (compareOp .Eq) rEq := by
  intro pins s σ H x y v u Q I rx ry h
  obtain ⟨hs, q⟩ := h
  cases x with
  | non =>
    cases rx
    cases y with
    | non => cases ry; exact PySem.EqNone.eq_none_none (fin_bl I q (by simp))
    | bl j => cases ry; exact PySem.EqNone.eq_none_bool (fin_bl I q (by simp))
    | int j => obtain ⟨t', rfl⟩ := ry; exact PySem.EqNone.eq_none_int (fin_bl I q (by simp))
    | str j => obtain ⟨t', rfl⟩ := ry; exact PySem.EqNone.eq_none_str (fin_bl I q (by simp))
    | _ => exact absurd (show false = true from hs) Bool.false_ne_true
  | bl i =>
    cases rx
    cases y with
    | non => cases ry; exact PySem.EqNone.eq_bool_none (fin_bl I q (by simp))
    | bl j => cases ry; exact eq_bool (fin_bl I q dec_bl)
    | str j => obtain ⟨t', rfl⟩ := ry; exact PySem.EqMixed.eq_bool_str (fin_bl I q (by simp))
    | _ => exact absurd (show false = true from hs) Bool.false_ne_true
  | int i =>
    obtain ⟨t, rfl⟩ := rx
    cases y with
    | non => cases ry; exact PySem.EqNone.eq_int_none (fin_bl I q (by simp))
    | int j => obtain ⟨t', rfl⟩ := ry; exact eq_int (fin_bl I q dec_int)
    | str j => obtain ⟨t', rfl⟩ := ry; exact PySem.EqMixed.eq_int_str (fin_bl I q (by simp))
    | _ => exact absurd (show false = true from hs) Bool.false_ne_true
  | str i =>
    obtain ⟨t, rfl⟩ := rx
    cases y with
    | non => cases ry; exact PySem.EqNone.eq_str_none (fin_bl I q (by simp))
    | bl j => cases ry; exact PySem.EqMixed.eq_str_bool (fin_bl I q (by simp))
    | int j => obtain ⟨t', rfl⟩ := ry; exact PySem.EqMixed.eq_str_int (fin_bl I q (by simp))
    | str j => obtain ⟨t', rfl⟩ := ry; exact eq_str (fin_bl I q dec_str)
    | _ => exact absurd (show false = true from hs) Bool.false_ne_true
  | byt i =>
    obtain ⟨t, rfl⟩ := rx
    cases y with
    | byt j => obtain ⟨t', rfl⟩ := ry; exact PySem.W.eq_bytes (fin_bl I q dec_byt)
    | _ => exact absurd (show false = true from hs) Bool.false_ne_true
  | _ => cases y <;> exact absurd (show false = true from hs) Bool.false_ne_true
theorem op_ne : OpR X (compareOp .NotEq) rNe := by
  intro pins s σ H x y v u Q I rx ry h
  obtain ⟨hs, q⟩ := h
  cases x with
  | non =>
    cases rx
    cases y with
    | non => cases ry; exact PySem.EqNone.ne_none_none (fin_bl I q (by simp))
    | bl j => cases ry; exact PySem.EqNone.ne_none_bool (fin_bl I q (by simp))
    | int j => obtain ⟨t', rfl⟩ := ry; exact PySem.EqNone.ne_none_int (fin_bl I q (by simp))
    | str j => obtain ⟨t', rfl⟩ := ry; exact PySem.EqNone.ne_none_str (fin_bl I q (by simp))
    | _ => exact absurd (show false = true from hs) Bool.false_ne_true
  | bl i =>
    cases rx
    cases y with
    | non => cases ry; exact PySem.EqNone.ne_bool_none (fin_bl I q (by simp))
    | bl j => cases ry; exact ne_bool (fin_bl I q (congrArg not dec_bl))
    | str j => obtain ⟨t', rfl⟩ := ry; exact PySem.EqMixed.ne_bool_str (fin_bl I q (by simp))
    | _ => exact absurd (show false = true from hs) Bool.false_ne_true
  | int i =>
    obtain ⟨t, rfl⟩ := rx
    cases y with
    | non => cases ry; exact PySem.EqNone.ne_int_none (fin_bl I q (by simp))
    | int j => obtain ⟨t', rfl⟩ := ry; exact ne_int (fin_bl I q (congrArg not dec_int))
    | str j => obtain ⟨t', rfl⟩ := ry; exact PySem.EqMixed.ne_int_str (fin_bl I q (by simp))
    | _ => exact absurd (show false = true from hs) Bool.false_ne_true
  | str i =>
    obtain ⟨t, rfl⟩ := rx
    cases y with
    | non => cases ry; exact PySem.EqNone.ne_str_none (fin_bl I q (by simp))
    | bl j => cases ry; exact PySem.EqMixed.ne_str_bool (fin_bl I q (by simp))
    | int j => obtain ⟨t', rfl⟩ := ry; exact PySem.EqMixed.ne_str_int (fin_bl I q (by simp))
    | str j => obtain ⟨t', rfl⟩ := ry; exact ne_str (fin_bl I q (congrArg not dec_str))
    | _ => exact absurd (show false = true from hs) Bool.false_ne_true
  | byt i =>
    obtain ⟨t, rfl⟩ := rx
    cases y with
    | byt j => obtain ⟨t', rfl⟩ := ry; exact PySem.W.ne_bytes (fin_bl I q (congrArg not dec_byt))
    | _ => exact absurd (show false = true from hs) Bool.false_ne_true
  | _ => cases y <;> exact absurd (show false = true from hs) Bool.false_ne_true

theorem op_lt : OpR X (compareOp .Lt) (rI0 fun i j => .bl (decide (i < j))) := opB0 fun _ _ _ _ _ _ _ q => lt_int q
theorem op_le : OpR X (compareOp .LtE) (rI0 fun i j => .bl (decide (i ≤ j))) := opB0 fun _ _ _ _ _ _ _ q => le_int q
theorem op_gt : OpR X (compareOp .Gt) (rI0 fun i j => .bl (decide (j < i))) := opB0 fun _ _ _ _ _ _ _ q => gt_int q
/-- is None, is not None: the right side a value none -/
theorem op_isN : OpR X (compareOp .Is) (fun x y H Q => y = .non ∧ Q (.bl (decide (x = .non))) H) := by
  intro pins s σ H x y v u Q I rx ry h
  obtain ⟨rfl, q⟩ := h
  cases ry
  refine is_none_gen (fin_bl I q ?_)
  cases x <;> first
    | (cases rx; rfl)
    | (obtain ⟨t, rfl⟩ := rx; rfl)
/-- two rules for one operation: by cases -/
theorem OpR.or {f : Value → Value → Sem Value} {r r' : R2} (h : OpR X f r) (h' : OpR X f r') : OpR X f (fun x y H Q => r x y H Q ∨ r' x y H Q) := by
  intro pins s σ H x y v u Q I rx ry q
  rcases q with q | q
  · exact h pins s σ H x y v u Q I rx ry q
  · exact h' pins s σ H x y v u Q I rx ry q

theorem nomark (b : Expr) {op : CmpOp} (h : op ≠ .In := by decide) (h2 : op ≠ .NotIn := by decide) : behindInMarks op b = false := by
  have e1 : (op == CmpOp.In) = false := by cases op <;> first | rfl | exact absurd rfl h
  have e2 : (op == CmpOp.NotIn) = false := by cases op <;> first | rfl | exact absurd rfl h2
  cases b <;> simp [behindInMarks, e1, e2]
/-- a comparison as a value; hm: nomark b, or (for in, not in) by with_unfolding_all rfl -/
theorem pe_cmpR {op : CmpOp} {r : R2} (ho : OpR X (compareOp op) r) (ha : PE X a ta) (hb : PE X b tb) (hm : behindInMarks op b = false) : PE X (.Compare a [op] [b] pos) (tOp r ta tb) := by
  intro pins s σ H Q I h
  exact wpAny_Compare1 (binT ha hb I h fun v u s2 x y H2 I2 rx ry q => ho pins s2 σ H2 x y v u Q I2 rx ry q) hm
/-- a reading of a value as a test -/
def tTest (t : TE) : TT := fun σ H Q => t σ H fun x H' => ∃ k, x = .bl k ∧ Q k H'
theorem pt_cmpR {op : CmpOp} {r : R2} (ho : OpR X (compareOp op) r) (ha : PE X a ta) (hb : PE X b tb) (hm : behindInMarks op b = false) : PT X (.Compare a [op] [b] pos) (tTest (tOp r ta tb)) := by
  intro pins s σ H Q I h
  refine wpAny_isTrue_Compare1 (thn (ha pins s σ H _ I h) fun v s1 ⟨x, H1, I1, r1, q1⟩ => thn (hb pins s1 σ H1 _ I1 q1) fun u s2 ⟨y, H2, I2, r2, q2⟩ =>
    thn (ho pins s2 σ H2 x y v u _ I2 r1 r2 q2) fun c s3 ⟨z, H3, I3, r3, k, e, q3⟩ => ?_) hm
  subst e
  cases r3
  exact wpAny_truthy_bool ⟨H3, I3, q3⟩
/-- a op1 b op2 c -/
def tChain (r r' : R2) (ta tb tc : TE) : TE := fun σ H Q => ta σ H fun x H1 => tb σ H1 fun y H2 => r x y H2 fun z H3 => ∃ k, z = .bl k ∧
  (if k = true then tc σ H3 fun w' H4 => r' y w' H4 Q else Q (.bl false) H3)
theorem pe_chain {op op' : CmpOp} {r r' : R2} (ho : OpR X (compareOp op) r) (ho' : OpR X (compareOp op') r') (ha : PE X a ta) (hb : PE X b tb) (hc : PE X c tc)
    (hm : lastMarks [op, op'] [b, c] = false := by with_unfolding_all rfl) : PE X (.Compare a [op, op'] [b, c] pos) (tChain r r' ta tb tc) := by
  intro pins s σ H Q I h
  refine Compare_chain (thn (ha pins s σ H _ I h) fun v s1 ⟨x, H1, I1, r1, q1⟩ => chain_link (thn (hb pins s1 σ H1 _ I1 q1) fun u s2 ⟨y, H2, I2, r2, q2⟩ =>
    thn (ho pins s2 σ H2 x y v u _ I2 r1 r2 q2) fun d s3 ⟨z, H3, I3, r3, k, e, q3⟩ => ?_)) hm
  subst e
  cases r3
  refine wpAny_truthy_bool ?_
  cases k with
  | false => exact ite_ff ⟨.bl false, H3, I3, rfl, q3⟩
  | true => exact ite_tt (chain_last (thn (hc pins s3 σ H3 _ I3 q3) fun w' s4 ⟨z', H4, I4, r4, q4⟩ => ho' pins s4 σ H4 y z' u w' Q I4 r2 r4 q4))
theorem pt_chain {op op' : CmpOp} {r r' : R2} (ho : OpR X (compareOp op) r) (ho' : OpR X (compareOp op') r') (ha : PE X a ta) (hb : PE X b tb) (hc : PE X c tc)
    (hm : lastMarks [op, op'] [b, c] = false := by with_unfolding_all rfl) : PT X (.Compare a [op, op'] [b, c] pos) (tTest (tChain r r' ta tb tc)) := by
  intro pins s σ H Q I h
  refine isTrue_chain (thn (ha pins s σ H _ I h) fun v s1 ⟨x, H1, I1, r1, q1⟩ => test_link (thn (hb pins s1 σ H1 _ I1 q1) fun u s2 ⟨y, H2, I2, r2, q2⟩ =>
    thn (ho pins s2 σ H2 x y v u _ I2 r1 r2 q2) fun d s3 ⟨z, H3, I3, r3, k, e, q3⟩ => ?_)) hm
  subst e
  cases r3
  refine wpAny_truthy_bool ?_
  cases k with
  | false =>
    obtain ⟨k', e', q'⟩ := q3
    cases e'
    exact ite_ff ⟨H3, I3, q'⟩
  | true =>
    refine ite_tt (test_last (thn (hc pins s3 σ H3 _ I3 q3) fun w' s4 ⟨z', H4, I4, r4, q4⟩ => thn (ho' pins s4 σ H4 y z' u w' _ I4 r2 r4 q4) fun d' s5 ⟨z2, H5, I5, r5, k2, e2, q5⟩ => ?_))
    subst e2
    cases r5
    exact wpAny_truthy_bool ⟨H5, I5, q5⟩

/-! ### truth -/
/-- a value's truth by the abstract heap -/
def TruV (K : PySem.W.Frag) (x : V) (H : Hp) (k : Bool) : Prop :=
  match x with
  | .non => k = false
  | .bl b => k = b
  | .int i => k = (i != 0)
  | .str y => y.length ≤ sizeLine ∧ k = ((y.length : Int) != 0)
  | .byt y => y.size ≤ sizeLine ∧ k = ((y.size : Int) != 0)
  | .ref p => (∃ xs, SqL K H p xs ∧ k = !xs.isEmpty) ∨ (∃ xs, SqT K H p xs ∧ k = !xs.isEmpty) ∨ ∃ kvs, H p = some (.dK kvs) ∧ k = !kvs.isEmpty
  | _ => False
theorem isEmpty_kv {κ : Type} {kvs : List (κ × V)} {vs : List (κ × Value)} (r : KV kvs vs) : (!vs.isEmpty) = !kvs.isEmpty := by
  cases r <;> rfl
theorem isEmpty_of {xs : List V} {its : List Value} (r : Vals xs its) : (!its.toArray.isEmpty) = !xs.isEmpty := by
  cases r <;> simp
theorem line63 : (sizeLine : Nat) < 2 ^ 63 := by rw [sizeLine_eq]; decide
theorem tru_ok : TruR X (fun x H Q => ∃ k, TruV X.K x H k ∧ Q k H) := by
  intro pins s σ H x v Q I rx h
  obtain ⟨k, e, q⟩ := h
  have hl := line63
  have hs : sizeLine = 16777216 := sizeLine_eq
  cases x with
  | non =>
    cases rx
    have e' : k = false := e
    subst e'
    exact truthy_none ⟨H, I, q⟩
  | bl b =>
    cases rx
    have e' : k = b := e
    subst e'
    exact wpAny_truthy_bool ⟨H, I, q⟩
  | int i =>
    obtain ⟨t, rfl⟩ := rx
    have e' : k = (i != 0) := e
    subst e'
    exact PySem.P.truthy_int ⟨H, I, q⟩
  | str y =>
    obtain ⟨t, rfl⟩ := rx
    obtain ⟨hy, e'⟩ : y.length ≤ sizeLine ∧ k = ((y.length : Int) != 0) := e
    subst e'
    exact PySem.P.truthy_str (by omega) ⟨H, I.tok _, q⟩
  | byt y =>
    obtain ⟨t, rfl⟩ := rx
    obtain ⟨hy, e'⟩ : y.size ≤ sizeLine ∧ k = ((y.size : Int) != 0) := e
    subst e'
    exact PySem.W.truthy_bytes (by omega) ⟨H, I.tok _, q⟩
  | ref p =>
    cases rx
    have e' : (∃ xs, SqL X.K H p xs ∧ k = !xs.isEmpty) ∨ (∃ xs, SqT X.K H p xs ∧ k = !xs.isEmpty) ∨ ∃ kvs, H p = some (.dK kvs) ∧ k = !kvs.isEmpty := e
    rcases e' with ⟨xs, hx, e'⟩ | ⟨xs, hx, e'⟩ | ⟨kvs, hx, e'⟩
    · subst e'
      obtain ⟨its, r, pl, hz⟩ := I.list hx
      have hlen := r.length
      exact wpAny_truthy_list pl.isList (by simp only [List.size_toArray]; omega) ⟨H, I.tok _, by rw [isEmpty_of r]; exact q⟩
    · subst e'
      obtain ⟨its, r, pl, hz⟩ := I.tuple hx
      have hlen := r.length
      exact truthy_tuple pl (by simp only [List.size_toArray]; omega) ⟨H, I.tok _, by rw [isEmpty_of r]; exact q⟩
    · subst e'
      obtain ⟨hz, hS, vs, r, m⟩ : kvs.length ≤ sizeLine ∧ (p == sysModules) = false ∧ ∃ vs, KV kvs vs ∧ s.heap.DictOf (mixKind X.prog X.w) p vs := I.hok p _ hx
      have hlen : kvs.length = vs.length := Paired.length r
      exact wpAny_truthy_dict hS m (by omega) ⟨H, I.tok _, by rw [isEmpty_kv r]; exact q⟩
  | _ => exact (show False from e).elim
/-- any expression whose test is its value's truth (a name, a call, a subscript, a field ..: he by fun _ => rfl) -/
theorem pt_truth (ha : PE X a ta) (he : ∀ whole, isTrue a X.env whole = (do let v ← whole; standAt a.pos; holding [v] (truthy v))) :
    PT X a (fun σ H Q => ta σ H fun x H' => ∃ k, TruV X.K x H' k ∧ Q k H') := by
  intro pins s σ H Q I h
  exact isTrue_plain (thn (ha pins s σ H _ I h) fun v s1 ⟨x, H1, I1, r1, q1⟩ => tru_ok pins s1 σ H1 x v Q I1 r1 q1) (he _)

/-! ### strs and bytes -/
theorem op_add_str : OpR X (binaryOp .Add) (fun x y H Q => ∃ i j, x = .str i ∧ y = .str j ∧ i.length + j.length ≤ sizeLine ∧ Q (.str (i ++ j)) H) := by
  intro pins s σ H x y v u Q I rx ry h
  obtain ⟨i, j, rfl, rfl, hz, q⟩ := h
  obtain ⟨t, rfl⟩ := rx
  obtain ⟨t', rfl⟩ := ry
  exact add_str (fun t' tk => ⟨.str (i ++ j), H, I.tok _, ⟨_, rfl⟩, q⟩) hz
/-! ### scalar builtins, by CallR -/
theorem vals1 {x : V} {us : List Value} (r : Vals [x] us) : ∃ u, us = [u] ∧ RelV x u := by
  cases r with
  | cons r1 r2 => cases r2; exact ⟨_, rfl, r1⟩
theorem vals2 {x y : V} {us : List Value} (r : Vals [x, y] us) : ∃ u w', us = [u, w'] ∧ RelV x u ∧ RelV y w' := by
  cases r with
  | cons r1 r2 =>
    cases r2 with
    | cons r3 r4 => cases r4; exact ⟨_, _, rfl, r1, r3⟩
theorem call_min2 (hc : X.calm = true) : CallR X (.builtin "min") (fun xs H Q => ∃ i j, xs = [.int i, .int j] ∧ Q (.int (if j < i then j else i)) H) := by
  intro pins s σ H xs us Q I r h
  obtain ⟨i, j, rfl, q⟩ := h
  obtain ⟨u, w', rfl, ⟨t, rfl⟩, ⟨t', rfl⟩⟩ := vals2 r
  refine min_two_ints (I.ok.hd hc) fun h' tk k => ⟨_, H, I.kept k, ?_, q⟩
  by_cases hj : j < i
  · rw [if_pos hj, if_pos hj]; exact ⟨_, rfl⟩
  · rw [if_neg hj, if_neg hj]; exact ⟨_, rfl⟩
end
end L2

namespace L2
open PySem PySem.Spec PyProof.Rows

/-! ### an instance, its attributes a map -/
structure ObjM (h : Heap) (x dx C : Addr) (mA : Str → Option Value) : Prop where
  obj : h.get? x = some (PySem.W.instObj C dx)
  ns : h.Ns1 dx mA
  ne : dx ≠ x

theorem lookIn_ns {h : Heap} {dx : Addr} {mA : Str → Option Value} (n : h.Ns1 dx mA) : ∃ od, h.get? dx = some od ∧ ∀ name, PySem.W.lookIn name od = some (mA name) := by
  obtain ⟨o, es, ep, ho, hd, hk, _, hm⟩ := n
  refine ⟨o, ho, fun name => ?_⟩
  have e := hm name
  unfold nsFind findBy at e
  rw [← Array.find?_toList] at e
  unfold PySem.W.lookIn
  rw [hd]
  dsimp only
  split
  · rename_i y q
    rw [q] at e
    exact congrArg some e
  · rename_i q
    rw [q] at e
    have a : es.toList.any (·.refKey) = false := by
      rw [List.any_eq_false]
      intro y hy
      obtain ⟨z, t, hkey⟩ := hk y (Array.mem_toList_iff.mp hy)
      simp [DictEntry.refKey, hkey]
    have a' : ¬ es.toList.any (·.refKey) = true := by rw [a]; exact Bool.false_ne_true
    rw [if_neg a']
    exact congrArg some e

theorem ObjM.look {h : Heap} {x dx C : Addr} {mA : Str → Option Value} (I : ObjM h x dx C mA) : ∃ od, PySem.W.InstAt h x (PySem.W.instObj C dx) C (some od) ∧ ∀ name, PySem.W.lookIn name od = some (mA name) :=
  let ⟨od, ho, hl⟩ := lookIn_ns I.ns
  ⟨od, ⟨I.obj, rfl, rfl, ho⟩, hl⟩

section
variable {prog : Program} {w : World} {A : Around} {E : Value → Shared → Prop} {s : Shared} {K : PySem.W.Frag} {x dx C f : Addr} {mA : Str → Option Value} {name : Str} {v : Value}

end

/-! ### the attributes as a list of pairs -/
theorem RelO.some_of {v : V} {o : Option Value} (r : RelO (some v) o) : ∃ u, o = some u ∧ RelV v u := by
  cases o with
  | none => exact (show False from r).elim
  | some u => exact ⟨u, rfl, r⟩
theorem RelO.none_of {o : Option Value} (r : RelO none o) : o = none := by
  cases o with
  | none => rfl
  | some u => exact (show False from r).elim
section
variable {P : Program} {w : World} {H H' : Hp} {h h' : Heap} {a C dx : Addr} {fs fs' : List (Str × V)}
theorem ins_get (hok : HOk P w H h) (e : H a = some (.ins C dx fs)) : ∃ mA, ObjM h a dx C mA ∧ (∀ f, RelO (fs.lookup f) (mA f)) ∧ PySem.Within mA (fs.map (·.1)) ∧ fs.length ≤ 1000 ∧ H dx = some (.own a) := by
  obtain ⟨d, z, ne, ob, mA, n, r, q⟩ := (show ObjOk P w H h a (.ins C dx fs) from hok a _ e)
  exact ⟨mA, ⟨ob, n, ne⟩, r, q, z, d⟩
end

/-! ### what of the text a class must have -/
structure Cls (K : PySem.W.Frag) (C : Addr) : Prop where
  pg : PySem.W.plainGet K C Str.empty = true
  hd : PySem.W.hasDictIn K C = true
  po : PySem.W.plainOver K C = true
  sa : PySem.W.findIn K (.ref C) "__setattr__" = some (some (.builtin "object.__setattr__"))
theorem Cls.get {K : PySem.W.Frag} {C : Addr} (c : Cls K C) (f : Str) : PySem.W.plainGet K C f = true := c.pg
/-- a constant of the class -/
structure Con (K : PySem.W.Frag) (C : Addr) (f : Str) (v : V) (u : Value) : Prop where
  at_ : PySem.W.findIn K (.ref C) f = some (some u)
  rel : RelV v u
  get : PySem.W.specialIn K u "__get__" = some none
  cp : PySem.W.copiedNames.contains f = false
/-- a method: a plain def of the class or of one above it -/
structure Meth (K : PySem.W.Frag) (C : Addr) (m : Str) (f : Addr) : Prop where
  at_ : PySem.W.findIn K (.ref C) m = some (some (.ref f))
  fn : PySem.W.isFn K (.ref f) = true
  kp : PySem.W.keepIn K (.ref f) = true

section
variable {X : Cx} {pins : List (Addr × Obj)} {σ : St} {H : Hp} {s : Shared} {a C dx : Addr} {fs : List (Str × V)} {f : Str} {v : V} {A : Around} {E : Value → Shared → Prop}

/-- a new instance, tracked, without attributes -/
theorem Inv.made (I : Inv X pins σ H s) : Inv X pins σ (upd (upd H s.heap.objs.size (.own (s.heap.objs.size + 1))) (s.heap.objs.size + 1) (.ins C s.heap.objs.size []))
    { s with heap := (s.heap.push PySem.W.emptyDict).push (PySem.W.instObj C s.heap.objs.size) } := by
  have e1 : (s.heap.push PySem.W.emptyDict).get? s.heap.objs.size = some PySem.W.emptyDict := Heap.get?_push_size s.heap rfl
  have e2 : ((s.heap.push PySem.W.emptyDict).push (PySem.W.instObj C s.heap.objs.size)).get? (s.heap.objs.size + 1) = some (PySem.W.instObj C s.heap.objs.size) := by
    have := Heap.get?_push_size (s.heap.push PySem.W.emptyDict) (o := PySem.W.instObj C s.heap.objs.size) rfl
    rwa [Heap.size_push] at this
  have e3 : (s.heap.push PySem.W.emptyDict).Ns s.heap.objs.size (fun _ => none) := ⟨PySem.W.emptyDict, #[], _, e1, rfl, (fun e he => absurd he (by simp)), fun _ => rfl⟩
  have I1 := I.laid (a := s.heap.objs.size) (o := .own (s.heap.objs.size + 1)) (h' := s.heap.push PySem.W.emptyDict) (t' := s.toks) (fun b u q => Heap.get?_push_of_some _ q) (Nat.le_refl _) ⟨_, e1⟩
  refine I1.laid (a := s.heap.objs.size + 1) (o := .ins C s.heap.objs.size []) (t' := s.toks) (fun b u q => Heap.get?_push_of_some _ q) (Nat.le_of_eq (Heap.size_push _ _)) ?_
  have ne : s.heap.objs.size ≠ s.heap.objs.size + 1 := Nat.ne_of_lt (Nat.lt_succ_self _)
  refine ⟨by rw [upd_ne ne, upd_same], Nat.zero_le _, ne, e2, fun _ => none, (Heap.Ns1.of_empty e3).at fun o q => Heap.get?_push_of_some _ q, fun _ => True.intro, fun y hy => absurd rfl hy⟩

end

/-! ### readings and rules -/
section
variable {X : Cx} {o e value : Expr} {f : Str} {pos pos' tpos : Pos} {ta tv : TE}
end

/-! ### isinstance -/
section
variable {X : Cx} {pins : List (Addr × Obj)} {σ : St} {H : Hp} {s : Shared} {A : Around} {E : Value → Shared → Prop} {Q : Value → Shared → Prop} {c : Value} {b : Bool}
/-- the type of a value, as the fragment's deciders take it; for an instance its class -/
inductive TyOf (K : PySem.W.Frag) (H : Hp) : V → Value → Prop where
  | non : TyOf K H .non (.type "NoneType")
  | bl (x : Bool) : TyOf K H (.bl x) (.type "bool")
  | int (i : Int) : TyOf K H (.int i) (.type "int")
  | str (x : Str) : TyOf K H (.str x) (.type "str")
  | flt (x : UInt64) : TyOf K H (.flt x) (.type "float")
  | lst {a : Addr} {xs : List V} (e : H a = some (.lst xs)) : TyOf K H (.ref a) (.type "list")
  | frz {a : Addr} {o : Obj} {xs : List V} (e : H a = some (.frz o (.lst xs))) : TyOf K H (.ref a) (.type "list")
  | tup {a : Addr} {xs : List V} (e : H a = some (.tup xs)) : TyOf K H (.ref a) (.type "tuple")
  | dK {a : Addr} {kvs : List (Key × V)} (e : H a = some (.dK kvs)) : TyOf K H (.ref a) (.type "dict")
  | dT {a : Addr} {kvs : List (List Key × V)} (e : H a = some (.dT kvs)) : TyOf K H (.ref a) (.type "dict")
  | ins {a C dx : Addr} {fs : List (Str × V)} (e : H a = some (.ins C dx fs)) (cl : Cls K C) (ha : PySem.W.findIn K (.ref C) "__class__" = some (some (.builtin "object.__class__")))
      (hn : PySem.W.specialIn K (.builtin "object.__class__") "__get__" = some (some (.builtin "getset_descriptor.__get__"))) (htk : PySem.W.takesIn K (.builtin "object.__class__") = some true)
      (hm : PySem.W.mroIn K C (.type "object") = some true) : TyOf K H (.ref a) (.ref C)
/-- isinstance(x, c) for one class c, a built-in or an own one: kitOne's answer -/
theorem isinst_ok {x : V} {u t : Value} (I : Inv X pins σ H s) (rx : RelV x u) (ty : TyOf X.K H x t) (e : PySem.W.kitOne X.K t c = some b) (h : ∀ tk, Q (.bool b) { s with toks := tk }) :
    wpAny (model X.prog X.w) A (call (.builtin "isinstance") [u, c]) Q E s := by
  cases ty with
  | non => cases (show u = Value.none from rx); exact PySem.W.kia_one PySem.W.kitx_none I.kIn True.intro e (fun z => nomatch z) h
  | bl y => cases (show u = Value.bool y from rx); exact PySem.W.kia_one PySem.W.kitx_bool I.kIn True.intro e (fun z => nomatch z) h
  | int i => obtain ⟨t, q⟩ := (show ∃ t, u = Value.int i t from rx); cases q; exact PySem.W.kia_one PySem.W.kitx_int I.kIn True.intro e (fun z => nomatch z) h
  | str y => obtain ⟨t, q⟩ := (show ∃ t, u = Value.str y t from rx); cases q; exact PySem.W.kia_one PySem.W.kitx_str I.kIn True.intro e (fun z => nomatch z) h
  | flt y => obtain ⟨t, q⟩ := (show ∃ t, u = Value.float y t from rx); cases q; exact PySem.W.kia_one PySem.W.kitx_float I.kIn True.intro e (fun z => nomatch z) h
  | @lst a xs ea =>
    cases (show u = Value.ref a from rx)
    obtain ⟨_, _, n, _, h1⟩ := (show ObjOk X.prog X.w H s.heap a (.lst xs) from I.hok a _ ea)
    exact PySem.W.kia_one PySem.W.kitx_list I.kIn ⟨_, h1, rfl⟩ e (fun z => nomatch z) h
  | @frz a ob xs ea =>
    cases (show u = Value.ref a from rx)
    obtain ⟨_, _, _, n, _, h1⟩ := (show ObjOk X.prog X.w H s.heap a (.frz ob (.lst xs)) from I.hok a _ ea)
    exact PySem.W.kia_one PySem.W.kitx_list I.kIn ⟨_, h1, rfl⟩ e (fun z => nomatch z) h
  | @tup a xs ea =>
    cases (show u = Value.ref a from rx)
    obtain ⟨_, _, _, p⟩ := (show ObjOk X.prog X.w H s.heap a (.tup xs) from I.hok a _ ea)
    obtain ⟨o, h1, h2, _⟩ := p
    exact PySem.W.kia_one PySem.W.kitx_tuple I.kIn ⟨o, h1, h2⟩ e (fun z => nomatch z) h
  | @dK a kvs ea =>
    cases (show u = Value.ref a from rx)
    obtain ⟨_, _, vs, _, p⟩ := (show ObjOk X.prog X.w H s.heap a (.dK kvs) from I.hok a _ ea)
    obtain ⟨o, es, ep, h1, h2, _⟩ := p
    exact PySem.W.kia_one PySem.W.kitx_dict I.kIn ⟨o, h1, h2.1⟩ e (fun z => nomatch z) h
  | @dT a kvs ea =>
    cases (show u = Value.ref a from rx)
    obtain ⟨_, _, xs, _, o, es, ep, h1, h2, _⟩ := (show ObjOk X.prog X.w H s.heap a (.dT kvs) from I.hok a _ ea)
    exact PySem.W.kia_one PySem.W.kitx_dict I.kIn ⟨o, h1, h2.1⟩ e (fun z => nomatch z) h
  | @ins a C dx fs ea cl ha hn htk hm =>
    cases (show u = Value.ref a from rx)
    obtain ⟨mA, O, _⟩ := ins_get I.hok ea
    obtain ⟨od, J, _⟩ := O.look
    exact PySem.W.kia_one (PySem.W.kitx_own (cl.get _) cl.hd ha hn htk hm) I.kIn J e (fun z => nomatch z) h
end
end L2

namespace L2
open PySem PySem.Spec PyProof.Rows

/-! ### room -/
structure Room (ca : Bool) (k : Nat) (A : Around) : Prop where
  hd : ca = true → A.handled = none
  dp : A.depth + 3 * k + 5 < recursionLimit
  un : A.units + 16 * k + 200 < cLine
theorem Room.mono {ca : Bool} {j k : Nat} {A : Around} (r : Room ca k A) (h : j ≤ k) : Room ca j A := ⟨r.hd, by have := r.dp; omega, by have := r.un; omega⟩
theorem Room.deeper {ca : Bool} {k : Nat} {A : Around} (r : Room ca (k + 1) A) (env : Env) : Room ca k (A.deeper env) :=
  ⟨r.hd, by have := r.dp; show A.depth + 1 + 3 * k + 5 < _; omega, by have := r.un; show A.units + 3 + 16 * k + 200 < _; omega⟩
theorem Room.in1 {ca : Bool} {k : Nat} {A : Around} (r : Room ca (k + 1) A) : Room ca k A.in1 :=
  ⟨r.hd, by have := r.dp; show A.depth + 3 * k + 5 < _; omega, by have := r.un; show A.units + 1 + 16 * k + 200 < _; omega⟩
theorem make_depth {A : Around} {C : Addr} {us : List Value} {kw : List (Str × Value)} : (A.under (.builtin "type.__call__" ⟨.ref C :: us, kw⟩)).depth = A.depth + 1 := by
  first | rfl | simp [Around.under, Code.weight, Code.isCreation, Code.isGuard, Code.isCaller, Code.frames, Code.isFrame, guardIds]
theorem make_units {A : Around} {C : Addr} {us : List Value} {kw : List (Str × Value)} : (A.under (.builtin "type.__call__" ⟨.ref C :: us, kw⟩)).units = A.units + 1 := by
  first | rfl | simp [Around.under, Code.cUnits, Code.frames, Code.isFrame]
theorem Room.make {ca : Bool} {k : Nat} {A : Around} (r : Room ca (k + 1) A) (C : Addr) (us : List Value) (kw : List (Str × Value)) : Room ca k (A.under (.builtin "type.__call__" ⟨.ref C :: us, kw⟩)) :=
  ⟨r.hd, by have := r.dp; rw [make_depth]; omega, by have := r.un; rw [make_units]; omega⟩
theorem Room.depth {ca : Bool} {k : Nat} {A : Around} (r : Room ca k A) : A.depth < recursionLimit := by have := r.dp; omega
theorem Room.units {ca : Bool} {k : Nat} {A : Around} (r : Room ca k A) : A.units + 64 < cLine := by have := r.un; omega
/-! ### argument lists and displays -/
def tNil : TA := fun _ H Q => Q [] H
def tCons (ta : TE) (tr : TA) : TA := fun σ H Q => ta σ H fun x H1 => tr σ H1 fun xs H2 => Q (x :: xs) H2
section
variable {X : Cx} {e : Expr} {es : List Expr} {te : TE} {t : TA} {pos : Pos}
theorem pa_nil : PA X [] tNil := fun _ _ _ _ H Q I h => Calls.spliced_nil ⟨[], H, I, .nil, h⟩
theorem pa_cons (ha : PE X e te) (hr : PA X es t) (hs : starEach (e :: es) X.env = (false, eval e X.env) :: starEach es X.env := by rfl) : PA X (e :: es) (tCons te t) := by
  intro pos pins s σ H Q I h
  rw [hs]
  show wpAny _ _ (spliced ((false, eval e X.env) :: backTo pos (starEach es X.env))) _ _ s
  refine Calls.spliced_cons (thn (ha pins s σ H _ I h) fun u s1 ⟨x, H1, I1, r1, q1⟩ => ?_)
  exact thn (hr pos pins s1 σ H1 _ I1 q1) fun us s2 ⟨xs, H2, I2, r2, q2⟩ => ⟨x :: xs, H2, I2, .cons r1 r2, q2⟩

/-- a tuple, a list of written items -/
def tTup (t : TA) : TE := fun σ H Q => t σ H fun xs H1 => xs.length ≤ sizeLine ∧ ∀ p, H1 p = none → Q (.ref p) (upd H1 p (.tup xs))
def tLst (t : TA) : TE := fun σ H Q => t σ H fun xs H1 => xs.length ≤ sizeLine ∧ ∀ p, H1 p = none → Q (.ref p) (upd H1 p (.lst xs))
theorem pe_tup {x1} (h : PA X es t) : PE X (.Tuple es x1 pos) (tTup t) := by
  intro pins s σ H Q I hq
  refine wpAny_Tuple_spliced (thn (h pos pins s σ H _ I hq) fun us s1 ⟨xs, H1, I1, r, z, q⟩ => ⟨by rw [← r.length]; exact z, ?_⟩)
  have hf : H1 s1.heap.objs.size = none := I1.hok.fresh (Nat.le_refl _)
  refine ⟨.ref s1.heap.objs.size, upd H1 s1.heap.objs.size (.tup xs), I1.laid (t' := s1.toks) (fun b u e => Heap.get?_push_of_some _ e) (Nat.le_refl _) ?_, rfl, q _ hf⟩
  exact ⟨z, us, r, ⟨_, Heap.get?_push_size _ rfl, rfl, _, rfl⟩⟩
theorem pe_lst (h : PA X es t) : PE X (.List es pos) (tLst t) := by
  intro pins s σ H Q I hq
  refine wpAny_List_spliced (thn (h pos pins s σ H _ I hq) fun us s1 ⟨xs, H1, I1, r, z, q⟩ => ⟨by rw [← r.length]; exact z, ?_⟩)
  have hf : H1 s1.heap.objs.size = none := I1.hok.fresh (Nat.le_refl _)
  refine ⟨.ref s1.heap.objs.size, upd H1 s1.heap.objs.size (.lst xs), I1.laid (t' := s1.toks) (fun b u e => Heap.get?_push_of_some _ e) (Nat.le_refl _) ?_, rfl, q _ hf⟩
  exact ⟨z, us, 0, r, Heap.get?_push_size _ rfl⟩
end

/-! ### what a def promises -/
/-- a def's promise: the bound arguments in the parameters' order, the heap, the wanted end, the wanted exception -/
abbrev Sp := List V → Hp → VK → XK → Prop
/-- how an exception lies behind a call (file 08 gives it): the callers' frames, abstract heap and state ahead of the call, the wish, the exception, the state -/
abbrev CXT := List Env → Hp → Shared → XK → Value → Shared → Prop

/-- the state at a call -/
structure Env0 (P : Program) (w : World) (K : PySem.W.Frag) (mg : Str → Option Value) (base : Heap) (A : Around) (outer : List Env) (s : Shared) (H : Hp) : Prop where
  frames : A.frames = some outer
  mod : Mod K mg base
  bs : ∀ b o, base.get? b = some o → s.heap.get? b = some o ∧ H b = none
  bsz : base.objs.size ≤ s.heap.objs.size
  funs : s.heap.FunFrames base outer
  frf : ∀ b ∈ frs outer, H b = none
  hok : HOk P w H s.heap
  bare : AllBare s.gens
/-- a call's end -/
def CE (outer : List Env) (P : Program) (w : World) (H : Hp) (s : Shared) (Q : VK) (u : Value) (s' : Shared) : Prop :=
  ∃ v H', s'.os = s.os ∧ AllBare s'.gens ∧ Un (frs outer) [] H H' s.heap s'.heap ∧ HOk P w H' s'.heap ∧ RelV v u ∧ Q v H'
def CR (CX : CXT) (outer : List Env) (P : Program) (w : World) (H : Hp) (s : Shared) (Q : VK) (E : XK) (r : Result) (s' : Shared) : Prop :=
  match r with
  | .ok (.ret u) => CE outer P w H s Q u s'
  | .ok _ => False
  | .error e => CX outer H s E e s'
structure FnOk (P : Program) (w : World) (K : PySem.W.Frag) (mg : Str → Option Value) (base : Heap) (CX : CXT) (ca : Bool) (k : Nat) (f : Addr) (fd : FuncData) (ps : List Str) (sp : Sp) : Prop where
  len : ∀ vs H Q E, sp vs H Q E → vs.length = ps.length
  run : ∀ (A : Around) (outer : List Env) (s : Shared) (H : Hp) (args : Args) (us : List Value) (vs : List V) (Q : VK) (E : XK), Room ca k A → Env0 P w K mg base A outer s H → BindsTo s fd args (ps.zip us) → Vals vs us → sp vs H Q E →
    codeAny (model P w) A (.call (.ref f) args) (CR CX outer P w H s Q E) s
theorem FnOk.mono {P : Program} {w : World} {K : PySem.W.Frag} {mg : Str → Option Value} {base : Heap} {CX : CXT} {ca : Bool} {j k : Nat} {f : Addr} {fd : FuncData} {ps : List Str} {sp : Sp} (F : FnOk P w K mg base CX ca j f fd ps sp) (h : j ≤ k) :
    FnOk P w K mg base CX ca k f fd ps sp := ⟨F.len, fun A outer s H args us vs Q E hr => F.run A outer s H args us vs Q E (hr.mono h)⟩
/-- a weaker promise -/
theorem FnOk.imp {P : Program} {w : World} {K : PySem.W.Frag} {mg : Str → Option Value} {base : Heap} {CX : CXT} {ca : Bool} {k : Nat} {f : Addr} {fd : FuncData} {ps : List Str} {sp sp' : Sp} (F : FnOk P w K mg base CX ca k f fd ps sp)
    (h : ∀ vs H Q E, sp' vs H Q E → sp vs H Q E) : FnOk P w K mg base CX ca k f fd ps sp' :=
  ⟨fun vs H Q E q => F.len vs H Q E (h _ _ _ _ q), fun A outer s H args us vs Q E hr he hb hv hs => F.run A outer s H args us vs Q E hr he hb hv (h _ _ _ _ hs)⟩

theorem Env0.make {P : Program} {w : World} {K : PySem.W.Frag} {mg : Str → Option Value} {base : Heap} {A : Around} {outer : List Env} {s : Shared} {H : Hp} (e : Env0 P w K mg base A outer s H) (C : Addr) (us : List Value) (kw : List (Str × Value)) :
    Env0 P w K mg base (A.under (.builtin "type.__call__" ⟨.ref C :: us, kw⟩)) outer s H := ⟨by first | exact e.frames | (simpa [Around.under, Code.envs, Code.isFrame, pushEnvs] using e.frames), e.mod, e.bs, e.bsz, e.funs, e.frf, e.hok, e.bare⟩
theorem Env0.in1 {P : Program} {w : World} {K : PySem.W.Frag} {mg : Str → Option Value} {base : Heap} {A : Around} {outer : List Env} {s : Shared} {H : Hp} (e : Env0 P w K mg base A outer s H) :
    Env0 P w K mg base A.in1 outer s H := ⟨e.frames, e.mod, e.bs, e.bsz, e.funs, e.frf, e.hok, e.bare⟩

section
variable {X : Cx} {pins : List (Addr × Obj)} {σ : St} {H : Hp} {s s' : Shared}
/-- from a body: what a callee wants -/
theorem Inv.env0 (I : Inv X pins σ H s) : Env0 X.prog X.w X.K X.mg X.base X.A X.stack s H :=
  ⟨I.ok.frames, I.ok.mod, I.bs, Nat.le_trans I.ok.bsz I.sz, I.stack, I.stkFree, I.hok, I.bare⟩
/-- behind a call -/
theorem Inv.after {Q : VK} {u : Value} (I : Inv X pins σ H s) (h : CE X.stack X.prog X.w H s Q u s') : EP X pins σ Q u s' := by
  obtain ⟨v, H', os, bare, un, hok, r, q⟩ := h
  obtain ⟨hh, g, d, t, os'⟩ := s'
  obtain rfl : os' = s.os := os
  exact ⟨v, H', I.call (h' := hh) (g' := g) (d' := d) (t' := t) (ch := []) un hok bare (fun b z => absurd z (by simp)), r, q⟩
end

/-! ### calls -/
/-- how the parameters are bound: us the positional arguments, kw the keywords' values by name, ds the defaults that fill up -/
def Binds (K : PySem.W.Frag) (fd : FuncData) (ps : List Str) (ds : List Value) : Prop :=
  ∀ (s : Shared) (us : List Value), K.In s.heap → (us ++ ds).length = ps.length → BindsTo s fd ⟨us, []⟩ (ps.zip (us ++ ds))
/-- every parameter is given -/
theorem Binds.all {K : PySem.W.Frag} {fd : FuncData} {ps : List Str} (h : ∀ us : List Value, us.length = ps.length → bindArgs fd ⟨us, []⟩ = pure (ps.zip us)) : Binds K fd ps [] := fun s us _ hl => by
  rw [List.append_nil] at hl ⊢
  exact .of_eq (h us hl)

section
variable {X : Cx} {CX : CXT} {ca : Bool} {k : Nat} {f C : Addr} {fd : FuncData} {ps : List Str} {sp : Sp} {dvs : List V} {ds : List Value} {E : XK} {x m : Str} {p pos apos : Pos} {e o : Expr} {es : List Expr} {ta : TE} {t : TA}

/-- what a class must have to be made -/
structure Mk (K : PySem.W.Frag) (C f : Addr) : Prop where
  makes : PySem.W.makesIn K C = true
  init : PySem.W.findIn K (.ref C) "__init__" = some (some (.ref f))
  fn : PySem.W.isFn K (.ref f) = true
  kp : PySem.W.keepIn K (.ref C) = true

end

/-! ### keywords -/
section
variable {X : Cx} {CX : CXT} {ca : Bool} {k : Nat} {f C : Addr} {fd : FuncData} {ps ks : List Str} {sp : Sp} {E : XK} {x m : Str} {p pos apos kpos : Pos} {e o : Expr} {es : List Expr} {kws : List Keyword} {te ta : TE} {t tk : TA} {nm : Option Str}
/-- how a call with keywords binds: g puts the positional values us and the keywords' values ws (names ks) in the parameters' order, defaults among them -/
structure KBinds (K : PySem.W.Frag) (fd : FuncData) (ps ks : List Str) (g : List Value → List Value → List Value) (gV : List V → List V → List V) : Prop where
  to : ∀ (s : Shared) (us ws : List Value), K.In s.heap → (g us ws).length = ps.length → BindsTo s fd ⟨us, ks.zip ws⟩ (ps.zip (g us ws))
  rel : ∀ {vs : List V} {us : List Value} {zs : List V} {ws : List Value}, Vals vs us → Vals zs ws → Vals (gV vs zs) (g us ws)
variable {g : List Value → List Value → List Value} {gV : List V → List V → List V}
end

/-! ### a def's body keeps its promise -/
/-- names: the parameters first -/
structure FnScope (N P : List Str) (sc : Scope) : Prop where
  kind : sc.kind = .function
  co : sc.isCoroutine = false
  gen : sc.isGenerator = false
  nd : N.Nodup
  pre : N.take P.length = P
  par : ∀ x ∈ P, sc.names.lookup x = some .local ∨ sc.names.lookup x = some .cell
  nofree : ∀ y ∈ sc.names, y.2 ≠ .free

theorem bindL_out {kindOf : Str → Option NameKind} {x : Str} : ∀ {binds : List (Str × Value)} {m : Str → Option Value}, (∀ v, (x, v) ∉ binds) → bindL kindOf binds m x = m x
  | [], _, _ => rfl
  | (n, v) :: r, m, h => by
    unfold bindL
    rw [bindL_out fun w hw => h w (List.mem_cons_of_mem _ hw)]
    split
    · have : x ≠ n := by rintro rfl; exact h v List.mem_cons_self
      simp [this]
    · rfl
theorem bindC_out {kindOf : Str → Option NameKind} {x : Str} : ∀ {binds : List (Str × Value)} {m : Str → Option Value}, (∀ v, (x, v) ∉ binds) → bindC kindOf binds m x = m x
  | [], _, _ => rfl
  | (n, v) :: r, m, h => by
    unfold bindC
    rw [bindC_out fun w hw => h w (List.mem_cons_of_mem _ hw)]
    split
    · rfl
    · have : x ≠ n := by rintro rfl; exact h v List.mem_cons_self
      simp [this]
theorem bindL_get {kindOf : Str → Option NameKind} {x : Str} {v : Value} : ∀ {P : List Str} {vs : List Value} {i : Nat} {m : Str → Option Value}, P.Nodup → P[i]? = some x → vs[i]? = some v → kindOf x = some .local →
    bindL kindOf (P.zip vs) m x = some v
  | [], _, _, _, _, h, _, _ => by simp at h
  | _ :: _, [], _, _, _, _, h, _ => by simp at h
  | p :: P, w :: vs, 0, m, nd, h1, h2, hk => by
    simp at h1 h2; subst h1; subst h2
    show bindL kindOf ((p, w) :: P.zip vs) m p = _
    unfold bindL
    rw [bindL_out fun v hv => (List.nodup_cons.mp nd).1 (List.of_mem_zip hv).1, if_pos hk]
    simp
  | p :: P, w :: vs, i + 1, m, nd, h1, h2, hk => by
    show bindL kindOf ((p, w) :: P.zip vs) m x = _
    unfold bindL
    exact bindL_get (i := i) (List.nodup_cons.mp nd).2 (by simpa using h1) (by simpa using h2) hk
theorem bindC_get {kindOf : Str → Option NameKind} {x : Str} {v : Value} : ∀ {P : List Str} {vs : List Value} {i : Nat} {m : Str → Option Value}, P.Nodup → P[i]? = some x → vs[i]? = some v → kindOf x ≠ some .local →
    bindC kindOf (P.zip vs) m x = some v
  | [], _, _, _, _, h, _, _ => by simp at h
  | _ :: _, [], _, _, _, _, h, _ => by simp at h
  | p :: P, w :: vs, 0, m, nd, h1, h2, hk => by
    simp at h1 h2; subst h1; subst h2
    show bindC kindOf ((p, w) :: P.zip vs) m p = _
    unfold bindC
    rw [bindC_out fun v hv => (List.nodup_cons.mp nd).1 (List.of_mem_zip hv).1, if_neg hk]
    simp
  | p :: P, w :: vs, i + 1, m, nd, h1, h2, hk => by
    show bindC kindOf ((p, w) :: P.zip vs) m x = _
    unfold bindC
    exact bindC_get (i := i) (List.nodup_cons.mp nd).2 (by simpa using h1) (by simpa using h2) hk

/-- the names' values at the entry -/
def start (N : List Str) (vs : List V) : St := vs.map some ++ List.replicate (N.length - vs.length) none

/-- the context of a def's body, at its entry; an exception leaves the frame, then lies as CX says -/
def cxOf (CX : CXT) (ca : Bool) (P : Program) (w : World) (K : PySem.W.Frag) (mg : Str → Option Value) (base : Heap) (N : List Str) (qual : Str) (scope : Scope) (f : Addr) (cd : Value) (A : Around) (outer : List Env) (s : Shared) (H : Hp) (E : XK) : Cx where
  prog := P
  w := w
  K := K
  mg := mg
  base := base
  A := A.deeper (envOfC qual scope s.heap.objs.size f cd)
  N := N
  s₀ := s
  H₀ := H
  env := envOfC qual scope s.heap.objs.size f cd
  outer := outer
  stack := envOfC qual scope s.heap.objs.size f cd :: outer
  ex := []
  calm := ca
  fn := fun _ => true
  pn := []
  xe := fun e s' => wpAny (model P w) (A.deeper (envOfC qual scope s.heap.objs.size f cd)) (leaving (envOfC qual scope s.heap.objs.size f cd) e) (fun _ s'' => CX outer H s E e s'') (fun e' s'' => CX outer H s E e' s'') s'

theorem cell_has {sc : Scope} {n : Nat} {x : Str} (h : sc.names.lookup x = some .cell) : ∃ c, (cellsFrom n sc.names []).lookup x = some c := by
  have q := PySem.W.cellsFrom_some sc.names n [] (.inl h)
  exact Option.isSome_iff_exists.mp q

theorem inv_start {CX : CXT} {ca : Bool} {P : Program} {w : World} {K : PySem.W.Frag} {mg : Str → Option Value} {base : Heap} {N ps : List Str} {qual : Str} {scope : Scope} {f : Addr} {cd : Value} {A : Around} {outer : List Env} {s s1 : Shared} {H : Hp} {E : XK} {us : List Value} {vs : List V}
    (S : FnScope N ps scope) (hd : ca = true → A.handled = none) (e0 : Env0 P w K mg base A outer s H) (hl : vs.length = ps.length) (r : Vals vs us)
    (x : InCallC s s.heap.objs.size (bindL (envOfC qual scope s.heap.objs.size f cd).kindOf (ps.zip us) fun _ => none) (cellsFrom (s.heap.objs.size + 1) scope.names []) (bindC (envOfC qual scope s.heap.objs.size f cd).kindOf (ps.zip us) fun _ => none) s1) :
    Inv (cxOf CX ca P w K mg base N qual scope f cd A outer s H E) [] (start N vs) H s1 := by
  have hpl : ps.length ≤ N.length := by have := congrArg List.length S.pre; rw [List.length_take] at this; omega
  obtain ⟨h1, tk, rfl, hk⟩ := x.done
  have noA : ∀ b : Addr, b ∉ (cxOf CX ca P w K mg base N qual scope f cd A outer s H E).ex := fun b z => absurd (show b ∈ ([] : List Addr) from z) (by simp)
  refine ⟨⟨e0.mod, S.kind, rfl, rfl, Nat.le_refl _, fun y z c h1 h2 => ?_, fun y hy => ?_, fun y c _ h => ?_, fun z => hd z, Around.frames_deeper e0.frames, .inr ⟨rfl, rfl⟩, fun b z => absurd z (noA b), e0.bs, e0.bsz, fun b _ _ => noA b, fun b z => absurd z (noA b), e0.funs, e0.frf⟩,
    rfl, e0.bare, Un.kept hk, ⟨_, x.toInCall.ns, fun i y v h1 h2 h3 => ?_⟩, fun y c h => ⟨_, x.cell y c h⟩, e0.hok.fresh (Nat.le_refl _), fun y c h => ?_, fun p hp => absurd (show p ∈ ([] : List (Addr × Obj)) from hp) (by simp), e0.hok.kept hk, ?_⟩
  · exact name_of_addr x.apart (PySem.mem_of_lookup h1) (PySem.mem_of_lookup h2)
  · have hy : scope.names.lookup y = some .cell ∨ scope.names.lookup y = some .free := hy
    rcases hy with hy | hy
    · exact cell_has hy
    · exact absurd rfl (S.nofree _ (PySem.mem_of_lookup hy))
  · exact Nat.le_of_lt (x.above y c (PySem.mem_of_lookup h))
  · have hi : i < vs.length := by
      unfold start at h2
      by_cases hi : i < vs.length
      · exact hi
      · rw [List.getElem?_append_right (by simpa using hi)] at h2
        rw [List.getElem?_replicate] at h2
        split at h2 <;> cases h2
    have ha : vs[i]? = some v := by
      unfold start at h2
      rw [List.getElem?_append_left (by simpa using hi), List.getElem?_map] at h2
      cases e : vs[i]? with
      | none => rw [e] at h2; cases h2
      | some a => rw [e] at h2; cases h2; rfl
    obtain ⟨u, hu, rv⟩ := r.get ha
    have hp : ps[i]? = some y := by
      rw [← S.pre, List.getElem?_take_of_lt (by omega)]; exact h1
    have ndP : ps.Nodup := by rw [← S.pre]; exact S.nd.sublist (List.take_sublist _ _)
    refine ⟨u, rv, ?_⟩
    rcases S.par y (List.mem_of_getElem? hp) with k | k
    · exact .inl ⟨k, bindL_get ndP hp hu k⟩
    · obtain ⟨c, e⟩ := cell_has (n := s.heap.objs.size + 1) k
      refine .inr ⟨.inl k, c, e, ?_⟩
      have q := x.cell y c e
      rw [bindC_get ndP hp hu (by show scope.names.lookup y ≠ _; rw [k]; decide)] at q
      exact q
  · exact e0.hok.fresh (Nat.le_of_lt (x.above y c (PySem.mem_of_lookup h)))
  · unfold start
    show _ = N.length
    rw [List.length_append, List.length_map, List.length_replicate]
    omega

/-- THE RULE: a def (or a method) of the text, by its body. The body's reading t is chosen for each entry; it is run at the parameters' values -/
theorem fn_of {CX : CXT} {ca : Bool} {P : Program} {w : World} {K : PySem.W.Frag} {mg : Str → Option Value} {base : Heap} {k : Nat} {f : Addr} {name qual : Str} {params : Arguments} {body : List Stmt} {scope : Scope} {dV kV doc pm cdv ct oc : Value} {an od : Option Addr}
    {osl : Array (Option Value)} {N ps : List Str} {sp : Sp} (lk : K.lookup f = some ⟨oc, od, .func (PySem.W.fnOf name qual params body scope dV kV doc pm an cdv ct), osl⟩) (hcd : PySem.W.codeIn K cdv qual = true) (S : FnScope N ps scope)
    (len : ∀ vs H Q E, sp vs H Q E → vs.length = ps.length)
    (hbody : ∀ (A : Around) (outer : List Env) (s : Shared) (H : Hp) (vs : List V) (Q : VK) (E : XK), Room ca k (A.deeper (envOfC qual scope s.heap.objs.size f cdv)) → sp vs H Q E →
      ∃ t, PSs (cxOf CX ca P w K mg base N qual scope f cdv A outer s H E) body t ∧ t { nx := fun _ H' => Q .non H', rt := Q } (start N vs) H) :
    FnOk P w K mg base CX ca (k + 1) f (PySem.W.fnOf name qual params body scope dV kV doc pm an cdv ct) ps sp := by
  refine ⟨len, fun A outer s H args us vs Q E hr e0 hb r hsp => ?_⟩
  have hl := len _ _ _ _ hsp
  have KX : K.In s.heap := e0.mod.kin.keeps fun b o e => (e0.bs b o e).1
  have lim : s.heap.NoLimit := e0.mod.nolimit.keeps fun b o e => (e0.bs b o e).1
  have hkind : ∀ y ∈ ps.zip us, scope.names.lookup y.1 = some .local ∨ (scope.names.lookup y.1 = some .cell ∧ ((cellsFrom (s.heap.objs.size + 1) scope.names []).lookup y.1).isSome = true) := fun ⟨n, v⟩ hy => by
    rcases S.par n (List.of_mem_zip hy).1 with q | q
    · exact .inl q
    · exact .inr ⟨q, PySem.W.cellsFrom_some _ _ _ (.inl q)⟩
  refine codeAny_call_function hr.depth (KX _ _ lk) rfl S.co S.gen rfl (PySem.W.codeRec_of KX hcd) (hb _ _ _ _ ?_)
  refine wpAny_newFunctionEnv_cells S.kind hkind fun env he s1 x => ?_
  subst he
  refine ⟨lim.keeps x.toInCall.keep, codeAny_func ?_⟩
  obtain ⟨t, ht, hq⟩ := hbody A outer s H vs Q E (hr.deeper _) hsp
  have I : Inv (cxOf CX ca P w K mg base N qual scope f cdv A outer s H E) [] (start N vs) H s1 := inv_start S hr.hd e0 hl r x
  refine wpAny_mono (ht [] s1 (start N vs) H _ I hq) (fun fl s' hs => ?_) fun e s' hs => hs
  have fin : ∀ {σ' : St} {H' : Hp} {v : V} {u : Value}, Inv (cxOf CX ca P w K mg base N qual scope f cdv A outer s H E) [] σ' H' s' → RelV v u → Q v H' → CE outer P w H s Q u s' :=
    fun {σ' H' v u} J rv q => ⟨v, H', J.os, J.bare, J.base, J.hok, rv, q⟩
  cases fl with
  | ret u =>
    obtain ⟨v, σ', H', J, rv, q⟩ := hs
    exact fin J rv q
  | next =>
    obtain ⟨σ', H', J, q⟩ := hs
    exact fin (v := V.non) (u := Value.none) J rfl q
  | brk =>
    obtain ⟨_, _, _, q⟩ := hs
    exact False.elim q
  | cont =>
    obtain ⟨_, _, _, q⟩ := hs
    exact False.elim q
end L2

namespace L2
open PySem PySem.Spec PyProof.Rows
section
variable {X : Cx} {x : Str} {p pos : Pos} {e : Expr} {es : List Expr} {t : TA} {id T : String} {r : List V → Hp → VK → Prop}

def tCB (r : List V → Hp → VK → Prop) (t : TA) : TE := fun σ H Q => t σ H fun vs H1 => r vs H1 Q
/-- f(e, ..), f a built-in function -/
theorem pe_callB (hc : CallR X (.builtin id) r) (hg : Gl X x) (hm : X.mg x = none) (hv : bootBuiltins x = some (.builtin id)) (ha : PA X (e :: es) t) (hn : x ≠ "__name__" := by decide) (hdb : (x == ("__debug__" : Str)) = false := by decide)
    (he : starEach (e :: es) X.env = (false, eval e X.env) :: starEach es X.env := by rfl) (hpl : (backTo pos (starEach es X.env)).any (·.1) = false := by rfl) : PE X (.Call (.Name x p) (e :: es) [] pos) (tCB r t) := by
  intro pins s σ H Q I h
  refine wpAny_Call_Name_kw (ld_blt I hg hm hv ?_ hn hdb)
  exact PyProof.Rows.callWith_builtin1 (thn (ha pos pins s σ H _ I h) fun us s1 ⟨vs, H1, I1, r1, q1⟩ => hc pins s1 σ H1 vs us Q I1 r1 q1) he hpl
/-- T(e, ..), T a built-in type -/
theorem pe_callTy (hc : CallR X (.type T) r) (hg : Gl X x) (hm : X.mg x = none) (hv : bootBuiltins x = some (.type T)) (ha : PA X (e :: es) t) (hn : x ≠ "__name__" := by decide) (hdb : (x == ("__debug__" : Str)) = false := by decide)
    (he : starEach (e :: es) X.env = (false, eval e X.env) :: starEach es X.env := by rfl) (hpl : (backTo pos (starEach es X.env)).any (·.1) = false := by rfl) : PE X (.Call (.Name x p) (e :: es) [] pos) (tCB r t) := by
  intro pins s σ H Q I h
  refine wpAny_Call_Name_kw (ld_blt I hg hm hv ?_ hn hdb)
  exact PyProof.Rows.callWith_type1 (thn (ha pos pins s σ H _ I h) fun us s1 ⟨vs, H1, I1, r1, q1⟩ => hc pins s1 σ H1 vs us Q I1 r1 q1) he hpl
end
end L2

namespace HT
open PySem PyProof.Rows

section
open PySem.SeqAt
open PySem.AutoSeq1 (wpAny_loadPart')
open PySem.MeetsSeq PySem.MeetsSeq2 PySem.MeetsSeq3

end

section
variable {prog : Program} {w : World} {A : Around} {E : Value → Shared → Prop} {s : Shared}

/-! ### t[a:b], not the whole -/
/-- a slice's bound as a place among n (d where it is left out) -/
def sIx (n d : Nat) : Option Int → Nat
  | none => d
  | some v => if v < 0 then (v + (n : Int)).toNat else min v.toNat n
end
end HT

namespace L2
open PySem PySem.Spec PyProof.Rows

/-! ### the parts of a slice -/
abbrev TO := St → Hp → (Option Int → Hp → Prop) → Prop
/-- a slice's part (left out, or an int) -/
def PO (X : Cx) (e : Option Expr) (t : TO) : Prop :=
  ∀ (pins : List (Addr × Obj)) (s : Shared) (σ : St) (H : Hp) (Q : Option Int → Hp → Prop), Inv X pins σ H s → t σ H Q →
    wpAny (model X.prog X.w) X.A (evalPart e X.env) (fun u s' => ∃ o H', Inv X pins σ H' s' ∧ IsPart u o ∧ Q o H') X.xe s
def tNoPart : TO := fun _ H Q => Q none H
section
variable {X : Cx} {e : Expr} {te : TE} {lo hi : Option Expr} {tl th : TO} {pos p2 : Pos}

theorem po_none : PO X none tNoPart := by
  intro pins s σ H Q I h
  rw [evalPart_none]
  exact wpAny_pure ⟨none, H, I, .none, h⟩
/-- what a slice of a value is, by values: the slice object stands at sl -/
def SlR (X : Cx) (r : V → Option Int → Option Int → Hp → VK → Prop) : Prop :=
  ∀ (pins : List (Addr × Obj)) (s : Shared) (σ : St) (H : Hp) (x : V) (v vl vu : Value) (lo hi : Option Int) (sl : Addr) (Q : VK), Inv X pins σ H s → RelV x v → s.heap.IsSliceOf sl vl vu .none → IsPart vl lo → IsPart vu hi → r x lo hi H Q →
    ∃ T id, typeLookup (.type T) "__getitem__" = pure (some (.builtin id)) ∧ s.TypeIs v T ∧ wpAny (model X.prog X.w) X.A (getItem v (.ref sl)) (EP X pins σ Q) X.xe s
theorem SlR.or {r r' : V → Option Int → Option Int → Hp → VK → Prop} (h : SlR X r) (h' : SlR X r') : SlR X (fun x lo hi H Q => r x lo hi H Q ∨ r' x lo hi H Q) := by
  intro pins s σ H x v vl vu lo hi sl Q I rx hs pl pu q
  rcases q with q | q
  · exact h pins s σ H x v vl vu lo hi sl Q I rx hs pl pu q
  · exact h' pins s σ H x v vl vu lo hi sl Q I rx hs pl pu q
def tSl (r : V → Option Int → Option Int → Hp → VK → Prop) (te : TE) (tl th : TO) : TE := fun σ H Q => te σ H fun x H1 => tl σ H1 fun l H2 => th σ H2 fun u H3 => r x l u H3 Q
/-- a[lo:hi], any a -/
theorem pe_slice {r : V → Option Int → Option Int → Hp → VK → Prop} (hr : SlR X r) (he : PE X e te) (hl : PO X lo tl) (hu : PO X hi th) : PE X (.Subscript e (.Slice lo hi none p2) pos) (tSl r te tl th) := by
  intro pins s σ H Q I h
  refine Subscript_ (thn (he pins s σ H _ I h) fun v s1 ⟨x, H1, I1, r1, q1⟩ => ?_)
  refine wpAny_Slice (thn (hl pins s1 σ H1 _ I1 q1) fun vl s2 ⟨l, H2, I2, pl, q2⟩ => thn (hu pins s2 σ H2 _ I2 q2) fun vu s3 ⟨u, H3, I3, pu, q3⟩ => ?_)
  rw [evalPart_none]
  refine wpAny_pure ?_
  have I4 : Inv X pins σ H3 { s3 with heap := s3.heap.push { cls := .type "slice", data := .fields #[vl, vu, .none] } } := I3.kept (t' := s3.toks) fun b ob q => Heap.get?_push_of_some _ q
  obtain ⟨T, id, hT, ht, hg⟩ := hr pins { s3 with heap := s3.heap.push { cls := .type "slice", data := .fields #[vl, vu, .none] } } σ H3 x v vl vu l u s3.heap.objs.size Q I4 r1 (Heap.IsSliceOf.new ..) pl pu q3
  show wpAny (model X.prog X.w) X.A (subscriptTail e (.Slice lo hi none p2) v (.ref s3.heap.objs.size)) (EP X pins σ Q) X.xe { s3 with heap := s3.heap.push { cls := .type "slice", data := .fields #[vl, vu, .none] } }
  exact tail_any (ops := [.ref s3.heap.objs.size, v]) ht hT hg (by with_unfolding_all rfl)

/-- the items of xs[lo:hi] -/
def cutV (xs : List V) (lo hi : Option Int) : List V := (xs.drop (HT.sIx xs.length 0 lo)).take (HT.sIx xs.length xs.length hi - HT.sIx xs.length 0 lo)
theorem cutV_length (xs : List V) (lo hi : Option Int) : (cutV xs lo hi).length ≤ xs.length := by
  unfold cutV
  rw [List.length_take, List.length_drop]
  omega
/-! ### t < u, t + u -/
end
end L2

namespace L2
open PySem PySem.Spec PyProof.Rows

/-! ### places -/
/-- the place that an index of any sign means -/
def ixN (n : Nat) (i : Int) : Option Nat := if 0 ≤ i then (if i < n then some i.toNat else none) else if -(n : Int) ≤ i then some (i + n).toNat else none
def atI {α : Type} (xs : List α) (i : Int) : Option α := (ixN xs.length i).bind fun j => xs[j]?
theorem ixN_seq {n : Nat} {i : Int} {j : Nat} (h : ixN n i = some j) : seqIndex? i n = some j ∧ j < n ∧ -(n : Int) ≤ i ∧ i < n := by
  unfold ixN at h
  by_cases h0 : 0 ≤ i
  · rw [if_pos h0] at h
    by_cases h1 : i < n
    · rw [if_pos h1] at h
      have e : i.toNat = j := Option.some.inj h
      exact ⟨by rw [seqIndex_of h0 h1, e], by omega, by omega, h1⟩
    · rw [if_neg h1] at h; cases h
  · rw [if_neg h0] at h
    by_cases h1 : -(n : Int) ≤ i
    · rw [if_pos h1] at h
      have e : (i + n).toNat = j := Option.some.inj h
      exact ⟨by rw [seqIndex_neg (by omega) h1, e], by omega, h1, by omega⟩
    · rw [if_neg h1] at h; cases h
theorem atI_get {α : Type} {xs : List α} {i : Int} {v : α} (h : atI xs i = some v) : ∃ j, seqIndex? i xs.length = some j ∧ xs[j]? = some v ∧ j < xs.length ∧ -(xs.length : Int) ≤ i ∧ i < xs.length := by
  unfold atI at h
  cases e : ixN xs.length i with
  | none => rw [e] at h; cases h
  | some j =>
    rw [e] at h
    obtain ⟨h1, h2, h3, h4⟩ := ixN_seq e
    exact ⟨j, h1, h, h2, h3, h4⟩
theorem atI_nat {α : Type} {xs : List α} {j : Nat} {v : α} (h : xs[j]? = some v) : atI xs (j : Int) = some v := by
  have hj : j < xs.length := (List.getElem?_eq_some_iff.mp h).1
  have e : ixN xs.length (j : Int) = some j := by
    unfold ixN
    rw [if_pos (by omega), if_pos (by omega)]; simp
  unfold atI; rw [e]; exact h
/-! ### what may be subscripted -/
/-- what stands as an index of a plain subscript -/
def PlainIx (b : Expr) : Prop := ∀ o i, subscripted b false o i = operate [o, i] (getItem o i)
/-- a subscript by values -/
def IxR (X : Cx) (r : R2) : Prop :=
  ∀ (value slice : Expr) (pins : List (Addr × Obj)) (s : Shared) (σ : St) (H : Hp) (x y : V) (v u : Value) (Q : VK), Inv X pins σ H s → RelV x v → RelV y u → r x y H Q →
    subscripted slice false v u = operate [v, u] (getItem v u) → wpAny (model X.prog X.w) X.A (subscriptTail value slice v u) (EP X pins σ Q) X.xe s
/-- a call of a builtin's method by values: the receiver, the arguments -/
def MtR (X : Cx) (id : String) (r : V → List V → Hp → VK → Prop) : Prop :=
  ∀ (pins : List (Addr × Obj)) (s : Shared) (σ : St) (H : Hp) (x : V) (xs : List V) (v : Value) (us : List Value) (Q : VK), Inv X pins σ H s → RelV x v → Vals xs us → r x xs H Q →
    wpAny (model X.prog X.w) X.A (call (.builtin id) (v :: us)) (EP X pins σ Q) X.xe s
section
variable {X : Cx} {a b : Expr} {ta tb : TE} {pos : Pos}
theorem IxR.or {r r' : R2} (h : IxR X r) (h' : IxR X r') : IxR X (fun x y H Q => r x y H Q ∨ r' x y H Q) := by
  intro value slice pins s σ H x y v u Q I rx ry q hs
  rcases q with q | q
  · exact h value slice pins s σ H x y v u Q I rx ry q hs
  · exact h' value slice pins s σ H x y v u Q I rx ry q hs
theorem MtR.or {id : String} {r r' : V → List V → Hp → VK → Prop} (h : MtR X id r) (h' : MtR X id r') : MtR X id (fun x xs H Q => r x xs H Q ∨ r' x xs H Q) := by
  intro pins s σ H x xs v us Q I rx rs q
  rcases q with q | q
  · exact h pins s σ H x xs v us Q I rx rs q
  · exact h' pins s σ H x xs v us Q I rx rs q
/-- a[b] -/
theorem pe_ix {r : R2} (hr : IxR X r) (ha : PE X a ta) (hb : PE X b tb) (hs : PlainIx b) : PE X (.Subscript a b pos) (tOp r ta tb) := by
  intro pins s σ H Q I h
  exact Subscript_ (binT ha hb I h fun v u s2 x y H2 I2 rx ry q => hr a b pins s2 σ H2 x y v u Q I2 rx ry q (hs _ _))

def rIxL (K : PySem.W.Frag) : R2 := fun x y H Q => ∃ p xs i v, x = .ref p ∧ y = .int i ∧ SqL K H p xs ∧ atI xs i = some v ∧ Q v H
def rIxT (K : PySem.W.Frag) : R2 := fun x y H Q => ∃ p xs i v, x = .ref p ∧ y = .int i ∧ SqT K H p xs ∧ atI xs i = some v ∧ Q v H
def rIxS : R2 := fun x y H Q => ∃ z i c, x = .str z ∧ y = .int i ∧ z.length ≤ sizeLine ∧ atI z.cps.toList i = some c ∧ Q (.str ⟨#[c]⟩) H
theorem ix_list : IxR X (rIxL X.K) := by
  intro value slice pins s σ H x y v u Q I rx ry h hs
  obtain ⟨p, xs, i, z, rfl, rfl, hq, he, q⟩ := h
  cases rx
  obtain ⟨t, rfl⟩ := ry
  obtain ⟨its, r, pl, hz⟩ := I.list hq
  obtain ⟨j, h1, h2, h3, h4, h5⟩ := atI_get he
  obtain ⟨w, ew, rw'⟩ := r.get h2
  have hl := r.length
  have hn := line63
  have fin : EP X pins σ Q w s := ⟨z, H, I, rw', q⟩
  by_cases h0 : 0 ≤ i
  · have hj : i.toNat = j := by
      rw [seqIndex_of h0 h5] at h1
      exact Option.some.inj h1
    exact item_listR pl.isList h0 (by omega) (by rw [hj]; simpa using ew) fin hs
  · have hj : (i + (its.toArray.size : Int)).toNat = j := by
      rw [seqIndex_neg (by omega) h4] at h1
      rw [List.size_toArray, ← hl]
      exact Option.some.inj h1
    exact subscriptTail_builtinR (x := w) pl.isList.typeIs slot_list_getitem.lookup
      (wpAny_getItem_list_neg (Q := fun r s' => r = w ∧ EP X pins σ Q r s') pl.isList (by omega) (by rw [List.size_toArray] <;> omega) (by omega) (by rw [hj]; simpa using ew) ⟨rfl, fin⟩) hs
theorem ix_tup : IxR X (rIxT X.K) := by
  intro value slice pins s σ H x y v u Q I rx ry h hs
  obtain ⟨p, xs, i, z, rfl, rfl, hq, he, q⟩ := h
  cases rx
  obtain ⟨t, rfl⟩ := ry
  obtain ⟨its, r, pl, hz⟩ := I.tuple hq
  obtain ⟨j, h1, h2, h3, h4, h5⟩ := atI_get he
  obtain ⟨w, ew, rw'⟩ := r.get h2
  have hl := r.length
  have hn := line63
  have fin : EP X pins σ Q w s := ⟨z, H, I, rw', q⟩
  exact subscriptTail_builtinR (x := w) pl.typeIs slot_tuple_getitem.lookup
    (getItem_tuple (j := j) (Q := fun r s' => r = w ∧ EP X pins σ Q r s') pl (by omega) (by omega) (by rw [List.size_toArray, ← hl]; exact h1) (by simpa using ew) ⟨rfl, fin⟩) hs
theorem ix_str : IxR X rIxS := by
  intro value slice pins s σ H x y v u Q I rx ry h hs
  obtain ⟨z, i, c, rfl, rfl, hz, he, q⟩ := h
  obtain ⟨t, rfl⟩ := rx
  obtain ⟨t', rfl⟩ := ry
  obtain ⟨j, h1, h2, h3, h4, h5⟩ := atI_get he
  have hl : z.cps.toList.length = z.length := by simp [Str.length]
  rw [hl] at h1 h4 h5
  have hn := line63
  exact tail_any (typeIs_str s z t) slot_str_getitem.lookup (getItem_str (c := c) (by
    have e1 : decide (i < -(2 ^ 63 : Int)) = false := decide_eq_false (by omega)
    have e2 : decide (i ≥ 2 ^ 63) = false := decide_eq_false (by omega)
    rw [e1, e2, Bool.or_false]) (by rw [h1]; simpa using h2) ⟨.str ⟨#[c]⟩, H, I.tok _, ⟨_, rfl⟩, q⟩) hs
/-! ### xs[i] = v, any sign -/
/-- the list's object behind a store -/
theorem mapSeq_set (its : List Value) (n j : Nat) (u : Value) : Obj.mapSeq (·.setIfInBounds j u) { cls := .type "list", data := .seq its.toArray n } = { cls := .type "list", data := .seq (its.set j u).toArray n } := by
  simp [Obj.mapSeq]
theorem Inv.lst {pins : List (Addr × Obj)} {σ : St} {H : Hp} {s : Shared} {p : Addr} {xs : List V} (I : Inv X pins σ H s) (h : H p = some (.lst xs)) :
    ∃ (its : List Value) (n : Nat), Vals xs its ∧ s.heap.get? p = some { cls := .type "list", data := .seq its.toArray n } ∧ xs.length ≤ sizeLine := by
  obtain ⟨z, its, n, r, e⟩ := I.hok p _ h
  exact ⟨its, n, r, e, z⟩
/-- the list at p is written by an update of its object -/
theorem Inv.lstUpd {pins : List (Addr × Obj)} {σ : St} {H : Hp} {s : Shared} {p : Addr} {xs ys : List V} {its its' : List Value} {n n' : Nat} {f : Obj → Obj} (I : Inv X pins σ H s) (h : H p = some (.lst xs))
    (ho : s.heap.get? p = some { cls := .type "list", data := .seq its.toArray n }) (hf : f { cls := .type "list", data := .seq its.toArray n } = { cls := .type "list", data := .seq its'.toArray n' }) (r : Vals ys its') (hz : ys.length ≤ sizeLine) (t : Nat) :
    Inv X pins σ (upd H p (.lst ys)) { s with heap := s.heap.update p f, toks := t } := by
  have e : (s.heap.update p f).get? p = some { cls := .type "list", data := .seq its'.toArray n' } := by
    rw [Heap.get?_update_self f ho (by rw [hf] <;> rfl), hf]
  refine I.write (x := p) (e := p) (by rw [h]; trivial) (.inl rfl) (fun b u hb q => (Heap.get?_update_other _ _ (Ne.symm hb)).trans q) ⟨_, e⟩ ?_
  exact ⟨hz, its', n', r, e⟩
def rSetL : V → V → V → Hp → (Hp → Prop) → Prop := fun o i v H Q => ∃ p xs k j, o = .ref p ∧ i = .int k ∧ H p = some (.lst xs) ∧ ixN xs.length k = some j ∧ Q (upd H p (.lst (xs.set j v)))
theorem set_list : PSet X rSetL := by
  intro pins s σ H o i v ov iv u Q I ro ri rv h
  obtain ⟨p, xs, k, j, rfl, rfl, hp, hj, q⟩ := h
  cases ro
  obtain ⟨t, rfl⟩ := ri
  obtain ⟨its, n, r, ho, hz⟩ := I.lst hp
  obtain ⟨h1, h2, h3, h4⟩ := ixN_seq hj
  have hl := r.length
  have hn := line63
  have I' : Inv X pins σ (upd H p (.lst (xs.set j v))) { s with heap := s.heap.update p (Obj.mapSeq (·.setIfInBounds j u)) } :=
    I.lstUpd hp ho (mapSeq_set its n j u) (r.set rv j) (by rw [List.length_set]; exact hz) s.toks
  by_cases h0 : 0 ≤ k
  · have hk : k.toNat = j := by
      rw [seqIndex_of h0 h4] at h1
      exact Option.some.inj h1
    exact PySem.W.ki_setAt ho h0 (by omega) (by rw [List.size_toArray, ← hl]; exact h4) (by rw [hk]; exact ⟨_, I', q⟩)
  · have hk : (k + (its.toArray.size : Int)).toNat = j := by
      rw [seqIndex_neg (by omega) h3] at h1
      rw [List.size_toArray, ← hl]
      exact Option.some.inj h1
    exact PySem.W.ki_setBack ho (by omega) (by rw [List.size_toArray, ← hl]; exact h3) (by omega) (by rw [hk]; exact ⟨_, I', q⟩)

/-! ### slices -/
theorem slice_bounds (lo hi : Option Int) (n : Nat) : (sliceBounds lo hi none n).1 = ((HT.sIx n 0 lo : Nat) : Int) ∧ (sliceBounds lo hi none n).2.1 = ((HT.sIx n n hi : Nat) : Int) ∧ (sliceBounds lo hi none n).2.2 = 1 := by
  refine ⟨?_, ?_, rfl⟩
  · cases lo with
    | none => simp [sliceBounds, HT.sIx]
    | some i =>
      simp only [sliceBounds, HT.sIx, Option.getD_none, show (1 : Int) > 0 by decide, if_true]
      by_cases h : i < 0
      · simp only [h, if_true] <;> omega
      · simp only [h, if_false] <;> omega
  · cases hi with
    | none => simp [sliceBounds, HT.sIx]
    | some i =>
      simp only [sliceBounds, HT.sIx, Option.getD_none, show (1 : Int) > 0 by decide, if_true]
      by_cases h : i < 0
      · simp only [h, if_true] <;> omega
      · simp only [h, if_false] <;> omega
theorem slicePick_cut (its : List Value) (lo hi : Option Int) : slicePick its.toArray lo hi none = ((its.drop (HT.sIx its.length 0 lo)).take (HT.sIx its.length its.length hi - HT.sIx its.length 0 lo)).toArray := by
  obtain ⟨h1, h2, h3⟩ := slice_bounds lo hi its.toArray.size
  unfold slicePick
  rw [h1, h2, h3]
  simp only [sliceRange_one, pick_run, List.size_toArray] <;> rfl
/-- xs[lo:hi] of a list: a new list -/
def rSlL (K : PySem.W.Frag) : V → Option Int → Option Int → Hp → VK → Prop := fun x lo hi H Q => ∃ a xs, x = .ref a ∧ SqL K H a xs ∧ ∀ p, H p = none → Q (.ref p) (upd H p (.lst (cutV xs lo hi)))
theorem sl_list : SlR X (rSlL X.K) := by
  intro pins s σ H x v vl vu lo hi sl Q I rx hs pl pu h
  obtain ⟨a, xs, rfl, hx, q⟩ := h
  cases rx
  obtain ⟨its, r, ht, hz⟩ := I.list hx
  have hlen := r.length
  refine ⟨"list", _, slot_list_getitem.lookup, ht.isList.typeIs, ?_⟩
  refine wpAny_getItem_list_slice ht.isList hs pl pu .none (by simp) ?_ (by rw [List.size_toArray] <;> omega)
  rw [slicePick_cut, ← hlen]
  refine ⟨.ref s.heap.objs.size, _, I.laid (t' := s.toks) (o := .lst (cutV xs lo hi)) (fun b ob q => Heap.get?_push_of_some _ q) (Nat.le_refl _) ?_, rfl, q _ (I.hok.fresh (Nat.le_refl _))⟩
  exact ⟨Nat.le_trans (cutV_length xs lo hi) hz, _, 0, (r.drop (HT.sIx xs.length 0 lo)).take (HT.sIx xs.length xs.length hi - HT.sIx xs.length 0 lo), Heap.get?_push_size _ rfl⟩

/-! ### in, not in: flat items -/
def flatV : V → Bool
  | .non => true
  | .bl _ => true
  | .int _ => true
  | .str _ => true
  | _ => false
/-- == of flat values -/
def eqV : V → V → Bool
  | .non, .non => true
  | .bl a, .bl b => a == b
  | .bl a, .int b => (if a then 1 else 0) == b
  | .int a, .bl b => a == (if b then 1 else 0)
  | .int a, .int b => a == b
  | .str a, .str b => a == b
  | _, _ => false
theorem eqAt_V {A : Around} {s : Shared} {y x : V} {u v : Value} (ry : RelV y u) (rx : RelV x v) (fy : flatV y = true) (fx : flatV x = true) : SeqAt.EqAt A s u v (eqV y x) := by
  cases y with
  | non =>
    cases ry
    cases x with
    | non => cases rx; exact SeqAt.EqAt.same _
    | bl b => cases rx; exact SeqAt.EqAt.none_bool b
    | int b => obtain ⟨t, rfl⟩ := rx; exact SeqAt.EqAt.none_int b t
    | str b => obtain ⟨t, rfl⟩ := rx; exact SeqAt.EqAt.none_str b t
    | _ => exact absurd (show false = true from fx) Bool.false_ne_true
  | bl a =>
    cases ry
    cases x with
    | non => cases rx; exact SeqAt.EqAt.bool_none a
    | bl b => cases rx; exact SeqAt.EqAt.bool_bool a b
    | int b => obtain ⟨t, rfl⟩ := rx; exact SeqAt.EqAt.bool_int a b t
    | str b => obtain ⟨t, rfl⟩ := rx; exact SeqAt.EqAt.bool_str a b t
    | _ => exact absurd (show false = true from fx) Bool.false_ne_true
  | int a =>
    obtain ⟨t', rfl⟩ := ry
    cases x with
    | non => cases rx; exact SeqAt.EqAt.int_none a t'
    | bl b => cases rx; exact SeqAt.EqAt.int_bool a t' b
    | int b => obtain ⟨t, rfl⟩ := rx; exact SeqAt.EqAt.int_int a t' b t
    | str b => obtain ⟨t, rfl⟩ := rx; exact SeqAt.EqAt.int_str a t' b t
    | _ => exact absurd (show false = true from fx) Bool.false_ne_true
  | str a =>
    obtain ⟨t', rfl⟩ := ry
    cases x with
    | non => cases rx; exact SeqAt.EqAt.str_none a t'
    | bl b => cases rx; exact SeqAt.EqAt.str_bool a t' b
    | int b => obtain ⟨t, rfl⟩ := rx; exact SeqAt.EqAt.str_int a t' b t
    | str b => obtain ⟨t, rfl⟩ := rx; exact SeqAt.EqAt.str_str a t' b t
    | _ => exact absurd (show false = true from fx) Bool.false_ne_true
  | _ => exact absurd (show false = true from fy) Bool.false_ne_true
/-! ### len, list(x), tuple(x) of any list or tuple that is read -/
theorem call_len_seq : CallR X (.builtin "len") (fun xs H Q => ∃ p ys, xs = [.ref p] ∧ (SqL X.K H p ys ∨ SqT X.K H p ys) ∧ Q (.int ys.length) H) := by
  intro pins s σ H xs us Q I r h
  obtain ⟨p, ys, rfl, hq, q⟩ := h
  obtain ⟨u, rfl, rx⟩ := vals1 r
  cases rx
  have hn := line63
  rcases hq with hq | hq
  · obtain ⟨its, r', pl, hz⟩ := I.list hq
    have hlen := r'.length
    exact Calls.call_len_list pl.isList (by simp only [List.size_toArray] <;> omega) ⟨.int ys.length, H, I.tok _, ⟨s.toks + 1, by rw [List.size_toArray, hlen]⟩, q⟩
  · obtain ⟨its, r', pl, hz⟩ := I.tuple hq
    have hlen := r'.length
    exact len_tuple pl (by simp only [List.size_toArray] <;> omega) ⟨.int ys.length, H, I.tok _, ⟨s.toks + 1, by rw [List.size_toArray, hlen]⟩, q⟩
theorem call_len_str : CallR X (.builtin "len") (fun xs H Q => ∃ z, xs = [.str z] ∧ z.length ≤ sizeLine ∧ Q (.int z.length) H) := by
  intro pins s σ H xs us Q I r h
  obtain ⟨z, rfl, hz, q⟩ := h
  obtain ⟨u, rfl, t, rfl⟩ := vals1 r
  have hn := line63
  exact len_str (by omega) ⟨.int z.length, H, I.tok _, ⟨_, rfl⟩, q⟩
theorem CallR.or {f : Value} {r r' : List V → Hp → VK → Prop} (h : CallR X f r) (h' : CallR X f r') : CallR X f (fun xs H Q => r xs H Q ∨ r' xs H Q) := by
  intro pins s σ H xs us Q I rs q
  rcases q with q | q
  · exact h pins s σ H xs us Q I rs q
  · exact h' pins s σ H xs us Q I rs q
theorem call_list_of : CallR X (.type "list") (fun xs H Q => ∃ p ys, xs = [.ref p] ∧ (SqL X.K H p ys ∨ SqT X.K H p ys) ∧ ∀ l, H l = none → Q (.ref l) (upd H l (.lst ys))) := by
  intro pins s σ H xs us Q I r h
  obtain ⟨p, ys, rfl, hq, q⟩ := h
  obtain ⟨u, rfl, rx⟩ := vals1 r
  cases rx
  have fin : ∀ (its : List Value), Vals ys its → ys.length ≤ sizeLine → ∀ (h' : Heap) (c' : Nat), (∀ b o', s.heap.get? b = some o' → h'.get? b = some o') →
      h'.get? s.heap.objs.size = some { cls := .type "list", dict := none, data := .seq its.toArray c', slots := #[] } → EP X pins σ Q (.ref s.heap.objs.size) { s with heap := h' } := fun its r' hz h' c' kp e =>
    ⟨.ref s.heap.objs.size, _, I.laid (t' := s.toks) kp (Nat.le_refl _) (show ObjOk X.prog X.w _ h' _ (.lst ys) from ⟨hz, its, c', r', e⟩), rfl, q _ (I.hok.fresh (Nat.le_refl _))⟩
  rcases hq with hq | hq
  · obtain ⟨its, r', pl, hz⟩ := I.list hq
    have hlen := r'.length
    obtain ⟨o, ho, hc, n, hd⟩ := pl.isList
    exact call_list_seq p (.inl rfl) ho hc hd (fun h' c' kp e => fin its r' hz h' c' kp e) (by simp only [List.size_toArray] <;> omega)
  · obtain ⟨its, r', pl, hz⟩ := I.tuple hq
    have hlen := r'.length
    obtain ⟨o, ho, hc, n, hd⟩ := pl
    exact call_list_seq p (.inr rfl) ho hc hd (fun h' c' kp e => fin its r' hz h' c' kp e) (by simp only [List.size_toArray] <;> omega)
/-! ### the call of a builtin's method: o.m(..) -/
/-- the value is of that builtin type -/
def tyV (K : PySem.W.Frag) (T : String) (x : V) (H : Hp) : Prop := match x with
  | .str _ => T = "str"
  | .int _ => T = "int"
  | .ref p => (T = "list" ∧ ∃ xs, SqL K H p xs) ∨ (T = "tuple" ∧ ∃ o, K.lookup p = some o ∧ o.cls = .type "tuple" ∧ o.dict = none) ∨
      (T = "dict" ∧ ((∃ kvs, H p = some (.dK kvs)) ∨ ∃ kvs, H p = some (.dT kvs))) ∨ (T = "set" ∧ ∃ S n, H p = some (.set S n))
  | _ => False
theorem tyV_is {pins : List (Addr × Obj)} {σ : St} {H : Hp} {s : Shared} {T : String} {x : V} {v : Value} (I : Inv X pins σ H s) (r : RelV x v) (ty : tyV X.K T x H) :
    s.TypeIs v T ∧ ∀ a, v = .ref a → ∃ ob, s.heap.get? a = some ob ∧ ob.dict = none := by
  cases x with
  | str z =>
    obtain ⟨t, rfl⟩ := r
    cases (show T = "str" from ty)
    exact ⟨typeIs_str s z t, fun _ e => nomatch e⟩
  | int i =>
    obtain ⟨t, rfl⟩ := r
    cases (show T = "int" from ty)
    exact ⟨typeIs_int s i t, fun _ e => nomatch e⟩
  | ref p =>
    cases r
    rcases ty with ⟨rfl, xs, hq⟩ | ⟨rfl, o, hk, hc, hd⟩ | ⟨rfl, hk⟩ | ⟨rfl, S, n, hk⟩
    · obtain ⟨its, _, pl, _⟩ := I.list hq
      refine ⟨pl.isList.typeIs, fun a e => ?_⟩
      cases e
      obtain ⟨o, n, e, c, hd, _⟩ := pl
      exact ⟨o, e, hd⟩
    · refine ⟨⟨o, I.kIn p o hk, hc⟩, fun a e => ?_⟩
      cases e
      exact ⟨o, I.kIn _ o hk, hd⟩
    · have z : ∃ o, s.heap.get? p = some o ∧ o.ExactDict := by
        rcases hk with ⟨kvs, hk⟩ | ⟨kvs, hk⟩
        · obtain ⟨_, _, _, _, o, _, _, e, ex, _⟩ := I.hok p _ hk
          exact ⟨o, e, ex⟩
        · obtain ⟨_, _, _, _, o, _, _, e, ex, _⟩ := I.hok p _ hk
          exact ⟨o, e, ex⟩
      obtain ⟨o, e, ex⟩ := z
      refine ⟨⟨o, e, ex.1⟩, fun a e2 => ?_⟩
      cases e2
      exact ⟨o, e, ex.2.1⟩
    · obtain ⟨o, _, _, _, e, ex, _⟩ := I.hok p _ hk
      refine ⟨⟨o, e, ex.1⟩, fun a e2 => ?_⟩
      cases e2
      exact ⟨o, e, ex.2.1⟩
  | _ => exact False.elim ty
variable {o e : Expr} {es : List Expr} {to : TE} {t : TA} {name : Str} {apos cpos : Pos} {T id : String} {r : V → List V → Hp → VK → Prop}
end
end L2

namespace L2
open PySem PySem.Spec PyProof.Rows

def MtM (X : Cx) (id : String) (r : V → List V → Hp → VK → Prop) : Prop :=
  ∀ (pins : List (Addr × Obj)) (s : Shared) (σ : St) (H : Hp) (x : V) (xs : List V) (v : Value) (us : List Value) (Q : VK), Inv X pins σ H s → RelV x v → Vals xs us → r x xs H Q →
    wpAny (model X.prog X.w) X.A (call (.builtin id) (v :: us)) (EP X pins σ Q) X.xe s

/-! ### lists of values -/
theorem Vals.one : ∀ {x : V} {us : List Value}, Vals [x] us → ∃ u, us = [u] ∧ RelV x u
  | _, _, .cons r .nil => ⟨_, rfl, r⟩
theorem Vals.two : ∀ {x y : V} {us : List Value}, Vals [x, y] us → ∃ u v, us = [u, v] ∧ RelV x u ∧ RelV y v
  | _, _, _, .cons r (.cons q .nil) => ⟨_, _, rfl, r, q⟩
theorem Vals.zero : ∀ {us : List Value}, Vals [] us → us = []
  | _, .nil => rfl
theorem Vals.rep {xs : List V} {us : List Value} (h : Vals xs us) : ∀ k : Nat, Vals (List.replicate k xs).flatten (List.replicate k us).flatten
  | 0 => .nil
  | k + 1 => by
    rw [List.replicate_succ, List.replicate_succ, List.flatten_cons, List.flatten_cons]
    exact Vals.append h (Vals.rep h k)
theorem foldl_rep (its : List Value) : ∀ (k : Nat) (acc : List Value),
    List.foldl (fun x1 x2 => x1 ++ x2) acc.toArray (List.replicate k its.toArray) = (acc ++ (List.replicate k its).flatten).toArray
  | 0, acc => by simp
  | k + 1, acc => by
    have e : acc.toArray ++ its.toArray = (acc ++ its).toArray := by simp
    have e2 : (acc ++ its) ++ (List.replicate k its).flatten = acc ++ (List.replicate (k + 1) its).flatten := by
      rw [List.replicate_succ, List.flatten_cons, List.append_assoc]
    rw [← e2, ← foldl_rep its k (acc ++ its), ← e, List.replicate_succ, List.foldl_cons]

section
variable {X : Cx} {pins : List (Addr × Obj)} {σ : St} {H : Hp} {s : Shared} {l b : Addr} {xs ys zs : List V}

/-! ### the two steps: a tracked list is rewritten, a new list is laid -/
theorem Inv.lset {its its' : List Value} {n : Nat} {f : Array Value → Array Value} {t' : Nat} (I : Inv X pins σ H s) (hH : H l = some (.lst xs))
    (e : s.heap.get? l = some { cls := .type "list", data := .seq its.toArray n }) (hf : f its.toArray = its'.toArray) (hv : Vals ys its') (hz : ys.length ≤ sizeLine) :
    Inv X pins σ (upd H l (.lst ys)) { s with heap := s.heap.update l (Obj.mapSeq f), toks := t' } := by
  have q := PySem.IsL.update e f
  rw [hf] at q
  refine I.write (x := l) (e := l) (by rw [hH]; exact trivial) (.inl rfl) (fun b' u hb hu => (Heap.get?_update_other s.heap (Obj.mapSeq f) (Ne.symm hb)).trans hu) ⟨_, q⟩ ?_
  exact ⟨hz, its', _, hv, q⟩
theorem Inv.lnew {its : List Value} {t' : Nat} (I : Inv X pins σ H s) (hv : Vals ys its) (hz : ys.length ≤ sizeLine) :
    Inv X pins σ (upd H s.heap.objs.size (.lst ys)) { s with heap := s.heap.push { cls := .type "list", data := .seq its.toArray }, toks := t' } :=
  I.laid (fun _ _ q => Heap.get?_push_of_some _ q) (Nat.le_refl _) ⟨hz, its, 0, hv, Heap.get?_push_size _ rfl⟩
theorem Inv.fresh (I : Inv X pins σ H s) : H s.heap.objs.size = none := I.hok.fresh (Nat.le_refl _)
theorem Inv.lstM (I : Inv X pins σ H s) (hH : H l = some (.lst xs)) : xs.length ≤ sizeLine ∧ ∃ (its : List Value) (n : Nat), Vals xs its ∧ xs.length = its.length ∧ s.heap.get? l = some { cls := .type "list", data := .seq its.toArray n } := by
  obtain ⟨z, its, n, r, e⟩ := I.hok l _ hH
  exact ⟨z, its, n, r, r.length, e⟩

theorem notLongL {n : Nat} (h : n ≤ sizeLine) : Builtin.List.listTooLong n = false := by
  unfold Builtin.List.listTooLong
  exact decide_eq_false (by omega)
end

section
variable {X : Cx}

/-! ### methods -/
def rAppend : V → List V → Hp → VK → Prop := fun x vs H Q => ∃ l xs y, x = .ref l ∧ vs = [y] ∧ H l = some (.lst xs) ∧ xs.length < sizeLine ∧ Q .non (upd H l (.lst (xs ++ [y])))
theorem mt_append : MtM X "list.append" rAppend := by
  intro pins s σ H x vs v us Q I rx rv h
  obtain ⟨l, xs, y, rfl, rfl, hH, hz, q⟩ := h
  cases rx
  obtain ⟨u, rfl, ru⟩ := rv.one
  obtain ⟨z, its, n, r, hl, e⟩ := I.lstM hH
  refine call_meets F.slot_list_append ⟨_, e, rfl⟩ F.entry_list_append (F.args_list_append_2 _ _) (PySem.list_append l its.toArray n u (by rw [List.size_toArray]; omega)) ⟨e, ?_⟩
  refine ⟨.non, _, I.lset (its' := its ++ [u]) hH e (by simp) (r.append (.cons ru .nil)) ?_, rfl, q⟩
  rw [List.length_append, List.length_singleton]
  omega

def rExtend : V → List V → Hp → VK → Prop := fun x vs H Q => ∃ l b xs zs, x = .ref l ∧ vs = [.ref b] ∧ H l = some (.lst xs) ∧ H b = some (.lst zs) ∧ xs.length + zs.length ≤ sizeLine ∧ Q .non (upd H l (.lst (xs ++ zs)))
theorem mt_extend : MtM X "list.extend" rExtend := by
  intro pins s σ H x vs v us Q I rx rv h
  obtain ⟨l, b, xs, zs, rfl, rfl, hH, hB, hz, q⟩ := h
  cases rx
  obtain ⟨u, rfl, ru⟩ := rv.one
  cases ru
  obtain ⟨z, its, n, r, hl, e⟩ := I.lstM hH
  obtain ⟨z2, its2, n2, r2, hl2, e2⟩ := I.lstM hB
  have hsz : its.toArray.size + its2.toArray.size ≤ sizeLine := by rw [List.size_toArray, List.size_toArray]; omega
  have hlong : ¬ (!its.toArray.isEmpty && Builtin.List.listTooLong (its.toArray.size + its2.toArray.size)) = true := by
    rw [notLongL hsz, Bool.and_false]
    exact Bool.false_ne_true
  refine call_meets F.slot_list_extend ⟨_, e, rfl⟩ F.entry_list_extend (F.args_list_extend_2 _ _)
    (AutoSeq1.list_extend_list_list_0 l its.toArray n b its2.toArray n2 hlong (by rw [List.size_toArray]; omega) (by omega)) ⟨e, e2, ?_⟩
  refine ⟨.non, _, I.lset (its' := its ++ its2) hH e (by simp) (r.append r2) ?_, rfl, q⟩
  rw [List.length_append]
  omega

/-! ### list + list, list += list, list * int -/
def rCat : R2 := fun x y H Q => ∃ l b xs zs, x = .ref l ∧ y = .ref b ∧ H l = some (.lst xs) ∧ H b = some (.lst zs) ∧ xs.length + zs.length ≤ sizeLine ∧ ∀ p, H p = none → Q (.ref p) (upd H p (.lst (xs ++ zs)))
theorem op_cat : OpR X (binaryOp .Add) rCat := by
  intro pins s σ H x y v u Q I rx ry h
  obtain ⟨l, b, xs, zs, rfl, rfl, hH, hB, hz, q⟩ := h
  cases rx
  cases ry
  obtain ⟨z, its, n, r, hl, e⟩ := I.lstM hH
  obtain ⟨z2, its2, n2, r2, hl2, e2⟩ := I.lstM hB
  refine PySem.P.add_list e e2 ?_ (by rw [List.size_toArray, List.size_toArray]; omega)
  have ea : its.toArray ++ its2.toArray = (its ++ its2).toArray := by simp
  rw [ea]
  exact ⟨.ref _, _, I.lnew (t' := s.toks) (r.append r2) (by rw [List.length_append]; omega), rfl, q _ I.fresh⟩
/-- a list times an int (a negative one is nothing) -/
def rRep : R2 := fun x y H Q => ∃ l k xs, x = .ref l ∧ y = .int k ∧ H l = some (.lst xs) ∧ -(2 ^ 63) ≤ k ∧ k < 2 ^ 63 ∧ xs.length * k.toNat ≤ sizeLine ∧
  ∀ p, H p = none → Q (.ref p) (upd H p (.lst (List.replicate k.toNat xs).flatten))
theorem len_rep {α : Type} (xs : List α) (k : Nat) : (List.replicate k xs).flatten.length = k * xs.length := by
  induction k with
  | zero => simp
  | succ k ih => rw [List.replicate_succ, List.flatten_cons, List.length_append, ih, Nat.succ_mul, Nat.add_comm]
theorem op_rep : OpR X (binaryOp .Mult) rRep := by
  intro pins s σ H x y v u Q I rx ry h
  obtain ⟨l, k, xs, rfl, rfl, hH, h1, h2, hz, q⟩ := h
  cases rx
  obtain ⟨t, rfl⟩ := ry
  obtain ⟨z, its, n, r, hl, e⟩ := I.lstM hH
  have hlen : its.toArray.size * k.toNat ≤ sizeLine := by rw [List.size_toArray, ← hl]; exact hz
  have hcap : ¬ its.toArray.size * k.toNat > (2 ^ 63 - 1) / 8 := by
    have : (sizeLine : Nat) ≤ (2 ^ 63 - 1) / 8 := by decide
    omega
  have hfit : ¬ (!Builtin.List.listFitsIndex k) = true := by
    rw [fitsIndex_both h1 h2]
    exact Bool.false_ne_true
  have hlong : ¬ Builtin.List.listTooLong (its.toArray.size * k.toNat) = true := by
    rw [notLongL hlen]
    exact Bool.false_ne_true
  have hnew : List.foldl (fun x1 x2 => x1 ++ x2) #[] (List.replicate (if its.toArray.isEmpty = true then 0 else k.toNat) its.toArray) = (List.replicate k.toNat its).flatten.toArray := by
    have f0 : ∀ m : Nat, List.foldl (fun x1 x2 => x1 ++ x2) #[] (List.replicate m its.toArray) = (List.replicate m its).flatten.toArray := fun m => by
      have := foldl_rep its m []
      rw [List.nil_append] at this
      exact this
    rw [f0]
    cases its with
    | nil => simp
    | cons a r' => rw [if_neg (by simp)]
  refine wpAny_binaryOp_repeat_ref (T := "list") (U := "int") (by decide) ⟨_, e, rfl⟩ (fun s' => typeIs_int s' k t) noFill_list_mul F.fills_int_mul F.slot_int_rmul repeat_list F.slot_int_index.lookup
    (call_meets F.slot_int_rmul (typeIs_int s k t) F.entry_int_rmul (F.args_int_rmul_2 _ _) (int___rmul___int_list k t l its.toArray n)
      ⟨e, rfl, ⟨_, e, rfl⟩, call_meets F.slot_list_mul ⟨_, e, rfl⟩ F.entry_list_mul (F.args_list_mul_2 _ _) (AutoListH.list___mul___list_int_3 l its.toArray n k t hfit hcap hlong) ⟨e, ?_⟩⟩)
  rw [hnew]
  exact ⟨.ref _, _, I.lnew (t' := s.toks) (r.rep k.toNat) (by rw [len_rep, Nat.mul_comm]; exact hz), rfl, q _ I.fresh⟩

/-! ### del xs[i] -/
end

/-! ### xs[a:b] = ys -/
section
variable {prog : Program} {w : World} {A : Around} {E : Value → Shared → Prop} {s : Shared}
set_option maxRecDepth 100000 in
end

section
variable {X : Cx}
end
end L2

namespace L2
open PySem PySem.Spec PyProof.Rows

/-! ### lists of pairs as tables -/
section
variable {κ : Type} [DecidableEq κ]
def valV (kvs : List (κ × V)) (k : κ) : Option V := (kvs.find? fun kv => decide (kv.1 = k)).map (·.2)
/-- in its place, or at the end -/
def putK (kvs : List (κ × V)) (k : κ) (v : V) : List (κ × V) :=
  if (kvs.any fun kv => decide (kv.1 = k)) = true then kvs.map (fun kv => if kv.1 = k then (kv.1, v) else kv) else kvs ++ [(k, v)]
def dropK (kvs : List (κ × V)) (k : κ) : List (κ × V) := kvs.filter fun kv => decide (kv.1 ≠ k)

theorem valV_nil {k : κ} : valV ([] : List (κ × V)) k = none := rfl
theorem valV_pos {p : κ × V} {r : List (κ × V)} {k : κ} (e : p.1 = k) : valV (p :: r) k = some p.2 := by simp [valV, List.find?_cons, e]
theorem valV_neg {p : κ × V} {r : List (κ × V)} {k : κ} (e : ¬ p.1 = k) : valV (p :: r) k = valV r k := by simp [valV, List.find?_cons, e]
theorem valV_any (k : κ) : ∀ kvs : List (κ × V), (kvs.any fun kv => decide (kv.1 = k)) = (valV kvs k).isSome
  | [] => rfl
  | p :: r => by
    rw [List.any_cons]
    by_cases e : p.1 = k
    · simp only [valV_pos e, decide_eq_true e, Bool.true_or, Option.isSome_some]
    · rw [valV_neg e, decide_eq_false e, Bool.false_or]; exact valV_any k r
theorem length_putK (kvs : List (κ × V)) (k : κ) (v : V) : (putK kvs k v).length ≤ kvs.length + 1 := by
  unfold putK
  split
  · rw [List.length_map]; omega
  · rw [List.length_append, List.length_cons, List.length_nil]; omega
theorem putK_new {kvs : List (κ × V)} {k : κ} (v : V) (h : valV kvs k = none) : putK kvs k v = kvs ++ [(k, v)] := by
  unfold putK
  rw [valV_any, h]
  exact if_neg (by decide)

theorem RelO.isSome_eq {o : Option V} {u : Option Value} (r : RelO o u) : o.isSome = u.isSome := by
  cases o with
  | none => cases u with
    | none => rfl
    | some _ => exact (show False from r).elim
  | some _ => cases u with
    | none => exact (show False from r).elim
    | some _ => rfl
theorem RelO.getD {o : Option V} {u : Option Value} {d : V} {d' : Value} (r : RelO o u) (rd : RelV d d') : RelV (o.getD d) (u.getD d') := by
  cases o with
  | none => cases u with
    | none => exact rd
    | some _ => exact (show False from r).elim
  | some _ => cases u with
    | none => exact (show False from r).elim
    | some _ => exact r

/-- raw tables of the same keys -/
theorem KV.val {kvs : List (κ × V)} {vs : List (κ × Value)} (r : KV kvs vs) (k : κ) : RelO (valV kvs k) (valueAt vs k) := by
  unfold KV at r
  induction r with
  | nil => exact True.intro
  | @cons p q ps qs h t ih =>
    obtain ⟨h1, h2⟩ := h
    by_cases e : p.1 = k
    · have e' : q.1 = k := h1.symm.trans e
      have b : valueAt (q :: qs) k = some q.2 := by simp [valueAt, List.find?_cons, e']
      rw [valV_pos e, b]; exact h2
    · have e' : ¬ q.1 = k := fun z => e (h1.trans z)
      have b : valueAt (q :: qs) k = valueAt qs k := by simp [valueAt, List.find?_cons, e']
      rw [valV_neg e, b]; exact ih
theorem KV.any {kvs : List (κ × V)} {vs : List (κ × Value)} (r : KV kvs vs) (k : κ) : (kvs.any fun kv => decide (kv.1 = k)) = vs.any fun kv => decide (kv.1 = k) := by
  unfold KV at r
  induction r with
  | nil => rfl
  | cons h t ih => rw [List.any_cons, List.any_cons, ih, h.1]
theorem KV.repl {kvs : List (κ × V)} {vs : List (κ × Value)} (r : KV kvs vs) (k : κ) {y : V} {u : Value} (ry : RelV y u) :
    KV (kvs.map fun kv => if kv.1 = k then (kv.1, y) else kv) (vs.map fun kv => if kv.1 = k then (kv.1, u) else kv) := by
  unfold KV at r ⊢
  induction r with
  | nil => exact .nil
  | @cons p q ps qs h t ih =>
    rw [List.map_cons, List.map_cons]
    refine .cons ?_ ih
    obtain ⟨h1, h2⟩ := h
    by_cases e : p.1 = k
    · rw [if_pos e, if_pos (h1.symm.trans e)]; exact ⟨h1, ry⟩
    · rw [if_neg e, if_neg (fun z => e (h1.trans z))]; exact ⟨h1, h2⟩
theorem KV.put {kvs : List (κ × V)} {vs : List (κ × Value)} (r : KV kvs vs) (k : κ) {y : V} {u : Value} (ry : RelV y u) : KV (putK kvs k y) (stored vs k u) := by
  unfold putK stored
  rw [r.any k]
  by_cases e : (vs.any fun kv => decide (kv.1 = k)) = true
  · rw [if_pos e, if_pos e]; exact r.repl k ry
  · rw [if_neg e, if_neg e]; exact Paired.snoc r ⟨rfl, ry⟩
theorem KV.drop {kvs : List (κ × V)} {vs : List (κ × Value)} (r : KV kvs vs) (k : κ) : KV (dropK kvs k) (without vs k) := by
  unfold KV at r ⊢
  unfold dropK without
  induction r with
  | nil => exact .nil
  | @cons p q ps qs h t ih =>
    obtain ⟨h1, h2⟩ := h
    rw [List.filter_cons, List.filter_cons]
    by_cases e : p.1 = k
    · have a : ¬ decide (p.1 ≠ k) = true := by simp [e]
      have b : ¬ decide (q.1 ≠ k) = true := by simp [h1.symm.trans e]
      rw [if_neg a, if_neg b]; exact ih
    · have e' : ¬ q.1 = k := fun z => e (h1.trans z)
      have a : decide (p.1 ≠ k) = true := by simp [e]
      have b : decide (q.1 ≠ k) = true := by simp [e']
      rw [if_pos a, if_pos b]; exact .cons ⟨h1, h2⟩ ih
theorem KV.keys {kvs : List (κ × V)} {vs : List (κ × Value)} (r : KV kvs vs) : kvs.map (·.1) = vs.map (·.1) := by
  unfold KV at r
  induction r with
  | nil => rfl
  | cons h t ih => rw [List.map_cons, List.map_cons, ih, h.1]
theorem KV.length {kvs : List (κ × V)} {vs : List (κ × Value)} (r : KV kvs vs) : kvs.length = vs.length := Paired.length r
end


/-! ### a tracked dict, its keys ints and texts or tuples of these -/
theorem kV_is {P : Program} {w : World} {k : Key} {u : Value} (r : RelV (kV k) u) : (mixKind P w).is k u = true := by
  cases k with
  | inl i => obtain ⟨t, e⟩ := (show ∃ t, u = Value.int i t from r); subst e; exact mixKind_int P w i t
  | inr x => obtain ⟨t, e⟩ := (show ∃ t, u = Value.str x t from r); subst e; exact mixKind_str P w x t
theorem items_are {P : Program} {w : World} : ∀ {ks : List Key} {us : List Value}, Vals (ks.map kV) us → ItemsAre (mixKind P w) ks us
  | [], _, r => by rw [List.map_nil] at r; cases r; exact .nil
  | k :: ks, _, r => by
    rw [List.map_cons] at r
    cases r with
    | cons h t => exact .cons (kV_is h) (items_are t)

/-- raw entries of a dict with tuple keys -/
abbrev KT (H : Hp) : List (List Key × V) → List (List Key × Addr × Value) → Prop := Paired fun p q => p.1 = q.1 ∧ H q.2.1 = some (.tup (p.1.map kV)) ∧ RelV p.2 q.2.2
theorem KT.val {H : Hp} {kvs : List (List Key × V)} {xs : List (List Key × Addr × Value)} (r : KT H kvs xs) (k : List Key) : RelO (valV kvs k) ((atKey xs k).map (·.2)) := by
  induction r with
  | nil => exact True.intro
  | @cons p q ps qs h t ih =>
    obtain ⟨h1, _, h2⟩ := h
    by_cases e : p.1 = k
    · have e' : q.1 = k := h1.symm.trans e
      have b : atKey (q :: qs) k = some q.2 := by simp [atKey, List.find?_cons, e']
      rw [valV_pos e, b]; exact h2
    · have e' : ¬ q.1 = k := fun z => e (h1.trans z)
      have b : atKey (q :: qs) k = atKey qs k := by simp [atKey, List.find?_cons, e']
      rw [valV_neg e, b]; exact ih
theorem KT.repl {H : Hp} {kvs : List (List Key × V)} {xs : List (List Key × Addr × Value)} (r : KT H kvs xs) (k : List Key) {y : V} {u : Value} (ry : RelV y u) :
    KT H (kvs.map fun kv => if kv.1 = k then (kv.1, y) else kv) (xs.map (putAt k u)) := by
  induction r with
  | nil => exact .nil
  | @cons p q ps qs h t ih =>
    rw [List.map_cons, List.map_cons]
    refine .cons ?_ ih
    obtain ⟨h1, h2, h3⟩ := h
    unfold putAt
    by_cases e : p.1 = k
    · rw [if_pos e, if_pos (h1.symm.trans e)]; exact ⟨h1, h2, ry⟩
    · rw [if_neg e, if_neg (fun z => e (h1.trans z))]; exact ⟨h1, h2, h3⟩
theorem KT.put {H : Hp} {kvs : List (List Key × V)} {xs : List (List Key × Addr × Value)} (r : KT H kvs xs) (k : List Key) {b : Addr} {y : V} {u : Value} (hb : H b = some (.tup (k.map kV))) (ry : RelV y u) :
    KT H (putK kvs k y) (storedH xs k b u) := by
  have e : (kvs.any fun kv => decide (kv.1 = k)) = (atKey xs k).isSome := by
    rw [valV_any, (r.val k).isSome_eq, Option.isSome_map]
  unfold putK storedH
  rw [e]
  by_cases q : (atKey xs k).isSome = true
  · rw [if_pos q, if_pos q]; exact r.repl k ry
  · rw [if_neg q, if_neg q]; exact Paired.snoc r ⟨rfl, hb, ry⟩
theorem KT.keeps {H H' : Hp} {kvs : List (List Key × V)} {xs : List (List Key × Addr × Value)} (r : KT H kvs xs) (ht : ∀ b ys, H b = some (.tup ys) → H' b = some (.tup ys)) : KT H' kvs xs :=
  Paired.mapP r fun _ _ z => ⟨z.1, ht _ _ z.2.1, z.2.2⟩

section
variable {P : Program} {w : World} {H : Hp} {h : Heap} {a : Addr}
theorem rd_of {u : HO} (ok : HOk P w H h) (e : Rd H a u) : ObjOk P w H h a u := e.ok ok
theorem dk_rd {kvs : List (Key × V)} (ok : HOk P w H h) (e : Rd H a (.dK kvs)) : kvs.length ≤ sizeLine ∧ (a == sysModules) = false ∧ ∃ vs, KV kvs vs ∧ h.DictOf (mixKind P w) a vs :=
  show ObjOk P w H h a (.dK kvs) from rd_of ok e
theorem dk_of {kvs : List (Key × V)} (ok : HOk P w H h) (e : H a = some (.dK kvs)) : kvs.length ≤ sizeLine ∧ (a == sysModules) = false ∧ ∃ vs, KV kvs vs ∧ h.DictOf (mixKind P w) a vs := dk_rd ok (.inl e)
/-- a tracked tuple of ints and texts is a key -/
theorem key_of {ks : List Key} (ok : HOk P w H h) (e : H a = some (.tup (ks.map kV))) : (tupleKind (mixKind P w)).is h ks a := by
  obtain ⟨_, its, r, o, h1, h2, n, h3⟩ := (show ObjOk P w H h a (.tup (ks.map kV)) from ok a _ e)
  exact ⟨o, its.toArray, n, h1, h2, h3, by simpa using items_are r⟩
theorem dt_rd {kvs : List (List Key × V)} (ok : HOk P w H h) (e : Rd H a (.dT kvs)) : kvs.length ≤ sizeLine ∧ (a == sysModules) = false ∧
    ∃ xs, KT H kvs xs ∧ h.DictOfH (tupleKind (mixKind P w)) a xs := by
  obtain ⟨z, y, xs, r, o, es, ep, h1, h2, h3, h4, h5⟩ := (show ObjOk P w H h a (.dT kvs) from rd_of ok e)
  refine ⟨z, y, xs, r, o, es, ep, h1, h2, h3, h4, fun x hx => ?_, h5⟩
  have all : ∀ {l : List (List Key × V)} {m : List (List Key × Addr × Value)}, KT H l m → ∀ x ∈ m, (tupleKind (mixKind P w)).is h x.1 x.2.1 := by
    intro l m q
    induction q with
    | nil => intro x hx; exact nomatch hx
    | @cons p q ps qs hq t ih =>
      intro x hx
      rcases List.mem_cons.mp hx with e | hx
      · subst e
        exact key_of ok (by rw [← hq.1]; exact hq.2.1)
      · exact ih x hx
  exact all r x hx
theorem dt_of {kvs : List (List Key × V)} (ok : HOk P w H h) (e : H a = some (.dT kvs)) : kvs.length ≤ sizeLine ∧ (a == sysModules) = false ∧
    ∃ xs, KT H kvs xs ∧ h.DictOfH (tupleKind (mixKind P w)) a xs := dt_rd ok (.inl e)
end

/-- what the dict at a holds at the key y -/
def DGet (H : Hp) (a : Addr) (y : V) (r : Option V) : Prop :=
  (∃ kvs k, Rd H a (.dK kvs) ∧ y = kV k ∧ r = valV kvs k) ∨ ∃ kvs k b, Rd H a (.dT kvs) ∧ y = .ref b ∧ H b = some (.tup (k.map kV)) ∧ r = valV kvs k
/-- the heap behind a[y] = v -/
def DPut (H : Hp) (a : Addr) (y v : V) (H' : Hp) : Prop :=
  (∃ kvs k, H a = some (.dK kvs) ∧ y = kV k ∧ kvs.length < sizeLine ∧ H' = upd H a (.dK (putK kvs k v))) ∨
  ∃ kvs k b, H a = some (.dT kvs) ∧ y = .ref b ∧ H b = some (.tup (k.map kV)) ∧ kvs.length < sizeLine ∧ H' = upd H a (.dT (putK kvs k v))
theorem DGet.k {H : Hp} {a : Addr} {kvs : List (Key × V)} {k : Key} (e : H a = some (.dK kvs)) : DGet H a (kV k) (valV kvs k) := .inl ⟨kvs, k, .inl e, rfl, rfl⟩
theorem DGet.t {H : Hp} {a b : Addr} {kvs : List (List Key × V)} {k : List Key} (e : H a = some (.dT kvs)) (eb : H b = some (.tup (k.map kV))) : DGet H a (.ref b) (valV kvs k) := .inr ⟨kvs, k, b, .inl e, rfl, eb, rfl⟩
theorem DPut.k {H : Hp} {a : Addr} {kvs : List (Key × V)} {k : Key} {v : V} (e : H a = some (.dK kvs)) (hl : kvs.length < sizeLine) : DPut H a (kV k) v (upd H a (.dK (putK kvs k v))) := .inl ⟨kvs, k, e, rfl, hl, rfl⟩
theorem DPut.t {H : Hp} {a b : Addr} {kvs : List (List Key × V)} {k : List Key} {v : V} (e : H a = some (.dT kvs)) (eb : H b = some (.tup (k.map kV))) (hl : kvs.length < sizeLine) :
    DPut H a (.ref b) v (upd H a (.dT (putK kvs k v))) := .inr ⟨kvs, k, b, e, rfl, eb, hl, rfl⟩


section
variable {X : Cx} {pins : List (Addr × Obj)} {σ : St} {H : Hp} {s : Shared} {a : Addr} {y v : V} {u r : Value} {o : Option V} {A : Around} {E : Value → Shared → Prop}

theorem Inv.big (I : Inv X pins σ H s) : sysModules < s.heap.objs.size := by
  have h : mainGlobals < s.heap.objs.size := (I.mod.glob.keeps I.bk).lt
  exact Nat.lt_trans (by decide) h

/-- d[y], there -/
theorem d_getItem {Q : Value → Shared → Prop} (hu : A.units + 1 < cLine) (I : Inv X pins σ H s) (g : DGet H a y (some v)) (ry : RelV y u) (h : ∀ w' s', Inv X pins σ H s' → RelV v w' → Q w' s') :
    wpAny (model X.prog X.w) A (getItem (.ref a) u) Q E s := by
  rcases g with ⟨kvs, k, e, ey, l⟩ | ⟨kvs, k, b, e, ey, eb, l⟩
  · subst ey
    obtain ⟨z, hd, vs, rel, dd⟩ := dk_rd I.hok e
    obtain ⟨w', hw, rw'⟩ := RelO.some_of (v := v) (o := valueAt vs k) (by rw [l]; exact rel.val k)
    exact wpAny_getItem_of (kV_is ry) dd.mapOf hw (h w' _ (I.tok _) rw')
  · subst ey
    cases (show u = Value.ref b from ry)
    obtain ⟨z, hd, xs, rel, dd⟩ := dt_rd I.hok e
    obtain ⟨w', hw, rw'⟩ := RelO.some_of (v := v) (o := (atKey xs k).map (·.2)) (by rw [l]; exact rel.val k)
    obtain ⟨p, hp, hp2⟩ := Option.map_eq_some_iff.mp hw
    refine wpAny_getItem_heap (tupleKind_room_in1 hu) (key_of I.hok eb) dd hp ?_
    rw [hp2]
    exact h w' _ (I.tok _) rw'
theorem d_notIn {Q : Value → Shared → Prop} (hu : A.units + 1 < cLine) (I : Inv X pins σ H s) (g : DGet H a y o) (ry : RelV y u) (h : ∀ s', Inv X pins σ H s' → Q (.bool (!o.isSome)) s') :
    wpAny (model X.prog X.w) A (compareOp .NotIn u (.ref a)) Q E s := by
  rcases g with ⟨kvs, k, e, ey, l⟩ | ⟨kvs, k, b, e, ey, eb, l⟩
  · subst ey
    obtain ⟨z, hd, vs, rel, dd⟩ := dk_rd I.hok e
    refine wpAny_notIn_of (kV_is ry) hd dd.mapOf ?_
    rw [← (rel.val k).isSome_eq, ← l]
    exact h _ (I.tok _)
  · subst ey
    cases (show u = Value.ref b from ry)
    obtain ⟨z, hd, xs, rel, dd⟩ := dt_rd I.hok e
    refine wpAny_notIn_heap (tupleKind_room_in1 hu) (key_of I.hok eb) hd dd ?_
    have q := (rel.val k).isSome_eq
    rw [Option.isSome_map] at q
    rw [← q, ← l]
    exact h _ (I.tok _)
/-- a dict's object is replaced -/
theorem d_write {h' : Heap} {t' : Nat} {ob : HO} (I : Inv X pins σ H s) (mu : Mut (H a)) (hs : Heap.SameBut a s.heap h') (he : ∃ q, h'.get? a = some q) (new : ObjOk X.prog X.w (upd H a ob) h' a ob) :
    Inv X pins σ (upd H a ob) { s with heap := h', toks := t' } :=
  I.write (x := a) (e := a) mu (.inl rfl) (fun b q hb z => (hs.2 b hb).trans z) he new
theorem dk_new {P : Program} {w : World} {H' : Hp} {h' : Heap} {kvs : List (Key × V)} {vs : List (Key × Value)} (z : kvs.length ≤ sizeLine) (hd : (a == sysModules) = false) (rel : KV kvs vs) (dd : h'.DictOf (mixKind P w) a vs) :
    ObjOk P w H' h' a (.dK kvs) := ⟨z, hd, vs, rel, dd⟩
/-- d[y] = v -/
theorem d_setItem {H' : Hp} {Q : Unit → Shared → Prop} (hu : A.units + 1 < cLine) (I : Inv X pins σ H s) (g : DPut H a y v H') (ry : RelV y u) (rv : RelV v r) (h : ∀ s', Inv X pins σ H' s' → Q () s') :
    wpAny (model X.prog X.w) A (setItem (.ref a) u r) Q E s := by
  rcases g with ⟨kvs, k, e, ey, l, eH⟩ | ⟨kvs, k, b, e, ey, eb, l, eH⟩
  · subst ey eH
    obtain ⟨z, hd, vs, rel, dd⟩ := dk_of I.hok e
    have hz : vs.length ≤ sizeLine := by rw [← rel.length]; exact z
    have hl : (putK kvs k v).length ≤ sizeLine := by have := length_putK kvs k v; omega
    refine wpAny_setItem_pairs (hsz := hz) (kV_is ry) dd fun h' dd' hs => h _ ?_
    have he : ∃ q, h'.get? a = some q := let ⟨q, _, _, hq, _⟩ := dd'; ⟨q, hq⟩
    exact d_write I (by rw [e]; exact True.intro) hs he (dk_new hl hd (rel.put k rv) dd')
  · subst ey eH
    cases (show u = Value.ref b from ry)
    obtain ⟨z, hd, xs, rel, dd⟩ := dt_of I.hok e
    have hz : xs.length ≤ sizeLine := by rw [← Paired.length rel]; exact z
    have hl : (putK kvs k v).length ≤ sizeLine := by have := length_putK kvs k v; omega
    refine wpAny_setItem_heap (hsz := hz) (tupleKind_room_in1 hu) (key_of I.hok eb) dd fun h' dd' hs => h _ ?_
    obtain ⟨q, es, ep, hq, h2, h3, h4, _, h5⟩ := dd'
    refine d_write I (by rw [e]; exact True.intro) hs ⟨q, hq⟩ ⟨hl, hd, _, (rel.put k eb rv).keeps fun c ys ec => ?_, q, es, ep, hq, h2, h3, h4, h5⟩
    rw [upd_ne (ne_of ec e (fun z => nomatch z))]
    exact ec
end

section
variable {X : Cx} {pins : List (Addr × Obj)} {σ : St} {H : Hp} {s : Shared} {a : Addr} {kvs : List (Key × V)} {k : Key} {u : Value} {A : Around} {E : Value → Shared → Prop}
end


/-! ### readings and rules -/
/-- the element of a subscription, not a slice -/
def NoSl (i : Expr) : Prop := ∀ ov iv, subscripted i false ov iv = operate [ov, iv] (getItem ov iv)
theorem subD_of {prog : Program} {w : World} {A : Around} {E : Value → Shared → Prop} {s : Shared} {env : Env} {value slice : Expr} {pos : Pos} {T id : String} {Q : Value → Shared → Prop}
    (hl : typeLookup (.type T) "__getitem__" = pure (some (.builtin id))) (hs : NoSl slice)
    (h : wpAny (model prog w) A (eval value env) (fun o s₁ => wpAny (model prog w) A (eval slice env) (fun i s₂ => s₂.TypeIs o T ∧ wpAny (model prog w) A (getItem o i) Q E s₂) E s₁) E s) :
    wpAny (model prog w) A (eval (.Subscript value slice pos) env) Q E s := by
  refine Subscript_ (wpAny_mono h (fun o s₁ h₁ => wpAny_mono h₁ (fun i s₂ h₂ => ?_) fun _ _ x => x) fun _ _ x => x)
  obtain ⟨hT, h₂⟩ := h₂
  unfold subscriptTail
  refine wpAny_bind ?_
  rw [getitemInPython_of_ne hT.not_modules]
  refine wpAny_bind (wpAny_specialOf hT hl ?_)
  have fin : wpAny (model prog w) A (subscripted slice false o i) (fun r s₃ => wpAny (model prog w) A (letTemporaryGo value o r >>= fun _ => pure r) Q E s₃) E s₂ := by
    rw [hs o i]
    exact wpAny_operating (wpAny_mono h₂ (fun r s₃ h₃ => wpAny_bind (wpAny_letTemporaryGo (wpAny_pure h₃))) fun _ _ x => x)
  first
    | exact wpAny_pure (wpAny_bind fin)
    | exact wpAny_bind (wpAny_pure (wpAny_bind fin))
    | exact wpAny_bind fin

theorem dict_typeIs {X : Cx} {pins : List (Addr × Obj)} {σ : St} {H : Hp} {s : Shared} {a : Addr} {y : V} {o : Option V} (I : Inv X pins σ H s) (g : DGet H a y o) : s.TypeIs (.ref a) "dict" := by
  rcases g with ⟨kvs, k, e, _, _⟩ | ⟨kvs, k, b, e, _, _, _⟩
  · obtain ⟨_, _, vs, _, dd⟩ := dk_rd I.hok e
    exact dd.typeIs
  · obtain ⟨_, _, xs, _, dd⟩ := dt_rd I.hok e
    exact dd.typeIs
section
variable {X : Cx} {o i e value : Expr} {pos pos' tpos : Pos} {td ty tv : TE}
end


/-! ### displays -/
theorem dk_empty {P : Program} {w : World} {H : Hp} (h : Heap) (hb : sysModules < h.objs.size) : ObjOk P w H (h.push { cls := .type "dict", data := .dict #[] }) h.objs.size (.dK []) :=
  ⟨Nat.zero_le _, beq_eq_false_iff_ne.mpr (Ne.symm (Nat.ne_of_lt hb)), [], .nil, Heap.DictOf.new h⟩
/-- {}, to be a dict of the kind that is wanted -/
def tDNewK : TE := fun _ H Q => ∀ p, H p = none → Q (.ref p) (upd H p (.dK []))
section
variable {X : Cx} {pos : Pos}
theorem pe_dnewK : PE X (.Dict [] [] pos) tDNewK := fun pins s σ H Q I h =>
  wpAny_Dict_empty ⟨.ref s.heap.objs.size, _, I.laid (a := s.heap.objs.size) (o := .dK []) (t' := s.toks) (fun _ _ q => Heap.get?_push_of_some _ q) (Nat.le_refl _) (dk_empty s.heap I.big), rfl, h _ (I.hok.fresh (Nat.le_refl _))⟩
end

/-- the pairs of a display, from the left -/
def tPairs : List (TE × TE) → St → Hp → (List (V × V) → Hp → Prop) → Prop
  | [], _, H, Q => Q [] H
  | (tk, tv) :: r, σ, H, Q => tk σ H fun x H1 => tv σ H1 fun y H2 => tPairs r σ H2 fun ps H3 => Q ((x, y) :: ps) H3
abbrev VV : List (V × V) → List (Value × Value) → Prop := Paired fun p q => RelV p.1 q.1 ∧ RelV p.2 q.2
def PPs (X : Cx) (pos : Pos) (keys : List (Option Expr)) (values : List Expr) (trs : List (TE × TE)) : Prop :=
  ∀ (pins : List (Addr × Obj)) (s : Shared) (σ : St) (H : Hp) (Q : List (V × V) → Hp → Prop), Inv X pins σ H s → tPairs trs σ H Q →
    wpAny (model X.prog X.w) X.A (evalPairs (pairTrees keys values X.env pos)) (fun vs s' => ∃ ps H', Inv X pins σ H' s' ∧ VV ps vs ∧ Q ps H') X.xe s
theorem pps_nil {X : Cx} {pos : Pos} : PPs X pos [] [] [] := fun pins s σ H Q I h => pairTrees_nil_walk ⟨[], H, I, .nil, h⟩
theorem pps_cons {X : Cx} {pos : Pos} {k v : Expr} {ks : List (Option Expr)} {vs : List Expr} {tk tv : TE} {trs : List (TE × TE)} (hk : PE X k tk) (hv : PE X v tv) (hr : PPs X pos ks vs trs) :
    PPs X pos (some k :: ks) (v :: vs) ((tk, tv) :: trs) := fun pins s σ H Q I h =>
  pairTrees_cons_walk (thn (hk pins s σ H _ I h) fun u s1 ⟨x, H1, I1, rx, q1⟩ => thn (hv pins s1 σ H1 _ I1 q1) fun w2 s2 ⟨y, H2, I2, ry, q2⟩ =>
    thn (hr pins s2 σ H2 _ I2 q2) fun ws s3 ⟨ps, H3, I3, rel, q3⟩ => ⟨(x, y) :: ps, H3, I3, .cons ⟨rx, ry⟩ rel, q3⟩)

def mergeK (kvs more : List (Key × V)) : List (Key × V) := more.foldl (fun acc kv => putK acc kv.1 kv.2) kvs
theorem KV.merge : ∀ {more : List (Key × V)} {rs : List (Key × Value)} {kvs : List (Key × V)} {vs : List (Key × Value)}, KV more rs → KV kvs vs → KV (mergeK kvs more) (merged vs rs) := by
  intro more rs kvs vs r
  unfold KV at r
  induction r generalizing kvs vs with
  | nil => intro q; exact q
  | @cons p q ps qs h t ih =>
    intro r0
    have e : KV (putK kvs p.1 p.2) (stored vs q.1 q.2) := by
      have := r0.put p.1 h.2
      rw [← h.1]; exact this
    exact ih e
theorem length_mergeK : ∀ (more kvs : List (Key × V)), (mergeK kvs more).length ≤ kvs.length + more.length
  | [], kvs => by show kvs.length ≤ kvs.length + 0; omega
  | p :: r, kvs => by
    have h1 := length_mergeK r (putK kvs p.1 p.2)
    have h2 := length_putK kvs p.1 p.2
    show (mergeK (putK kvs p.1 p.2) r).length ≤ _
    rw [List.length_cons]; omega
theorem carries_of {P : Program} {w : World} : ∀ {kvs : List (Key × V)} {ws : List (Value × Value)}, VV (kvs.map fun kv => (kV kv.1, kv.2)) ws → ∃ rs, Carries (mixKind P w) ws rs ∧ KV kvs rs
  | [], _, r => by rw [List.map_nil] at r; cases r; exact ⟨[], True.intro, .nil⟩
  | p :: kvs, _, r => by
    rw [List.map_cons] at r
    cases r with
    | @cons a b as bs h t =>
      obtain ⟨rs, c, q⟩ := carries_of (P := P) (w := w) t
      obtain ⟨b1, b2⟩ := b
      exact ⟨(p.1, b2) :: rs, ⟨kV_is h.1, rfl, c⟩, .cons ⟨rfl, h.2⟩ q⟩
/-- {k: v, ..} with keys ints and texts; the new dict stands empty while the pairs are made -/
def tDisp (trs : List (TE × TE)) : TE := fun σ H Q => ∀ p, H p = none → tPairs trs σ (upd H p (.dK [])) fun ps H2 => H2 p = some (.dK []) ∧ ∃ kvs : List (Key × V), ps = kvs.map (fun kv => (kV kv.1, kv.2)) ∧ kvs.length ≤ 15 ∧ Q (.ref p) (upd H2 p (.dK (mergeK [] kvs)))
theorem pe_disp {X : Cx} {pos : Pos} {keys : List (Option Expr)} {values : List Expr} {trs : List (TE × TE)} (h : PPs X pos keys values trs) (hall : keys.all (·.isSome) = true) (hl : keys.length = values.length) (h0 : keys ≠ [])
    (h15 : keys.length ≤ 15) : PE X (.Dict keys values pos) (tDisp trs) := by
  intro pins s σ H Q I q
  have hn := I.hok.fresh (Nat.le_refl s.heap.objs.size)
  have I1 := I.laid (a := s.heap.objs.size) (o := .dK []) (h' := s.heap.push { cls := .type "dict", data := .dict #[] }) (t' := s.toks) (fun _ _ q => Heap.get?_push_of_some _ q) (Nat.le_refl _) (dk_empty s.heap I.big)
  refine wpAny_Dict_walk (knd := mixKind X.prog X.w) hall hl h0 h15 (thn (h pins _ σ _ _ I1 (q _ hn)) fun ws s2 ⟨ps, H2, I2, rel, e, kvs, ep, lk, q2⟩ => ?_)
  subst ep
  obtain ⟨rs, c, rk⟩ := carries_of (P := X.prog) (w := X.w) rel
  obtain ⟨z, hd, vs0, r0, dd⟩ := dk_of I2.hok e
  cases r0
  refine ⟨rs, c, dd, fun h' dd' hs => ⟨.ref s.heap.objs.size, _, ?_, rfl, q2⟩⟩
  have hz : (mergeK [] kvs).length ≤ sizeLine := by
    have h1 := length_mergeK kvs []
    rw [List.length_nil] at h1
    rw [sizeLine_eq]; omega
  have he : ∃ q, h'.get? s.heap.objs.size = some q := let ⟨q, _, _, hq, _⟩ := dd'; ⟨q, hq⟩
  exact d_write I2 (by rw [e]; exact True.intro) hs he (dk_new hz hd (rk.merge .nil) dd')


/-! ### methods -/
/-- a method call o.m(e) of a built-in, with one argument: what must be seen of the text -/
structure M1 (X : Cx) (o : Expr) (m : Str) (apos : Pos) (e : Expr) (cpos : Pos) : Prop where
  base : attributeBase o m X.env (eval o X.env) = eval o X.env
  few : ((backTo cpos (starEach [e] X.env)).all (fun x => !x.1) && (backToKw cpos (keywordEach [] X.env)).all (fun x => x.1.isSome)
    && decide (([e] : List Expr).length + ([] : List Keyword).length + (if ([] : List Keyword).isEmpty then 0 else 1) < 30)) = true
  line : (apos.endLine == cpos.line) = true
  trees : backTo cpos (starEach [e] X.env) = [(false, eval e X.env)]
structure M2 (X : Cx) (o : Expr) (m : Str) (apos : Pos) (e f : Expr) (cpos : Pos) : Prop where
  base : attributeBase o m X.env (eval o X.env) = eval o X.env
  few : ((backTo cpos (starEach [e, f] X.env)).all (fun x => !x.1) && (backToKw cpos (keywordEach [] X.env)).all (fun x => x.1.isSome)
    && decide (([e, f] : List Expr).length + ([] : List Keyword).length + (if ([] : List Keyword).isEmpty then 0 else 1) < 30)) = true
  line : (apos.endLine == cpos.line) = true
  trees : backTo cpos (starEach [e, f] X.env) = [(false, eval e X.env), (false, eval f X.env)]

section
variable {X : Cx} {pins : List (Addr × Obj)} {σ : St} {H : Hp} {s : Shared} {a : Addr} {y d : V} {u r : Value} {o : Option V} {A : Around} {E : Value → Shared → Prop}
end

section
variable {X : Cx} {o e f : Expr} {apos cpos : Pos} {td ty tx : TE}
end

/-! ### dict(d): a copy -/
section
variable {X : Cx} {pins : List (Addr × Obj)} {σ : St} {H : Hp} {s : Shared} {a : Addr} {kvs : List (Key × V)} {A : Around} {E : Value → Shared → Prop}
end


section
variable {X : Cx} {pins : List (Addr × Obj)} {σ : St} {H : Hp} {s : Shared} {a : Addr} {y : V} {u : Value} {A : Around} {E : Value → Shared → Prop}
end
end L2

namespace Att
open PySem PySem.W PySem.Calls PyProof.Rows

/-! ### the script -/
theorem ints_of_wellAll {P : Params} {h : Heap} : ∀ (ns : List Int) (vs : List Value), WellAll P h vs (ns.map WData.int) → IntsAre vs ns := by
  intro ns
  induction ns with
  | nil =>
    intro vs w
    rw [List.map_nil] at w
    cases w
    exact .nil
  | cons n ns ih =>
    intro vs w
    rw [List.map_cons] at w
    cases w with
    | cons a b =>
      cases a
      exact .cons _ _ (ih _ b)

theorem script_of {l : OpenLaw} {n : Nat} (hn : l.most = some n) {P : Params} {h : Heap} {args : List WData} {vals : List Value}
    (hpre : l.row.toRowW.claim.pre args = true) (hwl : WellAll P h vals args) :
    ∃ a vs ns, vals = [Value.ref a] ∧ args = [WData.list (ns.map WData.int)] ∧ h.get? a = some { cls := .type "list", data := .seq vs.toArray } ∧ IntsAre vs ns ∧ ns.length ≤ n := by
  have hsh : WShape.hasAll [] args [.list .int] = true := (pre_splitW hpre).1
  have hc : l.pre.holds [] { args := args } = true := (pre_splitW hpre).2
  obtain ⟨d, r, rfl, h1, h2⟩ := hasAllW_cons hsh
  obtain rfl := hasAllW_nil h2
  obtain ⟨xs, rfl, h3⟩ := hasW_list h1
  obtain ⟨ns, rfl⟩ := items_int h3
  have hlen : ns.length ≤ n := by
    unfold OpenLaw.pre at hc
    have h4 : (WTm.not (.lt (.lit (.int (n : Int))) (.len (.arg 0)))).holds [] { args := [.list (ns.map .int)] } = true := by
      have h4 := (holds_andW hc).1
      rw [hn] at h4
      exact h4
    have h5 := condW_of h4 (w_not (w_lt w_lit (w_len_list (w_arg rfl))))
    rw [List.length_map] at h5
    refine Nat.le_of_not_lt fun q => ?_
    have q' : (n : Int) < ((ns.length : Nat) : Int) := by omega
    first
      | (rw [decide_eq_true q'] at h5; exact absurd h5 (by decide))
      | (simp at h5; omega)
  cases hwl with
  | cons w1 w2 =>
    cases w2
    cases w1 with
    | list ho hall => exact ⟨_, _, ns, rfl, rfl, ho, ints_of_wellAll ns _ hall, hlen⟩

theorem post_true (l : OpenLaw) (args : List WData) : l.row.toRowW.claim.post args (.bool true) args = true :=
  postW_of (r := l.row.toRowW) (X := (true == true))
    (show WShape.has [] (.bool true) .bool = true by first | rfl | decide | simp [WShape.has, WShape.arms, WShape.armsAll])
    (show (WTm.eq .res (.lit (.bool true))).value [] { args := args, res := some (.bool true), after := args } = some (.bool (true == true)) from w_eq_bool (w_res rfl) w_lit) rfl

/-! ### the attachment: holds_open's last premise (the goal 'hc' behind k_head) from a wpAny of the law's body -/
/-- the same from a codeAny of the CALL (for a layer whose function contracts speak of calls) -/
theorem attach_call {l : OpenLaw} {n : Nat} {q : Program} {loose : List Str} {XP : (Str → Option Value) → Heap → Prop} {YP : World → Heap → Prop} {d : DefRec}
    (hn : l.most = some n) (hdf : d.params.defaults = [])
    (call : ∀ (w : World) (s₀ s₁ : Shared) (mg mb : Str → Option Value) (fa : Addr) (o : Obj) (pm cd doc : Value) (a : Addr) (vs : List Value) (ns : List Int),
      Ground q loose [] XP w s₀ mg mb s₁.heap → YP w s₁.heap →
      s₁.heap.get? fa = some o → o.data = .func (docDef d.name d.params d.body d.scope pm cd doc) → s₁.heap.CodeRec cd d.name → mg d.name = some (.ref fa) →
      s₁.heap.get? a = some { cls := .type "list", data := .seq vs.toArray } → IntsAre vs ns → ns.length ≤ n → s₁.gens = #[] →
      codeAny (model l.prog w) callerA (.call (.ref fa) ⟨[.ref a], []⟩) (fun r s' => r = .ok (.ret (.bool true)) ∧ OldK s₁.heap s'.heap ∧ s'.os = s₁.os ∧ AllBare s'.gens) s₁) :
    WalkO q loose XP YP l.row.toRowW d [] (fun f vs => PySem.call f vs) := by
  intro w s₀ s₁ mg mb G Y fa o pm cd doc dV kV ho hd hcd hD hmg hg args vals as hpre hlay hrd hwl hlo
  obtain rfl : dV = .none := Dflts.none hD hdf
  obtain rfl : kV = .none := Dflts.noKw hD
  obtain ⟨a, vs, ns, rfl, rfl, hobj, hints, hlen⟩ := script_of hn hpre hwl
  refine enter_call (codeAny_mono (call w s₀ s₁ mg mb fa o pm cd doc a vs ns G Y ho (fd_plain hd) hcd hmg hobj hints hlen hg) fun r s' hq => ?_)
  obtain ⟨rfl, h2, h3, h4⟩ := hq
  exact ⟨.inl ⟨.bool true, .bool true, [], rfl, fun _ => rfl, .bool true, post_true l _, fun _ => ⟨List.Pairwise.nil, fun _ hm => (nomatch hm)⟩⟩, h2, h3, h4⟩

/-! ### rules over ANY heap (no ledger) from facts about the written part K: the library's own take a ledger (News) for what they write -/
section
variable {prog : Program} {w : World} {A : Around} {E : Value → Shared → Prop} {s : Shared} {K : Frag}

/-! the whole heap as the ledger: makes every rule that writes through a ledger a rule over any heap -/
def ledger (h : Heap) (L d : Addr) : List (Addr × Obj) := (List.range h.objs.size).filterMap fun a => if a = L ∨ a = d then none else (h.get? a).map fun o => (a, o)
end
end Att

namespace L2
open PySem PySem.Spec PyProof.Rows

theorem vals_ints : ∀ {vs : List Value} {ns : List Int}, IntsAre vs ns → Vals (ns.map V.int) vs
  | _, _, .nil => .nil
  | _, _, .cons n t h => .cons ⟨t, rfl⟩ (vals_ints h)

/-- nothing is tracked but the script, known to the object (or it is an object of the module) -/
def Only (H : Hp) : Prop := ∀ b, H b = none ∨ ∃ o xs, H b = some (.frz o (.lst xs))

/-- THE HEAD: the law's promise, at the heap behind the top. F, the promise of the law's def, may use that base is part of the heap (so K.In base, base.Ns mainGlobals mg stand in Mod) -/
theorem law_call {P : Program} {w : World} {K : PySem.W.Frag} {mg mb : Str → Option Value} {CX : CXT} {ca : Bool} {k : Nat} {fa a : Addr} {fd : FuncData} {x : Str} {sp : Sp} {s₁ : Shared} {vs : List Value} {ns : List Int}
    (KX : K.In s₁.heap) (hns : s₁.heap.Ns mainGlobals mg) (hb : s₁.heap.Ns builtinsNs mb) (hbb : ∀ x : Str, x ≠ "__name__" → mb x = bootBuiltins x) (hlim : s₁.heap.NoLimit) (hg : s₁.gens = #[])
    (ha : s₁.heap.get? a = some { cls := .type "list", data := .seq vs.toArray }) (hi : IntsAre vs ns) (hl : ns.length ≤ sizeLine) (hr : Room ca k callerA)
    (F : ∀ base : Heap, K.In base → base.Ns mainGlobals mg → FnOk P w K mg base CX ca k fa fd [x] sp) (hbind : ∀ (s : Shared) (u : Value), BindsTo s fd ⟨[u], []⟩ [(x, u)])
    (hsp : ∀ H : Hp, Only H → SqL K H a (ns.map V.int) → sp [.ref a] H (fun v _ => v = .bl true) fun _ _ _ => False)
    (hCX : ∀ H e s', CX [] H s₁ (fun _ _ _ => False) e s' → False) :
    codeAny (model P w) callerA (.call (.ref fa) ⟨[.ref a], []⟩) (fun r s' => r = .ok (.ret (.bool true)) ∧ OldK s₁.heap s'.heap ∧ s'.os = s₁.os ∧ AllBare s'.gens) s₁ := by
  have rv := vals_ints hi
  have lenV := hi.length
  -- from an abstract heap in which nothing but the script may be tracked
  have core : ∀ H : Hp, Only H → SqL K H a (ns.map V.int) → HOk P w H s₁.heap → (∀ b, H b ≠ none → b = a) → (H a ≠ none → K.lookup a = none) →
      codeAny (model P w) callerA (.call (.ref fa) ⟨[.ref a], []⟩) (fun r s' => r = .ok (.ret (.bool true)) ∧ OldK s₁.heap s'.heap ∧ s'.os = s₁.os ∧ AllBare s'.gens) s₁ := by
    intro H hO hS hok hA hK
    have base_of : ∀ {b : Addr} {o : Obj}, s₁.heap.get? b = some o → H b = none → (hidT s₁.heap H).get? b = some o := fun e n => hidT_get e n
    have noA : ∀ {b : Addr} {o : Obj} {es : Array DictEntry} {ep : Nat}, s₁.heap.get? b = some o → o.data = .dict es ep → H b = none := fun {b o es ep} e d => by
      cases q : H b with
      | none => rfl
      | some u =>
        have e' : b = a := hA b (by rw [q]; simp)
        subst e'
        rw [ha] at e; cases e
        have d' : Data.seq vs.toArray _ = Data.dict es ep := d
        cases d'
    have nsK : ∀ {b : Addr} {m : Str → Option Value}, s₁.heap.Ns b m → (hidT s₁.heap H).Ns b m := fun {b m} ⟨o, es, ep, e, d, r⟩ => ⟨o, es, ep, base_of e (noA e d), d, r⟩
    have hKb : K.In (hidT s₁.heap H) := fun b o e => base_of (KX b o e) (by
      cases q : H b with
      | none => rfl
      | some u =>
        have e' : b = a := hA b (by rw [q]; simp)
        subst e'
        rw [hK (by rw [q]; simp)] at e; cases e)
    have hM : Mod K mg (hidT s₁.heap H) := ⟨hKb, nsK hns, ⟨mb, nsK hb, hbb⟩, let ⟨mc, h1, h2⟩ := hlim; ⟨mc, nsK h1, h2⟩⟩
    have e0 : Env0 P w K mg (hidT s₁.heap H) callerA [] s₁ H := ⟨rfl, hM, fun b o e => of_hidT e, Nat.le_of_eq (hidT_size _ _), trivial, fun b hb => absurd (show b ∈ ([] : List Addr) from hb) (by simp), hok, .of_eq hg⟩
    refine codeAny_mono ((F _ hKb (nsK hns)).run callerA [] s₁ H ⟨[.ref a], []⟩ [.ref a] [.ref a] _ _ hr e0 (hbind s₁ (.ref a)) (.cons rfl .nil) (hsp H hO hS)) fun r s' h => ?_
    cases r with
    | error e => exact (hCX H e s' h).elim
    | ok fl =>
      cases fl with
      | next => exact False.elim h
      | brk => exact False.elim h
      | cont => exact False.elim h
      | ret u =>
        obtain ⟨v, H', os, bare, un, hok', r', q⟩ := h
        have q' : v = .bl true := q
        subst q'
        obtain rfl : u = Value.bool true := r'
        refine ⟨rfl, OldK.of_keep fun b o e => ?_, os, bare⟩
        cases q : H b with
        | none => exact un.keep b o e q (by intro z; exact absurd (show b ∈ ([] : List Addr) from z) (by simp)) (by simp)
        | some u =>
          rcases hO b with z | ⟨ob, xs, z⟩
          · rw [q] at z; cases z
          · have z2 := un.frzs b ob _ z
            obtain ⟨e1, _⟩ := hok b _ z
            obtain ⟨e2, _⟩ := hok' b _ z2
            rw [e] at e1; cases e1
            exact e2
  cases hk : K.lookup a with
  | some o =>
    -- the script is one of the module's own objects
    have e := KX a o hk
    rw [ha] at e
    cases e
    refine core (fun _ => none) (fun _ => .inl rfl) (.inr ⟨_, vs.toArray, _, hk, rfl, rfl, rfl, by rw [List.size_toArray, lenV]; exact hl, by simpa using rv⟩) (fun b u z => by have z' : (none : Option HO) = some u := z; cases z') (fun b z => absurd rfl z) fun z => absurd rfl z
  | none =>
    refine core (fun b => if b = a then some (.frz { cls := .type "list", data := .seq vs.toArray } (.lst (ns.map V.int))) else none) (fun b => ?_) (.inl (.inr ⟨{ cls := .type "list", data := .seq vs.toArray }, if_pos rfl⟩)) (fun b u z => ?_) (fun b z => ?_) fun _ => hk
    · by_cases hb : b = a
      · exact .inr ⟨_, _, if_pos hb⟩
      · exact .inl (if_neg hb)
    · by_cases hb : b = a
      · have z' := (if_pos hb).symm.trans z
        cases z'
        subst hb
        exact ⟨ha, by rw [List.length_map]; exact hl, vs, _, rv, ha⟩
      · have z' := (if_neg hb).symm.trans z
        cases z'
    · by_cases hb : b = a
      · exact hb
      · exact absurd (if_neg hb) z
end L2

namespace L2
open PySem PySem.Spec PyProof.Rows

/-- the goal that k_head leaves (case hc), from the law's promise. F gives the function object fd (K's own) once, then the promise over every base -/
theorem walk_of {l : PySem.W.OpenLaw} {n k : Nat} {q : Program} {loose : List Str} {XP : (Str → Option Value) → Heap → Prop} {YP : World → Heap → Prop} {d : DefRec} {K : Params → PySem.W.Frag} {CX : World → CXT} {ca : Bool} {sp : World → Sp} {x : Str}
    (hn : l.most = some n) (hn2 : n ≤ sizeLine) (hdf : d.params.defaults = []) (hr : Room ca k callerA)
    (hY : ∀ (w : World) (h : Heap), YP w h → (K w.params).In h)
    (F : ∀ (w : World) (mg : Str → Option Value) (fa : Addr) (h : Heap), (K w.params).In h → h.Ns mainGlobals mg → mg d.name = some (.ref fa) →
      ∃ fd : FuncData, (∀ (s : Shared) (u : Value), BindsTo s fd ⟨[u], []⟩ [(x, u)]) ∧
        ∀ base : Heap, (K w.params).In base → base.Ns mainGlobals mg → FnOk l.prog w (K w.params) mg base (CX w) ca k fa fd [x] (sp w))
    (hsp : ∀ (w : World) (H : Hp) (a : Addr) (ns : List Int), ns.length ≤ n → Only H → SqL (K w.params) H a (ns.map V.int) → sp w [.ref a] H (fun v _ => v = .bl true) fun _ _ _ => False)
    (hCX : ∀ (w : World) (H : Hp) (s : Shared) (e : Value) (s' : Shared), CX w [] H s (fun _ _ _ => False) e s' → False) :
    PySem.W.WalkO q loose XP YP l.row.toRowW d [] (fun f vs => PySem.call f vs) := by
  refine Att.attach_call hn hdf fun w s₀ s₁ mg mb fa o pm cd doc a vs ns G Y ho hd hcd hmg hobj hints hlen hg => ?_
  have KX := hY w _ Y
  obtain ⟨fd, hb, hF⟩ := F w mg fa _ KX G.T.g hmg
  exact law_call KX G.T.g G.T.b G.T.builtins G.T.nolimit hg hobj hints (Nat.le_trans hlen hn2) hr hF hb (fun H hO hS => hsp w H a ns hlen hO hS) fun H e s' => hCX w H s₁ e s'
end L2



/-! SHORT WORDS over the layer: a def of the text, its body, what a loop and a test want. -/
namespace L2
open PySem PySem.Spec PyProof.Rows

/-! ### the text by places -/
def defArgs (s : Stmt) : Arguments := match s with
  | .FunctionDef _ a _ _ _ _ _ _ _ _ => a
  | _ => { posonlyargs := [], args := [], vararg := none, kwonlyargs := [], kw_defaults := [], kwarg := none, defaults := [] }
def defBody (s : Stmt) : List Stmt := match s with
  | .FunctionDef _ _ b _ _ _ _ _ _ _ => b
  | _ => []
def defScope (s : Stmt) : Scope := match s with
  | .FunctionDef _ _ _ _ _ _ sc _ _ _ => sc
  | _ => { kind := .function, names := [], isGenerator := false, isCoroutine := false }

/-! ### no exception leaves a def -/
abbrev CX0 : CXT := fun _ _ _ _ _ _ => False
abbrev E0 : XK := fun _ _ _ => False
/-! ### a def (or method) of the text as it stands behind the top -/
structure Fun (K : PySem.W.Frag) (x qual : Str) (st : Stmt) (f : Addr) (fd : FuncData) : Prop where
  ex : ∃ (oc : Value) (od : Option Addr) (kV doc pm : Value) (an : Option Addr) (cdv ct : Value) (osl : Array (Option Value)),
    fd = PySem.W.fnOf x qual (defArgs st) (defBody st) (defScope st) .none kV doc pm an cdv ct ∧ K.lookup f = some ⟨oc, od, .func fd, osl⟩ ∧ PySem.W.codeIn K cdv qual = true
  kp : PySem.W.keepIn K (.ref f) = true
section
variable {P : Program} {w : World} {K : PySem.W.Frag} {mg : Str → Option Value} {base : Heap}
/-- THE RULE for a def: its body as a term of rules, and the reading of that term -/
theorem Fun.ok {x qual : Str} {st : Stmt} {f : Addr} {fd : FuncData} {N ps : List Str} {ca : Bool} {k : Nat} {sp : Sp} (F : Fun K x qual st f fd) (S : FnScope N ps (defScope st)) (len : ∀ vs H Q E, sp vs H Q E → vs.length = ps.length)
    (hbody : ∀ (cdv : Value) (A : Around) (outer : List Env) (s : Shared) (H : Hp) (vs : List V) (Q : VK) (E : XK), Room ca k (A.deeper (envOfC qual (defScope st) s.heap.objs.size f cdv)) → sp vs H Q E →
      ∃ t, PSs (cxOf CX0 ca P w K mg base N qual (defScope st) f cdv A outer s H E).nox (defBody st) t ∧ t { nx := fun _ H' => Q .non H', rt := Q } (start N vs) H) : FnOk P w K mg base CX0 ca (k + 1) f fd ps sp := by
  obtain ⟨oc, od, kV, doc, pm, an, cdv, ct, osl, rfl, lk, hcd⟩ := F.ex
  refine fn_of lk hcd S len fun A outer s H vs Q E hr hsp => ?_
  obtain ⟨t, h, q⟩ := hbody cdv A outer s H vs Q E hr hsp
  exact ⟨t, h.nox, q⟩
/-- how its arguments bind (no defaults): h is «fun _ _ _ _ _ _ us hl => match us, hl with | [_, _], _ => rfl», one _ a parameter -/
theorem Fun.binds {x qual : Str} {st : Stmt} {f : Addr} {fd : FuncData} {ps : List Str} (F : Fun K x qual st f fd)
    (h : ∀ (kV doc pm : Value) (an : Option Addr) (cdv ct : Value) (us : List Value), us.length = ps.length → bindArgs (PySem.W.fnOf x qual (defArgs st) (defBody st) (defScope st) .none kV doc pm an cdv ct) ⟨us, []⟩ = pure (ps.zip us)) : Binds K fd ps [] := by
  obtain ⟨oc, od, kV, doc, pm, an, cdv, ct, osl, rfl, lk, hcd⟩ := F.ex
  exact .all (h kV doc pm an cdv ct)
theorem fun_mk {x qual : Str} {st : Stmt} {f : Addr} {oc : Value} {od an : Option Addr} {osl : Array (Option Value)} {kV doc pm cdv ct : Value} (l : K.lookup f = some ⟨oc, od, .func (PySem.W.fnOf x qual (defArgs st) (defBody st) (defScope st) .none kV doc pm an cdv ct), osl⟩)
    (c : PySem.W.codeIn K cdv qual = true) (k : PySem.W.keepIn K (.ref f) = true) : Fun K x qual st f (PySem.W.fnOf x qual (defArgs st) (defBody st) (defScope st) .none kV doc pm an cdv ct) := ⟨⟨oc, od, kV, doc, pm, an, cdv, ct, osl, rfl, l, c⟩, k⟩
end
theorem hu_of {ca : Bool} {A : Around} {k : Nat} (hr : Room ca k A) : A.units + 1 < cLine := Nat.lt_of_le_of_lt (Nat.add_le_add_left (by decide : 1 ≤ 64) _) hr.units
/-! ### expressions in short: the name that stands in the i-th slot -/
section
variable {X : Cx}
end

/-! ### tests -/
/-! ### heaps -/
/-- all that was tracked is as it was -/
def Same (H H' : Hp) : Prop := ∀ b o, H b = some o → H' b = some o
theorem Same.refl (H : Hp) : Same H H := fun _ _ h => h
theorem Same.trans {H H1 H2 : Hp} (a : Same H H1) (b : Same H1 H2) : Same H H2 := fun c o h => b c o (a c o h)
theorem Same.free {H H' : Hp} (e : Same H H') {l : Addr} (h : H' l = Option.none) : H l = Option.none := by
  cases q : H l with
  | none => rfl
  | some o =>
    rw [e l o q] at h
    cases h
theorem Same.seq {K : PySem.W.Frag} {H H' : Hp} {a : Addr} {xs : List V} (e : Same H H') (h : SqL K H a xs) : SqL K H' a xs := by
  rcases h with (h | ⟨o, h⟩) | h
  · exact .inl (.inl (e _ _ h))
  · exact .inl (.inr ⟨o, e _ _ h⟩)
  · exact .inr h

end L2

namespace L2
open PySem PySem.Spec PyProof.Rows
section
variable {X : Cx}
end
/-! ### a dict's pairs: keys that differ -/
section
variable {κ : Type} [DecidableEq κ]
end
end L2

/-! LX: own exceptions that are raised, pass through frames and are caught, over the hand layer. -/
namespace L2
open PySem PySem.Spec PyProof.Rows

/-! ### an exception on its way: B is the part of the heap that stays -/
structure XRel (fs : List Addr) (H H' : Hp) (h B : Heap) : Prop where
  keep : ∀ b o, h.get? b = some o → H b = none → b ∉ fs → B.get? b = some o ∧ H' b = none
  fr : ∀ b ∈ fs, H' b = none
  there : ∀ b o, h.get? b = some o → b ∈ fs ∨ ∃ o', B.get? b = some o'
  tups : ∀ b xs, H b = some (.tup xs) → H' b = some (.tup xs)
  frzs : ∀ b o u, H b = some (.frz o u) → H' b = some (.frz o u)
  tbls : ∀ b ps, H b = some (.tbl ps) → ∃ more, H' b = some (.tbl (ps ++ more))
/-- the frames at fs are kept but for their slots -/
def XSl (fs : List Addr) (h h' : Heap) : Prop := ∀ b o, h.get? b = some o → b ∈ fs → ∃ sl, h'.get? b = some { o with slots := sl }
structure XWay (B : Heap) (l : List Env) (a : Addr) (h : Heap) : Prop where
  stays : B.StaysIn h
  new : B.get? a = none
  funs : h.FunFrames B l
/-- new; on its way between frames; held by the frame at L -/
def XFresh (h : Heap) (a : Addr) (cls : Value) : Prop := ∃ oe vs a0, h.get? a = some oe ∧ oe.cls = cls ∧ oe.data = .fields vs ∧ vs[0]? = some a0 ∧ vs[1]? = some .none
abbrev PhT := Heap → Addr → Value → Heap → Prop
def phAt (fl : Value) : PhT := fun B a cls h => ∃ a0, Heap.TracedAtW h B a cls a0 fl
abbrev phFly : PhT := phAt .none
abbrev phHeld (L : Addr) : PhT := phAt (rawInt L)
def phAny (L : Addr) : PhT := fun B a cls h => XFresh h a cls ∨ phFly B a cls h ∨ phHeld L B a cls h

/-- how an exception lies behind a call -/
def CXE (P : Program) (w : World) : CXT := fun outer H s E e s' => ∃ (a : Addr) (cls : Value) (H' : Hp) (B : Heap), e = .ref a ∧ s'.os = s.os ∧ AllBare s'.gens ∧ XWay B outer a s'.heap ∧ phFly B a cls s'.heap ∧
  HOk P w H' B ∧ XRel (frs outer) H H' s.heap B ∧ XSl (frs outer) s.heap s'.heap ∧ E cls none H'

/-- an exception within the frame of X: the last state of X ahead of it, and what is wanted of it -/
inductive UpSt (X : Cx) (E : St → XK) (ph : PhT) (a : Addr) (cls : Value) (s' : Shared) : Prop
  | mk {pins : List (Addr × Obj)} {σ : St} {H H' : Hp} {B : Heap} {s : Shared} (I : Inv X pins σ H s) (os : s'.os = s.os) (bare : AllBare s'.gens) (way : XWay B X.stack a s'.heap) (p : ph B a cls s'.heap)
      (hok : HOk X.prog X.w H' B) (rel : XRel (frs X.stack) H H' s.heap B) (sl : XSl (frs X.stack) s.heap s'.heap) (e : E σ cls none H') : UpSt X E ph a cls s'
def UpW (X : Cx) (E : St → XK) (L : Addr) : Value → Shared → Prop := fun e s' => ∃ a cls, e = .ref a ∧ UpSt X E (phAny L) a cls s'

section
variable {l : List Env} {B h h1 h2 : Heap} {P : Program} {w : World} {H : Hp} {fs : List Addr}
theorem XSl.up (sl : XSl (frs l) h h1) (ff : h1.FunFrames B l) (k : h1.UpToSlots h2) : XSl (frs l) h h2 := fun b o e hb => by
  obtain ⟨s1, q⟩ := sl b o e hb
  obtain ⟨_, o1, q1, nf⟩ := ff.mem hb
  rw [q] at q1; cases q1
  obtain ⟨s2, q2⟩ := k b _ q nf
  exact ⟨s2, q2⟩
theorem HOk.hide (ok : HOk P w H h) (hf : ∀ b ∈ fs, H b = none) : HOk P w H (PySem.W.hideAll h fs) := fun a o e =>
  (ok a o e).stay (fun b u hb q => PySem.W.hideAll_get _ q fun hm => by
    have z := hf b hm
    rcases hb with rfl | hb
    · rw [e] at z; cases z
    · rw [hb] at z; cases z) (fun _ q => q) fun _ _ q => q
end

section
variable {X : Cx} {E : St → XK} {a L : Addr} {cls : Value} {s' : Shared} {M : Model} {A : Around} {Q : Unit → Shared → Prop} {E' : Value → Shared → Prop}
theorem UpSt.note (u : UpSt X E (phAny L) a cls s') (hA : A.frames = X.A.frames) (hst : X.stack = X.env :: X.outer) (hf : X.env.frame = some L)
    (hQ : ∀ h', UpSt X E (phHeld L) a cls { s' with heap := h' } → Q () { s' with heap := h' }) : wpAny M A (noteFrame (.ref a) X.env) Q E' s' := by
  obtain ⟨I, os, bare, ⟨w1, w2, w3⟩, p, hok, rel, sl, e⟩ := u
  rename_i B s
  have hfr : A.frames = some (X.env :: X.outer) := by rw [hA, I.ok.frames, hst]
  have go : ∀ h' a0, Heap.NotedW B (X.env :: X.outer) a cls a0 (rawInt L) s'.heap h' → Q () { s' with heap := h' } := fun h' a0 ⟨k1, k2, k3, k4⟩ =>
    hQ h' ⟨I, os, bare, ⟨k1, w2, hst ▸ k2⟩, ⟨a0, k3⟩, hok, rel, sl.up w3 k4, e⟩
  have w3' : s'.heap.FunFrames B (X.env :: X.outer) := hst ▸ w3
  rcases p with ⟨oe, vs, a0, he, hc, hd, h0, h1⟩ | ⟨a0, p⟩ | ⟨a0, p⟩
  · subst hc; unfold noteFrame; simp only [hf]; refine wpAny_bind (wpAny_field he hd h1 ?_); rw [if_neg (by decide)]
    exact wpAny_entryW hfr w3' hf he w1 w2 hd (Array.getElem?_eq_some_iff.mp h1).1 h0 fun h' N => go h' a0 N
  · exact wpAny_noteFrame_onW hfr w3' hf p w1 w2 fun h' N => go h' a0 N
  · exact wpAny_noteFrame_againW hf p (hQ s'.heap ⟨I, os, bare, ⟨w1, w2, w3⟩, ⟨a0, p⟩, hok, rel, sl, e⟩)
theorem UpSt.fly {fl : Value} (u : UpSt X E (phAt fl) a cls s') (hQ : ∀ h', UpSt X E phFly a cls { s' with heap := h' } → Q () { s' with heap := h' }) : wpAny M A (setFlight (.ref a) none) Q E' s' := by
  obtain ⟨I, os, bare, ⟨w1, w2, w3⟩, ⟨a0, p⟩, hok, rel, sl, e⟩ := u
  exact wpAny_setFlight_noneW w1 w3 p fun h' k1 k2 k3 k4 => hQ h' ⟨I, os, bare, ⟨k1, w2, k2⟩, ⟨a0, k3⟩, hok, rel, sl.up w3 fun b o hb hn => ⟨o.slots, k4 b o hb hn⟩, e⟩
/-- the frame takes it back: its mark is written once more -/
theorem UpSt.hold (u : UpSt X E (phHeld L) a cls s') (hQ : ∀ h', UpSt X E (phHeld L) a cls { s' with heap := h' } → Q () { s' with heap := h' }) :
    wpAny M A (do if (← field (.ref a) 1) == .none then unsupported "frame.own-activation:exception-without-traceback"
                  setFlight (.ref a) (some L)) Q E' s' := by
  obtain ⟨I, os, bare, ⟨w1, w2, w3⟩, ⟨a0, oe, vs, T, oT, ts, he, hcls, hd, h1, hnT, hTe, hT, hdT, h3⟩, hok, rel, sl, e⟩ := u
  rename_i B s
  have hsz : 3 < ts.size := (Array.getElem?_eq_some_iff.mp h3).1
  have oth : ∀ b, b ≠ T → (s'.heap.update T (Obj.mapFields (·.setIfInBounds 3 (rawInt L)))).get? b = s'.heap.get? b := fun b hb => Heap.get?_update_other _ _ (Ne.symm hb)
  have nr : ∀ b o, s'.heap.get? b = some o → (∀ vs, o.data ≠ .fields vs) → b ≠ T := fun b o hb hnf q => by
    subst q; rw [hT] at hb; cases hb; exact hnf ts hdT
  refine wpAny_bind (wpAny_field he hd h1 ?_)
  rw [if_neg (show ¬ ((Value.ref T == Value.none) = true) by simp)]
  unfold setFlight
  refine wpAny_bind (wpAny_field he hd h1 ?_)
  rw [if_pos (show (Value.ref T != Value.none) = true by simp)]
  refine wpAny_setField hT hdT hsz (hQ _ ⟨I, os, bare, ⟨fun b o hb => (oth b fun q => by subst q; rw [hnT] at hb; cases hb).trans (w1 b o hb), w2,
    w3.of_keeps fun b o hb hn => ⟨o, (oth b (nr b o hb hn)).trans hb, rfl⟩⟩, ⟨a0, oe, vs, T, _, _, (oth a (Ne.symm hTe)).trans he, hcls, hd, h1, hnT, hTe,
      Heap.get?_update_self _ hT (Obj.isFreed_of_fields (Obj.data_mapFields hdT _)), Obj.data_mapFields hdT _, by simp [hsz]⟩, hok, rel, sl.up w3 fun b o hb hn => ⟨o.slots, (oth b (nr b o hb hn)).trans hb⟩, e⟩)
end

section
variable {X : Cx} {E : St → XK} {a L : Addr} {cls : Value} {s s' : Shared} {pins : List (Addr × Obj)} {σ : St} {H H' : Hp} {B : Heap}
theorem un_of (way : XWay B X.stack a s'.heap) (rel : XRel (frs X.stack) H H' s.heap B) (sl : XSl (frs X.stack) s.heap s'.heap) : Un (frs X.stack) [] H H' s.heap s'.heap where
  keep := fun b o e n hb _ => way.stays b o (rel.keep b o e n hb).1
  slot := fun b o e _ hb _ => sl b o e hb
  free := fun b o e n _ => by
    by_cases hb : b ∈ frs X.stack
    · exact rel.fr b hb
    · exact (rel.keep b o e n hb).2
  there := fun b o e _ => by
    rcases rel.there b o e with hb | ⟨o', q⟩
    · obtain ⟨_, o1, q1, _⟩ := way.funs.mem hb
      exact ⟨o1, q1⟩
    · exact ⟨o', way.stays b o' q⟩
  tups := rel.tups
  frzs := rel.frzs
  tbls := rel.tbls
theorem inv_of (I : Inv X pins σ H s) (os : s'.os = s.os) (bare : AllBare s'.gens) (way : XWay B X.stack a s'.heap) (hok : HOk X.prog X.w H' B) (rel : XRel (frs X.stack) H H' s.heap B)
    (sl : XSl (frs X.stack) s.heap s'.heap) : Inv X pins σ H' s' :=
  I.call' (ch := []) os (un_of way rel sl) (hok.kept way.stays) bare fun b hb => absurd hb (by simp)

theorem Inv.adopt {o : HO} (I : Inv X pins σ H s) (hn : H a = none) (new : ObjOk X.prog X.w (upd H a o) s.heap a o) (h0 : X.s₀.heap.get? a = none) (hL : a ≠ X.env.locals)
    (hc : ∀ x c, X.env.cells.lookup x = some c → c ≠ a) (hp : ∀ p ∈ X.pn ++ pins, p.1 ≠ a) : Inv X pins σ (upd H a o) s where
  ok := I.ok
  os := I.os
  bare := I.bare
  base := {
    keep := I.base.keep
    slot := I.base.slot
    free := fun b ob e n hb => by
      rw [upd_ne fun z => by subst z; rw [h0] at e; cases e]
      exact I.base.free b ob e n hb
    there := I.base.there
    tups := fun b xs e => by
      have q := I.base.tups b xs e
      rw [upd_ne (ne_of_none q hn)]; exact q
    frzs := fun b ob u e => by
      have q := I.base.frzs b ob u e
      rw [upd_ne (ne_of_none q hn)]; exact q
    tbls := fun b ps e => by
      obtain ⟨m, q⟩ := I.base.tbls b ps e
      exact ⟨m, by rw [upd_ne (ne_of_none q hn)]; exact q⟩ }
  loc := I.loc
  cell := I.cell
  free := by rw [upd_ne (Ne.symm hL)]; exact I.free
  freeC := fun x c e => by rw [upd_ne (hc x c e)]; exact I.freeC x c e
  pin := fun p m => by
    obtain ⟨p1, p2, p3⟩ := I.pin p m
    exact ⟨p1, by rw [upd_ne (hp p m)]; exact p2, p3⟩
  hok := fun b u e => by
    by_cases hb : b = a
    · subst hb; rw [upd_same] at e; cases e; exact new
    · rw [upd_ne hb] at e
      exact (I.hok b u e).stay (fun _ _ _ q => q) (fun c q => by rw [upd_ne (ne_of_none q hn)]; exact q) fun c xs q => by rw [upd_ne (ne_of_none q hn)]; exact q
  len := I.len

theorem ph_there {fl : Value} {h : Heap} (p : phAt fl B a cls h) : ∃ o vs, h.get? a = some o ∧ o.cls = cls ∧ o.data = .fields vs := by
  obtain ⟨a0, oe, vs, T, oT, ts, he, hc, hd, _⟩ := p
  exact ⟨oe, vs, he, hc.1, hd⟩
/-- it has landed in X: the state again, the exception tracked -/
theorem UpSt.adopt {fl : Value} (u : UpSt X E (phAt fl) a cls s') (hex : X.ex = []) :
    ∃ pins σ H', Inv X pins σ (upd H' a (HO.exc cls)) s' ∧ Inv X pins σ H' s' ∧ E σ cls none H' ∧ H' a = none := by
  obtain ⟨I, os, bare, way, p, hok, rel, sl, e⟩ := u
  rename_i pins σ H H' B s
  have I' := inv_of I os bare way hok rel sl
  obtain ⟨o, vs, ho, hc, hd⟩ := ph_there p
  have hn : H' a = none := by
    cases q : H' a with
    | none => rfl
    | some u =>
      have z := hok.lt q
      obtain ⟨ob, hb⟩ : ∃ ob, B.get? a = some ob := by
        have t := (hok a u q)
        cases q2 : B.get? a with
        | some ob => exact ⟨ob, rfl⟩
        | none =>
          exfalso
          cases u with
          | lst xs => obtain ⟨_, _, _, _, e⟩ := t; rw [q2] at e; cases e
          | tup xs => obtain ⟨_, _, _, _, e, _⟩ := t; rw [q2] at e; cases e
          | dK kvs => obtain ⟨_, _, _, _, o, _, _, e, _⟩ := t; rw [q2] at e; cases e
          | dT kvs => obtain ⟨_, _, _, _, o, _, _, e, _⟩ := t; rw [q2] at e; cases e
          | set S n => obtain ⟨o, _, _, _, e, _⟩ := t; rw [q2] at e; cases e
          | ins C dx fs => obtain ⟨_, _, _, e, _⟩ := t; rw [q2] at e; cases e
          | own y => obtain ⟨_, e⟩ := t; rw [q2] at e; cases e
          | xd fs => obtain ⟨_, ⟨_, _, _, e, _⟩, _⟩ := t; rw [q2] at e; cases e
          | rng lo hi => obtain ⟨_, _, _, e⟩ := t; rw [q2] at e; cases e
          | frz ob u => obtain ⟨e, _⟩ := t; rw [q2] at e; cases e
          | tbl ps => have e : B.get? a = some _ := t; rw [q2] at e; cases e
          | met f y => have e : B.get? a = some _ := t; rw [q2] at e; cases e
          | ext φ => obtain ⟨_, ⟨_, e⟩, _⟩ := t; rw [q2] at e; cases e
          | exc c => obtain ⟨_, _, e, _⟩ := t; rw [q2] at e; cases e
      rw [way.new] at hb; cases hb
  have nfr : a ∉ frs X.stack := fun hm => by
    obtain ⟨_, o1, q1, nf⟩ := way.funs.mem hm
    rw [ho] at q1; cases q1; exact nf vs hd
  have h0 : X.s₀.heap.get? a = none := by
    cases q : X.s₀.heap.get? a with
    | none => rfl
    | some o1 =>
      obtain ⟨o2, q2⟩ := I.base.there a o1 q (by rw [hex]; simp)
      rcases rel.there a o2 q2 with z | ⟨o3, z⟩
      · exact absurd z nfr
      · rw [way.new] at z; cases z
  refine ⟨pins, σ, H', I'.adopt hn ⟨o, vs, ho, hc, hd⟩ h0 (fun z => ?_) (fun x c ec z => ?_) (fun p' hp z => ?_), I', e, hn⟩
  · obtain ⟨m, ⟨ob, es, ep, q, qd, _⟩, _⟩ := I'.loc
    rw [← z, ho] at q; cases q; rw [hd] at qd; cases qd
  · obtain ⟨v, ob, q, qd⟩ := I'.cell x c ec
    rw [z, ho] at q; cases q; rw [hd] at qd; cases qd
  · obtain ⟨p1, p2, p3, p4, _⟩ := I.pin p' hp
    have z2 := (rel.keep p'.1 p'.2 p1 p2 fun hm => by
      rcases List.mem_cons.mp (I.stkSub _ hm) with q | q
      · exact p3 q
      · exact p4 q).1
    rw [z, way.new] at z2; cases z2

/-- it leaves the frame of X -/
theorem UpSt.out {E0 : XK} (u : UpSt X (fun _ => E0) phFly a cls s') (hst : X.stack = X.env :: X.outer) (hf : X.env.frame = some X.env.locals) (hex : X.ex = []) :
    CXE X.prog X.w X.outer X.H₀ X.s₀ E0 (.ref a) s' := by
  obtain ⟨I, os, bare, way, p, hok, rel, sl, e⟩ := u
  rename_i pins σ H H' B s
  have noex : ∀ b, b ∉ X.ex := fun b => by rw [hex]; simp
  have hfs : ∀ b, b ∈ frs X.stack ↔ b = X.env.locals ∨ b ∈ X.fs := fun b => by
    rw [hst]; unfold frs; rw [List.filterMap_cons, hf]; exact List.mem_cons
  have nloc : ∀ b o, X.s₀.heap.get? b = some o → b ≠ X.env.locals := fun b o q z => by
    have := Heap.lt_size q
    have h2 := I.ok.above
    rw [z] at this
    exact absurd (Nat.lt_of_lt_of_le this h2) (Nat.lt_irrefl _)
  obtain ⟨w1, w2, w3⟩ := way
  have w3' : s'.heap.FunFrames B X.outer := by rw [hst] at w3; exact w3.2.2
  refine ⟨a, cls, H', B, rfl, os.trans I.os, bare, ⟨w1, w2, w3'⟩, p, hok, ⟨fun b o q n hb => ?_, fun b hb => rel.fr b ((hfs b).mpr (.inr hb)), fun b o q => ?_, fun b xs q => rel.tups b xs (I.base.tups b xs q),
    fun b o u q => rel.frzs b o u (I.base.frzs b o u q), fun b ps q => ?_⟩, fun b o q hb => ?_, e⟩
  · refine rel.keep b o (I.base.keep b o q n hb (noex b)) (I.base.free b o q n (noex b)) fun z => ?_
    rcases (hfs b).mp z with z | z
    · exact nloc b o q z
    · exact hb z
  · obtain ⟨o1, q1⟩ := I.base.there b o q (noex b)
    rcases rel.there b o1 q1 with z | z
    · rcases (hfs b).mp z with z | z
      · exact absurd z (nloc b o q)
      · exact .inl z
    · exact .inr z
  · obtain ⟨m1, q1⟩ := I.base.tbls b ps q
    obtain ⟨m2, q2⟩ := rel.tbls b _ q1
    exact ⟨m1 ++ m2, by rw [q2, Array.append_assoc]⟩
  · obtain ⟨s1, q1⟩ := I.base.slot b o q (I.ok.frf b hb) hb (noex b)
    obtain ⟨s2, q2⟩ := sl b _ q1 ((hfs b).mpr (.inr hb))
    exact ⟨s2, q2⟩
end

/-! ### what X wants of exceptions -/
structure Exc (X : Cx) (E : St → XK) : Prop where
  pass : ∀ (pins : List (Addr × Obj)) (σ : St) (H : Hp) (s : Shared) (e : Value) (s' : Shared), Inv X pins σ H s → CXE X.prog X.w X.stack H s (E σ) e s' → X.xe e s'
  rais : ∀ (pins : List (Addr × Obj)) (σ : St) (H : Hp) (s s' : Shared) (a C : Addr) (args : List Value), Inv X pins σ H s → Heap.MadeExcOf s.heap s'.heap a (.ref C) args → s'.os = s.os → s'.gens = s.gens →
    E σ (.ref C) none H → X.xe (.ref a) s'
  own : PassesOwn (model X.prog X.w) X.A X.env X.xe
theorem exc_up {X : Cx} {E : St → XK} (hst : X.stack = X.env :: X.outer) (hf : X.env.frame = some X.env.locals) : Exc (X.wish (UpW X E X.env.locals)) E where
  pass := fun pins σ H s e s' I ⟨a, cls, H', B, ee, os, bare, way, p, hok, rel, sl, q⟩ => ⟨a, cls, ee, ⟨I.unwish, os, bare, way, .inr (.inl p), hok, rel, sl, q⟩⟩
  rais := fun pins σ H s s' a C args I hm os hg q => by
    have I := I.unwish
    obtain ⟨t, he, htn, ht⟩ := hm.there
    have hB : (PySem.W.hideAll s.heap (frs X.stack)).get? a = none := by
      cases z : (PySem.W.hideAll s.heap (frs X.stack)).get? a with
      | none => rfl
      | some o => have := PySem.W.of_hideAll _ z; rw [hm.new] at this; cases this
    refine ⟨a, .ref C, rfl, ⟨I, os, by rw [hg]; exact I.bare, ⟨fun b o z => hm.keeps b o (PySem.W.of_hideAll _ z), hB, ?_⟩, .inl ⟨_, _, _, he, rfl, rfl, rfl, rfl⟩, I.hok.hide I.stkFree, ⟨fun b o z n hb => ⟨PySem.W.hideAll_get _ z hb, n⟩, I.stkFree,
      fun b o z => ?_, fun _ _ z => z, fun _ _ _ z => z, fun _ ps z => ⟨#[], by rw [Array.append_empty]; exact z⟩⟩, fun b o z _ => ⟨o.slots, hm.keeps b o z⟩, q⟩⟩
    · exact (PySem.W.funFrames_hide I.stack fun env he b hb => List.mem_filterMap.mpr ⟨env, he, hb⟩).of_keeps fun b o z _ => ⟨o, hm.keeps b o z, rfl⟩
    · by_cases hb : b ∈ frs X.stack
      · exact .inl hb
      · exact .inr ⟨o, PySem.W.hideAll_get _ z hb⟩
  own := fun e s' ⟨a, cls, ee, u⟩ => by
    subst ee
    refine u.note rfl hst hf fun h' u' => ?_
    unfold cameBackBy
    rw [show (X.wish (UpW X E X.env.locals)).env.frame = some X.env.locals from hf]
    refine u'.hold fun h2 u2 => ?_
    obtain ⟨I, os, bare, way, p, hok, rel, sl, q⟩ := u2
    exact ⟨a, cls, rfl, ⟨I, os, bare, way, .inr (.inr p), hok, rel, sl, q⟩⟩

theorem PSs.wish {X : Cx} {st : List Stmt} {t : TS} {E : Value → Shared → Prop} (h : PSs (X.wish E) st t) (he : ∀ e s, E e s → X.xe e s) : PSs X st t := fun pins s σ H D I hw =>
  wpAny_mono (h pins s σ H D (I.wish E) hw) (fun _ _ z => SP.unwish z) he

/-- the context of a def's body that may raise -/
abbrev cxE (ca : Bool) (P : Program) (w : World) (K : PySem.W.Frag) (mg : Str → Option Value) (base : Heap) (N : List Str) (qual : Str) (scope : Scope) (f : Addr) (cd : Value) (A : Around) (outer : List Env) (s : Shared) (H : Hp) (E : XK) : Cx :=
  (cxOf (CXE P w) ca P w K mg base N qual scope f cd A outer s H E).wish (UpW (cxOf (CXE P w) ca P w K mg base N qual scope f cd A outer s H E) (fun _ => E) s.heap.objs.size)

section
variable {P : Program} {w : World} {K : PySem.W.Frag} {mg : Str → Option Value} {base : Heap}
theorem Fun.okE {x qual : Str} {st : Stmt} {f : Addr} {fd : FuncData} {N ps : List Str} {ca : Bool} {k : Nat} {sp : Sp} (F : Fun K x qual st f fd) (S : FnScope N ps (defScope st)) (len : ∀ vs H Q E, sp vs H Q E → vs.length = ps.length)
    (hbody : ∀ (cdv : Value) (A : Around) (outer : List Env) (s : Shared) (H : Hp) (vs : List V) (Q : VK) (E : XK), Room ca k (A.deeper (envOfC qual (defScope st) s.heap.objs.size f cdv)) →
      Exc (cxE ca P w K mg base N qual (defScope st) f cdv A outer s H E) (fun _ => E) → sp vs H Q E →
      ∃ t, PSs (cxE ca P w K mg base N qual (defScope st) f cdv A outer s H E) (defBody st) t ∧ t { nx := fun _ H' => Q .non H', rt := Q } (start N vs) H) : FnOk P w K mg base (CXE P w) ca (k + 1) f fd ps sp := by
  obtain ⟨oc, od, kV, doc, pm, an, cdv, ct, osl, rfl, lk, hcd⟩ := F.ex
  refine fn_of (CX := CXE P w) lk hcd S len fun A outer s H vs Q E hr hsp => ?_
  obtain ⟨t, h, q⟩ := hbody cdv A outer s H vs Q E hr (exc_up rfl rfl) hsp
  refine ⟨t, h.wish fun e s2 ⟨a, cls, ee, u⟩ => ?_, q⟩
  subst ee
  show wpAny _ _ (leaving _ _) _ _ _
  unfold leaving
  exact wpAny_bind (u.note rfl rfl rfl fun h' u' => u'.fly fun h'' u'' => u''.out rfl rfl rfl)
end
/-! ### an object of ours that nobody asks for any more -/
def rm (H : Hp) (p : Addr) : Hp := fun b => if b = p then none else H b
theorem rm_same {H : Hp} {p : Addr} : rm H p p = none := by unfold rm; rw [if_pos rfl]
theorem rm_ne {H : Hp} {p b : Addr} (h : b ≠ p) : rm H p b = H b := by unfold rm; rw [if_neg h]
/-- what may be forgotten: nothing else leans on it -/
def Loose : Option HO → Prop
  | some (.lst _) => True
  | some (.exc _) => True
  | some (.rng _ _) => True
  | _ => False
theorem Inv.rm {X : Cx} {pins : List (Addr × Obj)} {σ : St} {H : Hp} {s : Shared} {p : Addr} (I : Inv X pins σ H s) (hp : Loose (H p)) : Inv X pins σ (rm H p) s := by
  have no : ∀ {b : Addr}, H b = none → L2.rm H p b = none := fun {b} e => by
    unfold L2.rm; split
    · rfl
    · exact e
  have yes : ∀ {b : Addr} {o : HO}, H b = some o → ¬ Loose (some o) → L2.rm H p b = some o := fun {b o} e n => by
    rw [rm_ne fun z => by subst z; rw [e] at hp; exact n hp]; exact e
  refine ⟨I.ok, I.os, I.bare, ⟨I.base.keep, I.base.slot, fun b o e n hb => no (I.base.free b o e n hb), I.base.there, fun b xs e => yes (I.base.tups b xs e) (fun z => z), fun b o u e => yes (I.base.frzs b o u e) (fun z => z), fun b ps e => ?_⟩, I.loc, I.cell,
    no I.free, fun x c e => no (I.freeC x c e), fun q m => ?_, fun b u e => ?_, I.len⟩
  · obtain ⟨m, q⟩ := I.base.tbls b ps e
    exact ⟨m, yes q fun z => z⟩
  · obtain ⟨p1, p2, p3⟩ := I.pin q m
    exact ⟨p1, no p2, p3⟩
  · by_cases hb : b = p
    · subst hb; rw [rm_same] at e; cases e
    · rw [rm_ne hb] at e
      exact (I.hok b u e).stay (fun _ _ _ q => q) (fun c q => yes q fun z => z) fun c xs q => yes q fun z => z

end L2

/-! LY: rules over LX: calls that may raise, raise, try, isinstance; readings that compute. -/
namespace L2
open PySem PySem.Spec PyProof.Rows

/-! ### a name goes behind an except suite -/
section
variable {X : Cx} {pins : List (Addr × Obj)} {σ : St} {H : Hp} {s : Shared}
end

/-! ### calls -/
def tCallE (sp : Sp) (E : St → XK) (t : TA) : TE := fun σ H Q => t σ H fun vs H1 => sp vs H1 Q (E σ)
section
variable {X : Cx} {ca : Bool} {k : Nat} {f C : Addr} {fd : FuncData} {ps : List Str} {sp : Sp} {E : St → XK} {x m : Str} {p pos apos : Pos} {e o : Expr} {es : List Expr} {ta : TE} {t : TA}
theorem run_fnE {pins : List (Addr × Obj)} {σ : St} {H : Hp} {s : Shared} {Q : VK} {us : List Value} {vs : List V} (F : FnOk X.prog X.w X.K X.mg X.base (CXE X.prog X.w) ca k f fd ps sp) (hr : Room ca k X.A) (hb : Binds X.K fd ps []) (hx : Exc X E)
    (I : Inv X pins σ H s) (r : Vals vs us) (h : sp vs H Q (E σ)) : wpAny (model X.prog X.w) X.A (call (.ref f) us) (EP X pins σ Q) X.xe s := by
  have hl : (us ++ []).length = ps.length := by rw [List.append_nil, ← r.length]; exact F.len _ _ _ _ h
  have hb' := hb s us I.kIn hl
  rw [List.append_nil] at hb'
  refine wpAny_call (codeAny_mono (F.run X.A X.stack s H ⟨us, []⟩ us vs Q (E σ) hr I.env0 hb' r h) fun r s' hq => ?_)
  cases r with
  | error e => exact hx.pass pins σ H s e s' I hq
  | ok fl =>
    cases fl with
    | ret u => exact I.after hq
    | next => exact False.elim hq
    | brk => exact False.elim hq
    | cont => exact False.elim hq
theorem pe_callE (F : FnOk X.prog X.w X.K X.mg X.base (CXE X.prog X.w) ca k f fd ps sp) (hr : Room ca k X.A) (hg : Gl X x) (hm : X.mg x = some (.ref f)) (hk : PySem.W.keepIn X.K (.ref f) = true) (hb : Binds X.K fd ps []) (hx : Exc X E)
    (ha : PA X (e :: es) t) (hdb : (x == ("__debug__" : Str)) = false := by decide) (he : starEach (e :: es) X.env = (false, eval e X.env) :: starEach es X.env := by rfl) (hpl : (backTo pos (starEach es X.env)).any (·.1) = false := by rfl) :
    PE X (.Call (.Name x p) (e :: es) [] pos) (tCallE sp E t) := by
  intro pins s σ H Q I h
  refine wpAny_Call_Name_kw (ld_glob I hg hm ?_ hdb)
  refine PySem.W.callWith_K (h₀ := X.base) I.ok.mod.kin hk (thn (ha pos pins s σ H _ I h) fun us s1 ⟨vs, H1, I1, r, q⟩ => ⟨I1.kIn, ?_⟩) he hpl
  exact run_fnE F hr hb hx I1 r q
end

/-! ### raise C(..), C an own class above which ValueError stands -/
abbrev bmV : List Value := [.type "ValueError", .type "Exception", .type "BaseException", .type "object"]
def ExcC (K : PySem.W.Frag) (C : Addr) : Prop := PySem.W.excIn K C bmV "ValueError.__new__" = true
theorem ExcC.obj {K : PySem.W.Frag} {h : Heap} {C : Addr} (X : K.In h) (q : ExcC K C) : ∃ bm N nm qn bs hd sn sub ab col dd k0 k1 k2 k3 k5 mN, h.get? C = some (excClassObj nm qn C N bs bm hd sn sub ab col dd k0 k1 k2 k3 k5 "ValueError.__new__") ∧
    h.Ns N mN ∧ mN "__init__" = none ∧ OwnTail h bmV bm := by
  unfold ExcC PySem.W.excIn at q
  split at q
  · rename_i dd cd sl ho
    split at q
    · rename_i C' bm k0 k1 k2 k3 n k5 hm hs
      rw [Bool.and_eq_true, Bool.and_eq_true, Bool.and_eq_true, Bool.and_eq_true, Bool.and_eq_true, beq_iff_eq, beq_iff_eq, beq_iff_eq, Bool.not_eq_true'] at q
      obtain ⟨⟨⟨⟨⟨q1, q2⟩, q3⟩, q4⟩, q5⟩, q6⟩ := q
      subst q1 q2
      obtain ⟨nm, bs, mro, ns, qn, hd, sn, sub, ab, col, del⟩ := cd
      have q3 : del = false := q3
      have hm : mro = _ := hm
      subst q3 hm
      obtain ⟨l⟩ := sl
      have hs : l = _ := hs
      subst hs
      exact ⟨bm, ns, nm, qn, bs, hd, sn, sub, ab, col, dd, k0, k1, k2, k3, k5, _, X _ _ ho, .of_isNs (PySem.W.isNs_of_in X q5), PySem.W.nsMap_none_of_in X q5 q6, PySem.W.tail_of_in X q4⟩
    · cases q
  · cases q
section
variable {X : Cx} {C : Addr} {E : St → XK} {x : Str} {np cpos pos : Pos} {e : Expr} {es : List Expr} {t : TA}
end

/-! ### try .. except -/
/-- the context of an except suite -/
abbrev Cx.hnd (X : Cx) (a : Addr) : Cx := { X with A := X.A.mark (some (.ref a)), calm := false, xe := fun _ _ => False }
abbrev Cx.pinned (X : Cx) (pins : List (Addr × Obj)) : Cx := { X with pn := X.pn ++ pins }
section
variable {X : Cx} {pins pins' : List (Addr × Obj)} {σ : St} {H : Hp} {s : Shared} {a : Addr} {E : Value → Shared → Prop}
theorem Cx.Ok.hnd (ok : X.Ok) : (X.hnd a).Ok := ⟨ok.mod, ok.kind, ok.glob, ok.blt, ok.above, ok.inj, ok.has, ok.cab, (fun z => Bool.noConfusion z), ok.frames, ok.stk, ok.exf, ok.bs, ok.bsz, ok.noex, ok.exfs, ok.funs, ok.frf⟩
theorem Cx.Ok.pinned (ok : X.Ok) (pins : List (Addr × Obj)) : (X.pinned pins).Ok := ⟨ok.mod, ok.kind, ok.glob, ok.blt, ok.above, ok.inj, ok.has, ok.cab, ok.hd, ok.frames, ok.stk, ok.exf, ok.bs, ok.bsz, ok.noex, ok.exfs, ok.funs, ok.frf⟩
theorem Inv.hnd (I : Inv X pins σ H s) : Inv (X.hnd a) pins σ H s := ⟨I.ok.hnd, I.os, I.bare, I.base, I.loc, I.cell, I.free, I.freeC, I.pin, I.hok, I.len⟩
end
/-- a row of handlers, at an exception that lies in the frame -/
abbrev TH := Ends → St → Hp → Value → Prop
def PH (X : Cx) (hs : List ExceptHandler) (t : TH) : Prop :=
  ∀ (pins : List (Addr × Obj)) (D : Ends) (a : Addr) (cls : Value) (s : Shared), X.Ok → UpSt (X.pinned pins) (fun σ cls _ H => t D σ H cls) phFly a cls s →
    wpAny (model X.prog X.w) X.A (handleBy (.ref a) X.env hs) (SP X pins D) X.xe s
section
variable {X : Cx} {c : Value} {i : Nat} {x n : Str} {np pos : Pos} {b₀ : Stmt} {suite : List Stmt} {th : TS} {tr : TH} {rest : List ExceptHandler}
theorem ty_looks {M : Model} {h : Heap} {a : Addr} {cls : Value} (e : ∃ o vs, h.get? a = some o ∧ o.cls = cls ∧ o.data = .fields vs) : PySem.W.Looks M h (typeOf (.ref a)) cls := by
  obtain ⟨o, _, ho, hc, _⟩ := e
  subst hc
  exact (PySem.W.Looks.ld ho).andThen .now
end
end L2

/-! LZ: readings that compute. -/
namespace L2
open PySem PySem.Spec PyProof.Rows

section
variable {X : Cx}
theorem PE.mono {e : Expr} {t t' : TE} (h : PE X e t) (k : ∀ σ H Q, t' σ H Q → t σ H Q) : PE X e t' := fun pins s σ H Q I q => h pins s σ H Q I (k _ _ _ q)
theorem PT.mono {e : Expr} {t t' : TT} (h : PT X e t) (k : ∀ σ H Q, t' σ H Q → t σ H Q) : PT X e t' := fun pins s σ H Q I q => h pins s σ H Q I (k _ _ _ q)
theorem PS.mono {e : Stmt} {t t' : TS} (h : PS X e t) (k : ∀ D σ H, t' D σ H → t D σ H) : PS X e t' := fun pins s σ H D I q => h pins s σ H D I (k _ _ _ q)
theorem OpR.mono {f : Value → Value → Sem Value} {r r' : R2} (h : OpR X f r) (k : ∀ x y H Q, r' x y H Q → r x y H Q) : OpR X f r' := fun pins s σ H x y v u Q I rx ry q => h pins s σ H x y v u Q I rx ry (k _ _ _ _ q)
theorem CallR.mono {f : Value} {r r' : List V → Hp → VK → Prop} (h : CallR X f r) (k : ∀ xs H Q, r' xs H Q → r xs H Q) : CallR X f r' := fun pins s σ H xs us Q I rx q => h pins s σ H xs us Q I rx (k _ _ _ q)
theorem IxR.mono {r r' : R2} (h : IxR X r) (k : ∀ x y H Q, r' x y H Q → r x y H Q) : IxR X r' := fun value slice pins s σ H x y v u Q I rx ry q => h value slice pins s σ H x y v u Q I rx ry (k _ _ _ _ q)
end

/-! ### names -/
def cVar (i : Nat) : TE := fun σ H Q => match σ[i]? with
  | some (some v) => Q v H
  | _ => False
section
variable {X : Cx}
theorem cv (i : Nat) {x : Str} {pos : Pos} (hN : X.N[i]? = some x := by rfl) (hv : Vis X.env.scope x := by first | exact Or.inl rfl | exact Or.inr (Or.inl rfl) | exact Or.inr (Or.inr rfl)) (hd : (x == ("__debug__" : Str)) = false := by decide)
    (hcd : (x == ("__classdict__" : Str)) = false := by decide) : PE X (.Name x pos) (cVar i) := (pe_var hN hv hd hcd).mono fun σ H Q h => by
  unfold cVar at h
  split at h
  · rename_i v e; exact ⟨v, e, h⟩
  · exact h.elim
/-- a global's value -/
def Gv (mg : Str → Option Value) (x : Str) (v : V) : Prop := ∃ u, mg x = some u ∧ RelV v u
theorem pe_gv {x : Str} {v : V} {pos : Pos} (h : Gv X.mg x v) (hg : Gl X x := by rfl) (hd : (x == ("__debug__" : Str)) = false := by decide) : PE X (.Name x pos) (tC v) := by
  obtain ⟨u, hm, r⟩ := h
  exact pe_glob hg hm r hd
/-- a built-in type's name as a value -/
theorem pe_ty {x : Str} {T : String} {pos : Pos} (hm : X.mg x = none) (hv : bootBuiltins x = some (.type T)) (hg : Gl X x := by rfl) (hn : x ≠ "__name__" := by decide) (hd : (x == ("__debug__" : Str)) = false := by decide) :
    PE X (.Name x pos) (tC (.ty T)) := pe_bltn hg hm hv rfl hn hd
end

/-! ### operations -/
def cAdd : R2 := fun x y H Q => match x, y with
  | .int i, .int j => Q (.int (i + j)) H
  | .str i, .str j => i.length + j.length ≤ sizeLine ∧ Q (.str (i ++ j)) H
  | _, _ => False
def cSub : R2 := fun x y H Q => match x, y with
  | .int i, .int j => Q (.int (i - j)) H
  | _, _ => False
def cMul : R2 := fun x y H Q => match x, y with
  | .int i, .int j => CMul i j ∧ Q (.int (i * j)) H
  | .str z, .int n => z.length ≤ 1000 ∧ (n = 0 ∨ n = 1) ∧ Q (.str (if n = 1 then z else Str.empty)) H
  | _, _ => False
def cFdiv : R2 := fun x y H Q => match x, y with
  | .int i, .int j => CDiv i j ∧ Q (.int (i / j)) H
  | _, _ => False
def cMod : R2 := fun x y H Q => match x, y with
  | .int i, .int j => 0 < j ∧ Q (.int (i % j)) H
  | _, _ => False
def cCmp (p : Int → Int → Bool) : R2 := fun x y H Q => match x, y with
  | .int i, .int j => Q (.bl (p i j)) H
  | _, _ => False
abbrev cLt : R2 := cCmp fun i j => decide (i < j)
abbrev cLe : R2 := cCmp fun i j => decide (i ≤ j)
abbrev cGt : R2 := cCmp fun i j => decide (j < i)
/-- == of two scalars -/
def eqv : V → V → Option Bool
  | .int i, .int j => some (decide (i = j))
  | .str i, .str j => some (decide (i = j))
  | .bl i, .bl j => some (decide (i = j))
  | .non, .non => some true
  | .non, .int _ => some false | .int _, .non => some false | .non, .bl _ => some false | .bl _, .non => some false | .non, .str _ => some false | .str _, .non => some false
  | .int _, .str _ => some false | .str _, .int _ => some false | .bl _, .str _ => some false | .str _, .bl _ => some false
  | _, _ => none
def cEq : R2 := fun x y H Q => match eqv x y with
  | some b => Q (.bl b) H
  | none => False
def cNe : R2 := fun x y H Q => match eqv x y with
  | some b => Q (.bl (!b)) H
  | none => False
def isNon : V → Bool
  | .non => true
  | _ => false
def cIs : R2 := fun x y H Q => match y with
  | .non => Q (.bl (isNon x)) H
  | _ => False
def cNeg : V → Hp → VK → Prop := fun x H Q => match x with
  | .int i => Q (.int (-i)) H
  | _ => False
theorem eqv_scal {x y : V} {b : Bool} (h : eqv x y = some b) : scal x y = true ∧ decide (x = y) = b := by
  cases x <;> cases y <;> simp only [eqv, Option.some.injEq, reduceCtorEq] at h <;> subst h <;> simp [scal]
section
variable {X : Cx}
theorem c_add : OpR X (binaryOp .Add) cAdd := by
  intro pins s σ H x y v u Q I rx ry h
  unfold cAdd at h
  split at h
  · exact op_add pins s σ H _ _ v u Q I rx ry ⟨_, _, rfl, rfl, h⟩
  · exact op_add_str pins s σ H _ _ v u Q I rx ry ⟨_, _, rfl, rfl, h.1, h.2⟩
  · exact h.elim
theorem c_sub : OpR X (binaryOp .Sub) cSub := op_sub.mono fun x y H Q h => by
  unfold cSub at h
  split at h
  · exact ⟨_, _, rfl, rfl, h⟩
  · exact h.elim
theorem c_mul : OpR X (binaryOp .Mult) cMul := by
  intro pins s σ H x y v u Q I rx ry h
  unfold cMul at h
  split at h
  · exact op_mul pins s σ H _ _ v u Q I rx ry ⟨_, _, rfl, rfl, h.1, h.2⟩
  · rename_i z n
    obtain ⟨t, rfl⟩ := (show ∃ t, v = Value.str z t from rx)
    obtain ⟨t', rfl⟩ := (show ∃ t, u = Value.int n t from ry)
    obtain ⟨hz, hn, h⟩ := h
    refine SB.mul (mulOk_of 1000 16 hz (by omega) (by omega) (by decide) (by decide)) fun t2 k => ?_
    rcases hn with rfl | rfl
    · exact ⟨.str Str.empty, H, I.tok _, ⟨t2, rfl⟩, h⟩
    · exact ⟨.str z, H, I.tok _, ⟨t2, rfl⟩, h⟩
  · exact h.elim
theorem c_fdiv : OpR X (binaryOp .FloorDiv) cFdiv := op_fdiv.mono fun x y H Q h => by
  unfold cFdiv at h
  split at h
  · exact ⟨_, _, rfl, rfl, h.1, h.2⟩
  · exact h.elim
theorem c_mod : OpR X (binaryOp .Mod) cMod := op_mod.mono fun x y H Q h => by
  unfold cMod at h
  split at h
  · exact ⟨_, _, rfl, rfl, h.1, h.2⟩
  · exact h.elim
theorem c_cmp {op : CmpOp} {p : Int → Int → Bool} (h : OpR X (compareOp op) (rI0 fun i j => .bl (p i j))) : OpR X (compareOp op) (cCmp p) := h.mono fun x y H Q h => by
  unfold cCmp at h
  split at h
  · exact ⟨_, _, rfl, rfl, h⟩
  · exact h.elim
theorem c_lt : OpR X (compareOp .Lt) cLt := c_cmp op_lt
theorem c_le : OpR X (compareOp .LtE) cLe := c_cmp op_le
theorem c_gt : OpR X (compareOp .Gt) cGt := c_cmp op_gt
theorem c_eq : OpR X (compareOp .Eq) cEq := op_eq.mono fun x y H Q h => by
  unfold cEq at h
  split at h
  · rename_i b e
    obtain ⟨e1, e2⟩ := eqv_scal e
    exact ⟨e1, by rw [e2]; exact h⟩
  · exact h.elim
theorem c_ne : OpR X (compareOp .NotEq) cNe := op_ne.mono fun x y H Q h => by
  unfold cNe at h
  split at h
  · rename_i b e
    obtain ⟨e1, e2⟩ := eqv_scal e
    exact ⟨e1, by rw [e2]; exact h⟩
  · exact h.elim
theorem isNon_dec (x : V) : decide (x = .non) = isNon x := by cases x <;> simp [isNon]
theorem c_is : OpR X (compareOp .Is) cIs := op_isN.mono fun x y H Q h => by
  unfold cIs at h
  split at h
  · exact ⟨rfl, by rw [isNon_dec]; exact h⟩
  · exact h.elim
theorem c_neg : UnR X (unaryOp .USub) cNeg := fun pins s σ H x v Q I rx h => by
  unfold cNeg at h
  split at h
  · exact un_neg pins s σ H _ v Q I rx ⟨_, rfl, h⟩
  · exact h.elim
end

end L2

namespace L2
open PySem PySem.Spec PyProof.Rows
/-! ### [a, b, ..][i]: the list is forgotten -/
section
variable {X : Cx} {es : List Expr} {e : Expr} {t : TA} {ti : TE} {pos p2 : Pos}
end

/-! ### items, lengths, small built-ins -/
def cIx : R2 := fun x y H Q => match x, y with
  | .ref p, .int i => (match H p with
    | some (.lst xs) => (match atI xs i with
      | some v => Q v H
      | none => False)
    | some (.tup xs) => (match atI xs i with
      | some v => Q v H
      | none => False)
    | _ => False)
  | _, _ => False
def cLen : List V → Hp → VK → Prop := fun xs H Q => match xs with
  | [.ref p] => (match H p with
    | some (.lst ys) => Q (.int ys.length) H
    | some (.tup ys) => Q (.int ys.length) H
    | _ => False)
  | _ => False
/-- of a list that is read only (the script) -/
def cIxS (K : PySem.W.Frag) : R2 := fun x y H Q => match x, y with
  | .ref p, .int i => ∃ xs, SqL K H p xs ∧ (match atI xs i with
      | some v => Q v H
      | none => False)
  | _, _ => False
def cLenS (K : PySem.W.Frag) : List V → Hp → VK → Prop := fun xs H Q => match xs with
  | [.ref p] => ∃ ys, SqL K H p ys ∧ Q (.int ys.length) H
  | _ => False
section
variable {X : Cx}
theorem c_ix : IxR X cIx := by
  intro value slice pins s σ H x y v u Q I rx ry h hsub
  unfold cIx at h
  split at h
  case h_2 => exact h.elim
  split at h
  · rename_i xs hp
    split at h
    case h_2 => exact h.elim
    rename_i v' ha
    exact ix_list value slice pins s σ H _ _ v u Q I rx ry ⟨_, xs, _, v', rfl, rfl, SqL.of hp, ha, h⟩ hsub
  · rename_i xs hp
    split at h
    case h_2 => exact h.elim
    rename_i v' ha
    exact ix_tup value slice pins s σ H _ _ v u Q I rx ry ⟨_, xs, _, v', rfl, rfl, SqT.of hp, ha, h⟩ hsub
  · exact h.elim
theorem c_ixS : IxR X (cIxS X.K) := by
  intro value slice pins s σ H x y v u Q I rx ry h hsub
  unfold cIxS at h
  split at h
  case h_2 => exact h.elim
  obtain ⟨xs, hp, h⟩ := h
  split at h
  case h_2 => exact h.elim
  rename_i v' ha
  exact ix_list value slice pins s σ H _ _ v u Q I rx ry ⟨_, xs, _, v', rfl, rfl, hp, ha, h⟩ hsub
theorem c_len : CallR X (.builtin "len") cLen := call_len_seq.mono fun xs H Q h => by
  unfold cLen at h
  split at h
  case h_2 => exact h.elim
  split at h
  · rename_i ys hp; exact ⟨_, ys, rfl, .inl (SqL.of hp), h⟩
  · rename_i ys hp; exact ⟨_, ys, rfl, .inr (SqT.of hp), h⟩
  · exact h.elim
theorem c_lenS : CallR X (.builtin "len") (cLenS X.K) := call_len_seq.mono fun xs H Q h => by
  unfold cLenS at h
  split at h
  case h_2 => exact h.elim
  obtain ⟨ys, hp, h⟩ := h
  exact ⟨_, ys, rfl, .inl hp, h⟩
end
theorem cxOf_K {CX : CXT} {ca : Bool} {P : Program} {w : World} {K : PySem.W.Frag} {mg : Str → Option Value} {base : Heap} {N : List Str} {qual : Str} {scope : Scope} {f : Addr} {cd : Value} {A : Around} {outer : List Env} {s : Shared} {H : Hp} {E : XK} :
    (cxOf CX ca P w K mg base N qual scope f cd A outer s H E).K = K := rfl

/-! ### within an except suite -/
theorem Room.hnd {ca : Bool} {k : Nat} {A : Around} {v : Value} (r : Room ca k A) : Room false k (A.mark (some v)) := ⟨fun z => Bool.noConfusion z, r.dp, r.un⟩
end L2

/-! LI: isinstance, of caught own exceptions too. -/
namespace L2
open PySem PySem.Spec PyProof.Rows

/-- what isinstance wants of an own exception's class -/
structure KiE (K : PySem.W.Frag) (C : Addr) : Prop where
  ga : PySem.W.findIn K (.ref C) "__getattribute__" = some (some (.builtin "BaseException.__getattribute__"))
  gt : PySem.W.findIn K (.ref C) "__getattr__" = some none
  cl : PySem.W.findIn K (.ref C) "__class__" = some (some (.builtin "object.__class__"))
  hn : PySem.W.specialIn K (.builtin "object.__class__") "__get__" = some (some (.builtin "getset_descriptor.__get__"))
  tk : PySem.W.takesIn K (.builtin "object.__class__") = some true
  mb : PySem.W.mroIn K C (.type "BaseException") = some true
  mo : PySem.W.mroIn K C (.type "object") = some true
section
open Builtin Builtin.ObjectAttr Builtin.Getset_descriptor
variable {prog : Program} {w : World} {A : Around} {E : Value → Shared → Prop} {s : Shared} {K : PySem.W.Frag} {a C : Addr}
theorem KiE.cls (ki : KiE K C) : ∃ cd, PySem.W.clsIn K C = some cd := by
  have h := ki.mo
  unfold PySem.W.mroIn at h
  cases q : PySem.W.clsIn K C with
  | none => rw [q] at h; cases h
  | some cd => exact ⟨cd, rfl⟩
theorem xc_get {R : Result → Shared → Prop} {tp : Value} (X : K.In s.heap) (I : PySem.W.Looks (model prog w) s.heap (typeOf (.ref a)) (.ref C)) (ki : KiE K C) (h : R (.ok (.ret (.ref C))) s) :
    codeAny (model prog w) A (.call (.builtin "getset_descriptor.__get__") ⟨[.builtin "object.__class__", .ref a, tp], []⟩) R s := by
  obtain ⟨hh, g, dr, t, os⟩ := s
  have L1 := PySem.W.looks_mroIn (M := model prog w) X ki.mo
  refine codeAny_call_builtin PySem.W.KF.slot_gs.plain PySem.W.KF.entry_gs (PySem.W.KF.slot_gs.check _ _ _ _ _ _ _ _ PySem.W.KF.type_class (PySem.W.KF.args_gs _ _ _) ?_)
  unfold Builtin.«getset_descriptor.__get__» descrGet; rw [PySem.W.dga_obj]; refine wpAny_bind (wpAny_pure ?_)
  unfold descrGetter descrCheckInstance descrNameAndClass isInstance; simp only [PySem.W.KF.owner_class]; repeat lk
  refine ⟨Code.quiet_builtin _ (by decide +kernel), codeAny_builtin PySem.W.KF.entry_class ?_⟩; unfold Builtin.«object.__class__» shownTypeOf; repeat lk
  exact h
theorem xc_entry {tk : Tok} {Q : Fin → Shared → Prop} (X : K.In s.heap) (I : PySem.W.Looks (model prog w) s.heap (typeOf (.ref a)) (.ref C)) (ki : KiE K C) (h : Q (.done (.ret (.ref C))) s) :
    wpAny (model prog w) A (Builtin.«object.__getattribute__» ⟨[.ref a, .str "__class__" tk], []⟩) Q E s := by
  obtain ⟨hh, g, d, t, os⟩ := s
  have L1 : PySem.W.Looks (model prog w) hh (find (.ref a) (.ref C) "__class__") (.bind (.builtin "getset_descriptor.__get__") (.builtin "object.__class__")) := by
    have LA := PySem.W.looks_findIn (M := model prog w) X ki.cl
    have LB : PySem.W.Looks (model prog w) hh (getOf (some (.builtin "object.__class__"))) (some (.builtin "getset_descriptor.__get__")) := PySem.W.looks_specialIn X ki.hn
    have LC := PySem.W.looks_takesIn (M := model prog w) X ki.tk
    refine LA.andThen (LB.andThen ?_)
    exact (show PySem.W.Looks (model prog w) hh (dataDescriptor? (some (.builtin "object.__class__")) (some (.builtin "getset_descriptor.__get__"))) (some (.builtin "getset_descriptor.__get__", .builtin "object.__class__")) from LC.andThen .now).andThen (PySem.W.Looks.tag .now)
  unfold Builtin.«object.__getattribute__»
  refine wpAny_bind (m := slotArgs _ _ _) (wpAny_pure ?_)
  refine wpAny_bind (m := attrName _) (wpAny_pure ?_)
  refine wpAny_bind (I.at (wpAny_bind (L1.at ?_)))
  show wpAny _ _ (bindTo _ _ _ _) _ _ _
  show wpAny _ _ (holding [_] (call _ [_, .ref a, .ref C]) >>= ret) _ _ _
  exact wpAny_bind (wpAny_holding (wpAny_call (xc_get X I ki (wpAny_pure h))))
theorem xc_call {tk : Tok} {R : Result → Shared → Prop} (X : K.In s.heap) (I : PySem.W.Looks (model prog w) s.heap (typeOf (.ref a)) (.ref C)) (ki : KiE K C) (h : R (.ok (.ret (.ref C))) s) :
    codeAny (model prog w) A (.call (.builtin "BaseException.__getattribute__") ⟨[.ref a, .str "__class__" tk], []⟩) R s := by
  obtain ⟨hh, g, d, t, os⟩ := s
  have L1 := PySem.W.looks_mroIn (M := model prog w) X ki.mb
  refine codeAny_call_builtin PySem.F.attr_ValueError.ga.plain PySem.F.entry_bexc_ga ?_
  have hk : builtinKind "BaseException.__getattribute__" = some .slot := by decide +kernel
  have hsplit : splitId "BaseException.__getattribute__" = some ("BaseException", "__getattribute__") := by decide +kernel
  have ha := PySem.F.args_bexc_ga (.ref a) (.str "__class__" tk)
  simp only [checkBuiltinCall, hk, hsplit]
  refine wpAny_bind (wpAny_bind (I.at (L1.at ?_)))
  rw [if_neg (by decide)]
  unfold argsOk at ha
  exact wpAny_of_eq (a := ()) ha (xc_entry X I ki h)
theorem xc_attr {Q : Option Value → Shared → Prop} (X : K.In s.heap) (I : PySem.W.Looks (model prog w) s.heap (typeOf (.ref a)) (.ref C)) (ki : KiE K C) (h : Q (some (.ref C)) { s with toks := s.toks + 1 }) :
    wpAny (model prog w) A (getAttr? (.ref a) "__class__") Q E s := by
  obtain ⟨hh, g, d, t, os⟩ := s
  have L1 := PySem.W.looks_findIn (M := model prog w) X ki.ga
  have L2 := PySem.W.looks_findIn (M := model prog w) X ki.gt
  unfold getAttr? getAttrBy? getAttrBy
  refine wpAny_bind (wpAny_mkText (wpAny_bind (wpAny_attempt (wpAny_holding (wpAny_bind (I.at (wpAny_bind (L1.at ?_))))))))
  show wpAny _ _ (getAttrByItsOwn _ _ _ _ _ _) _ _ _
  unfold getAttrByItsOwn
  refine wpAny_bind (m := hookBefore _) ?_
  show wpAny _ _ (typeLookup (.ref C) "__getattr__") _ _ _
  refine L2.at (wpAny_bind (wpAny_attempt (wpAny_holding ?_)))
  show wpAny _ _ (boundAndCalled _ _ _) _ _ _
  unfold boundAndCalled
  refine wpAny_bind (wpAny_of_eq (PySem.F.attr_ValueError.ga.bind _) ?_)
  refine wpAny_call (xc_call X I ki ?_)
  exact PySem.W.handed_on rfl (wpAny_pure h)
theorem kitx_exc (ki : KiE K C) : PySem.W.KitX K (.ref a) (.ref C) (fun h => ∃ o vs, h.get? a = some o ∧ o.cls = .ref C ∧ o.data = .fields vs) where
  ty := fun M h _ p => ty_looks p
  it := fun _ _ X _ => by
    obtain ⟨cd, hc⟩ := ki.cls
    unfold PySem.W.clsIn at hc
    split at hc
    · rename_i c' d' cd' sl' ho
      intro A' Q' E' s' k q; unfold isType loadHead; exact wpAny_bind (wpAny_loadPart (k _ _ (X _ _ ho)) (wpAny_pure q))
    · cases hc
  ne := fun h tp dd its n sl X htp => by
    obtain ⟨cd, hc⟩ := ki.cls
    refine Bool.eq_false_iff.mpr fun q => ?_
    have e : C = tp := Value.ref.inj (beq_iff_eq.mp q)
    subst e
    unfold PySem.W.clsIn at hc
    split at hc
    · rename_i c' d' cd' sl' ho; have z := (X _ _ ho).symm.trans htp; cases z
    · cases hc
  ca := fun X p k => xc_attr X (ty_looks p) ki k
end

/-- what isinstance wants of an own class -/
structure KiI (K : PySem.W.Frag) (C : Addr) : Prop where
  cl : Cls K C
  ha : PySem.W.findIn K (.ref C) "__class__" = some (some (.builtin "object.__class__"))
  hn : PySem.W.specialIn K (.builtin "object.__class__") "__get__" = some (some (.builtin "getset_descriptor.__get__"))
  tk : PySem.W.takesIn K (.builtin "object.__class__") = some true
  hm : PySem.W.mroIn K C (.type "object") = some true
/-- the type of a value -/
def tyo (H : Hp) : V → Option Value
  | .non => some (.type "NoneType")
  | .bl _ => some (.type "bool")
  | .int _ => some (.type "int")
  | .str _ => some (.type "str")
  | .ref a => match H a with
    | some (.lst _) => some (.type "list")
    | some (.frz _ (.lst _)) => some (.type "list")
    | some (.tup _) => some (.type "tuple")
    | some (.dK _) => some (.type "dict")
    | some (.ins C _ _) => some (.ref C)
    | some (.exc c) => some c
    | _ => none
  | _ => none
def OkTy (K : PySem.W.Frag) (H : Hp) : V → Prop
  | .ref a => match H a with
    | some (.ins C _ _) => KiI K C
    | some (.exc c) => ∃ C, c = .ref C ∧ KiE K C
    | _ => True
  | _ => True
def kitV (K : PySem.W.Frag) (t : Value) : V → Option Bool
  | .ty n => PySem.W.kitOne K t (.type n)
  | .ref C => PySem.W.kitOne K t (.ref C)
  | _ => none
def rIsi (K : PySem.W.Frag) : List V → Hp → VK → Prop := fun xs H Q => match xs with
  | [x, c] => (match tyo H x with
    | some t => OkTy K H x ∧ (match kitV K t c with
      | some b => Q (.bl b) H
      | none => False)
    | none => False)
  | _ => False
theorem call_isi {X : Cx} : CallR X (.builtin "isinstance") (rIsi X.K) := by
  intro pins s σ H xs us Q I r h
  unfold rIsi at h
  split at h
  case h_2 => exact h.elim
  rename_i x c
  obtain ⟨u, w', rfl, rx, rc⟩ := vals2 r
  split at h
  case h_2 => exact h.elim
  rename_i t ht
  obtain ⟨ok, h⟩ := h
  split at h
  case h_2 => exact h.elim
  rename_i b hk
  have q := h
  have hc : PySem.W.kitOne X.K t w' = some b := by
    cases c <;> first | (cases (show w' = Value.type _ from rc); exact hk) | (cases (show w' = Value.ref _ from rc); exact hk) | cases hk
  have fin : ∀ tk, EP X pins σ Q (.bool b) { s with toks := tk } := fun tk => ⟨.bl b, H, I.tok tk, rfl, q⟩
  cases x with
  | non => cases ht; exact isinst_ok I rx .non hc fin
  | bl y => cases ht; exact isinst_ok I rx (.bl y) hc fin
  | int i => cases ht; exact isinst_ok I rx (.int i) hc fin
  | str y => cases ht; exact isinst_ok I rx (.str y) hc fin
  | byt y => cases ht
  | flt y => cases ht
  | ty n => cases ht
  | ref a =>
    unfold tyo at ht
    unfold OkTy at ok
    dsimp only at ht ok
    cases e : H a with
    | none => rw [e] at ht; cases ht
    | some o =>
      rw [e] at ht ok
      cases o with
      | lst xs => cases ht; exact isinst_ok I rx (.lst e) hc fin
      | tup xs => cases ht; exact isinst_ok I rx (.tup e) hc fin
      | dK kvs => cases ht; exact isinst_ok I rx (.dK e) hc fin
      | ins C dx fs => cases ht; exact isinst_ok I rx (.ins e ok.cl ok.ha ok.hn ok.tk ok.hm) hc fin
      | frz ob u =>
        cases u with
        | lst xs => cases ht; exact isinst_ok I rx (.frz e) hc fin
        | _ => cases ht
      | exc c =>
        cases ht
        obtain ⟨C, rfl, ki⟩ := ok
        cases (show u = Value.ref a from rx)
        exact PySem.W.kia_one (kitx_exc ki) I.kIn (show ObjOk X.prog X.w H s.heap a (.exc (.ref C)) from I.hok a _ e) hc (fun z => nomatch z) fin
      | _ => cases ht
theorem sz0 : (0 ≤ sizeLine) = True := eq_true (by decide)
theorem sz1 : (1 ≤ sizeLine) = True := eq_true (by decide)
theorem sz2 : (2 ≤ sizeLine) = True := eq_true (by decide)
theorem sz3 : (3 ≤ sizeLine) = True := eq_true (by decide)
theorem sz4 : (4 ≤ sizeLine) = True := eq_true (by decide)
theorem ofs_inj {a b : String} : (Str.ofString a = Str.ofString b) = (a = b) := by
  refine propext ⟨fun h => ?_, fun h => by rw [h]⟩
  rw [Str.ofString_eq_toList, Str.ofString_eq_toList] at h
  have h1 : (a.toList.map Char.toNat).toArray = (b.toList.map Char.toNat).toArray := congrArg Str.cps h
  have h2 : a.toList.map Char.toNat = b.toList.map Char.toNat := congrArg Array.toList h1
  have h3 : a.toList = b.toList := by
    refine (List.map_inj_right fun x y e => ?_).mp h2
    exact Char.ext (UInt32.toNat_inj.mp e)
  exact String.toList_inj.mp h3
end L2

/-! LW: argument lists without stars, looked at once and for all. -/
namespace L2
open PySem PySem.Spec PyProof.Rows
def notStar : Expr → Bool
  | .Starred _ _ => false
  | _ => true
theorem star_ns {e : Expr} {rest : List Expr} {env : Env} (h : notStar e = true) : starEach (e :: rest) env = (false, eval e env) :: starEach rest env := by
  cases e <;> first | rfl | cases h
theorem star_any {env : Env} {pos : Pos} : ∀ {es : List Expr}, es.all notStar = true → (backTo pos (starEach es env)).any (·.1) = false
  | [], _ => rfl
  | e :: es, h => by
    rw [List.all_cons, Bool.and_eq_true] at h
    rw [star_ns h.1]
    show (false || (backTo pos (starEach es env)).any (·.1)) = false
    rw [star_any h.2]; rfl
section
variable {X : Cx} {ca : Bool} {k : Nat} {f C : Addr} {fd : FuncData} {ps : List Str} {sp : Sp} {E : St → XK} {x m : Str} {p pos apos np cpos : Pos} {e o : Expr} {es : List Expr} {te ta : TE} {t : TA} {id T : String} {r : List V → Hp → VK → Prop}
theorem pa_c (ha : PE X e te) (hr : PA X es t) (h : notStar e = true := by rfl) : PA X (e :: es) (tCons te t) := pa_cons ha hr (star_ns h)
theorem pe_callF (F : FnOk X.prog X.w X.K X.mg X.base (CXE X.prog X.w) ca k f fd ps sp) (hr : Room ca k X.A) (hg : Gl X x) (hm : X.mg x = some (.ref f)) (hk : PySem.W.keepIn X.K (.ref f) = true) (hb : Binds X.K fd ps []) (hx : Exc X E)
    (ha : PA X (e :: es) t) (hdb : (x == ("__debug__" : Str)) = false := by decide) (h : (e :: es).all notStar = true := by rfl) : PE X (.Call (.Name x p) (e :: es) [] pos) (tCallE sp E t) :=
  pe_callE F hr hg hm hk hb hx ha hdb (star_ns (by rw [List.all_cons, Bool.and_eq_true] at h; exact h.1)) (star_any (by rw [List.all_cons, Bool.and_eq_true] at h; exact h.2))
theorem pe_callBF (hc : CallR X (.builtin id) r) (hg : Gl X x) (hm : X.mg x = none) (hv : bootBuiltins x = some (.builtin id)) (ha : PA X (e :: es) t) (hn : x ≠ "__name__" := by decide) (hdb : (x == ("__debug__" : Str)) = false := by decide)
    (h : (e :: es).all notStar = true := by rfl) : PE X (.Call (.Name x p) (e :: es) [] pos) (tCB r t) :=
  pe_callB hc hg hm hv ha hn hdb (star_ns (by rw [List.all_cons, Bool.and_eq_true] at h; exact h.1)) (star_any (by rw [List.all_cons, Bool.and_eq_true] at h; exact h.2))
theorem pe_callTyF (hc : CallR X (.type T) r) (hg : Gl X x) (hm : X.mg x = none) (hv : bootBuiltins x = some (.type T)) (ha : PA X (e :: es) t) (hn : x ≠ "__name__" := by decide) (hdb : (x == ("__debug__" : Str)) = false := by decide)
    (h : (e :: es).all notStar = true := by rfl) : PE X (.Call (.Name x p) (e :: es) [] pos) (tCB r t) :=
  pe_callTy hc hg hm hv ha hn hdb (star_ns (by rw [List.all_cons, Bool.and_eq_true] at h; exact h.1)) (star_any (by rw [List.all_cons, Bool.and_eq_true] at h; exact h.2))
end
end L2

/-! LV: loops, fields, methods, lists and dicts: readings that compute. -/
namespace L2
open PySem PySem.Spec PyProof.Rows

/-! ### loops -/
/-- what a loop wants, behind its iterable -/
def LoopW (J : It) (g : TG) (tb : TS) (D : Ends) (σ : St) (H1 : Hp) : Prop := ∃ W : Nat → Nat → St → Hp → Prop, (∃ m, W 0 m σ H1) ∧ ∀ i m σ H, W i m σ H →
  (J.stop i H ∧ D.nx σ H) ∨ (J.go i H ∧ ∃ N : St → Hp → Prop, (∀ σ' H', N σ' H' → ∃ m', m' < m ∧ W (i + 1) m' σ' H') ∧ ∀ x H', J.yld i H x H' → g x σ H' fun σ2 H2 => tb { D with nx := N, ct := N, bk := D.nx } σ2 H2)
theorem tFor_eq {wi : TI} {g : TG} {tb : TS} : tFor wi g tb = fun D σ H => wi σ H fun J H1 => LoopW J g tb D σ H1 := rfl
theorem LoopW.range {lo : Int} {n : Nat} {g : TG} {tb : TS} {D : Ends} {σ : St} {H : Hp} (Pv : Nat → St → Hp → Prop) (h0 : Pv 0 σ H)
    (hs : ∀ i σ H, i < n → Pv i σ H → g (.int (lo + i)) σ H fun σ2 H2 => tb { D with nx := Pv (i + 1), ct := Pv (i + 1), bk := D.nx } σ2 H2) (hd : ∀ σ H, Pv n σ H → D.nx σ H) : LoopW (Itr lo n) g tb D σ H :=
  for_range Pv h0 hs hd
theorem LoopW.list {K : PySem.W.Frag} {a : Addr} {xs : List V} {g : TG} {tb : TS} {D : Ends} {σ : St} {H : Hp} (Pv : Nat → St → Hp → Prop) (h0 : Pv 0 σ H) (hl : ∀ i σ H, i ≤ xs.length → Pv i σ H → SqL K H a xs)
    (hs : ∀ i x σ H, xs[i]? = some x → Pv i σ H → g x σ H fun σ2 H2 => tb { D with nx := Pv (i + 1), ct := Pv (i + 1), bk := D.nx } σ2 H2) (hd : ∀ σ H, Pv xs.length σ H → D.nx σ H) : LoopW (Itl K a) g tb D σ H :=
  for_list Pv h0 hl hs hd
theorem LoopW.tup {K : PySem.W.Frag} {a : Addr} {xs : List V} {g : TG} {tb : TS} {D : Ends} {σ : St} {H : Hp} (Pv : Nat → St → Hp → Prop) (h0 : Pv 0 σ H) (hl : ∀ i σ H, i ≤ xs.length → Pv i σ H → SqT K H a xs)
    (hs : ∀ i x σ H, xs[i]? = some x → Pv i σ H → g x σ H fun σ2 H2 => tb { D with nx := Pv (i + 1), ct := Pv (i + 1), bk := D.nx } σ2 H2) (hd : ∀ σ H, Pv xs.length σ H → D.nx σ H) : LoopW (Itt K a) g tb D σ H :=
  for_tup Pv h0 hl hs hd

/-! ### a part of a list by a written index -/
theorem atI_cast {α : Type} {xs : List α} {j : Nat} : atI xs (j : Int) = xs[j]? := by
  cases h : xs[j]? with
  | some v => exact atI_nat h
  | none =>
    have hl : xs.length ≤ j := List.getElem?_eq_none_iff.mp h
    unfold atI ixN
    rw [if_pos (by omega), if_neg (by omega)]
    rfl
theorem atI_0 {α : Type} {xs : List α} : atI xs 0 = xs[0]? := atI_cast (j := 0)
theorem atI_1 {α : Type} {xs : List α} : atI xs 1 = xs[1]? := atI_cast (j := 1)
theorem atI_2 {α : Type} {xs : List α} : atI xs 2 = xs[2]? := atI_cast (j := 2)
theorem atI_3 {α : Type} {xs : List α} : atI xs 3 = xs[3]? := atI_cast (j := 3)
theorem ixN_cast {n j : Nat} (h : j < n) : ixN n (j : Int) = some j := by
  unfold ixN
  rw [if_pos (by omega), if_pos (by omega)]; simp
theorem ixN_in {n : Nat} {i : Int} (h0 : 0 ≤ i) (h1 : i < n) : ixN n i = some i.toNat := by
  unfold ixN
  rw [if_pos h0, if_pos h1]
theorem atI_in {α : Type} {xs : List α} {i : Int} (h0 : 0 ≤ i) (h1 : i < xs.length) : atI xs i = xs[i.toNat]? := by
  unfold atI
  rw [ixN_in h0 h1]; rfl

/-! ### fields and methods -/
/-! ### lists -/
def cSetL : TSet := fun o i v H Q => match o, i with
  | .ref p, .int k => (match H p with
    | some (.lst xs) => (match ixN xs.length k with
      | some j => Q (upd H p (.lst (xs.set j v)))
      | none => False)
    | _ => False)
  | _, _ => False
def cRep : R2 := fun x y H Q => match x, y with
  | .ref l, .int k => (match H l with
    | some (.lst xs) => -(2 ^ 63) ≤ k ∧ k < 2 ^ 63 ∧ xs.length * k.toNat ≤ sizeLine ∧ ∀ p, H p = none → Q (.ref p) (upd H p (.lst (List.replicate k.toNat xs).flatten))
    | _ => False)
  | _, _ => False
def cSl : V → Option Int → Option Int → Hp → VK → Prop := fun x lo hi H Q => match x with
  | .ref a => (match H a with
    | some (.lst xs) => ∀ p, H p = none → Q (.ref p) (upd H p (.lst (cutV xs lo hi)))
    | _ => False)
  | _ => False
def cSlS (K : PySem.W.Frag) : V → Option Int → Option Int → Hp → VK → Prop := fun x lo hi H Q => match x with
  | .ref a => ∃ xs, SqL K H a xs ∧ ∀ p, H p = none → Q (.ref p) (upd H p (.lst (cutV xs lo hi)))
  | _ => False
def cPart (t : TE) : TO := fun σ H Q => t σ H fun x H1 => match x with
  | .int i => Q (some i) H1
  | _ => False
def cAppend : V → List V → Hp → VK → Prop := fun x vs H Q => match x, vs with
  | .ref l, [y] => (match H l with
    | some (.lst xs) => xs.length < sizeLine ∧ Q .non (upd H l (.lst (xs ++ [y])))
    | _ => False)
  | _, _ => False
def cMin2 : List V → Hp → VK → Prop := fun xs H Q => match xs with
  | [.int i, .int j] => Q (.int (if j < i then j else i)) H
  | _ => False
/-- the type of a list's method's owner -/
def cBM (r : V → List V → Hp → VK → Prop) (to : TE) (t : TA) : TE := fun σ H Q => to σ H fun x H1 => match x with
  | .ref a => (match H1 a with
    | some (.lst _) => t σ H1 fun xs H2 => r x xs H2 Q
    | _ => False)
  | _ => False
/-! ### dicts by whole numbers and texts -/
def keyV : V → Option Key
  | .int n => some (.inl n)
  | .str x => some (.inr x)
  | _ => none
def cDGet (td ty : TE) : TE := fun σ H Q => td σ H fun x H1 => ty σ H1 fun y H2 => match x with
  | .ref a => (match H2 a, keyV y with
    | some (.dK kvs), some k => (match valV kvs k with
      | some v => Q v H2
      | none => False)
    | _, _ => False)
  | _ => False
def cDPut (td ty tv : TE) : TS := fun D σ H => tv σ H fun v H1 => td σ H1 fun x H2 => ty σ H2 fun y H3 => match x with
  | .ref a => (match H3 a, keyV y with
    | some (.dK kvs), some k => kvs.length < sizeLine ∧ D.nx σ (upd H3 a (.dK (putK kvs k v)))
    | _, _ => False)
  | _ => False
theorem keyV_is {y : V} {k : Key} (h : keyV y = some k) : y = kV k := by
  cases y <;> cases h <;> rfl
section
variable {X : Cx} {e o i f' value : Expr} {f m : Str} {pos pos' apos cpos p2 : Pos} {ta tv td ty tx te : TE} {t : TA} {lo hi : Option Expr} {tl th : TO}
theorem PO.mono {e : Option Expr} {t t' : TO} (h : PO X e t) (k : ∀ σ H Q, t' σ H Q → t σ H Q) : PO X e t' := fun pins s σ H Q I q => h pins s σ H Q I (k _ _ _ q)
theorem SlR.mono {r r' : V → Option Int → Option Int → Hp → VK → Prop} (h : SlR X r) (k : ∀ x lo hi H Q, r' x lo hi H Q → r x lo hi H Q) : SlR X r' := fun pins s σ H x v vl vu lo hi sl Q I rx hs pl pu q => h pins s σ H x v vl vu lo hi sl Q I rx hs pl pu (k _ _ _ _ _ q)
theorem c_set : PSet X cSetL := by
  intro pins s σ H o i v ov iv u Q I ro ri rv h
  unfold cSetL at h
  split at h
  case h_2 => exact h.elim
  split at h
  case h_2 => exact h.elim
  rename_i xs hp
  split at h
  case h_2 => exact h.elim
  rename_i j hj
  exact set_list pins s σ H _ _ v ov iv u Q I ro ri rv ⟨_, xs, _, j, rfl, rfl, hp, hj, h⟩
theorem c_rep : OpR X (binaryOp .Mult) cRep := op_rep.mono fun x y H Q h => by
  unfold cRep at h
  split at h
  case h_2 => exact h.elim
  split at h
  case h_2 => exact h.elim
  rename_i xs hp
  exact ⟨_, _, xs, rfl, rfl, hp, h.1, h.2.1, h.2.2.1, h.2.2.2⟩
theorem c_sl : SlR X cSl := sl_list.mono fun x lo hi H Q h => by
  unfold cSl at h
  split at h
  case h_2 => exact h.elim
  split at h
  case h_2 => exact h.elim
  rename_i xs hp
  exact ⟨_, xs, rfl, SqL.of hp, h⟩
theorem c_slS : SlR X (cSlS X.K) := sl_list.mono fun x lo hi H Q h => by
  unfold cSlS at h
  split at h
  case h_2 => exact h.elim
  obtain ⟨xs, hp, h⟩ := h
  exact ⟨_, xs, rfl, hp, h⟩
theorem c_part (h : PE X e te) : PO X (some e) (cPart te) := by
  intro pins s σ H Q I hw
  rw [evalPart_some]
  refine thn (h pins s σ H _ I hw) fun u s1 ⟨x, H1, I1, r1, q1⟩ => ?_
  try dsimp only at q1
  split at q1
  case h_2 => exact q1.elim
  rename_i i
  obtain ⟨t, rfl⟩ := r1
  exact ⟨some i, H1, I1, .int i t, q1⟩
theorem c_append : MtM X "list.append" cAppend := fun pins s σ H x xs v us Q I rx rxs h => by
  unfold cAppend at h
  split at h
  case h_2 => exact h.elim
  split at h
  case h_2 => exact h.elim
  rename_i ys hp
  exact mt_append pins s σ H _ _ v us Q I rx rxs ⟨_, ys, _, rfl, rfl, hp, h.1, h.2⟩
theorem c_min2 (hc : X.calm = true) : CallR X (.builtin "min") cMin2 := (call_min2 hc).mono fun xs H Q h => by
  unfold cMin2 at h
  split at h
  · exact ⟨_, _, rfl, h⟩
  · exact h.elim
theorem c_dget (hu : X.A.units + 1 < cLine) (ho : PE X o td) (hi : PE X i ty) (hs : NoSl i) : PE X (.Subscript o i pos) (cDGet td ty) := by
  intro pins s σ H Q I h
  refine subD_of PySem.F.slot_dict_getitem.lookup hs (thn (ho pins s σ H _ I h) fun u s1 ⟨x, H1, I1, rx, q1⟩ => thn (hi pins s1 σ H1 _ I1 q1) fun iv s2 ⟨y, H2, I2, ry, q2⟩ => ?_)
  try dsimp only at q2
  split at q2
  case h_2 => exact q2.elim
  rename_i a _
  split at q2
  case h_2 => exact q2.elim
  rename_i kvs k ea ek
  split at q2
  case h_2 => exact q2.elim
  rename_i v ev
  have ey := keyV_is ek
  subst ey
  obtain rfl : u = Value.ref a := rx
  have g : DGet H2 a (kV k) (some v) := ev ▸ DGet.k ea
  exact ⟨dict_typeIs I2 g, d_getItem hu I2 g ry fun w' s3 I3 rw' => ⟨v, H2, I3, rw', q2⟩⟩
theorem c_dput (hu : X.A.units + 1 < cLine) (ho : PE X o td) (hi : PE X i ty) (hv : PE X value tv) (hs : swapsWith value (some (.Subscript o i pos')) pos.line X.env = pure false) :
    PS X (.Assign [.Subscript o i pos'] value pos) (cDPut td ty tv) := by
  intro pins s σ H D I h
  refine wpAny_Assign_Subscript (thn (hv pins s σ H _ I h) fun r s1 ⟨v, H1, I1, rv, q1⟩ => thn (ho pins s1 σ H1 _ I1 q1) fun u s2 ⟨x, H2, I2, rx, q2⟩ => thn (hi pins s2 σ H2 _ I2 q2) fun iv s3 ⟨y, H3, I3, ry, q3⟩ => ?_) hs
  try dsimp only at q3
  split at q3
  case h_2 => exact q3.elim
  rename_i a _
  split at q3
  case h_2 => exact q3.elim
  rename_i kvs k ea ek
  have ey := keyV_is ek
  subst ey
  obtain rfl : u = Value.ref a := rx
  exact d_setItem hu I3 (DPut.k ea q3.1) ry rv fun s4 I4 => ⟨σ, _, I4, q3.2⟩
end
section
variable {X : Cx} {e o : Expr} {es : List Expr} {to : TE} {t : TA} {apos cpos : Pos} {r : V → List V → Hp → VK → Prop}
theorem c_bm {id : String} {name : Str} (slot : Slot "list" name id) (hty : typeOf (.builtin id) = pure (.type "method_descriptor")) (hm : MtR X id r) (ho : PE X o to) (ha : PA X (e :: es) t) (hns : (e :: es).all notStar = true := by rfl)
    (hbase : attributeBase o name X.env (eval o X.env) = eval o X.env := by rfl)
    (hfew : ((backTo cpos (starEach (e :: es) X.env)).all (fun x => !x.1) && (backToKw cpos (keywordEach [] X.env)).all (fun x => x.1.isSome)
      && decide ((e :: es).length + ([] : List Keyword).length + (if ([] : List Keyword).isEmpty then 0 else 1) < 30)) = true := by rfl)
    (hline : (apos.endLine == cpos.line) = true := by rfl) : PE X (.Call (.Attribute o name apos) (e :: es) [] cpos) (cBM r to t) := by
  intro pins s σ H Q I h
  have hs : starEach (e :: es) X.env = (false, eval e X.env) :: starEach es X.env := star_ns (by rw [List.all_cons, Bool.and_eq_true] at hns; exact hns.1)
  have hplain : (backTo cpos (starEach es X.env)).any (·.1) = false := star_any (by rw [List.all_cons, Bool.and_eq_true] at hns; exact hns.2)
  refine wpAny_Call_method_late hbase hfew hline rfl (thn (ho pins s σ H _ I h) fun v s1 ⟨x, H1, I1, r1, q1⟩ => ?_)
  try dsimp only at q1
  split at q1
  case h_2 => exact q1.elim
  rename_i a
  split at q1
  case h_2 => exact q1.elim
  rename_i ys ea
  have ty : tyV X.K "list" (.ref a) H1 := .inl ⟨rfl, ys, SqL.of ea⟩
  obtain ⟨h1, h2⟩ := tyV_is I1 r1 ty
  refine ⟨"list", id, PySem.F.plainAttrs_list, slot, hty, h1, h2, ?_⟩
  have hA := ha cpos pins s1 σ H1 _ I1 q1
  rw [hs] at hA ⊢
  refine Calls.callWith_builtin (by show (false || (backTo cpos (starEach es X.env)).any (·.1)) = false; rw [hplain] <;> rfl) (Calls.evalArgs_plain ?_)
  exact thn hA fun us s2 ⟨vs, H2, I2, r2, q2⟩ => hm pins s2 σ H2 _ vs v us Q I2 r1 r2 q2
end
section
variable {X : Cx} {ca : Bool} {k : Nat} {f C : Addr} {fd : FuncData} {ps : List Str} {sp : Sp} {E : St → XK} {m : Str} {pos apos : Pos} {e o : Expr} {es : List Expr} {ta : TE} {t : TA}
end

/-! ### written lists by a drawn index -/
theorem Same.upd {H : Hp} {p : Addr} {o : HO} (h : H p = none) : Same H (L2.upd H p o) := fun b u e => by rw [upd_ne (ne_of_none e h)]; exact e
theorem Same.own {H : Hp} {p dx : Addr} {o u : HO} (h1 : H p = none) (h2 : H dx = none) : Same H (L2.upd (L2.upd H dx u) p o) := fun b w e => by rw [upd_ne (ne_of_none e h1), upd_ne (ne_of_none e h2)]; exact e
theorem Same.put {H H' : Hp} {q : Addr} {o : HO} (s : Same H H') (h : H q = none) : Same H (L2.upd H' q o) := fun b u e => by rw [upd_ne (ne_of_none e h)]; exact s b u e
end L2

/-! LC: [elt for x in iter if c]: a comprehension's block over the layer; no exception leaves it. -/
namespace L2
open PySem PySem.Spec PyProof.Rows

section
variable {prog : Program} {w : World} {A : Around} {R : Result → Shared → Prop} {s : Shared}
theorem codeAny_compLoop_any {elt target iter : Expr} {ifs : List Expr} {scope : Scope} {pos : Pos} {it acc : Value} {env : Env} (I : Nat → Shared → Prop)
    (turn : ∀ n s, I n s → wpAny (model prog w) A (pyNext it) (fun r s₁ => match r with
      | none => R (.ok .next) s₁
      | some v => wpAny (model prog w) A (letOwnedTupleGo target it v) (fun _ s₁' => wpAny (model prog w) A (assign target env v) (fun _ s₂ =>
          wpAny (model prog w) A (forIn ifs true fun c r => if r = true then do let ok ← isTrue c env (eval c env); pure (ForInStep.yield ok) else pure (ForInStep.yield r)) (fun ok s₃ =>
            if ok = true then wpAny (model prog w) A (eval elt env) (fun x s₄ =>
              wpAny (model prog w) A (call (.builtin "list.append") [acc, x]) (fun _ s₅ => ∃ m, m < n ∧ I m s₅) (fun _ _ => False) s₄) (fun _ _ => False) s₃
            else ∃ m, m < n ∧ I m s₃) (fun _ _ => False) s₂) (fun _ _ => False) s₁') (fun _ _ => False) s₁) (fun _ _ => False) s)
    (n : Nat) (h : I n s) :
    codeAny (model prog w) A (.compLoop (.ListComp elt [⟨target, iter, ifs, 0⟩] scope pos) 0 it acc env) R s := by
  refine codeAny_loop rfl I (fun n s hI => ?_) n h
  show wpAny _ A ((compTurn (.ListComp elt [⟨target, iter, ifs, 0⟩] scope pos) 0 it acc env).onRaise (fun x => do noteFrame x env; theTreesLotGoes x)) _ _ s
  refine wpAny_noted ?_
  rw [compTurn_list]
  refine wpAny_bind (wpAny_standAt (wpAny_bind (wpAny_mono (turn n s hI) (fun r s₁ h₁ => ?_) fun _ _ h' => h'.elim)))
  cases r with
  | none => exact wpAny_pure h₁
  | some v =>
    refine wpAny_bind (wpAny_mono h₁ (fun _ s₁' h₁' => ?_) fun _ _ h' => h'.elim)
    refine wpAny_bind (wpAny_mono h₁' (fun _ s₂ h₂ => wpAny_bind (wpAny_mono h₂ (fun ok s₃ h₃ => ?_) fun _ _ h' => h'.elim)) fun _ _ h' => h'.elim)
    cases ok with
    | false => exact wpAny_pure ⟨rfl, h₃⟩
    | true =>
      exact wpAny_bind (wpAny_bind (wpAny_mono h₃ (fun x s₄ h₄ => wpAny_bind (wpAny_mono h₄ (fun _ s₅ h₅ => wpAny_pure (wpAny_pure ⟨rfl, h₅⟩)) fun _ _ h' => h'.elim)) fun _ _ h' => h'.elim))
end

/-! ### the closure -/
def clAcc (env : Env) (cs : List (Str × Addr)) : List (Str × NameKind) → List (Str × Addr)
  | [] => cs
  | (n, k) :: r => clAcc env (if k == .free then (n, (env.cells.lookup n).getD 0) :: cs else cs) r
abbrev clOf (scope : Scope) (env : Env) : List (Str × Addr) := clAcc env [] scope.names
theorem closure_of {scope : Scope} {env : Env} (h : ∀ y ∈ scope.names, y.2 = .free → ∃ c, env.cells.lookup y.1 = some c) : closureFor scope env = pure (clOf scope env) := by
  have go : ∀ (l : List (Str × NameKind)) (cs : List (Str × Addr)), (∀ y ∈ l, y.2 = .free → ∃ c, env.cells.lookup y.1 = some c) →
      (forIn l cs fun (x : Str × NameKind) (r : List (Str × Addr)) => match x with
        | (name, kind) => if (kind == .free) = true then do let c ← cellOf env name; pure (ForInStep.yield ((name, c) :: r)) else pure (ForInStep.yield r) : Sem (List (Str × Addr))) = pure (clAcc env cs l) := by
    intro l
    induction l with
    | nil => intro cs _; rfl
    | cons y l ih =>
      intro cs hy
      obtain ⟨n, k⟩ := y
      rw [List.forIn_cons]
      cases hk : (k == NameKind.free) with
      | true =>
        obtain ⟨c, hc⟩ := hy (n, k) List.mem_cons_self (by simpa using hk)
        have e : cellOf env n = pure c := by unfold cellOf; rw [show env.cells.lookup n = some c from hc]
        simp only [if_true, e, pure_bind, clAcc, hk, show env.cells.lookup n = some c from hc, Option.getD_some]
        exact ih _ fun z hz => hy z (List.mem_cons_of_mem _ hz)
      | false =>
        simp only [if_false, Bool.false_eq_true, pure_bind, clAcc, hk]
        exact ih _ fun z hz => hy z (List.mem_cons_of_mem _ hz)
  unfold closureFor
  have := go scope.names [] h
  simp only [bind_pure_comp, pure_bind] at this ⊢
  first | exact this | (rw [this]; rfl) | (simpa using this)
theorem clAcc_look {env : Env} {y : Str} {c : Addr} : ∀ {l : List (Str × NameKind)} {cs : List (Str × Addr)}, (clAcc env cs l).lookup y = some c → cs.lookup y = some c ∨ ((y, NameKind.free) ∈ l ∧ c = (env.cells.lookup y).getD 0)
  | [], cs, h => .inl h
  | (n, k) :: r, cs, h => by
    rcases clAcc_look (l := r) h with h1 | ⟨h1, e⟩
    · cases hk : (k == NameKind.free) with
      | true =>
        rw [hk, if_pos rfl, List.lookup_cons] at h1
        cases hy : y == n with
        | true =>
          rw [hy] at h1
          have e1 : y = n := by simpa using hy
          have e2 : k = .free := by simpa using hk
          subst e1 e2
          exact .inr ⟨List.mem_cons_self, (Option.some.inj h1).symm⟩
        | false => rw [hy] at h1; exact .inl h1
      | false => rw [hk] at h1; exact .inl (by simpa using h1)
    · exact .inr ⟨List.mem_cons_of_mem _ h1, e⟩
theorem clAcc_has {env : Env} {y : Str} : ∀ {l : List (Str × NameKind)} {cs : List (Str × Addr)}, ((y, NameKind.free) ∈ l ∨ ∃ c, cs.lookup y = some c) → ∃ c, (clAcc env cs l).lookup y = some c
  | [], cs, h => h.elim (fun z => by cases z) id
  | (n, k) :: r, cs, h => by
    refine clAcc_has (l := r) ?_
    rcases h with h | ⟨c, h⟩
    · rcases List.mem_cons.mp h with e | h
      · cases e
        exact .inr ⟨(env.cells.lookup y).getD 0, by rw [if_pos (by decide), List.lookup_cons]; simp⟩
      · exact .inl h
    · refine .inr ?_
      cases hk : (k == NameKind.free) with
      | false => exact ⟨c, by simpa using h⟩
      | true =>
        rw [if_pos rfl, List.lookup_cons]
        cases hy : y == n with
        | true => exact ⟨_, rfl⟩
        | false => exact ⟨c, h⟩

theorem lookup_mem {y : Str} {k : NameKind} : ∀ {l : List (Str × NameKind)}, l.lookup y = some k → (y, k) ∈ l
  | [], h => by cases h
  | (n, k') :: r, h => by
    rw [List.lookup_cons] at h
    cases hy : y == n with
    | true =>
      rw [hy] at h
      have e1 : y = n := by simpa using hy
      subst e1
      cases h
      exact List.mem_cons_self
    | false => rw [hy] at h; exact List.mem_cons_of_mem _ (lookup_mem h)
/-- a comprehension's scope within a def's: x its own names, those of N2 the def's -/
structure CompIn (fsc scope : Scope) (x : List Str) (N2 : List Str) : Prop where
  kind : scope.kind = .function
  fkind : fsc.kind = .function
  own : ∀ z ∈ x, scope.names.lookup z = some .local
  nocell : ∀ y ∈ scope.names, y.2 ≠ .cell
  locs : ∀ y ∈ scope.names, y.2 = .local → scope.names.lookup y.1 = some .local
  xfree : ∀ y ∈ scope.names, y.2 = .free → ¬ y.1 ∈ x
  cells : ∀ y ∈ scope.names, y.2 = .free → fsc.names.lookup y.1 = some .cell
  nd : (x ++ N2).Nodup
  cap : ∀ y ∈ N2, scope.names.lookup y = some .free
theorem relabel_free {env : Env} (hk : env.scope.kind = .function) : ∀ {names : List (Str × NameKind)} {y : Str}, names.lookup y = some .free → env.kindOf y = some .cell →
    (names.map fun (n, k) => if (k == NameKind.free && env.scope.kind == .function && env.kindOf n == some .cell) then (n, NameKind.cell) else (n, k)).lookup y = some .cell
  | [], _, h, _ => by simp at h
  | (n, k) :: r, y, h, hc => by
    have ih := @relabel_free env hk r y
    show List.lookup y ((if (k == NameKind.free && env.scope.kind == .function && env.kindOf n == some .cell) = true then (n, NameKind.cell) else (n, k)) :: _) = _
    cases hy : y == n with
    | true =>
      have e1 : y = n := by simpa using hy
      subst e1
      simp only [List.lookup_cons, hy] at h
      cases h
      simp [hk, hc]
    | false =>
      simp only [List.lookup_cons, hy] at h
      by_cases hq : (k == NameKind.free && env.scope.kind == .function && env.kindOf n == some .cell) = true
      · rw [if_pos hq]; simp only [List.lookup_cons, hy]; exact ih h hc
      · rw [if_neg hq]; simp only [List.lookup_cons, hy]; exact ih h hc
theorem relabel_has {scope : Scope} {env : Env} {y : Str} (hn : ∀ z ∈ scope.names, z.2 ≠ .cell) (h : (relabel scope env).names.lookup y = some .cell ∨ (relabel scope env).names.lookup y = some .free) : (y, NameKind.free) ∈ scope.names := by
  have go : ∀ {k : NameKind}, (y, k) ∈ (relabel scope env).names → k = .cell ∨ k = .free → (y, NameKind.free) ∈ scope.names := fun {k} hm hk => by
    obtain ⟨⟨n, k0⟩, hz, e⟩ := List.mem_map.mp hm
    dsimp only at e
    split at e
    · rename_i hq
      have e1 : n = y := congrArg Prod.fst e
      rw [Bool.and_eq_true, Bool.and_eq_true] at hq
      have e2 : k0 = .free := by simpa using hq.1.1
      rw [← e1, ← e2]; exact hz
    · have e1 : n = y := congrArg Prod.fst e
      have e2 : k0 = k := congrArg Prod.snd e
      rcases hk with rfl | rfl
      · exact absurd e2 (hn _ hz)
      · rw [← e1, ← e2]; exact hz
  rcases h with h | h
  · exact go (lookup_mem h) (.inl rfl)
  · exact go (lookup_mem h) (.inr rfl)

/-- the values of the names at js -/
def capt (σ : St) (js : List Nat) : St := js.map fun j => (σ[j]?).join
/-- the context of a comprehension's block -/
abbrev Cx.blk (X : Cx) (scope : Scope) (N : List Str) (x : List Str) (s : Shared) (H : Hp) (C : Addr) (ex : List Addr) : Cx :=
  { X with N := N, s₀ := s, H₀ := H, env := compEnvC scope (clOf scope X.env) C X.env, outer := X.stack, ex := ex, fn := fun y => x.contains y, pn := [], xe := fun _ _ => False }
/-- what a comprehension wants, behind its iterable; W: by the turn, a measure, the items so far -/
def CompW (J : It) (cap : St) (tt : TT) (te : TE) (H1 : Hp) (Q : VK) : Prop :=
  ∃ W : Nat → Nat → List V → Hp → Prop, (∃ m, W 0 m [] H1) ∧ ∀ i m ys H, W i m ys H → ys.length ≤ sizeLine ∧
    ((J.stop i H ∧ ∀ p, H p = none → Q (.ref p) (upd H p (.lst ys))) ∨
     (J.go i H ∧ ∀ x H', J.yld i H x H' → tt (some x :: cap) H' fun b H2 => if b = true then te (some x :: cap) H2 fun y H3 => ∃ m', m' < m ∧ W (i + 1) m' (ys ++ [y]) H3 else ∃ m', m' < m ∧ W (i + 1) m' ys H2))
def tComp (js : List Nat) (wi : TI) (tt : TT) (te : TE) : TE := fun σ H Q => wi σ H fun J H1 => CompW J (capt σ js) tt te H1 Q
/-- the tests of a comprehension -/
def PIfs (X : Cx) (ifs : List Expr) (tt : TT) : Prop :=
  ∀ (pins : List (Addr × Obj)) (s : Shared) (σ : St) (H : Hp) (Q : Bool → Hp → Prop), Inv X pins σ H s → tt σ H Q →
    wpAny (model X.prog X.w) X.A (forIn ifs true fun c r => if r = true then do let ok ← isTrue c X.env (eval c X.env); pure (ForInStep.yield ok) else pure (ForInStep.yield r)) (TP X pins σ Q) X.xe s
def tYes : TT := fun _ H Q => Q true H
theorem pifs_nil {X : Cx} : PIfs X [] tYes := fun pins s σ H Q I h => wpAny_tests_nil ⟨H, I, h⟩
theorem pifs_one {X : Cx} {c : Expr} {tt : TT} (h : PT X c tt) : PIfs X [c] tt := fun pins s σ H Q I q => wpAny_tests_one (h pins s σ H Q I q)

section
variable {X : Cx} {pins : List (Addr × Obj)} {σ : St} {H : Hp} {s : Shared} {scope fsc : Scope} {x : List Str} {N2 : List Str} {js : List Nat} {fp : List Addr} {C : Addr}
theorem cl_sub (S : CompIn fsc scope x N2) (hf : X.env.scope = fsc) (ok : X.Ok) {y : Str} {c : Addr} (e : (clOf scope X.env).lookup y = some c) : X.env.cells.lookup y = some c := by
  rcases clAcc_look e with z | ⟨z, e2⟩
  · cases z
  · obtain ⟨c', hc⟩ := ok.has y (.inl (show X.env.scope.names.lookup y = some .cell by rw [hf]; exact S.cells _ z rfl))
    rw [hc] at e2
    rw [hc, e2]; rfl
theorem blk_ok (S : CompIn fsc scope x N2) (hf : X.env.scope = fsc) (I : Inv X pins σ H s) (hC : s.heap.objs.size ≤ C) (f : ∀ b ∈ fp, FpOk X pins H b) (ho : ∀ b ∈ fp, ∃ o, s.heap.get? b = some o) : (X.blk scope (x ++ N2) x s H C fp).Ok where
  mod := I.ok.mod
  kind := S.kind
  glob := I.ok.glob
  blt := I.ok.blt
  above := hC
  inj := fun y z c e1 e2 => I.ok.inj y z c (cl_sub S hf I.ok e1) (cl_sub S hf I.ok e2)
  has := fun y h => clAcc_has (.inl (relabel_has S.nocell h))
  cab := fun y c h e => by
    have ey : y ∈ x := by simpa using h
    rcases clAcc_look e with z | ⟨z, _⟩
    · cases z
    · exact absurd ey (S.xfree _ z rfl)
  hd := I.ok.hd
  frames := I.ok.frames
  stk := .inl rfl
  exf := fun b hb => by
    obtain ⟨o, e⟩ := ho b hb
    exact ⟨Nat.ne_of_lt (Nat.lt_of_lt_of_le (Heap.lt_size e) hC), fun y c ec => (f b hb).2.2.2.2.1 y c (cl_sub S hf I.ok ec)⟩
  bs := I.bs
  bsz := Nat.le_trans I.ok.bsz I.sz
  noex := fun b o e hb => by
    rcases (f b hb).2.2.2.1 with z | z
    · exact I.ok.noex b o e z
    · exact absurd (Nat.lt_of_lt_of_le (Heap.lt_size e) (Nat.le_trans I.ok.bsz z)) (Nat.lt_irrefl _)
  exfs := fun b hb hm => by
    rcases List.mem_cons.mp (I.stkSub b hm) with z | z
    · exact (f b hb).2.1 z
    · exact (f b hb).2.2.1 z
  funs := I.stack
  frf := I.stkFree
theorem blk_inv (S : CompIn fsc scope x N2) (hf : X.env.scope = fsc) (hjs : js.map (fun j => X.N[j]?) = N2.map some) (I : Inv X pins σ H s) (hC : s.heap.objs.size ≤ C) (f : ∀ b ∈ fp, FpOk X pins H b) (ho : ∀ b ∈ fp, ∃ o, s.heap.get? b = some o)
    {h' : Heap} {t' : Nat} {m : Str → Option Value} (hm : h'.Ns C m) (k : ∀ b o, s.heap.get? b = some o → h'.get? b = some o) : Inv (X.blk scope (x ++ N2) x s H C fp) [] (List.replicate x.length none ++ capt σ js) H { s with heap := h', toks := t' } where
  ok := blk_ok S hf I hC f ho
  os := rfl
  bare := I.bare
  base := Un.kept k
  loc := ⟨m, hm, fun i y v e1 e2 e3 => by
    by_cases hi : i < x.length
    · have e2 : (List.replicate x.length none ++ capt σ js)[i]? = some (some v) := e2
      rw [List.getElem?_append_left (by rw [List.length_replicate]; exact hi), List.getElem?_replicate, if_pos hi] at e2
      cases e2
    · have e1 : (x ++ N2)[i]? = some y := e1
      have e2 : (List.replicate x.length none ++ capt σ js)[i]? = some (some v) := e2
      rw [List.getElem?_append_right (by omega)] at e1
      rw [List.getElem?_append_right (by rw [List.length_replicate]; omega), List.length_replicate] at e2
      generalize i - x.length = i at e1 e2
      unfold capt at e2
      rw [List.getElem?_map] at e2
      obtain ⟨j, hj, e2⟩ := Option.map_eq_some_iff.mp e2
      have e4 : X.N[j]? = some y := by
        have q := congrArg (fun l => l[i]?) hjs
        simp only [List.getElem?_map, hj, e1, Option.map_some] at q
        exact Option.some.inj q
      have hy : y ∈ N2 := List.mem_of_getElem? e1
      have hfree := S.cap y hy
      have hcell : X.env.scope.names.lookup y = some .cell := by rw [hf]; exact S.cells _ (lookup_mem hfree) rfl
      have e5 : σ[j]? = some (some v) := by
        cases q : σ[j]? with
        | none => rw [q] at e2; cases e2
        | some o => rw [q] at e2; have : o = some v := e2; rw [this]
      obtain ⟨m0, _, hl⟩ := I.loc
      obtain ⟨u, r, l⟩ := hl j y v e4 e5 (.inr (.inl hcell))
      refine ⟨u, r, .inr ⟨.inl (relabel_free (by rw [hf]; exact S.fkind) hfree hcell), ?_⟩⟩
      rcases l with ⟨z, _⟩ | ⟨_, c, ec, o, eo, ed⟩
      · have z' : X.env.scope.names.lookup y = some .local := z
        rw [hcell] at z'; cases z'
      · obtain ⟨c', hc'⟩ := clAcc_has (env := X.env) (cs := []) (.inl (lookup_mem hfree))
        have e6 := cl_sub S hf I.ok hc'
        rw [ec] at e6; cases e6
        exact ⟨c, hc', o, k _ _ eo, ed⟩⟩
  cell := fun y c e => by
    obtain ⟨v, o, eo, ed⟩ := I.cell y c (cl_sub S hf I.ok e)
    exact ⟨v, o, k _ _ eo, ed⟩
  free := I.hok.fresh hC
  freeC := fun y c e => I.freeC y c (cl_sub S hf I.ok e)
  pin := fun p hp => by simp at hp
  hok := I.hok.kept k
  len := by
    have q := congrArg List.length hjs
    simp only [List.length_map] at q
    simp [capt, q]

/-- what a comprehension wants, behind its iterable; k names of its own, laid by g -/
def CompWG (J : It) (k : Nat) (g : TG) (cap : St) (tt : TT) (te : TE) (H1 : Hp) (Q : VK) : Prop :=
  ∃ W : Nat → Nat → List V → Hp → Prop, (∃ m, W 0 m [] H1) ∧ ∀ i m ys H, W i m ys H → ys.length ≤ sizeLine ∧
    ((J.stop i H ∧ ∀ p, H p = none → Q (.ref p) (upd H p (.lst ys))) ∨
     (J.go i H ∧ ∀ x H', J.yld i H x H' → ∀ os : St, os.length = k → g x (os ++ cap) H' fun σ2 H2 => (∃ os' : St, os'.length = k ∧ σ2 = os' ++ cap) ∧
       tt σ2 H2 fun b H3 => if b = true then te σ2 H3 fun y H4 => ∃ m', m' < m ∧ W (i + 1) m' (ys ++ [y]) H4 else ∃ m', m' < m ∧ W (i + 1) m' ys H3))
theorem compW_G {J : It} {cap : St} {tt : TT} {te : TE} {H1 : Hp} {Q : VK} (h : CompW J cap tt te H1 Q) : CompWG J 1 (gName 0) cap tt te H1 Q := by
  obtain ⟨W, w0, turn⟩ := h
  refine ⟨W, w0, fun i m ys H hw => ?_⟩
  obtain ⟨hz, alt⟩ := turn i m ys H hw
  refine ⟨hz, alt.imp id fun ⟨go, step⟩ => ⟨go, fun x H' hy os ho => ?_⟩⟩
  match os, ho with
  | [o], _ => exact ⟨⟨[some x], rfl, rfl⟩, step x H' hy⟩
abbrev g2 (K : PySem.W.Frag) : TG := gTup K 2 (gCons (gName 0) (gCons (gName 1) gNil))
theorem same_get {C : Addr} {h h' : Heap} (hs : Heap.SameBut C h h') {b : Addr} {o : Obj} (hb : b ≠ C) (e : h.get? b = some o) : h'.get? b = some o := (hs.2 b hb).trans e
/-- behind the block: the list at D is ours -/
theorem blk_end {Y : Cx} {pl : List (Addr × Obj)} {σ' : St} {H3 : Hp} {s4 : Shared} {h' : Heap} {D : Addr} {ys : List V} {its : List Value} {n : Nat} (I : Inv X pins σ H s) (f : ∀ b ∈ fp, FpOk X pins H b)
    (hY : Y = X.blk scope (x ++ N2) x s H C fp) (hC : s.heap.objs.size ≤ C) (hD : s.heap.objs.size ≤ D) (hDC : D ≠ C) (I4 : Inv Y pl σ' H3 s4) (hs : Heap.SameBut C s4.heap h') (hD3 : H3 D = none)
    (eD : s4.heap.get? D = some { cls := .type "list", data := .seq its.toArray n }) (rv : Vals ys its) (hz : ys.length ≤ sizeLine) : Inv X pins σ (upd H3 D (.lst ys)) { s4 with heap := h' } := by
  subst hY
  have ne : ∀ b o, s.heap.get? b = some o → b ≠ C := fun b o e => Nat.ne_of_lt (Nat.lt_of_lt_of_le (Heap.lt_size e) hC)
  have neD : ∀ b o, s.heap.get? b = some o → b ≠ D := fun b o e => Nat.ne_of_lt (Nat.lt_of_lt_of_le (Heap.lt_size e) hD)
  have fC : H3 C = none := I4.free
  have un : Un (frs X.stack) fp H H3 s.heap h' := ⟨fun b o e n hb hx => same_get hs (ne b o e) (I4.base.keep b o e n hb hx), fun b o e n hb hx => by
      obtain ⟨sl, e1⟩ := I4.base.slot b o e n hb hx
      exact ⟨sl, same_get hs (ne b o e) e1⟩, I4.base.free, fun b o e hx => by
      obtain ⟨o', e1⟩ := I4.base.there b o e hx
      exact ⟨o', same_get hs (ne b o e) e1⟩, I4.base.tups, I4.base.frzs, I4.base.tbls⟩
  have hok : HOk X.prog X.w H3 h' := fun b ob e => (I4.hok b ob e).stay (fun c w' hc q => by
    refine (hs.2 c ?_).trans q
    rintro rfl
    rcases hc with rfl | hc
    · rw [fC] at e; cases e
    · rw [fC] at hc; cases hc) (fun _ q => q) fun _ _ q => q
  have I6 : Inv X pins σ H3 { s4 with heap := h' } := I.call' (ch := fp) I4.os un hok I4.bare fun b hb => ⟨(f b hb).2.2.2.1, (f b hb).2.1, (f b hb).2.2.2.2.1, (f b hb).2.2.2.2.2⟩
  have h0 : X.s₀.heap.get? D = none := by
    cases z : X.s₀.heap.get? D with
    | none => rfl
    | some o => exact absurd (Nat.lt_of_lt_of_le (Heap.lt_size z) (Nat.le_trans I.sz hD)) (Nat.lt_irrefl _)
  exact I6.adopt (a := D) (o := .lst ys) hD3 ⟨hz, its, n, rv, same_get hs hDC eD⟩ h0 (Ne.symm (Nat.ne_of_lt (Nat.lt_of_lt_of_le I.lt hD))) (fun y c ec z => by
    obtain ⟨v, o, eo, _⟩ := I.cell y c ec
    exact neD c o eo z) fun p hp z => neD p.1 p.2 (I.pin p hp).1 z
theorem comp_core {elt iter tg : Expr} {pos p0 : Pos} {g : TG} {CW : It → Hp → Prop} {ifs : List Expr} {wi : TI} {tt : TT} {te : TE} {use : Option (Value → Sem Unit)} {R : Value → Shared → Prop} {Q : VK} (S : CompIn fsc scope x N2) (hf : X.env.scope = fsc) (hjs : js.map (fun j => X.N[j]?) = N2.map some) (hc : X.calm = true) (hi : PI X tg iter wi) (hg : ∀ s H C ex, PG (X.blk scope (x ++ N2) x s H C ex) tg g)
    (ht : ∀ s H C ex, PIfs (X.blk scope (x ++ N2) x s H C ex) ifs tt) (he : ∀ s H C ex, PE (X.blk scope (x ++ N2) x s H C ex) elt te) (hs : ∀ v, foldedSetIterable iter X.env v = pure v) (I : Inv X pins σ H s) (hCW : ∀ J H1, CW J H1 → CompWG J x.length g (capt σ js) tt te H1 Q) (h : wi σ H CW)
    (fin : ∀ (fp : List Addr) (s2 s4 : Shared) (H2 H3 : Hp) (C D : Addr) (Y : Cx) (pl : List (Addr × Obj)) (σ' : St) (ys : List V) (its : List Value) (n : Nat), Inv X pins σ H2 s2 → (∀ b ∈ fp, FpOk X pins H2 b) → Y = X.blk scope (x ++ N2) x s2 H2 C fp → s2.heap.objs.size ≤ C → s2.heap.objs.size ≤ D → D ≠ C →
      Inv Y pl σ' H3 s4 → H3 D = none → s4.heap.get? D = some { cls := .type "list", data := .seq its.toArray n } → Vals ys its → ys.length ≤ sizeLine → Q (.ref D) (upd H3 D (.lst ys)) → compPost (model X.prog X.w) X.A X.xe use R (.ref D) C (.ok .next) s4) :
    wpAny (model X.prog X.w) X.A (comprehension (.ListComp elt [⟨tg, iter, ifs, 0⟩] scope pos) scope X.env p0 (newList []) false (eval iter X.env) use) R X.xe s := by
  refine wpAny_comprehension_free (use := use) (cl := clOf scope X.env) rfl hs (closure_of fun y hy e => I.ok.has y.1 (.inl (show X.env.scope.names.lookup y.1 = some .cell by rw [hf]; exact S.cells y hy e))) S.kind S.locs ?_
  refine wpAny_mono (hi pins s σ H _ I h) (fun v s1 h1 => wpAny_mono h1 (fun itv s2 h2 => ?_) fun _ _ z => z) fun _ _ z => z
  obtain ⟨it, fp, tn, J, H2, e, I2, T, st2, f2, hcw⟩ := h2
  obtain ⟨W, ⟨m0, w0⟩, turn⟩ := hCW _ _ hcw
  subst e
  have ho2 : ∀ b ∈ fp, ∃ o, s2.heap.get? b = some o := fun b hb => let ⟨o, e, _⟩ := T.obj _ _ st2 b hb; ⟨o, e⟩
  refine wpAny_newObj_type (wpAny_newFunctionEnv S.nocell (by intro y hy; simp at hy) (fun h₁ hns₁ hsb₁ => ?_) S.kind)
  dsimp only at hns₁ hsb₁ ⊢
  generalize hH2 : s2.heap.push { cls := .type "list", dict := none, data := .seq ([] : List Value).toArray } = G at hns₁ hsb₁ ⊢
  have hGs : G.objs.size = s2.heap.objs.size + 1 := by rw [← hH2, Heap.size_push]
  generalize hCe : G.objs.size = C at hns₁ hsb₁ ⊢
  have hCs : C = s2.heap.objs.size + 1 := hCe.symm.trans hGs
  generalize hDe : s2.heap.objs.size = D at *
  have hC : s2.heap.objs.size ≤ C := by omega
  have hDC : D ≠ C := by omega
  have leDC : D ≤ C := by omega
  have old : ∀ b o, s2.heap.get? b = some o → h₁.get? b = some o := fun b o e => by
    have hb : b < D := hDe ▸ Heap.lt_size e
    exact hsb₁.extBut b o (Nat.ne_of_lt (Nat.lt_of_lt_of_le hb leDC)) (Heap.get?_push_of_some _ (hH2 ▸ Heap.get?_push_of_some _ e))
  have eD1 : h₁.get? D = some { cls := .type "list", data := .seq ([] : List Value).toArray } := by
    refine hsb₁.extBut _ _ hDC (Heap.get?_push_of_some _ ?_)
    rw [← hH2, ← hDe]
    exact Heap.get?_push_size _ rfl
  have I4 := blk_inv (C := C) (h' := h₁) (t' := s2.toks + ([] : List (Str × Value)).length) S hf hjs I2 hC f2 ho2 hns₁ old
  generalize hY : X.blk scope (x ++ N2) x s2 H2 C fp = Y at I4
  have hYA : Y.A = X.A := by rw [← hY]
  have hYp : Y.prog = X.prog := by rw [← hY]
  have hYw : Y.w = X.w := by rw [← hY]
  have hYK : Y.K = X.K := by rw [← hY]
  have hYc : Y.calm = true := by rw [← hY]; exact hc
  have hYL : Y.env.locals = C := hY ▸ rfl
  have hYx : Y.xe = fun _ _ => False := by rw [← hY]
  have hYe : Y.env = compEnvC scope (clOf scope X.env) C X.env := by rw [← hY]
  have hYs : Y.s₀.heap.objs.size = D := by rw [← hY]; exact hDe
  have hYpn : Y.pn = [] := by rw [← hY]
  have fpD : ∀ b ∈ fp, b < D := fun b hb => by
    obtain ⟨o, e⟩ := ho2 b hb
    exact hDe ▸ Heap.lt_size e
  have cel : ∀ y c, Y.env.cells.lookup y = some c → X.env.cells.lookup y = some c := fun y c e => by
    rw [hYe] at e
    exact cl_sub S hf I2.ok e
  have celD : ∀ y c, Y.env.cells.lookup y = some c → c ≠ D := fun y c e z => by
    obtain ⟨v, o, eo, _⟩ := I2.cell y c (cel y c e)
    have q := Heap.lt_size eo
    rw [hDe, z] at q
    exact Nat.lt_irrefl _ q
  have Dfs : D ∉ Y.fs := by
    rw [← hY]
    intro hm
    obtain ⟨_, o, eo, _⟩ := I2.stack.mem hm
    have q := Heap.lt_size eo
    rw [hDe] at q
    exact Nat.lt_irrefl _ q
  -- the iterator's objects
  have stat : ∀ {H' : Hp} {pl : List (Addr × Obj)}, (∀ b ∈ fp, H' b = none) → (∀ p ∈ pl, p.1 = D) → ∀ b ∈ fp, FpOk Y pl H' b := fun {H' pl} hn hp b hb => by
    refine ⟨hn b hb, by rw [hYL]; exact Nat.ne_of_lt (Nat.lt_of_lt_of_le (fpD b hb) leDC), ?_, .inl (by rw [← hY]; exact hb), fun y c e => (f2 b hb).2.2.2.2.1 y c (cel y c e), fun p hm => ?_⟩
    · rw [← hY]
      intro hm
      rcases List.mem_cons.mp (I2.stkSub b hm) with z | z
      · exact (f2 b hb).2.1 z
      · exact (f2 b hb).2.2.1 z
    · rw [hYpn, List.nil_append] at hm
      rw [hp p hm]
      exact (Nat.ne_of_lt (fpD b hb)).symm
  have pinD : ∀ {σ' : St} {H' : Hp} {s' : Shared} {o : Obj}, Inv Y [] σ' H' s' → s'.heap.get? D = some o → (∀ v, o.data ≠ .cell v) → H' D = none → Inv Y [(D, o)] σ' H' s' := fun {σ' H' s' o} Iy e d n =>
    Iy.pins_of fun p hp => by
      rw [List.mem_singleton] at hp
      subst hp
      exact ⟨e, n, by rw [hYL]; exact hDC, Dfs, d⟩
  have pg : PG Y tg g := by rw [← hY]; exact hg _ _ _ _
  have ht' : PIfs Y ifs tt := by rw [← hY]; exact ht _ _ _ _
  have he' : PE Y elt te := by rw [← hY]; exact he _ _ _ _
  have loop : ∀ s₃ : Shared, s₃ = { s2 with heap := h₁, toks := s2.toks + ([] : List (Str × Value)).length } →
      codeAny (model X.prog X.w) X.A (.compLoop (.ListComp elt [⟨tg, iter, ifs, 0⟩] scope pos) 0 (.ref it) (.ref D) (compEnvC scope (clOf scope X.env) C X.env))
        (compPost (model X.prog X.w) X.A X.xe use R (.ref D) C) s₃ := by
    rintro s₃ rfl
    refine codeAny_compLoop_any (fun n s' => ∃ i ys os its k H', List.length os = x.length ∧ Inv Y [] (os ++ capt σ js) H' s' ∧ tn i s'.heap ∧ (∀ b ∈ fp, H' b = none) ∧ H' D = none ∧ s'.heap.get? D = some { cls := .type "list", data := .seq (its : List Value).toArray k } ∧ Vals ys its ∧ W i n ys H') ?_ m0
      ⟨0, [], List.replicate x.length none, [], 0, H2, List.length_replicate, I4, T.keep _ _ _ st2 fun b _ o e => old b o e, fun b hb => (f2 b hb).1, I2.hok.fresh (by omega), eD1, .nil, w0⟩
    rintro n s3 ⟨i, ys, os, its, k, H3, hos, I3, st3, fr3, hD3, eD3, rv3, w3⟩
    obtain ⟨hz, alt⟩ := turn i n ys H3 w3
    have I3p := pinD I3 eD3 (fun v z => by cases z) hD3
    rcases alt with ⟨stop, q⟩ | ⟨go, step⟩
    · have h4 := T.done Y hYp hYw hYK hYc i _ s3 _ H3 (fun _ _ => False) I3p (stat fr3 fun p hp => by rw [List.mem_singleton] at hp; subst hp; rfl) st3 stop
      rw [hYA] at h4
      refine wpAny_mono h4 (fun r s4 ⟨hr, I4'⟩ => ?_) fun _ _ z => z
      subst hr
      have pD := I4'.pin (D, { cls := .type "list", data := .seq its.toArray k }) (List.mem_append_right _ (List.mem_singleton.mpr rfl))
      exact fin fp s2 s4 H2 H3 C D Y _ _ ys its k I2 f2 hY.symm hC (by omega) hDC I4' pD.2.1 pD.1 rv3 hz (q D pD.2.1)
    · have h4 := T.item Y hYp hYw hYK hYc i _ s3 _ H3 (fun _ _ => False) I3p (stat fr3 fun p hp => by rw [List.mem_singleton] at hp; subst hp; rfl) st3 go
      rw [hYA] at h4
      refine wpAny_mono h4 (fun r s4 ⟨u, hr, h4'⟩ => ?_) fun _ _ z => z
      subst hr
      refine wpAny_mono h4' (fun _ s5 ⟨xv, H5, I5, r5, y5, st5, fr5⟩ => ?_) fun _ _ z => z
      have I5' := I5.pinned (stat fr5 fun p hp => by rw [List.mem_singleton] at hp; subst hp; rfl) (T.obj _ _ st5)
      have keepT : ∀ {σ7 : St} {H7 : Hp} {s7 : Shared}, Inv Y ([(D, { cls := .type "list", data := .seq its.toArray k })] ++ pinsAt fp s5.heap) σ7 H7 s7 → tn (i + 1) s7.heap ∧ (∀ b ∈ fp, H7 b = none) ∧ H7 D = none ∧
          s7.heap.get? D = some { cls := .type "list", data := .seq its.toArray k } := fun {σ7 H7 s7} I7 => by
        have pD := I7.pin (D, { cls := .type "list", data := .seq its.toArray k }) (List.mem_append_right _ (List.mem_append_left _ (List.mem_singleton.mpr rfl)))
        refine ⟨T.keep _ _ _ st5 fun b hb o e => (I7.pin (b, o) (List.mem_append_right _ (List.mem_append_right _ (mem_pinsAt hb e)))).1, fun b hb => ?_, pD.2.1, pD.1⟩
        obtain ⟨o, e, d⟩ := T.obj _ _ st5 b hb
        exact (I7.pin (b, o) (List.mem_append_right _ (List.mem_append_right _ (mem_pinsAt hb e)))).2.1
      have h6 := pg _ s5 _ H5 xv u _ I5' r5 (step xv H5 y5 os hos)
      rw [hYA, hYe, hYp, hYw, hYx] at h6
      refine wpAny_mono h6 (fun _ s6 ⟨σ6, H6, I6, ⟨os', hos', e6⟩, q6⟩ => ?_) fun _ _ z => z
      subst e6
      have h7 := ht' _ s6 _ H6 _ I6 q6
      rw [hYA, hYe, hYp, hYw, hYx] at h7
      refine wpAny_mono h7 (fun b s7 ⟨H7, I7, q7⟩ => ?_) fun _ _ z => z
      cases b with
      | false =>
        rw [if_neg Bool.false_ne_true] at q7 ⊢
        obtain ⟨m', hm, w7⟩ := q7
        obtain ⟨k1, k2, k3, k4⟩ := keepT I7
        exact ⟨m', hm, i + 1, ys, os', its, k, H7, hos', I7.pins_of fun p hp => by simp at hp, k1, k2, k3, k4, rv3, w7⟩
      | true =>
        rw [if_pos rfl] at q7 ⊢
        have h8 := he' _ s7 _ H7 _ I7 q7
        rw [hYA, hYe, hYp, hYw, hYx] at h8
        refine wpAny_mono h8 (fun y s8 ⟨yv, H8, I8, r8, m', hm, w8⟩ => ?_) fun _ _ z => z
        obtain ⟨k1, k2, k3, k4⟩ := keepT I8
        refine wpAny_list_append_plain (l := D) (items := its.toArray) ⟨k, k4⟩ (fun h9 pl9 sb9 => ?_) (by rw [List.size_toArray, ← rv3.length]; exact hz)
        obtain ⟨k9, e9⟩ := pl9
        have I9 : Inv Y [] (os' ++ capt σ js) H8 { s8 with heap := h9 } := (I8.pins_of (pins' := []) fun p hp => by simp at hp).turned (it := D) (t' := s8.toks) (fun b o hb e => (sb9.2 b hb).trans e) k3 (by rw [hYL]; exact hDC)
          (.inr (by rw [hYs]; exact Nat.le_refl _)) celD (by rw [hYpn]; intro p hp; simp at hp)
        exact ⟨m', hm, i + 1, ys ++ [yv], os', its ++ [y], k9, H8, hos', I9, T.keep _ _ _ k1 fun b hb o e => (sb9.2 b (Nat.ne_of_lt (fpD b hb))).trans e, k2, k3, by rw [e9, List.push_toArray], rv3.snoc r8, w8⟩
  exact codeAny_compStart_list (loop _ rfl) (T.self _ 0 _ _ _ (T.keep _ _ _ st2 fun b _ o e => old b o e) (loop _ rfl))
theorem pg_own {x : Str} {px : Pos} (S : CompIn fsc scope [x] N2) {s : Shared} {H : Hp} {C : Addr} {ex : List Addr} : PG (X.blk scope (x :: N2) [x] s H C ex) (.Name x px) (gName 0) :=
  pg_name (i := 0) S.nd rfl (.inl (lookup_relabel_local (S.own x List.mem_cons_self))) (.inl (by show [x].contains x = true; simp))
theorem pe_comp {x : Str} {elt iter : Expr} {px pos : Pos} {ifs : List Expr} {wi : TI} {tt : TT} {te : TE} (S : CompIn fsc scope [x] N2) (hf : X.env.scope = fsc) (hjs : js.map (fun j => X.N[j]?) = N2.map some) (hc : X.calm = true) (hi : PI X (.Name x px) iter wi)
    (ht : ∀ s H C ex, PIfs (X.blk scope (x :: N2) [x] s H C ex) ifs tt) (he : ∀ s H C ex, PE (X.blk scope (x :: N2) [x] s H C ex) elt te) (hs : ∀ v, foldedSetIterable iter X.env v = pure v := by intro _; rfl) :
    PE X (.ListComp elt [⟨.Name x px, iter, ifs, 0⟩] scope pos) (tComp js wi tt te) := by
  intro pins s σ H Q I h
  rw [eval_ListComp]
  refine comp_core (x := [x]) (g := gName 0) (use := none) S hf hjs hc hi (fun _ _ _ _ => pg_own S) ht he hs I (fun _ _ => compW_G) h fun fp s2 s4 H2 H3 C D Y pl σ' ys its n I2 f2 hY hC hD hDC I4 hD3 eD rv hz q => ?_
  obtain ⟨m, hn, _⟩ := I4.loc
  rw [show Y.env.locals = C from hY ▸ rfl] at hn
  exact ⟨m, hn, fun h' hs' => ⟨.ref D, _, blk_end (scope := scope) (x := [x]) (N2 := N2) I2 f2 hY hC hD hDC I4 hs' hD3 eD rv hz, rfl, q⟩⟩
/-- name = a comprehension: the store comes ahead of its names' going -/
theorem ps_setcomp {x : Str} {elt iter : Expr} {px py pos spos : Pos} {ifs : List Expr} {wi : TI} {tt : TT} {te : TE} {i : Nat} {y : Str} (hN : X.N.Nodup) (hy : X.N[i]? = some y) (hl : Loc X.env.scope y)
    (S : CompIn fsc scope [x] N2) (hf : X.env.scope = fsc) (hjs : js.map (fun j => X.N[j]?) = N2.map some) (hc : X.calm = true) (hi : PI X (.Name x px) iter wi)
    (ht : ∀ s H C ex, PIfs (X.blk scope (x :: N2) [x] s H C ex) ifs tt) (he : ∀ s H C ex, PE (X.blk scope (x :: N2) [x] s H C ex) elt te) (hs : ∀ v, foldedSetIterable iter X.env v = pure v := by intro _; rfl)
    (hsw : swapsWith (.ListComp elt [⟨.Name x px, iter, ifs, 0⟩] scope pos) (some (.Name y py)) spos.line X.env = pure true := by rfl)
    (hfn : X.fn y = true ∨ X.env.scope.names.lookup y = some .local := by first | exact .inl rfl | exact .inr rfl | assumption) :
    PS X (.Assign [.Name y py] (.ListComp elt [⟨.Name x px, iter, ifs, 0⟩] scope pos) spos) (tAsg (tComp js wi tt te) (gName i)) := by
  intro pins s σ H Dn I h
  rw [exec_Assign_Name_used _ _ _ _ hsw]
  refine wpAny_bind (wpAny_standAt (wpAny_bind ?_))
  show wpAny _ _ (do let _ ← comprehension (.ListComp elt [⟨.Name x px, iter, ifs, 0⟩] scope pos) scope X.env _ (newList []) false (eval iter X.env) (some (assign (.Name y py) X.env))) _ _ s
  refine wpAny_bind (wpAny_mono (comp_core (x := [x]) (g := gName 0) (use := some (assign (.Name y py) X.env)) (R := fun _ s' => SP X pins Dn .next s') S hf hjs hc hi (fun _ _ _ _ => pg_own S) ht he hs I (fun _ _ => compW_G) h fun fp s2 s4 H2 H3 C D Y pl σ' ys its n I2 f2 hY hC hD hDC I4 hD3 eD rv hz q => ?_)
    (fun _ s' hq => wpAny_pure (wpAny_pure hq)) fun _ _ e => e)
  show wpAny _ _ (assign (.Name y py) X.env (.ref D)) _ _ s4
  have I7 : Inv X pins σ (upd H3 D (.lst ys)) s4 := blk_end (scope := scope) (x := [x]) (N2 := N2) (h' := s4.heap) I2 f2 hY hC hD hDC I4 (Heap.SameBut.refl ..) hD3 eD rv hz
  have nC : ∀ b o, s2.heap.get? b = some o → b ≠ C := fun b o e => Nat.ne_of_lt (Nat.lt_of_lt_of_le (Heap.lt_size e) hC)
  have cC : ∀ z c, X.env.cells.lookup z = some c → c ≠ C := fun z c e => by
    obtain ⟨v, o, eo, _⟩ := I2.cell z c e
    exact nC c o eo
  have lC : X.env.locals ≠ C := Nat.ne_of_lt (Nat.lt_of_lt_of_le I2.lt hC)
  obtain ⟨m, hn, _⟩ := I4.loc
  have eL : Y.env.locals = C := hY ▸ rfl
  have fC : upd H3 D (HO.lst ys) C = none := by rw [upd_ne (Ne.symm hDC)]; exact eL ▸ I4.free
  rw [eL] at hn
  refine wpAny_assign_Name (store_ok2 I7 hN hy hl (v := .ref D) rfl (fun s'' I8 ⟨a, sb, ha⟩ => ?_) hfn)
  have na : C ≠ a := by
    rcases ha with rfl | ha
    · exact Ne.symm lC
    · exact Ne.symm (cC _ _ ha)
  refine ⟨m, hn.sameBut sb na, fun h' hs' => ⟨_, _, I8.turned (it := C) (t' := s''.toks) (fun b o hb e => (hs'.2 b hb).trans e) fC (Ne.symm lC) (.inr (Nat.le_trans I2.sz hC)) cC fun p hp => ?_, q⟩⟩
  exact nC p.1 p.2 (I2.pin p hp).1
end
end L2

/-! LR: range with a step; a list unpacked into names; a tuple written out and walked. -/
namespace L2
open PySem PySem.Spec PyProof.Rows

/-! ### range(a, b, c), c > 0 -/
section
variable {X : Cx} {tg : Expr}
/-! ### a, b, c = a list -/
end
end L2

/-! LE: == of lists and tuples, deep; isinstance by a tuple of classes; forms of comprehensions. -/
namespace L2
open PySem PySem.Spec PyProof.Rows

/-! ### equality -/
/-- the answers of pairs, one behind the other -/
def allO : List (Option Bool) → Option Bool
  | [] => some true
  | none :: _ => none
  | some b :: r => (allO r).map fun c => b && c
/-- == of two values, so deep; lists beside lists, tuples beside tuples, flat values else -/
def deq (H : Hp) : Nat → V → V → Option Bool
  | 0, x, y => if flatV x = true ∧ flatV y = true then some (eqV x y) else none
  | d + 1, x, y => match x, y with
    | .ref a, .ref b => (match H a, H b with
      | some (.lst xs), some (.lst ys) => if xs.length = ys.length then allO (List.zipWith (deq H d) xs ys) else some false
      | some (.tup xs), some (.tup ys) => if xs.length = ys.length then allO (List.zipWith (deq H d) xs ys) else none
      | _, _ => none)
    | x, y => if flatV x = true ∧ flatV y = true then some (eqV x y) else none
theorem allO_at {l : List (Option Bool)} {b : Bool} : allO l = some b → ∃ e : Nat → Bool, (∀ j o, l[j]? = some o → o = some (e j)) ∧ (List.range l.length).all e = b := by
  induction l generalizing b with
  | nil => intro h; cases h; exact ⟨fun _ => true, fun j o z => by simp at z, rfl⟩
  | cons o r ih =>
    intro h
    cases o with
    | none => cases h
    | some b0 =>
      obtain ⟨c, hc, rfl⟩ := Option.map_eq_some_iff.mp h
      obtain ⟨e, h1, h2⟩ := ih hc
      refine ⟨fun j => match j with | 0 => b0 | j + 1 => e j, fun j o z => ?_, ?_⟩
      · cases j with
        | zero => simp at z; exact z.symm
        | succ j => exact h1 j o (by simpa using z)
      · rw [List.length_cons, List.range_succ_eq_map, List.all_cons, List.all_map, ← h2]
        rfl
theorem eqV_refl {x : V} (h : flatV x = true) : eqV x x = true := by
  cases x <;> simp [eqV, flatV] at h ⊢
theorem deq_refl {H : Hp} : ∀ (d : Nat) {x : V} {b : Bool}, deq H d x x = some b → b = true
  | 0, x, b, h => by
    unfold deq at h
    split at h
    · rename_i z; cases h; exact eqV_refl z.1
    · cases h
  | d + 1, x, b, h => by
    unfold deq at h
    split at h
    · split at h
      · rename_i xs ys e1 e2
        rw [e1] at e2
        cases e2
        rw [if_pos rfl] at h
        obtain ⟨e, h1, h2⟩ := allO_at h
        rw [← h2, List.all_eq_true]
        intro j hj
        rw [List.mem_range, List.length_zipWith, Nat.min_self] at hj
        have z := h1 j (deq H d xs[j] xs[j]) (by rw [List.getElem?_zipWith, List.getElem?_eq_getElem hj])
        exact deq_refl d z
      · rename_i xs ys e1 e2
        rw [e1] at e2
        cases e2
        rw [if_pos rfl] at h
        obtain ⟨e, h1, h2⟩ := allO_at h
        rw [← h2, List.all_eq_true]
        intro j hj
        rw [List.mem_range, List.length_zipWith, Nat.min_self] at hj
        have z := h1 j (deq H d xs[j] xs[j]) (by rw [List.getElem?_zipWith, List.getElem?_eq_getElem hj])
        exact deq_refl d z
      · cases h
    · split at h
      · rename_i z; cases h; exact eqV_refl z.1
      · cases h
section
variable {X : Cx}
theorem eqAt_deq {pins : List (Addr × Obj)} {σ : St} {H : Hp} {s : Shared} (I : Inv X pins σ H s) : ∀ (d : Nat) (A : Around) {x y : V} {u v : Value} {b : Bool}, A.units + d < cLine → RelV x u → RelV y v → deq H d x y = some b → SeqAt.EqAt A s u v b
  | 0, A, x, y, u, v, b, hu, rx, ry, h => by
    unfold deq at h
    split at h
    · rename_i z; cases h; exact eqAt_V rx ry z.1 z.2
    · cases h
  | d + 1, A, x, y, u, v, b, hu, rx, ry, h => by
    by_cases hs : ∃ a, x = .ref a ∧ y = .ref a
    · obtain ⟨a, rfl, rfl⟩ := hs
      cases (show u = Value.ref a from rx)
      cases (show v = Value.ref a from ry)
      rw [deq_refl (d + 1) h]
      exact SeqAt.EqAt.same _
    · unfold deq at h
      split at h
      · rename_i a c
        split at h
        · rename_i xs ys e1 e2
          cases (show u = Value.ref a from rx)
          cases (show v = Value.ref c from ry)
          have hne : a ≠ c := fun z => hs ⟨a, rfl, by rw [z]⟩
          obtain ⟨i1, r1, p1, _⟩ := I.list (SqL.of e1)
          obtain ⟨i2, r2, p2, _⟩ := I.list (SqL.of e2)
          refine SeqAt.EqAt.of_refs hne ?_
          have l1 := r1.length
          have l2 := r2.length
          split at h
          · rename_i hl
            obtain ⟨e, h1, h2⟩ := allO_at h
            rw [List.length_zipWith, ← hl, Nat.min_self] at h2
            have z := SeqAt.RcAt.lists (A := A) (s := s) (e := e) p1.isList p2.isList (by simp; omega) (by omega) fun j j1 j2 => ?_
            · have e3 : i1.toArray.size = xs.length := by simp [l1]
              rw [e3, h2] at z
              exact z
            · simp only [List.size_toArray] at j1 j2
              have k1 : j < xs.length := by omega
              have k2 : j < ys.length := by omega
              obtain ⟨w1, g1, q1⟩ := r1.get (List.getElem?_eq_getElem k1)
              obtain ⟨w2, g2, q2⟩ := r2.get (List.getElem?_eq_getElem k2)
              have z := h1 j (deq H d xs[j] ys[j]) (by rw [List.getElem?_zipWith, List.getElem?_eq_getElem k1, List.getElem?_eq_getElem k2])
              have e4 : i1.toArray[j] = w1 := by simpa [j1] using g1
              have e5 : i2.toArray[j] = w2 := by simpa [j2] using g2
              rw [e4, e5]
              exact eqAt_deq I d A.in1 (by rw [Around.in1_units]; omega) q1 q2 z
          · rename_i hl
            cases h
            exact SeqAt.RcAt.lists_lengths p1.isList p2.isList (by simp; omega) (by omega)
        · rename_i xs ys e1 e2
          cases (show u = Value.ref a from rx)
          cases (show v = Value.ref c from ry)
          have hne : a ≠ c := fun z => hs ⟨a, rfl, by rw [z]⟩
          obtain ⟨i1, r1, p1, _⟩ := I.tuple (.inl (.inl e1))
          obtain ⟨i2, r2, p2, _⟩ := I.tuple (.inl (.inl e2))
          refine SeqAt.EqAt.of_refs hne ?_
          have l1 := r1.length
          have l2 := r2.length
          split at h
          · rename_i hl
            obtain ⟨e, h1, h2⟩ := allO_at h
            rw [List.length_zipWith, ← hl, Nat.min_self] at h2
            have z := SeqAt.RcAt.tuples (A := A) (s := s) (e := e) p1 p2 (by omega) fun j j1 j2 => ?_
            · have e3 : i1.toArray.size = xs.length := by simp [l1]
              have e4 : i2.toArray.size = xs.length := by simp [← l2, hl]
              rw [e3, e4, Nat.min_self, h2, beq_self_eq_true, Bool.and_true] at z
              exact z
            · simp only [List.size_toArray] at j1 j2
              have k1 : j < xs.length := by omega
              have k2 : j < ys.length := by omega
              obtain ⟨w1, g1, q1⟩ := r1.get (List.getElem?_eq_getElem k1)
              obtain ⟨w2, g2, q2⟩ := r2.get (List.getElem?_eq_getElem k2)
              have z := h1 j (deq H d xs[j] ys[j]) (by rw [List.getElem?_zipWith, List.getElem?_eq_getElem k1, List.getElem?_eq_getElem k2])
              have e4 : i1.toArray[j] = w1 := by simpa [j1] using g1
              have e5 : i2.toArray[j] = w2 := by simpa [j2] using g2
              rw [e4, e5]
              exact eqAt_deq I d A.in1 (by rw [Around.in1_units]; omega) q1 q2 z
          · cases h
        · cases h
      · split at h
        · rename_i z; cases h; exact eqAt_V rx ry z.1 z.2
        · cases h
/-- lists, three deep at most -/
def cEqL : R2 := fun x y H Q => match x, y with
  | .ref a, .ref b => (match H a, H b with
    | some (.lst xs), some (.lst ys) => if xs.length = ys.length then (match allO (List.zipWith (deq H 2) xs ys) with
        | some k => Q (.bl k) H
        | none => False) else Q (.bl false) H
    | _, _ => False)
  | _, _ => False
def cNeL : R2 := fun x y H Q => match x, y with
  | .ref a, .ref b => (match H a, H b with
    | some (.lst xs), some (.lst ys) => if xs.length = ys.length then (match allO (List.zipWith (deq H 2) xs ys) with
        | some k => Q (.bl (!k)) H
        | none => False) else Q (.bl true) H
    | _, _ => False)
  | _, _ => False
theorem c_eqL (hu : X.A.units + 8 < cLine) : OpR X (compareOp .Eq) cEqL := by
  intro pins s σ H x y v u Q I rx ry h
  unfold cEqL at h
  split at h
  case h_2 => exact h.elim
  rename_i a b
  split at h
  case h_2 => exact h.elim
  rename_i xs ys e1 e2
  cases (show v = Value.ref a from rx)
  cases (show u = Value.ref b from ry)
  obtain ⟨i1, r1, p1, _⟩ := I.list (SqL.of e1)
  obtain ⟨i2, r2, p2, _⟩ := I.list (SqL.of e2)
  have l1 := r1.length
  have l2 := r2.length
  split at h
  · rename_i hl
    split at h
    case h_2 => exact h.elim
    rename_i k hk
    obtain ⟨e, h1, h2⟩ := allO_at hk
    rw [List.length_zipWith, ← hl, Nat.min_self] at h2
    refine SeqAt.eq_listAt (e := e) p1.isList p2.isList (by simp; omega) (by omega) (fun j j1 j2 => ?_) ⟨.bl k, H, I, ?_, h⟩
    · simp only [List.size_toArray] at j1 j2
      have k1 : j < xs.length := by omega
      have k2 : j < ys.length := by omega
      obtain ⟨w1, g1, q1⟩ := r1.get (List.getElem?_eq_getElem k1)
      obtain ⟨w2, g2, q2⟩ := r2.get (List.getElem?_eq_getElem k2)
      have z := h1 j (deq H 2 xs[j] ys[j]) (by rw [List.getElem?_zipWith, List.getElem?_eq_getElem k1, List.getElem?_eq_getElem k2])
      have e4 : i1.toArray[j] = w1 := by simpa [j1] using g1
      have e5 : i2.toArray[j] = w2 := by simpa [j2] using g2
      rw [e4, e5]
      exact eqAt_deq I 2 X.A.in1 (by rw [Around.in1_units]; omega) q1 q2 z
    · have e3 : i1.toArray.size = xs.length := by simp [l1]
      rw [e3, h2]
      exact rfl
  · exact SeqAt.eq_list_lengthsAt p1.isList p2.isList (by simp; omega) (by omega) ⟨.bl false, H, I, rfl, h⟩
end
section
variable {X : Cx}
theorem c_neL (hu : X.A.units + 8 < cLine) : OpR X (compareOp .NotEq) cNeL := by
  intro pins s σ H x y v u Q I rx ry h
  unfold cNeL at h
  split at h
  case h_2 => exact h.elim
  rename_i a b
  split at h
  case h_2 => exact h.elim
  rename_i xs ys e1 e2
  cases (show v = Value.ref a from rx)
  cases (show u = Value.ref b from ry)
  obtain ⟨i1, r1, p1, _⟩ := I.list (SqL.of e1)
  obtain ⟨i2, r2, p2, _⟩ := I.list (SqL.of e2)
  have l1 := r1.length
  have l2 := r2.length
  split at h
  · rename_i hl
    split at h
    case h_2 => exact h.elim
    rename_i k hk
    obtain ⟨e, h1, h2⟩ := allO_at hk
    rw [List.length_zipWith, ← hl, Nat.min_self] at h2
    refine SeqAt.RcNeAt.lists (e := e) p1.isList p2.isList (by simp; omega) (by omega) (fun j j1 j2 => ?_) X.prog X.w X.xe _ ⟨.bl (!k), H, I, ?_, h⟩
    · simp only [List.size_toArray] at j1 j2
      have k1 : j < xs.length := by omega
      have k2 : j < ys.length := by omega
      obtain ⟨w1, g1, q1⟩ := r1.get (List.getElem?_eq_getElem k1)
      obtain ⟨w2, g2, q2⟩ := r2.get (List.getElem?_eq_getElem k2)
      have z := h1 j (deq H 2 xs[j] ys[j]) (by rw [List.getElem?_zipWith, List.getElem?_eq_getElem k1, List.getElem?_eq_getElem k2])
      have e4 : i1.toArray[j] = w1 := by simpa [j1] using g1
      have e5 : i2.toArray[j] = w2 := by simpa [j2] using g2
      rw [e4, e5]
      exact eqAt_deq I 2 X.A.in1 (by rw [Around.in1_units]; omega) q1 q2 z
    · have e3 : i1.toArray.size = xs.length := by simp [l1]
      rw [e3, h2]
      exact rfl
  · exact SeqAt.RcNeAt.lists_lengths p1.isList p2.isList (by simp; omega) (by omega) X.prog X.w X.xe _ ⟨.bl true, H, I, rfl, h⟩
end
/-! ### isinstance(x, (A, B, ..)) -/
/-! ### comprehensions that leave the heap -/
theorem CompW.mapR {lo : Int} {n : Nat} {cap : St} {te : TE} {H : Hp} {Q : VK} (f : Nat → V) (hn : n ≤ sizeLine) (h : ∀ i, i < n → ∀ K' : VK, K' (f i) H → te (some (.int (lo + i)) :: cap) H K')
    (q : ∀ p, H p = none → Q (.ref p) (upd H p (.lst ((List.range n).map f)))) : CompW (Itr lo n) cap tYes te H Q := by
  refine ⟨fun i m ys H' => H' = H ∧ i ≤ n ∧ m = n - i ∧ ys = (List.range i).map f, ⟨n, rfl, Nat.zero_le _, rfl, rfl⟩, fun i m ys H' ⟨e1, hi, em, ey⟩ => ?_⟩
  subst e1 ey
  refine ⟨by rw [List.length_map, List.length_range]; omega, ?_⟩
  by_cases z : i < n
  · refine .inr ⟨z, fun x H2 ⟨e2, e3⟩ => ?_⟩
    rw [e2, e3]
    unfold tYes
    dsimp only
    rw [if_pos rfl]
    refine h i z _ ⟨n - (i + 1), by omega, rfl, z, rfl, ?_⟩
    rw [List.range_succ, List.map_append]; rfl
  · have e : i = n := by omega
    subst e
    exact .inl ⟨Nat.le_refl _, q⟩
theorem CompW.filtL {K : PySem.W.Frag} {a : Addr} {xs : List V} {cap : St} {tt : TT} {te : TE} {H : Hp} {Q : VK} (p : V → Bool) (f : V → V) (hS : SqL K H a xs) (hz : xs.length ≤ sizeLine)
    (ht : ∀ x ∈ xs, ∀ K' : Bool → Hp → Prop, K' (p x) H → tt (some x :: cap) H K') (he : ∀ x ∈ xs, p x = true → ∀ K' : VK, K' (f x) H → te (some x :: cap) H K')
    (q : ∀ l, H l = none → Q (.ref l) (upd H l (.lst ((xs.filter p).map f)))) : CompW (Itl K a) cap tt te H Q := by
  refine ⟨fun i m ys H' => H' = H ∧ i ≤ xs.length ∧ m = xs.length - i ∧ ys = ((xs.take i).filter p).map f, ⟨xs.length, rfl, Nat.zero_le _, rfl, by simp⟩, fun i m ys H' ⟨e1, hi, em, ey⟩ => ?_⟩
  subst e1 ey
  refine ⟨Nat.le_trans (by rw [List.length_map]; exact Nat.le_trans (List.length_filter_le _ _) (by rw [List.length_take]; omega)) hz, ?_⟩
  by_cases z : i < xs.length
  · have hx : xs[i]? = some xs[i] := List.getElem?_eq_getElem z
    refine .inr ⟨⟨xs, xs[i], hS, hx⟩, fun x H2 ⟨e2, e3⟩ => ?_⟩
    have ex : x = xs[i] := by have := e3 xs hS; rw [hx] at this; exact (Option.some.inj this).symm
    rw [e2, ex]
    have tk : xs.take (i + 1) = xs.take i ++ [xs[i]] := by rw [List.take_add_one, hx]; rfl
    refine ht _ (List.getElem_mem z) _ ?_
    cases hp : p xs[i] with
    | true =>
      rw [if_pos rfl]
      refine he _ (List.getElem_mem z) hp _ ⟨xs.length - (i + 1), by omega, rfl, z, rfl, ?_⟩
      rw [tk, List.filter_append, List.map_append]; simp [hp]
    | false =>
      rw [if_neg Bool.false_ne_true]
      refine ⟨xs.length - (i + 1), by omega, rfl, z, rfl, ?_⟩
      rw [tk, List.filter_append, List.map_append]; simp [hp]
  · have e : i = xs.length := by omega
    subst e
    rw [List.take_length]
    exact .inl ⟨⟨xs, hS, Nat.le_refl _⟩, q⟩
theorem exc_blk {X : Cx} {scope : Scope} {N : List Str} {x : List Str} {s : Shared} {H : Hp} {C : Addr} {ex : List Addr} : Exc (X.blk scope N x s H C ex) (fun _ _ _ _ => False) :=
  ⟨fun _ _ _ _ _ _ _ ⟨_, _, _, _, _, _, _, _, _, _, _, _, h⟩ => h, fun _ _ _ _ _ _ _ _ _ _ _ _ h => h, PassesOwn.never⟩

/-! ### all(a list of bools), list(a list), == of what may be lists -/
def bools : List V → Option (List Bool)
  | [] => some []
  | .bl b :: r => (bools r).map fun bs => b :: bs
  | _ :: _ => none
def cList : List V → Hp → VK → Prop := fun xs H Q => match xs with
  | [.ref a] => (match H a with
    | some (.lst ys) => ∀ l, H l = none → Q (.ref l) (upd H l (.lst ys))
    | _ => False)
  | _ => False
def cEqA : R2 := fun x y H Q => match eqv x y with
  | some b => Q (.bl b) H
  | none => cEqL x y H Q
def cNeA : R2 := fun x y H Q => match eqv x y with
  | some b => Q (.bl (!b)) H
  | none => cNeL x y H Q
section
variable {X : Cx}
theorem c_list : CallR X (.type "list") cList := call_list_of.mono fun xs H Q h => by
  unfold cList at h
  split at h
  case h_2 => exact h.elim
  split at h
  case h_2 => exact h.elim
  rename_i ys e
  exact ⟨_, ys, rfl, .inl (SqL.of e), h⟩
theorem c_eqA (hu : X.A.units + 8 < cLine) : OpR X (compareOp .Eq) cEqA := by
  intro pins s σ H x y v u Q I rx ry h
  unfold cEqA at h
  split at h
  · rename_i b e
    exact c_eq pins s σ H x y v u Q I rx ry (by unfold cEq; rw [e]; exact h)
  · exact c_eqL hu pins s σ H x y v u Q I rx ry h
theorem c_neA (hu : X.A.units + 8 < cLine) : OpR X (compareOp .NotEq) cNeA := by
  intro pins s σ H x y v u Q I rx ry h
  unfold cNeA at h
  split at h
  · rename_i b e
    exact c_ne pins s σ H x y v u Q I rx ry (by unfold cNe; rw [e]; exact h)
  · exact c_neL hu pins s σ H x y v u Q I rx ry h
theorem hu8 {ca : Bool} {k : Nat} {A : Around} (hr : Room ca k A) : A.units + 8 < cLine := Nat.lt_of_le_of_lt (Nat.add_le_add_left (by decide : 8 ≤ 64) _) hr.units
end
theorem compW_listG {K : PySem.W.Frag} {a : Addr} {xs : List V} {cap : St} {tt : TT} {te : TE} {H : Hp} {Q : VK} (P : Nat → List V → Hp → Prop) (h0 : P 0 [] H) (hS : ∀ i ys H', P i ys H' → SqL K H' a xs) (hz : xs.length ≤ sizeLine) (hlen : ∀ i ys H', P i ys H' → ys.length ≤ i)
    (step : ∀ i x ys H', xs[i]? = some x → P i ys H' → ∀ K1 : List V → Hp → Prop, (∀ ys' H3, P (i + 1) ys' H3 → K1 ys' H3) → tt (some x :: cap) H' fun b H2 => if b = true then te (some x :: cap) H2 (fun y H3 => K1 (ys ++ [y]) H3) else K1 ys H2)
    (q : ∀ ys H', P xs.length ys H' → ∀ l, H' l = none → Q (.ref l) (upd H' l (.lst ys))) : CompW (Itl K a) cap tt te H Q := by
  refine ⟨fun i m ys H' => P i ys H' ∧ i ≤ xs.length ∧ m = xs.length - i, ⟨xs.length, h0, Nat.zero_le _, rfl⟩, fun i m ys H' ⟨hP, hi, em⟩ => ?_⟩
  refine ⟨Nat.le_trans (Nat.le_trans (hlen _ _ _ hP) hi) hz, ?_⟩
  have hS' := hS _ _ _ hP
  by_cases z : i < xs.length
  · have hx : xs[i]? = some xs[i] := List.getElem?_eq_getElem z
    refine .inr ⟨⟨xs, xs[i], hS', hx⟩, fun x H2 ⟨e2, e3⟩ => ?_⟩
    have ex : x = xs[i] := by have := e3 xs hS'; rw [hx] at this; exact (Option.some.inj this).symm
    rw [e2, ex]
    exact step i _ ys H' hx hP (fun ys' H3 => ∃ m', m' < m ∧ (P (i + 1) ys' H3 ∧ i + 1 ≤ xs.length ∧ m' = xs.length - (i + 1))) fun ys' H3 h => ⟨_, by omega, h, z, rfl⟩
  · have e : i = xs.length := by omega
    subst e
    exact .inl ⟨⟨xs, hS', Nat.le_refl _⟩, q _ _ hP⟩
end L2

/-! LK: while, sums, list + list, dicts asked and popped, is True. -/
namespace L2
open PySem PySem.Spec PyProof.Rows

/-! ### numbers of a list -/
/-! ### sum(a list of numbers) -/
section
variable {X : Cx}
/-! ### sorted -/
/-! ### sorted(a dict whose keys are numbers) -/
/-! ### list + list -/
def cCat : R2 := fun x y H Q => match x, y with
  | .ref l, .ref b => (match H l, H b with
    | some (.lst xs), some (.lst zs) => xs.length + zs.length ≤ sizeLine ∧ ∀ p, H p = none → Q (.ref p) (upd H p (.lst (xs ++ zs)))
    | _, _ => False)
  | _, _ => False
theorem c_cat : OpR X (binaryOp .Add) cCat := op_cat.mono fun x y H Q h => by
  unfold cCat at h
  split at h
  case h_2 => exact h.elim
  split at h
  case h_2 => exact h.elim
  rename_i xs zs e1 e2
  exact ⟨_, _, xs, zs, rfl, rfl, e1, e2, h.1, h.2⟩
def cExtend : V → List V → Hp → VK → Prop := fun x vs H Q => match x, vs with
  | .ref l, [.ref b] => (match H l, H b with
    | some (.lst xs), some (.lst zs) => l ≠ b ∧ xs.length + zs.length ≤ sizeLine ∧ Q .non (upd H l (.lst (xs ++ zs)))
    | _, _ => False)
  | _, _ => False
/-! ### is True, is False -/
theorem c_extend : MtM X "list.extend" cExtend := fun pins s σ H x xs v us Q I rx rxs h => by
  unfold cExtend at h
  split at h
  case h_2 => exact h.elim
  split at h
  case h_2 => exact h.elim
  rename_i ys zs e1 e2
  exact mt_extend pins s σ H _ _ v us Q I rx rxs ⟨_, _, ys, zs, rfl, rfl, e1, e2, h.2.1, h.2.2⟩
/-! ### dicts -/
def cNotInD : R2 := fun x y H Q => match y with
  | .ref a => (match H a, keyV x with
    | some (.dK kvs), some k => Q (.bl (!(valV kvs k).isSome)) H
    | _, _ => False)
  | _ => False
theorem c_notInD (hu : X.A.units + 1 < cLine) : OpR X (compareOp .NotIn) cNotInD := by
  intro pins s σ H x y v u Q I rx ry h
  unfold cNotInD at h
  split at h
  case h_2 => exact h.elim
  rename_i a
  split at h
  case h_2 => exact h.elim
  rename_i kvs k ea ek
  have ey := keyV_is ek
  subst ey
  cases (show u = Value.ref a from ry)
  exact d_notIn hu I (DGet.k ea) rx fun s' I' => ⟨.bl _, H, I', rfl, h⟩
end
section
variable {X : Cx} {o e : Expr} {td ty : TE} {apos cpos : Pos}
end
/-! ### list(range(a, b)) -/
section
variable {X : Cx} {a b : Expr} {ta : TA} {p pos p2 pos2 : Pos}
end
end L2

/-! LN: enumerate over a list. -/
namespace L2
open PySem PySem.Spec PyProof.Rows

section
variable {X : Cx} {pins : List (Addr × Obj)} {σ : St} {H : Hp} {s : Shared} {h' : Heap}
theorem Inv.turned2 {t' : Nat} {it jt : Addr} (I : Inv X pins σ H s) (k : ∀ b o, b ≠ it → b ≠ jt → s.heap.get? b = some o → h'.get? b = some o) (f : FpOk X pins H it) (g : FpOk X pins H jt) : Inv X pins σ H { s with heap := h', toks := t' } := by
  obtain ⟨hn, hL, _, h1, h2, h3⟩ := f
  obtain ⟨hn', hL', _, h1', h2', h3'⟩ := g
  have nit : ∀ b u, H b = some u → b ≠ it := fun b u e z => by rw [z, hn] at e; cases e
  have njt : ∀ b u, H b = some u → b ≠ jt := fun b u e z => by rw [z, hn'] at e; cases e
  have k' : ∀ b o, b ∉ [it, jt] → s.heap.get? b = some o → h'.get? b = some o := fun b o hc e => k b o (fun z => hc (by simp [z])) (fun z => hc (by simp [z])) e
  refine I.step (g' := s.gens) (d' := s.drawn) (ch := [it, jt]) (fun b hb => ?_) (fun b o _ _ hc e _ => k' b o hc e) (fun b o _ _ hc e _ => ⟨o.slots, k' b o hc e⟩) (fun _ _ _ _ n => n)
    (fun b o hc e => ⟨o, k' b o hc e⟩) (fun _ _ e => e) (fun _ _ _ e => e) (fun b ps e => ⟨#[], by rw [e]; simp⟩) (fun m hm => ?_) (fun b u e => ?_) I.bare
  · rcases List.mem_cons.mp hb with rfl | hb
    · exact ⟨h1, hL, h2, h3⟩
    · rw [List.mem_singleton] at hb
      subst hb
      exact ⟨h1', hL', h2', h3'⟩
  · obtain ⟨o, es, ep, ho, r⟩ := hm
    exact ⟨o, es, ep, k _ o (Ne.symm hL) (Ne.symm hL') ho, r⟩
  · refine (I.hok b u e).stay (fun c v hc q => k c v ?_ ?_ q) (fun _ q => q) fun _ _ q => q
    · rcases hc with z | z
      · rw [z]; exact nit b u e
      · exact nit c _ z
    · rcases hc with z | z
      · rw [z]; exact njt b u e
      · exact njt c _ z
end
/-- pairs of a number and an item, each a new tuple -/
def Ite (K : PySem.W.Frag) (a : Addr) : It :=
  ⟨fun i H => ∃ xs x, SqL K H a xs ∧ xs[i]? = some x, fun i H x H' => ∃ p y, H p = none ∧ x = .ref p ∧ H' = upd H p (.tup [.int i, y]) ∧ ∀ xs, SqL K H a xs → xs[i]? = some y, fun i H => ∃ xs, SqL K H a xs ∧ xs.length ≤ i⟩
theorem turn_enum {P : Program} {w : World} {K : PySem.W.Frag} {elts : List Expr} {k : Nat} {pos : Pos} (a e it : Addr) (ne : e ≠ it) : Turn P w K (.Tuple elts k pos) (Ite K a) [e, it] e (fun i h => (∃ old, IsEnum h e it (i : Int) old) ∧ h.IsListIter it a i) where
  mem := by simp
  obj := fun i h st b hb => by
    obtain ⟨⟨old, en⟩, li⟩ := st
    rcases List.mem_cons.mp hb with rfl | hb
    · exact ⟨_, en, fun v z => by cases z⟩
    · rw [List.mem_singleton] at hb
      subst hb
      obtain ⟨o, e, c, d⟩ := li
      exact ⟨o, e, fun v z => by rw [d] at z; cases z⟩
  keep := fun i h h' st k => by
    obtain ⟨⟨old, en⟩, li⟩ := st
    exact ⟨⟨old, k e (by simp) _ en⟩, li.at fun o e => k it (by simp) o e⟩
  item := by
    intro X hP hw hK hc i pins s σ H E I hf st hg
    subst hP hw hK
    obtain ⟨xs, x, hq, hx⟩ := hg
    obtain ⟨its, rv, p, hz⟩ := I.list hq
    obtain ⟨u, hu, ru⟩ := rv.get hx
    obtain ⟨⟨old, en⟩, li⟩ := st
    have fe := hf e (by simp)
    have fi := hf it (by simp)
    refine wpAny_pyNext_enum_item en li p.isList (x := u) (by simpa using hu) ne fun h' out li' tup sz kp => ?_
    refine ⟨_, rfl, wpAny_letOwnedTupleGo_enum out fun h2 en2 sb2 => ?_⟩
    have hT : ∀ b o, s.heap.get? b = some o → s.heap.objs.size ≠ b := fun b o eb => Nat.ne_of_gt (Heap.lt_size eb)
    obtain ⟨oe, eE⟩ : ∃ o, s.heap.get? e = some o := ⟨_, en⟩
    obtain ⟨oi, eI, _⟩ := id li
    have I1 : Inv X pins σ H { s with heap := h2, toks := s.toks + 1 } := I.turned2 (fun b o n1 n2 eb => (sb2.2 b n1).trans (kp b o n1 n2 eb)) fe fi
    have hf0 : H s.heap.objs.size = none := I.hok.fresh (Nat.le_refl _)
    have tup2 : h2.get? s.heap.objs.size = some { cls := Value.type "tuple", data := Data.seq #[Value.int (↑i) s.toks, u] } := (sb2.2 _ (hT e oe eE)).trans tup
    have h0 : X.s₀.heap.get? s.heap.objs.size = none := by
      cases z : X.s₀.heap.get? s.heap.objs.size with
      | none => rfl
      | some o => exact absurd (Nat.lt_of_lt_of_le (Heap.lt_size z) I.sz) (Nat.lt_irrefl _)
    have I2 := I1.adopt (a := s.heap.objs.size) (o := .tup [.int i, x]) hf0 ⟨show 2 ≤ sizeLine by decide, [Value.int (↑i) s.toks, u], .cons ⟨_, rfl⟩ (.cons ru .nil), ⟨_, tup2, rfl, _, rfl⟩⟩ h0 (Nat.ne_of_gt I.lt) (fun y c ec z => by
        obtain ⟨v, o, eo, _⟩ := I.cell y c ec
        exact hT c o eo z.symm) fun p hp z => hT p.1 p.2 (I.pin p hp).1 z.symm
    refine ⟨.ref s.heap.objs.size, _, I2, rfl, ⟨_, x, hf0, rfl, rfl, fun ys hy => by rw [I.list_inj hy hq]; exact hx⟩, ⟨⟨_, by exact_mod_cast en2⟩, ?_⟩, fun b hb => ?_⟩
    · exact li'.at fun o eo => (sb2.2 it (Ne.symm ne)).trans eo
    · have nb : b ≠ s.heap.objs.size := by
        rcases List.mem_cons.mp hb with rfl | hb
        · exact Ne.symm (hT _ oe eE)
        · rw [List.mem_singleton] at hb
          subst hb
          exact Ne.symm (hT _ oi eI)
      rw [upd_ne nb]
      exact (hf b hb).1
  done := by
    intro X hP hw hK hc i pins s σ H E I hf st hg
    subst hP hw hK
    obtain ⟨xs, hq, hx⟩ := hg
    obtain ⟨its, rv, p, hz⟩ := I.list hq
    obtain ⟨⟨old, en⟩, li⟩ := st
    obtain ⟨f0, f1, f2, f3, f4, f5⟩ := hf it (by simp)
    have hl := rv.length
    exact wpAny_pyNext_enum_end (I.ok.hd hc) en li p.isList (by simp; omega) fun h' eb => ⟨rfl, I.turned (t' := s.toks) (fun b o hb e => eb b o hb e) f0 f1 f3 f4 f5⟩
  self := fun _ _ _ _ _ st h => let ⟨⟨_, en⟩, _⟩ := st; wpAny_pyIter_enum en h
def iEnum (K : PySem.W.Frag) (ta : TA) : TI := fun σ H R => ta σ H fun vs H1 => match vs with
  | [.ref a] => (∃ xs, SqL K H1 a xs) ∧ R (Ite K a) H1
  | _ => False
section
variable {X : Cx}
theorem pi_enum {elts : List Expr} {k : Nat} {tpos : Pos} {a : Expr} {ta : TA} {p pos : Pos} (hg : Gl X "enumerate") (hm : X.mg "enumerate" = none) (ha : PA X [a] ta) (hs : starEach [a] X.env = [(false, eval a X.env)] := by rfl) :
    PI X (.Tuple elts k tpos) (.Call (.Name "enumerate" p) [a] [] pos) (iEnum X.K ta) := by
  intro pins s σ H R I h
  refine Call_ (ld_blt I hg hm boot_enumerate (PyProof.Rows.callWith_type1 (thn (ha pos pins s σ H _ I h) fun us s1 ⟨vs, H1, I1, r1, q1⟩ => ?_) hs rfl))
  try dsimp only at q1
  split at q1
  case h_2 => exact q1.elim
  rename_i l
  obtain ⟨⟨xs, hq⟩, q⟩ := q1
  cases r1 with
  | cons r rr =>
    cases rr
    cases r
    obtain ⟨its, rv, pl, hz⟩ := I1.list hq
    refine call_enumerate_list pl.isList fun h' en li sz kp => ?_
    have I2 : Inv X pins σ H1 { s1 with heap := h' } := I1.kept (t' := s1.toks) kp
    refine wpAny_pyIter_enum en ?_
    refine ⟨s1.heap.objs.size + 1, [s1.heap.objs.size + 1, s1.heap.objs.size], _, _, H1, rfl, I2, turn_enum l _ _ (Nat.ne_of_gt (Nat.lt_succ_self _)), ⟨⟨_, by exact_mod_cast en⟩, li⟩, fun b hb => ?_, q⟩
    rcases List.mem_cons.mp hb with rfl | hb
    · exact I1.fpOk (Nat.le_succ _) (I1.hok.fresh (Nat.le_succ _))
    · rw [List.mem_singleton] at hb
      subst hb
      exact I1.fpOk (Nat.le_refl _) (I1.hok.fresh (Nat.le_refl _))
end
theorem compW_rangeG {lo : Int} {n : Nat} {cap : St} {tt : TT} {te : TE} {H : Hp} {Q : VK} (P : Nat → List V → Hp → Prop) (h0 : P 0 [] H) (hz : n ≤ sizeLine) (hlen : ∀ i ys H', P i ys H' → ys.length ≤ i)
    (step : ∀ (i : Nat) ys H', i < n → P i ys H' → ∀ K1 : List V → Hp → Prop, (∀ ys' H3, P (i + 1) ys' H3 → K1 ys' H3) → tt (some (.int (lo + i)) :: cap) H' fun b H2 => if b = true then te (some (.int (lo + i)) :: cap) H2 (fun y H3 => K1 (ys ++ [y]) H3) else K1 ys H2)
    (q : ∀ ys H', P n ys H' → ∀ l, H' l = none → Q (.ref l) (upd H' l (.lst ys))) : CompW (Itr lo n) cap tt te H Q := by
  refine ⟨fun i m ys H' => P i ys H' ∧ i ≤ n ∧ m = n - i, ⟨n, h0, Nat.zero_le _, rfl⟩, fun i m ys H' ⟨hP, hi, em⟩ => ?_⟩
  refine ⟨Nat.le_trans (Nat.le_trans (hlen _ _ _ hP) hi) hz, ?_⟩
  by_cases z : i < n
  · refine .inr ⟨z, fun x H2 ⟨e2, e3⟩ => ?_⟩
    rw [e2, e3]
    exact step i ys H' z hP (fun ys' H3 => ∃ m', m' < m ∧ (P (i + 1) ys' H3 ∧ i + 1 ≤ n ∧ m' = n - (i + 1))) fun ys' H3 h => ⟨_, by omega, h, z, rfl⟩
  · have e : i = n := by omega
    subst e
    exact .inl ⟨Nat.le_refl _, q _ _ hP⟩
/-! ### tuple + tuple -/
section
variable {X : Cx}
end
end L2

/-! LJ: the judgements as structures, and the rules over them. -/
namespace L2
open PySem PySem.Spec PyProof.Rows
structure JE (X : Cx) (e : Expr) (t : TE) : Prop where
  run : PE X e t
structure JT (X : Cx) (e : Expr) (t : TT) : Prop where
  run : PT X e t
structure JW (X : Cx) (e : Expr) (t : TT) : Prop where
  run : PW X e t
structure JA (X : Cx) (e : List Expr) (t : TA) : Prop where
  run : PA X e t
structure JS (X : Cx) (e : Stmt) (t : TS) : Prop where
  run : PS X e t
structure JSs (X : Cx) (e : List Stmt) (t : TS) : Prop where
  run : PSs X e t
structure JG (X : Cx) (e : Expr) (t : TG) : Prop where
  run : PG X e t
structure JGs (X : Cx) (e : List Expr) (t : TGs) : Prop where
  run : PGs X e t
structure JI (X : Cx) (tg e : Expr) (t : TI) : Prop where
  run : PI X tg e t
structure JO (X : Cx) (e : Option Expr) (t : TO) : Prop where
  run : PO X e t
structure JH (X : Cx) (e : List ExceptHandler) (t : TH) : Prop where
  run : PH X e t
structure JIfs (X : Cx) (e : List Expr) (t : TT) : Prop where
  run : PIfs X e t
structure JOp (X : Cx) (f : Value → Value → Sem Value) (r : R2) : Prop where
  run : OpR X f r
structure JUn (X : Cx) (f : Value → Sem Value) (r : V → Hp → VK → Prop) : Prop where
  run : UnR X f r
structure JCall (X : Cx) (f : Value) (r : List V → Hp → VK → Prop) : Prop where
  run : CallR X f r
structure JIx (X : Cx) (r : R2) : Prop where
  run : IxR X r
structure JSl (X : Cx) (r : V → Option Int → Option Int → Hp → VK → Prop) : Prop where
  run : SlR X r
structure JSet (X : Cx) (t : TSet) : Prop where
  run : PSet X t
structure JMt (X : Cx) (id : String) (r : V → List V → Hp → VK → Prop) : Prop where
  run : MtR X id r

section
variable {X : Cx} {rest : List Expr} {lo hi : Option Expr} {id T : String} {op : Operator} {st : Stmt} {srest : List Stmt} {hrest : List ExceptHandler}
theorem j_cv (i : Nat) {x : Str} {pos : Pos} (hN : X.N[i]? = some x := by rfl) (hv : Vis X.env.scope x := by first | exact Or.inl rfl | exact Or.inr (Or.inl rfl) | exact Or.inr (Or.inr rfl)) (hd : (x == ("__debug__" : Str)) = false := by decide) (hcd : (x == ("__classdict__" : Str)) = false := by decide) : JE X (.Name x pos) (cVar i) := ⟨cv i hN hv hd hcd⟩
theorem j_pe_gv {x : Str} {v : V} {pos : Pos} (h : Gv X.mg x v) (hg : Gl X x := by rfl) (hd : (x == ("__debug__" : Str)) = false := by decide) : JE X (.Name x pos) (tC v) := ⟨pe_gv h hg hd⟩
theorem j_pe_ty {x : Str} {T : String} {pos : Pos} (hm : X.mg x = none) (hv : bootBuiltins x = some (.type T)) (hg : Gl X x := by rfl) (hn : x ≠ "__name__" := by decide) (hd : (x == ("__debug__" : Str)) = false := by decide) : JE X (.Name x pos) (tC (.ty T)) := ⟨pe_ty hm hv hg hn hd⟩
theorem j_pe_non {j pos} : JE X (.Constant .none j pos) (tC .non) := ⟨pe_non ⟩
theorem j_pe_bl {b j pos} : JE X (.Constant (.bool b) j pos) (tC (.bl b)) := ⟨pe_bl ⟩
theorem j_pe_int {i j pos} : JE X (.Constant (.int i) j pos) (tC (.int i)) := ⟨pe_int ⟩
theorem j_pe_str {x j pos} : JE X (.Constant (.str x) j pos) (tC (.str x)) := ⟨pe_str ⟩
theorem j_pe_op {op : Operator} {r : R2} (ho : JOp X (binaryOp op) r) (ha : JE X a ta) (hb : JE X b tb) : JE X (.BinOp a op b pos) (tOp r ta tb) := ⟨pe_op ho.run ha.run hb.run⟩
theorem j_pe_un {op : UnaryOp} {r : V → Hp → VK → Prop} (ho : JUn X (unaryOp op) r) (ha : JE X a ta) : JE X (.UnaryOp op a pos) (tUn r ta) := ⟨pe_un ho.run ha.run⟩
theorem j_pe_not (ha : JE X a ta) : JE X (.UnaryOp .Not a pos) (tNotV ta) := ⟨pe_not ha.run⟩
theorem j_pe_and (ha : JE X a ta) (hb : JE X (.BoolOp .And (b :: rest) pos) tb) : JE X (.BoolOp .And (a :: b :: rest) pos) (tAndV ta tb) := ⟨pe_and ha.run hb.run⟩
theorem j_pe_one {op} {t : TE} (h : JE X a t) : JE X (.BoolOp op [a] pos) t := ⟨pe_one h.run⟩
theorem j_pe_cmpR {op : CmpOp} {r : R2} (ho : JOp X (compareOp op) r) (ha : JE X a ta) (hb : JE X b tb) (hm : behindInMarks op b = false) : JE X (.Compare a [op] [b] pos) (tOp r ta tb) := ⟨pe_cmpR ho.run ha.run hb.run hm⟩
theorem j_pe_chain {op op' : CmpOp} {r r' : R2} (ho : JOp X (compareOp op) r) (ho' : JOp X (compareOp op') r') (ha : JE X a ta) (hb : JE X b tb) (hc : JE X c tc) (hm : lastMarks [op, op'] [b, c] = false := by with_unfolding_all rfl) : JE X (.Compare a [op, op'] [b, c] pos) (tChain r r' ta tb tc) := ⟨pe_chain ho.run ho'.run ha.run hb.run hc.run hm⟩
theorem j_pe_ifExp {c : Expr} (hc : JT X c tA) (ha : JE X a ta) (hb : JE X b tb) : JE X (.IfExp c a b pos) (tIf tA ta tb) := ⟨pe_ifExp hc.run ha.run hb.run⟩
theorem j_pe_lst (h : JA X es t) : JE X (.List es pos) (tLst t) := ⟨pe_lst h.run⟩
theorem j_pe_tup {x1} (h : JA X es t) : JE X (.Tuple es x1 pos) (tTup t) := ⟨pe_tup h.run⟩
theorem j_pe_dnewK  : JE X (.Dict [] [] pos) tDNewK := ⟨pe_dnewK ⟩
theorem j_pe_slice {r : V → Option Int → Option Int → Hp → VK → Prop} (hr : JSl X r) (he : JE X e te) (hl : JO X lo tl) (hu : JO X hi th) : JE X (.Subscript e (.Slice lo hi none p2) pos) (tSl r te tl th) := ⟨pe_slice hr.run he.run hl.run hu.run⟩
theorem j_c_dget (hu : X.A.units + 1 < cLine) (ho : JE X o td) (hi : JE X i ty) (hs : NoSl i) : JE X (.Subscript o i pos) (cDGet td ty) := ⟨c_dget hu ho.run hi.run hs⟩
theorem j_pe_ix {r : R2} (hr : JIx X r) (ha : JE X a ta) (hb : JE X b tb) (hs : PlainIx b) : JE X (.Subscript a b pos) (tOp r ta tb) := ⟨pe_ix hr.run ha.run hb.run hs⟩
theorem j_pe_callF (F : FnOk X.prog X.w X.K X.mg X.base (CXE X.prog X.w) ca k f fd ps sp) (hr : Room ca k X.A) (hg : Gl X x) (hm : X.mg x = some (.ref f)) (hk : PySem.W.keepIn X.K (.ref f) = true) (hb : Binds X.K fd ps []) (hx : Exc X E) (ha : JA X (e :: es) t) (hdb : (x == ("__debug__" : Str)) = false := by decide) (h : (e :: es).all notStar = true := by rfl) : JE X (.Call (.Name x p) (e :: es) [] pos) (tCallE sp E t) := ⟨pe_callF F hr hg hm hk hb hx ha.run hdb h⟩
theorem j_pe_callBF (hc : JCall X (.builtin id) r) (hg : Gl X x) (hm : X.mg x = none) (hv : bootBuiltins x = some (.builtin id)) (ha : JA X (e :: es) t) (hn : x ≠ "__name__" := by decide) (hdb : (x == ("__debug__" : Str)) = false := by decide) (h : (e :: es).all notStar = true := by rfl) : JE X (.Call (.Name x p) (e :: es) [] pos) (tCB r t) := ⟨pe_callBF hc.run hg hm hv ha.run hn hdb h⟩
theorem j_pe_callTyF (hc : JCall X (.type T) r) (hg : Gl X x) (hm : X.mg x = none) (hv : bootBuiltins x = some (.type T)) (ha : JA X (e :: es) t) (hn : x ≠ "__name__" := by decide) (hdb : (x == ("__debug__" : Str)) = false := by decide) (h : (e :: es).all notStar = true := by rfl) : JE X (.Call (.Name x p) (e :: es) [] pos) (tCB r t) := ⟨pe_callTyF hc.run hg hm hv ha.run hn hdb h⟩
theorem j_c_bm {id : String} {name : Str} (slot : Slot "list" name id) (hty : typeOf (.builtin id) = pure (.type "method_descriptor")) (hm : JMt X id r) (ho : JE X o to) (ha : JA X (e :: es) t) (hns : (e :: es).all notStar = true := by rfl) (hbase : attributeBase o name X.env (eval o X.env) = eval o X.env := by rfl) (hfew : ((backTo cpos (starEach (e :: es) X.env)).all (fun x => !x.1) && (backToKw cpos (keywordEach [] X.env)).all (fun x => x.1.isSome)
      && decide ((e :: es).length + ([] : List Keyword).length + (if ([] : List Keyword).isEmpty then 0 else 1) < 30)) = true := by rfl) (hline : (apos.endLine == cpos.line) = true := by rfl) : JE X (.Call (.Attribute o name apos) (e :: es) [] cpos) (cBM r to t) := ⟨c_bm slot hty hm.run ho.run ha.run hns hbase hfew hline⟩
theorem j_po_none  : JO X none tNoPart := ⟨po_none ⟩
theorem j_c_part (h : JE X e te) : JO X (some e) (cPart te) := ⟨c_part h.run⟩
theorem j_pa_nil  : JA X [] tNil := ⟨pa_nil ⟩
theorem j_pa_c (ha : JE X e te) (hr : JA X es t) (h : notStar e = true := by rfl) : JA X (e :: es) (tCons te t) := ⟨pa_c ha.run hr.run h⟩
theorem j_pt_not (ha : JT X a tA) : JT X (.UnaryOp .Not a pos) (tNot tA) := ⟨pt_not ha.run⟩
theorem j_PW_pt {X : Cx} {e : Expr} {t : TT} (h : JW X e t) : JT X e t := ⟨PW.pt h.run⟩
theorem j_pt_cmpR {op : CmpOp} {r : R2} (ho : JOp X (compareOp op) r) (ha : JE X a ta) (hb : JE X b tb) (hm : behindInMarks op b = false) : JT X (.Compare a [op] [b] pos) (tTest (tOp r ta tb)) := ⟨pt_cmpR ho.run ha.run hb.run hm⟩
theorem j_pt_chain {op op' : CmpOp} {r r' : R2} (ho : JOp X (compareOp op) r) (ho' : JOp X (compareOp op') r') (ha : JE X a ta) (hb : JE X b tb) (hc : JE X c tc) (hm : lastMarks [op, op'] [b, c] = false := by with_unfolding_all rfl) : JT X (.Compare a [op, op'] [b, c] pos) (tTest (tChain r r' ta tb tc)) := ⟨pt_chain ho.run ho'.run ha.run hb.run hc.run hm⟩
theorem j_pt_truth (ha : JE X a ta) (he : ∀ whole, isTrue a X.env whole = (do let v ← whole; standAt a.pos; holding [v] (truthy v))) : JT X a (fun σ H Q => ta σ H fun x H' => ∃ k, TruV X.K x H' k ∧ Q k H') := ⟨pt_truth ha.run he⟩
theorem j_pw_and1 (ha : JT X a tA) : JW X (.BoolOp .And [a] pos) tA := ⟨pw_and1 ha.run⟩
theorem j_pw_or1 (ha : JT X a tA) : JW X (.BoolOp .Or [a] pos) tA := ⟨pw_or1 ha.run⟩
theorem j_pw_and (ha : JT X a tA) (hb : JW X (.BoolOp .And (b :: rest) pos) tB') : JW X (.BoolOp .And (a :: b :: rest) pos) (tAnd tA tB') := ⟨pw_and ha.run hb.run⟩
theorem j_pw_or (ha : JT X a tA) (hb : JW X (.BoolOp .Or (b :: rest) pos) tB') : JW X (.BoolOp .Or (a :: b :: rest) pos) (tOr tA tB') := ⟨pw_or ha.run hb.run⟩
theorem j_pss_nil  : JSs X [] tNext := ⟨pss_nil ⟩
theorem j_pss_one (h1 : JS X st t) : JSs X [st] t := ⟨pss_one h1.run⟩
theorem j_pss_cons (h1 : JS X st t) (h2 : JSs X srest u) : JSs X (st :: srest) (tSeq t u) := ⟨pss_cons h1.run h2.run⟩
theorem j_pg_name {i : Nat} {x : Str} (hN : X.N.Nodup) (hi : X.N[i]? = some x) (hx : Loc X.env.scope x) (hf : X.fn x = true ∨ X.env.scope.names.lookup x = some .local := by first | exact .inl rfl | exact .inr rfl | assumption) : JG X (.Name x pos) (gName i) := ⟨pg_name hN hi hx hf⟩
theorem j_ps_ret (he : JE X e te) : JS X (.Return (some e) pos) (tRet te) := ⟨ps_ret he.run⟩
theorem j_ps_expr (he : JE X e te) (hs : swapsWith e none pos.line X.env = pure false := by rfl) : JS X (.Expr e pos) (tDrop te) := ⟨ps_expr he.run hs⟩
theorem j_ps_if {c : Expr} {a b : List Stmt} {tc : TT} (hc : JT X c tc) (ha : JSs X a t) (hb : JSs X b u) : JS X (.If c a b pos) (tIfS tc t u) := ⟨ps_if hc.run ha.run hb.run⟩
theorem j_ps_set {i : Nat} {x : Str} {e : Expr} {te : TE} {pos' : Pos} (hN : X.N.Nodup) (hi : X.N[i]? = some x) (hx : Loc X.env.scope x) (he : JE X e te) (hs : swapsWith e (some (.Name x pos')) pos.line X.env = pure false := by rfl) (hf : X.fn x = true ∨ X.env.scope.names.lookup x = some .local := by first | exact .inl rfl | exact .inr rfl | assumption) : JS X (.Assign [.Name x pos'] e pos) (tAsg te (gName i)) := ⟨ps_set hN hi hx he.run hs hf⟩
theorem j_c_dput (hu : X.A.units + 1 < cLine) (ho : JE X o td) (hi : JE X i ty) (hv : JE X value tv) (hs : swapsWith value (some (.Subscript o i pos')) pos.line X.env = pure false) : JS X (.Assign [.Subscript o i pos'] value pos) (cDPut td ty tv) := ⟨c_dput hu ho.run hi.run hv.run hs⟩
theorem j_ps_asg {tg e : Expr} {te : TE} {g : TG} (he : JE X e te) (hg : JG X tg g) (hs : swapsWithSole [tg] e pos.line X.env = pure false := by rfl) (hw : swappedStores [tg] e X.env = pure none := by rfl) (h1 : (assignEach [tg] X.env).map (·.2) = [assign tg X.env] := by rfl) : JS X (.Assign [tg] e pos) (tAsg te g) := ⟨ps_asg he.run hg.run hs hw h1⟩
theorem j_pg_sub {o i : Expr} {to ti : TE} {t : TSet} (ho : JE X o to) (hi : JE X i ti) (hs : JSet X t) (ha : ∀ v, assign (.Subscript o i pos) X.env v = (do
      let ov ← holding [v] (eval o X.env)
      let iv ← holding [v, ov] (eval i X.env)
      standAt pos
      holding [v, ov, iv] (setItem ov iv v)
      release [v, ov, iv] []) := by intro _; rfl) : JG X (.Subscript o i pos) (gSub to ti t) := ⟨pg_sub ho.run hi.run hs.run ha⟩
theorem j_pi_range1 {a : Expr} {ta : TA} {p pos : Pos} (hg : Gl X "range") (hm : X.mg "range" = none) (ha : JA X [a] ta) (hs : starEach [a] X.env = [(false, eval a X.env)] := by rfl) : JI X tg (.Call (.Name "range" p) [a] [] pos) (iRng1 ta) := ⟨pi_range1 hg hm ha.run hs⟩
theorem j_pgs_nil  : JGs X [] gNil := ⟨pgs_nil ⟩
theorem j_pgs_cons {e : Expr} {es : List Expr} {t : TG} {u : TGs} (h1 : JG X e t) (h2 : JGs X es u) (hs : (assignEach (e :: es) X.env).map (·.2) = assign e X.env :: (assignEach es X.env).map (·.2) := by rfl) : JGs X (e :: es) (gCons t u) := ⟨pgs_cons h1.run h2.run hs⟩
theorem j_pi_list {l : Expr} {tl : TE} (hl : JE X l tl) : JI X tg l (iList X.K tl) := ⟨pi_list hl.run⟩
theorem j_pi_enum {elts : List Expr} {k : Nat} {tpos : Pos} {a : Expr} {ta : TA} {p pos : Pos} (hg : Gl X "enumerate") (hm : X.mg "enumerate" = none) (ha : JA X [a] ta) (hs : starEach [a] X.env = [(false, eval a X.env)] := by rfl) : JI X (.Tuple elts k tpos) (.Call (.Name "enumerate" p) [a] [] pos) (iEnum X.K ta) := ⟨pi_enum hg hm ha.run hs⟩
theorem j_ps_for {iter : Expr} {body : List Stmt} {wi : TI} {g : TG} {tb : TS} {pos : Pos} (hp : PassesOwn (model X.prog X.w) X.A X.env X.xe) (hc : X.calm = true) (hi : JI X tg iter wi) (hg : JG X tg g) (hb : JSs X body tb) (hs : ∀ x, foldedSetIterable iter X.env x = pure x := by intro _; rfl) : JS X (.For tg iter body [] pos) (tFor wi g tb) := ⟨ps_for hp hc hi.run hg.run hb.run hs⟩
theorem j_pe_comp {x : Str} {elt iter : Expr} {px pos : Pos} {ifs : List Expr} {wi : TI} {tt : TT} {te : TE} (S : CompIn fsc scope [x] N2) (hf : X.env.scope = fsc) (hjs : js.map (fun j => X.N[j]?) = N2.map some) (hc : X.calm = true) (hi : JI X (.Name x px) iter wi) (ht : ∀ s H C ex, JIfs (X.blk scope (x :: N2) [x] s H C ex) ifs tt) (he : ∀ s H C ex, JE (X.blk scope (x :: N2) [x] s H C ex) elt te) (hs : ∀ v, foldedSetIterable iter X.env v = pure v := by intro _; rfl) : JE X (.ListComp elt [⟨.Name x px, iter, ifs, 0⟩] scope pos) (tComp js wi tt te) := ⟨pe_comp S hf hjs hc hi.run (fun s H C ex => (ht s H C ex).run) (fun s H C ex => (he s H C ex).run) hs⟩
theorem j_ps_setcomp {x : Str} {elt iter : Expr} {px py pos spos : Pos} {ifs : List Expr} {wi : TI} {tt : TT} {te : TE} {i : Nat} {y : Str} (hN : X.N.Nodup) (hy : X.N[i]? = some y) (hl : Loc X.env.scope y) (S : CompIn fsc scope [x] N2) (hf : X.env.scope = fsc) (hjs : js.map (fun j => X.N[j]?) = N2.map some) (hc : X.calm = true) (hi : JI X (.Name x px) iter wi) (ht : ∀ s H C ex, JIfs (X.blk scope (x :: N2) [x] s H C ex) ifs tt) (he : ∀ s H C ex, JE (X.blk scope (x :: N2) [x] s H C ex) elt te) (hs : ∀ v, foldedSetIterable iter X.env v = pure v := by intro _; rfl) (hsw : swapsWith (.ListComp elt [⟨.Name x px, iter, ifs, 0⟩] scope pos) (some (.Name y py)) spos.line X.env = pure true := by rfl) (hfn : X.fn y = true ∨ X.env.scope.names.lookup y = some .local := by first | exact .inl rfl | exact .inr rfl | assumption) : JS X (.Assign [.Name y py] (.ListComp elt [⟨.Name x px, iter, ifs, 0⟩] scope pos) spos) (tAsg (tComp js wi tt te) (gName i)) := ⟨ps_setcomp hN hy hl S hf hjs hc hi.run (fun s H C ex => (ht s H C ex).run) (fun s H C ex => (he s H C ex).run) hs hsw hfn⟩
theorem j_pg_tup {es : List Expr} {k : Nat} {t : TGs} {n : Nat} (hc : X.calm = true) (h : JGs X es t) (hn : (assignEach es X.env).length = n := by rfl) (hst : (assignEach es X.env).findIdx? (·.1) = none := by rfl) : JG X (.Tuple es k pos) (gTup X.K n t) := ⟨pg_tup hc h.run hn hst⟩
theorem j_pifs_nil {X : Cx} : JIfs X [] tYes := ⟨pifs_nil ⟩
theorem j_pifs_one {X : Cx} {c : Expr} {tt : TT} (h : JT X c tt) : JIfs X [c] tt := ⟨pifs_one h.run⟩
theorem j_c_add  : JOp X (binaryOp .Add) cAdd := ⟨c_add ⟩
theorem j_c_sub  : JOp X (binaryOp .Sub) cSub := ⟨c_sub ⟩
theorem j_c_mul  : JOp X (binaryOp .Mult) cMul := ⟨c_mul ⟩
theorem j_c_fdiv  : JOp X (binaryOp .FloorDiv) cFdiv := ⟨c_fdiv ⟩
theorem j_c_mod  : JOp X (binaryOp .Mod) cMod := ⟨c_mod ⟩
theorem j_c_lt  : JOp X (compareOp .Lt) cLt := ⟨c_lt ⟩
theorem j_c_le  : JOp X (compareOp .LtE) cLe := ⟨c_le ⟩
theorem j_c_gt  : JOp X (compareOp .Gt) cGt := ⟨c_gt ⟩
theorem j_c_eq  : JOp X (compareOp .Eq) cEq := ⟨c_eq ⟩
theorem j_c_is  : JOp X (compareOp .Is) cIs := ⟨c_is ⟩
theorem j_c_neg  : JUn X (unaryOp .USub) cNeg := ⟨c_neg ⟩
theorem j_c_rep  : JOp X (binaryOp .Mult) cRep := ⟨c_rep ⟩
theorem j_c_ix  : JIx X cIx := ⟨c_ix ⟩
theorem j_c_ixS  : JIx X (cIxS X.K) := ⟨c_ixS ⟩
theorem j_c_len  : JCall X (.builtin "len") cLen := ⟨c_len ⟩
theorem j_c_lenS  : JCall X (.builtin "len") (cLenS X.K) := ⟨c_lenS ⟩
theorem j_call_isi {X : Cx} : JCall X (.builtin "isinstance") (rIsi X.K) := ⟨call_isi ⟩
theorem j_c_min2 (hc : X.calm = true) : JCall X (.builtin "min") cMin2 := ⟨c_min2 hc⟩
theorem j_c_sl  : JSl X cSl := ⟨c_sl ⟩
theorem j_c_slS  : JSl X (cSlS X.K) := ⟨c_slS ⟩
theorem j_c_set  : JSet X cSetL := ⟨c_set ⟩
theorem j_c_append  : JMt X "list.append" cAppend := ⟨c_append ⟩
theorem j_c_list  : JCall X (.type "list") cList := ⟨c_list ⟩
theorem j_c_eqA (hu : X.A.units + 8 < cLine) : JOp X (compareOp .Eq) cEqA := ⟨c_eqA hu⟩
theorem j_c_neA (hu : X.A.units + 8 < cLine) : JOp X (compareOp .NotEq) cNeA := ⟨c_neA hu⟩
theorem j_c_cat  : JOp X (binaryOp .Add) cCat := ⟨c_cat ⟩
theorem j_c_notInD (hu : X.A.units + 1 < cLine) : JOp X (compareOp .NotIn) cNotInD := ⟨c_notInD hu⟩
theorem j_c_extend  : JMt X "list.extend" cExtend := ⟨c_extend ⟩
end
section
variable {X : Cx} {scope : Scope} {N2 : List Str} {x : List Str} {s : Shared} {Hb : Hp} {C : Addr} {ex : List Addr}
theorem jb_truth {a : Expr} {ta : TE} (ha : JE (X.blk scope N2 x s Hb C ex) a ta) (he : ∀ whole, isTrue a (X.blk scope N2 x s Hb C ex).env whole = (do let v ← whole; standAt a.pos; holding [v] (truthy v))) : JT (X.blk scope N2 x s Hb C ex) a (fun σ H Q => ta σ H fun x H' => ∃ k, TruV X.K x H' k ∧ Q k H') := j_pt_truth ha he
theorem jb_isi : JCall (X.blk scope N2 x s Hb C ex) (.builtin "isinstance") (rIsi X.K) := j_call_isi
end
end L2

/-! LO: list(d), dict(d), d.get(k), list.pop(i), == of dicts that have the same numbers. -/
namespace L2
open PySem PySem.Spec PyProof.Rows
variable {X : Cx}
end L2

/-! LP: for a, b in zip(x, y), of lists; d == {} -/
namespace L2
open PySem PySem.Spec PyProof.Rows
section
variable {X : Cx} {pins : List (Addr × Obj)} {σ : St} {H : Hp} {s : Shared} {h' : Heap}
end
/-- pairs of items, each a new tuple -/
def Itz (K : PySem.W.Frag) (a b : Addr) : It :=
  ⟨fun i H => ∃ xs x ys y, SqL K H a xs ∧ xs[i]? = some x ∧ SqL K H b ys ∧ ys[i]? = some y, fun i H x H' => ∃ p u v, H p = none ∧ x = .ref p ∧ H' = upd H p (.tup [u, v]) ∧ (∀ xs, SqL K H a xs → xs[i]? = some u) ∧ ∀ ys, SqL K H b ys → ys[i]? = some v,
   fun i H => ∃ xs ys, SqL K H a xs ∧ SqL K H b ys ∧ (xs.length ≤ i ∨ ys.length ≤ i)⟩
section
variable {X : Cx}
end
theorem LoopW.zip {K : PySem.W.Frag} {a b : Addr} {xs ys : List V} {g : TG} {tb : TS} {D : Ends} {σ : St} {H : Hp} (Pv : Nat → St → Hp → Prop) (hlen : xs.length = ys.length) (h0 : Pv 0 σ H) (hl : ∀ i σ H, i ≤ xs.length → Pv i σ H → SqL K H a xs ∧ SqL K H b ys)
    (hs : ∀ i x y σ H p, xs[i]? = some x → ys[i]? = some y → Pv i σ H → H p = none → g (.ref p) σ (upd H p (.tup [x, y])) fun σ2 H2 => tb { D with nx := Pv (i + 1), ct := Pv (i + 1), bk := D.nx } σ2 H2) (hd : ∀ σ H, Pv xs.length σ H → D.nx σ H) : LoopW (Itz K a b) g tb D σ H := by
  refine ⟨fun i m σ H => Pv i σ H ∧ i ≤ xs.length ∧ m = xs.length - i, ⟨_, h0, Nat.zero_le _, rfl⟩, fun i m σ H ⟨hP, hi, hm⟩ => ?_⟩
  obtain ⟨sa, sb⟩ := hl i σ H hi hP
  by_cases z : i < xs.length
  · have ex : xs[i]? = some xs[i] := List.getElem?_eq_getElem z
    have ey : ys[i]? = some (ys[i]'(by omega)) := List.getElem?_eq_getElem (by omega)
    refine .inr ⟨⟨xs, _, ys, _, sa, ex, sb, ey⟩, Pv (i + 1), fun σ' H' hN => ⟨xs.length - (i + 1), by omega, hN, z, rfl⟩, ?_⟩
    rintro x H' ⟨p, u, v, hp, rfl, rfl, hu, hv⟩
    exact hs i u v σ H p (hu xs sa) (hv ys sb) hP hp
  · have e : i = xs.length := by omega
    subst e
    exact .inl ⟨⟨xs, ys, sa, sb, .inl (Nat.le_refl _)⟩, hd σ H hP⟩
end L2

/-! LQ: for over a dict that the body reads and does not write; the dict's record is known meanwhile. -/
namespace L2
open PySem PySem.Spec PyProof.Rows
section
variable {X : Cx} {pins : List (Addr × Obj)} {σ : St} {H : Hp} {s : Shared} {d : Addr} {kvs : List (Key × V)}
end
section
variable {X : Cx}
/-- the keys of a known dict -/
def Itd (d : Addr) (o : Obj) (kvs : List (Key × V)) : It :=
  ⟨fun i H => H d = some (.frz o (.dK kvs)) ∧ i < kvs.length, fun i H x H' => H' = H ∧ ∃ kv, kvs[i]? = some kv ∧ x = kV kv.1, fun i H => H d = some (.frz o (.dK kvs)) ∧ kvs.length ≤ i⟩
theorem LoopW.dict {d : Addr} {o : Obj} {kvs : List (Key × V)} {g : TG} {tb : TS} {D : Ends} {σ : St} {H : Hp} (Pv : Nat → St → Hp → Prop) (h0 : Pv 0 σ H) (hl : ∀ i σ H, i ≤ kvs.length → Pv i σ H → H d = some (.frz o (.dK kvs)))
    (hs : ∀ i kv σ H, kvs[i]? = some kv → Pv i σ H → g (kV kv.1) σ H fun σ2 H2 => tb { D with nx := Pv (i + 1), ct := Pv (i + 1), bk := D.nx } σ2 H2) (hd : ∀ σ H, Pv kvs.length σ H → D.nx σ H) : LoopW (Itd d o kvs) g tb D σ H := by
  refine ⟨fun i m σ H => m + i = kvs.length ∧ Pv i σ H, ⟨kvs.length, by omega, h0⟩, ?_⟩
  rintro i m σ H ⟨hm, hP⟩
  by_cases z : i < kvs.length
  · refine .inr ⟨⟨hl i σ H (by omega) hP, z⟩, Pv (i + 1), fun σ' H' hN => ⟨kvs.length - (i + 1), by omega, by omega, hN⟩, ?_⟩
    rintro x H' ⟨rfl, kv, hkv, rfl⟩
    exact hs i kv σ _ hkv hP
  · have e : i = kvs.length := by omega
    subst e
    exact .inl ⟨⟨hl _ σ H (Nat.le_refl _) hP, Nat.le_refl _⟩, hd σ H hP⟩
end
end L2

/-! LS: texts: a sign, a slice, join, the signs one behind the other; list.index of texts -/
namespace L2
open PySem PySem.Spec PyProof.Rows
section
variable {X : Cx}
def cIxT : R2 := fun x y H Q => match x, y with
  | .str z, .int i => (match atI z.cps.toList i with
    | some c => z.length ≤ sizeLine ∧ Q (.str ⟨#[c]⟩) H
    | none => False)
  | _, _ => False
theorem c_ixT : IxR X cIxT := by
  intro value slice pins s σ H x y v u Q I rx ry h hs
  unfold cIxT at h
  split at h
  case h_2 => exact h.elim
  rename_i z i
  split at h
  case h_2 => exact h.elim
  rename_i c hc
  exact ix_str value slice pins s σ H _ _ v u Q I rx ry ⟨z, i, c, rfl, rfl, h.1, hc, h.2⟩ hs
def cSlT : V → Option Int → Option Int → Hp → VK → Prop := fun x lo hi H Q => match x with
  | .str z => (StrLaws.sliceText z lo hi).length ≤ sizeLine ∧ Q (.str (StrLaws.sliceText z lo hi)) H
  | _ => False
theorem c_slT : SlR X cSlT := by
  intro pins s σ H x v vl vu lo hi sl Q I rx hs pl pu h
  unfold cSlT at h
  split at h
  case h_2 => exact h.elim
  rename_i z
  obtain ⟨t, rfl⟩ := rx
  refine ⟨"str", _, slot_str_getitem.lookup, typeIs_str s z t, ?_⟩
  have hp : ∀ {v : Value} {o : Option Int}, IsPart v o → ∃ l : Option (Int × Tok), v = partValue l ∧ l.map (·.1) = o := fun {v o} p => by
    cases p with
    | none => exact ⟨none, rfl, rfl⟩
    | int i t => exact ⟨some (i, t), rfl, rfl⟩
  obtain ⟨l, rfl, el⟩ := hp pl
  obtain ⟨u, rfl, eu⟩ := hp pu
  refine wpAny_getItem_str_slice (l := l) (u := u) (st := none) hs rfl ?_
  unfold sliceMade
  have e : slicePicked z l u none = Builtin.Str.strSliceIndices lo hi 1 z.length := by
    unfold slicePicked; rw [el, eu]; rfl
  rw [e]
  unfold StrLaws.sliceText at h
  rw [show (Option.map (fun (x : Int × Tok) => x.fst) none).getD 1 = (1 : Int) from rfl]
  by_cases c : ((1 : Int) == 1 && (Builtin.Str.strSliceIndices lo hi 1 z.length).length == z.length) = true
  · rw [if_pos c] at h
    rw [if_pos c]
    exact ⟨.str z, H, I, ⟨t, rfl⟩, h.2⟩
  · rw [if_neg c] at h
    rw [if_neg c]
    exact ⟨h.1, .str _, H, I.tok _, ⟨_, rfl⟩, h.2⟩
/-- values of texts -/
theorem vals_strs : ∀ {ts : List Str} {us : List Value}, Vals (ts.map V.str) us → ∃ l : List (Str × Tok), us = strValues l ∧ l.map (·.1) = ts
  | [], _, .nil => ⟨[], rfl, rfl⟩
  | x :: ts, _ :: _, .cons r rest => by
    obtain ⟨t, rfl⟩ := r
    obtain ⟨l, rfl, e⟩ := vals_strs rest
    exact ⟨(x, t) :: l, rfl, by rw [List.map_cons, e]⟩
def cJoin : V → List V → Hp → VK → Prop := fun x vs H Q => match x, vs with
  | .str z, [.ref a] => (match H a with
    | some (.lst ys) => ∃ ts : List Str, ys = ts.map V.str ∧ JoinOk z ts = true ∧ Q (.str (Txt.join z ts)) H
    | _ => False)
  | _, _ => False
theorem c_join : MtR X "str.join" cJoin := by
  intro pins s σ H x xs v us Q I rx rxs h
  unfold cJoin at h
  split at h
  case h_2 => exact h.elim
  rename_i z a
  split at h
  case h_2 => exact h.elim
  rename_i ys ea
  obtain ⟨ts, rfl, hj, q⟩ := h
  obtain ⟨t, rfl⟩ := rx
  obtain ⟨u, rfl, ru⟩ := vals1 rxs
  cases (show u = Value.ref a from ru)
  obtain ⟨its, rv, p, hz⟩ := I.list (SqL.of ea)
  obtain ⟨l, rfl, el⟩ := vals_strs rv
  exact SC.join p.isList el hj fun t' k => ⟨.str _, H, I.tok _, ⟨_, rfl⟩, q⟩
def cIndexS : V → List V → Hp → VK → Prop := fun x vs H Q => match x, vs with
  | .ref a, [.str z] => (match H a with
    | some (.lst ys) => ∃ ts : List Str, ys = ts.map V.str ∧ z ∈ ts ∧ Q (.int (ts.idxOf z : Nat)) H
    | _ => False)
  | _, _ => False
def isStr (z : Str) : Value → Bool
  | .str a _ => a == z
  | _ => false
theorem c_indexS : MtR X "list.index" cIndexS := by
  intro pins s σ H x xs v us Q I rx rxs h
  unfold cIndexS at h
  split at h
  case h_2 => exact h.elim
  rename_i a z
  split at h
  case h_2 => exact h.elim
  rename_i ys ea
  obtain ⟨ts, rfl, hz, q⟩ := h
  cases (show v = Value.ref a from rx)
  obtain ⟨u, rfl, t, rfl⟩ := vals1 rxs
  obtain ⟨its, rv, p, hl⟩ := I.list (SqL.of ea)
  obtain ⟨l, rfl, el⟩ := vals_strs rv
  obtain ⟨⟨cls, dd, data, sl⟩, ho, hc, n, hd⟩ := id p.isList
  simp only at hc hd
  subst hc hd
  have hlen : l.length = ts.length := by rw [← el, List.length_map]
  have hj : ts.idxOf z < ts.length := List.idxOf_lt_length_iff.mpr hz
  have hn := line63
  rw [List.length_map] at hl
  have at_ : ∀ (m : Nat) (hm : m < (strValues l).length) (hm' : m < ts.length), isStr z ((strValues l)[m]) = (ts[m] == z) := fun m hm hm' => by
    subst el
    simp [strValues, isStr]
  refine call_meets PySem.F.slot_list_index ⟨_, ho, rfl⟩ PySem.F.entry_list_index (PySem.F.args_list_index_2 _ _)
    (SeqAt.list_indexAt a (strValues l).toArray n dd sl (.str z t) (isStr z) (ts.idxOf z) (by simpa [strValues, hlen] using hj) (by omega) ?_ ?_) ⟨ho, fun y hy => ?_, ⟨.int _, H, I.tok _, ⟨_, rfl⟩, q⟩⟩
  · show isStr z ((strValues l)[ts.idxOf z]'(by simpa [strValues, hlen] using hj)) = true
    rw [at_ _ _ hj]
    simpa using List.getElem_idxOf hj
  · intro j hjs hlt
    show isStr z ((strValues l)[j]'(by simpa using hjs)) = false
    rw [at_ j _ (by omega)]
    have hf := List.not_of_lt_findIdx (xs := ts) (p := fun a => a == z) hlt
    simpa using hf
  · have hy' : y ∈ strValues l := by simpa using hy
    obtain ⟨pr, _, rfl⟩ := List.mem_map.mp hy'
    exact (eqGives_str pr.1 z pr.2 t).at _ _
/-- the signs of a text -/
def Itx (x : Str) : It :=
  ⟨fun i _ => i < x.cps.toList.length, fun i H v H' => H' = H ∧ ∃ c, x.cps.toList[i]? = some c ∧ v = .str ⟨#[c]⟩, fun i _ => x.cps.toList.length ≤ i⟩
theorem turn_str {P : Program} {w : World} {K : PySem.W.Frag} {tg : Expr} (x : Str) (t : Tok) (it : Addr) : Turn P w K tg (Itx x) [it] it (fun i h => h.IsStrIter it "str_ascii_iterator" x t i) where
  mem := by simp
  obj := fun i h st b hb => by
    have e : b = it := by simpa using hb
    subst e
    obtain ⟨o, e, c, d⟩ := st
    exact ⟨o, e, fun v z => by rw [d] at z; cases z⟩
  keep := fun i h h' st k => by
    obtain ⟨o, e, c⟩ := st
    exact ⟨o, k it (by simp) o e, c⟩
  item := by
    intro X hP hw hK hc i pins s σ H E I hf st hg
    subst hP hw hK
    have ex : x.cps.toList[i]? = some (x.cps.toList[i]'hg) := List.getElem?_eq_getElem hg
    obtain ⟨f0, f1, f2, f3, f4, f5⟩ := hf it (by simp)
    refine wpAny_pyNext_ascii_item st (c := x.cps.toList[i]'hg) (by simpa using ex) fun h' st' sb => ?_
    have I1 : Inv X pins σ H { s with heap := h', toks := s.toks + 1 } := I.turned (t' := s.toks + 1) (fun b o hb e => (sb.2 b hb).trans e) f0 f1 f3 f4 f5
    obtain ⟨o', e', c', d'⟩ := id st'
    exact ⟨_, rfl, go_of (s := { s with heap := h', toks := s.toks + 1 }) e' c' d' (by decide) ⟨.str ⟨#[x.cps.toList[i]'hg]⟩, H, I1, ⟨_, rfl⟩, ⟨rfl, _, ex, rfl⟩, st', fun b hb => (hf b hb).1⟩⟩
  done := by
    intro X hP hw hK hc i pins s σ H E I hf st hg
    subst hP hw hK
    obtain ⟨f0, f1, f2, f3, f4, f5⟩ := hf it (by simp)
    have ex : x.cps.toList[i]? = none := List.getElem?_eq_none hg
    exact wpAny_pyNext_ascii_end (I.ok.hd hc) st (by simpa using ex) fun h' eb => ⟨rfl, I.turned (t' := s.toks) (fun b o hb e => eb b o hb e) f0 f1 f3 f4 f5⟩
  self := fun _ _ _ _ _ st h => wpAny_pyIter_striter_ascii st h
def iStr (tl : TE) : TI := fun σ H R => tl σ H fun x H1 => match x with
  | .str z => (z.cps.all fun c => decide (c < 128)) = true ∧ R (Itx z) H1
  | _ => False
theorem pi_str {tg l : Expr} {tl : TE} (hl : PE X l tl) : PI X tg l (iStr tl) := by
  intro pins s σ H R I h
  refine thn (hl pins s σ H _ I h) fun v s1 ⟨x, H1, I1, r1, q1⟩ => ?_
  try dsimp only at q1
  split at q1
  case h_2 => exact q1.elim
  rename_i z
  obtain ⟨t, rfl⟩ := r1
  refine wpAny_pyIter_ascii q1.1 ?_
  refine ⟨s1.heap.objs.size, [s1.heap.objs.size], _, _, H1, rfl, I1.kept (t' := s1.toks) fun b o e => Heap.get?_push_of_some _ e, turn_str z t _, ⟨_, Heap.get?_push_size _ rfl, rfl, rfl⟩, fun b hb => ?_, q1.2⟩
  have e : b = s1.heap.objs.size := by simpa using hb
  subst e
  exact I1.fpOk (Nat.le_refl _) (I1.hok.fresh (Nat.le_refl _))
/-- one item for each sign -/
theorem CompW.mapX {x : Str} {cap : St} {te : TE} {H : Hp} {Q : VK} (f : Nat → V) (hn : x.cps.toList.length ≤ sizeLine) (h : ∀ c ∈ x.cps.toList, ∀ K' : VK, K' (f c) H → te (some (.str ⟨#[c]⟩) :: cap) H K')
    (q : ∀ p, H p = none → Q (.ref p) (upd H p (.lst (x.cps.toList.map f)))) : CompW (Itx x) cap tYes te H Q := by
  refine ⟨fun i m ys H' => H' = H ∧ i ≤ x.cps.toList.length ∧ m = x.cps.toList.length - i ∧ ys = (x.cps.toList.take i).map f, ⟨_, rfl, Nat.zero_le _, rfl, rfl⟩, fun i m ys H' ⟨e1, hi, em, ey⟩ => ?_⟩
  subst e1 ey
  refine ⟨by rw [List.length_map, List.length_take]; omega, ?_⟩
  by_cases z : i < x.cps.toList.length
  · refine .inr ⟨z, fun v H2 ⟨e2, c, ec, ev⟩ => ?_⟩
    subst e2 ev
    refine h c (List.mem_of_getElem? ec) _ ⟨x.cps.toList.length - (i + 1), by omega, rfl, z, rfl, ?_⟩
    rw [List.take_add_one, ec]; simp
  · have e : i = x.cps.toList.length := by omega
    refine .inl ⟨by show x.cps.toList.length ≤ i; omega, ?_⟩
    rw [e, List.take_length]; exact q
/-- a method of a text -/
def cBMS (r : V → List V → Hp → VK → Prop) (to : TE) (t : TA) : TE := fun σ H Q => to σ H fun x H1 => match x with
  | .str _ => t σ H1 fun xs H2 => r x xs H2 Q
  | _ => False
theorem c_bmS {id : String} {name : Str} {r : V → List V → Hp → VK → Prop} {o e : Expr} {es : List Expr} {to : TE} {t : TA} {apos cpos : Pos} (slot : Slot "str" name id) (hty : typeOf (.builtin id) = pure (.type "method_descriptor")) (hm : MtR X id r) (ho : PE X o to) (ha : PA X (e :: es) t) (hns : (e :: es).all notStar = true := by rfl)
    (hbase : attributeBase o name X.env (eval o X.env) = eval o X.env := by rfl)
    (hfew : ((backTo cpos (starEach (e :: es) X.env)).all (fun x => !x.1) && (backToKw cpos (keywordEach [] X.env)).all (fun x => x.1.isSome)
      && decide ((e :: es).length + ([] : List Keyword).length + (if ([] : List Keyword).isEmpty then 0 else 1) < 30)) = true := by rfl)
    (hline : (apos.endLine == cpos.line) = true := by rfl) : PE X (.Call (.Attribute o name apos) (e :: es) [] cpos) (cBMS r to t) := by
  intro pins s σ H Q I h
  have hs : starEach (e :: es) X.env = (false, eval e X.env) :: starEach es X.env := star_ns (by rw [List.all_cons, Bool.and_eq_true] at hns; exact hns.1)
  have hplain : (backTo cpos (starEach es X.env)).any (·.1) = false := star_any (by rw [List.all_cons, Bool.and_eq_true] at hns; exact hns.2)
  refine wpAny_Call_method_late hbase hfew hline rfl (thn (ho pins s σ H _ I h) fun v s1 ⟨x, H1, I1, r1, q1⟩ => ?_)
  try dsimp only at q1
  split at q1
  case h_2 => exact q1.elim
  rename_i z
  have ty : tyV X.K "str" (.str z) H1 := rfl
  obtain ⟨h1, h2⟩ := tyV_is I1 r1 ty
  refine ⟨"str", id, PySem.F.plainAttrs_str, slot, hty, h1, h2, ?_⟩
  have hA := ha cpos pins s1 σ H1 _ I1 q1
  rw [hs] at hA ⊢
  refine Calls.callWith_builtin (by show (false || (backTo cpos (starEach es X.env)).any (·.1)) = false; rw [hplain] <;> rfl) (Calls.evalArgs_plain ?_)
  exact thn hA fun us s2 ⟨vs, H2, I2, r2, q2⟩ => hm pins s2 σ H2 _ vs v us Q I2 r1 r2 q2
/-- len of a text, too -/
def cLenT : List V → Hp → VK → Prop := fun xs H Q => match xs with
  | [.str z] => z.length ≤ sizeLine ∧ Q (.int z.length) H
  | _ => False
theorem c_lenT : CallR X (.builtin "len") cLenT := call_len_str.mono fun xs H Q h => by
  unfold cLenT at h
  split at h
  case h_2 => exact h.elim
  rename_i z
  exact ⟨z, rfl, h⟩
structure JPs (X : Cx) (pos : Pos) (keys : List (Option Expr)) (values : List Expr) (trs : List (TE × TE)) : Prop where
  run : PPs X pos keys values trs
theorem j_pps_nil {pos : Pos} : JPs X pos [] [] [] := ⟨pps_nil⟩
theorem j_pps_cons {pos : Pos} {k v : Expr} {ks : List (Option Expr)} {vs : List Expr} {tk tv : TE} {trs : List (TE × TE)} (hk : JE X k tk) (hv : JE X v tv) (hr : JPs X pos ks vs trs) : JPs X pos (some k :: ks) (v :: vs) ((tk, tv) :: trs) := ⟨pps_cons hk.run hv.run hr.run⟩
theorem j_pe_disp {pos : Pos} {keys : List (Option Expr)} {values : List Expr} {trs : List (TE × TE)} (h : JPs X pos keys values trs) (hall : keys.all (·.isSome) = true := by rfl) (hl : keys.length = values.length := by rfl) (h0 : keys ≠ [] := by simp) (h15 : keys.length ≤ 15 := by decide) : JE X (.Dict keys values pos) (tDisp trs) := ⟨pe_disp h.run hall hl h0 h15⟩
theorem j_c_ixT : JIx X cIxT := ⟨c_ixT⟩
theorem j_c_slT : JSl X cSlT := ⟨c_slT⟩
theorem j_c_join : JMt X "str.join" cJoin := ⟨c_join⟩
theorem j_c_indexS : JMt X "list.index" cIndexS := ⟨c_indexS⟩
theorem j_pi_str {tg l : Expr} {tl : TE} (hl : JE X l tl) : JI X tg l (iStr tl) := ⟨pi_str hl.run⟩
theorem j_c_lenT : JCall X (.builtin "len") cLenT := ⟨c_lenT⟩
theorem j_c_bmS {id : String} {name : Str} {r : V → List V → Hp → VK → Prop} {o e : Expr} {es : List Expr} {to : TE} {t : TA} {apos cpos : Pos} (slot : Slot "str" name id) (hty : typeOf (.builtin id) = pure (.type "method_descriptor")) (hm : JMt X id r) (ho : JE X o to) (ha : JA X (e :: es) t) (hns : (e :: es).all notStar = true := by rfl)
    (hbase : attributeBase o name X.env (eval o X.env) = eval o X.env := by rfl)
    (hfew : ((backTo cpos (starEach (e :: es) X.env)).all (fun x => !x.1) && (backToKw cpos (keywordEach [] X.env)).all (fun x => x.1.isSome)
      && decide ((e :: es).length + ([] : List Keyword).length + (if ([] : List Keyword).isEmpty then 0 else 1) < 30)) = true := by rfl)
    (hline : (apos.endLine == cpos.line) = true := by rfl) : JE X (.Call (.Attribute o name apos) (e :: es) [] cpos) (cBMS r to t) := ⟨c_bmS slot hty hm.run ho.run ha.run hns hbase hfew hline⟩
theorem LoopW.enum {K : PySem.W.Frag} {a : Addr} {xs : List V} {g : TG} {tb : TS} {D : Ends} {σ : St} {H : Hp} (Pv : Nat → St → Hp → Prop) (h0 : Pv 0 σ H) (hl : ∀ i σ H, i ≤ xs.length → Pv i σ H → SqL K H a xs)
    (hs : ∀ i x σ H p, xs[i]? = some x → Pv i σ H → H p = none → g (.ref p) σ (upd H p (.tup [.int i, x])) fun σ2 H2 => tb { D with nx := Pv (i + 1), ct := Pv (i + 1), bk := D.nx } σ2 H2) (hd : ∀ σ H, Pv xs.length σ H → D.nx σ H) : LoopW (Ite K a) g tb D σ H := by
  refine ⟨fun i m σ H => Pv i σ H ∧ i ≤ xs.length ∧ m = xs.length - i, ⟨_, h0, Nat.zero_le _, rfl⟩, fun i m σ H ⟨hP, hi, hm⟩ => ?_⟩
  have sa := hl i σ H hi hP
  by_cases z : i < xs.length
  · have ex : xs[i]? = some xs[i] := List.getElem?_eq_getElem z
    refine .inr ⟨⟨xs, _, sa, ex⟩, Pv (i + 1), fun σ' H' hN => ⟨xs.length - (i + 1), by omega, hN, z, rfl⟩, ?_⟩
    rintro x H' ⟨p, u, hp, rfl, rfl, hu⟩
    exact hs i u σ H p (hu xs sa) hP hp
  · have e : i = xs.length := by omega
    subst e
    exact .inl ⟨⟨xs, sa, Nat.le_refl _⟩, hd σ H hP⟩
end
/-- != of tuples of one length, else as cNeA -/
def cNeT : R2 := fun x y H Q => match x, y with
  | .ref a, .ref b => (match H a, H b with
    | some (.tup xs), some (.tup ys) => xs.length = ys.length ∧ (match allO (List.zipWith (deq H 2) xs ys) with
        | some k => Q (.bl (!k)) H
        | none => False)
    | _, _ => cNeA (.ref a) (.ref b) H Q)
  | x, y => cNeA x y H Q
theorem c_neT {X : Cx} (hu : X.A.units + 8 < cLine) : OpR X (compareOp .NotEq) cNeT := by
  intro pins s σ H x y v u Q I rx ry h
  unfold cNeT at h
  split at h
  case h_2 => exact c_neA hu pins s σ H _ _ v u Q I rx ry h
  rename_i a b
  split at h
  case h_2 => exact c_neA hu pins s σ H _ _ v u Q I rx ry h
  rename_i xs ys e1 e2
  obtain ⟨hl, h⟩ := h
  cases (show v = Value.ref a from rx)
  cases (show u = Value.ref b from ry)
  obtain ⟨i1, r1, p1, _⟩ := I.tuple (.inl (.inl e1))
  obtain ⟨i2, r2, p2, _⟩ := I.tuple (.inl (.inl e2))
  have l1 := r1.length
  have l2 := r2.length
  split at h
  case h_2 => exact h.elim
  rename_i k hk
  obtain ⟨e, h1, h2⟩ := allO_at hk
  rw [List.length_zipWith, ← hl, Nat.min_self] at h2
  refine SeqAt.RcNeAt.tuples (e := e) p1 p2 (by omega) (fun j j1 j2 => ?_) X.prog X.w X.xe _ ⟨.bl (!k), H, I, ?_, h⟩
  · simp only [List.size_toArray] at j1 j2
    have k1 : j < xs.length := by omega
    have k2 : j < ys.length := by omega
    obtain ⟨w1, g1, q1⟩ := r1.get (List.getElem?_eq_getElem k1)
    obtain ⟨w2, g2, q2⟩ := r2.get (List.getElem?_eq_getElem k2)
    have z := h1 j (deq H 2 xs[j] ys[j]) (by rw [List.getElem?_zipWith, List.getElem?_eq_getElem k1, List.getElem?_eq_getElem k2])
    have e4 : i1.toArray[j] = w1 := by simpa [j1] using g1
    have e5 : i2.toArray[j] = w2 := by simpa [j2] using g2
    rw [e4, e5]
    exact eqAt_deq I 2 X.A.in1 (by rw [Around.in1_units]; omega) q1 q2 z
  · have e3 : i1.toArray.size = xs.length := by simp [l1]
    have e4 : i2.toArray.size = xs.length := by simp [← l2, hl]
    rw [e3, e4, Nat.min_self, h2, beq_self_eq_true, Bool.and_true]
    exact rfl
theorem j_c_neT {X : Cx} (hu : X.A.units + 8 < cLine) : JOp X (compareOp .NotEq) cNeT := ⟨c_neT hu⟩
end L2

/-! the law's own text -/
namespace K29
open PySem L2
def top (i : Nat) : Stmt := PySem.Challenge.pw_cellkeep_k29_frames.main.body.getD i (.Pass ⟨0, 0, 0, 0⟩)
abbrev s_begun : Stmt := top 4
abbrev s_holder : Stmt := top 8
abbrev s_frame_of : Stmt := top 9
abbrev s_slot_of : Stmt := top 10
abbrev s__law_cell_at : Stmt := top 14
abbrev s__law_next : Stmt := top 15
abbrev s__law_is_hand : Stmt := top 17
abbrev s__law_cells : Stmt := top 22
abbrev s__law_due : Stmt := top 24
abbrev s_walked : Stmt := top 7
abbrev s__law_names : Stmt := top 16
abbrev s__law_slots : Stmt := top 18
abbrev s__law_statement : Stmt := top 23
abbrev s_loaded : Stmt := top 5
abbrev s_stored : Stmt := top 6
abbrev s__law_deed : Stmt := top 19
abbrev s_deeds_behind : Stmt := top 12
abbrev s__law_all : Stmt := top 20
abbrev s_deeds_of : Stmt := top 11
abbrev s__law_stands : Stmt := top 21
abbrev s__law_stepped : Stmt := top 25
abbrev s_law : Stmt := top 26
theorem seq_mid {s t : TS} {D : Ends} {σ : St} {H : Hp} (P : St → Hp → Prop) (h1 : ∀ R : St → Hp → Prop, (∀ σ' H', P σ' H' → R σ' H') → s { D with nx := R } σ H) (h2 : ∀ σ' H', P σ' H' → t D σ' H') : tSeq s t D σ H := h1 (t D) h2
/-- a deed -/
inductive De where
  | mk (h n : Int)
  | kp (h x : Int)
  | sh (h g : Int)
  | dr (h : Int)
  | tk (h g k : Int)
  | pt (g k h : Int)
  | rd (h : Int)
def De.vs : De → List V
  | .mk h n => [.str "make", .int h, .int n]
  | .kp h x => [.str "keep", .int h, .int x]
  | .sh h g => [.str "share", .int h, .int g]
  | .dr h => [.str "drop", .int h]
  | .tk h g k => [.str "take", .int h, .int g, .int k]
  | .pt g k h => [.str "put", .int g, .int k, .int h]
  | .rd h => [.str "read", .int h]
/-- these values are these deeds -/
def DVs (H : Hp) : List De → List V → Prop
  | [], [] => True
  | d :: ds, v :: vs => (∃ a, v = .ref a ∧ H a = some (.tup d.vs)) ∧ DVs H ds vs
  | _, _ => False
def DsAt (H : Hp) (ds : List De) (l : Addr) : Prop := ∃ vs, H l = some (.lst vs) ∧ DVs H ds vs
theorem DVs.same {H H' : Hp} (s : Same H H') : ∀ {ds : List De} {vs : List V}, DVs H ds vs → DVs H' ds vs
  | [], [], _ => True.intro
  | d :: ds, v :: vs, ⟨⟨a, e, h⟩, r⟩ => ⟨⟨a, e, s _ _ h⟩, r.same s⟩
theorem DVs.app {H : Hp} : ∀ {ds es : List De} {vs us : List V}, DVs H ds vs → DVs H es us → DVs H (ds ++ es) (vs ++ us)
  | [], _, [], _, _, h => h
  | d :: ds, _, v :: vs, _, ⟨x, r⟩, h => ⟨x, r.app h⟩
theorem DVs.len {H : Hp} : ∀ {ds : List De} {vs : List V}, DVs H ds vs → vs.length = ds.length
  | [], [], _ => rfl
  | d :: ds, v :: vs, ⟨_, r⟩ => by rw [List.length_cons, List.length_cons, r.len]
theorem DVs.one {H : Hp} {d : De} {a : Addr} (h : H a = some (.tup d.vs)) : DVs H [d] [.ref a] := ⟨⟨a, rfl, h⟩, True.intro⟩
theorem DsAt.same {H H' : Hp} {ds : List De} {l : Addr} (s : Same H H') (h : DsAt H ds l) : DsAt H' ds l := let ⟨vs, e, r⟩ := h; ⟨vs, s _ _ e, r.same s⟩
theorem same_none {H H' : Hp} {l : Addr} (s : Same H H') (h : H' l = none) : H l = none := by
  cases e : H l with
  | none => rfl
  | some u => rw [s _ _ e] at h; cases h
theorem cat_ds {H : Hp} {ds es : List De} {l m : Addr} {Q : VK} (h1 : DsAt H ds l) (h2 : DsAt H es m) (hn : ds.length + es.length ≤ 1000) (q : ∀ p H', Same H H' → H p = none → DsAt H' (ds ++ es) p → Q (.ref p) H') :
    match H l, H m with
      | some (.lst xs), some (.lst zs) => xs.length + zs.length ≤ sizeLine ∧ ∀ p, H p = none → Q (V.ref p) (upd H p (.lst (xs ++ zs)))
      | _, _ => False := by
  obtain ⟨vs, e1, d1⟩ := h1
  obtain ⟨us, e2, d2⟩ := h2
  rw [e1, e2]
  dsimp only
  refine ⟨Nat.le_trans (by rw [d1.len, d2.len]; exact hn) (by decide), fun p hp => q _ _ (Same.upd hp) hp ⟨_, upd_same, (d1.app d2).same (Same.upd hp)⟩⟩
theorem DsAt.one {H : Hp} {d : De} {p l : Addr} (h : H p = some (.tup d.vs)) (hl : H l = none) : DsAt (upd H l (.lst [V.ref p])) [d] l := ⟨_, upd_same, DVs.one (Same.upd hl _ _ h)⟩
def hold (f h : Int) : Int := if f = 0 then 0 else h
def walkD (f : Nat) (h : Int) : List De := (List.range f).map fun (s : Nat) => .tk h (hold (s : Int) h) 7
def loadD (ts : List Str) (z : Str) (h : Int) : List De := walkD (ts.idxOf z / 7) h ++ [.tk h (hold (ts.idxOf z / 7 : Nat) h) (ts.idxOf z % 7 : Nat)]
def storeD (ts : List Str) (z : Str) : List De := walkD (ts.idxOf z / 7) 2 ++ [.pt (hold (ts.idxOf z / 7 : Nat) 2) (ts.idxOf z % 7 : Nat) 1]
theorem walkD_len {f : Nat} {h : Int} : (walkD f h).length = f := by unfold walkD; rw [List.length_map, List.length_range]
theorem loadD_len {ts : List Str} {z : Str} {h : Int} (hl : ts.length ≤ 50) : (loadD ts z h).length ≤ 8 := by
  unfold loadD; rw [List.length_append, walkD_len]
  have := List.idxOf_le_length (a := z) (l := ts)
  show ts.idxOf z / 7 + 1 ≤ 8; omega
theorem storeD_len {ts : List Str} {z : Str} (hl : ts.length ≤ 50) : (storeD ts z).length ≤ 8 := by
  unfold storeD; rw [List.length_append, walkD_len]
  have := List.idxOf_le_length (a := z) (l := ts)
  show ts.idxOf z / 7 + 1 ≤ 8; omega
def moreD : Nat → List De
  | 0 => []
  | k + 1 => moreD k ++ [.sh 1 0, .mk 0 8, .pt 0 7 1, .dr 1]
def begunD (n : Nat) : List De := if n = 0 then [] else .mk 0 8 :: moreD ((n - 1) / 7)
/-- a statement -/
inductive Sm where
  | make (a : Str) (n : Int)
  | keep (a : Str) (x : Int)
  | copy (a b : Str)
  | drop (a : Str)
  | get (a b : Str) (k : Int)
  | set (a : Str) (k : Int) (b : Str)
  | tell (a : Str)
def Sm.vs : Sm → List V
  | .make a n => [.str "make", .str a, .int n]
  | .keep a x => [.str "keep", .str a, .int x]
  | .copy a b => [.str "copy", .str a, .str b]
  | .drop a => [.str "drop", .str a]
  | .get a b k => [.str "get", .str a, .str b, .int k]
  | .set a k b => [.str "set", .str a, .int k, .str b]
  | .tell a => [.str "tell", .str a]
def Sm.ok (ts : List Str) : Sm → Prop
  | .make a _ => a ∈ ts
  | .keep a _ => a ∈ ts
  | .copy a b => a ∈ ts ∧ b ∈ ts
  | .drop a => a ∈ ts
  | .get a b _ => a ∈ ts ∧ b ∈ ts
  | .set a _ b => a ∈ ts ∧ b ∈ ts
  | .tell a => a ∈ ts
def behD (ts : List Str) : Sm → List De
  | .make a n => .mk 1 n :: storeD ts a
  | .keep a x => .kp 1 x :: storeD ts a
  | .copy a b => loadD ts b 1 ++ storeD ts a
  | .drop a => storeD ts a
  | .get a b k => (loadD ts b 1 ++ [.tk 1 1 k]) ++ storeD ts a
  | .set a k b => (loadD ts a 2 ++ loadD ts b 1) ++ [.pt 2 k 1]
  | .tell a => loadD ts a 1 ++ [.rd 1]
def stD (ts : List Str) (s : Sm) : List De := [.dr 1, .dr 2] ++ behD ts s
/-- a thing: nothing, a number, a cell by its number -/
inductive U where
  | n
  | i (x : Int)
  | c (k : Nat)
def U.at (H : Hp) : U → V → Prop
  | .n, v => v = .non
  | .i x, v => v = .int x
  | .c k, v => ∃ a, v = .ref a ∧ H a = some (.tup [.str "cell", .int k])
def UVs (H : Hp) : List U → List V → Prop
  | [], [] => True
  | u :: us, v :: vs => u.at H v ∧ UVs H us vs
  | _, _ => False
section
variable {H H' : Hp}
theorem U.at.mono {u : U} {v : V} (t : ∀ a xs, H a = some (.tup xs) → H' a = some (.tup xs)) (h : u.at H v) : u.at H' v := by
  cases u with
  | n => exact h
  | i x => exact h
  | c k => obtain ⟨a, e, h⟩ := h; exact ⟨a, e, t _ _ h⟩
theorem UVs.mono (t : ∀ a xs, H a = some (.tup xs) → H' a = some (.tup xs)) : ∀ {us : List U} {vs : List V}, UVs H us vs → UVs H' us vs
  | [], [], _ => True.intro
  | u :: us, v :: vs, ⟨a, r⟩ => ⟨a.mono t, r.mono t⟩
theorem UVs.len : ∀ {us : List U} {vs : List V}, UVs H us vs → vs.length = us.length
  | [], [], _ => rfl
  | u :: us, v :: vs, ⟨_, r⟩ => by rw [List.length_cons, List.length_cons, r.len]
theorem UVs.get : ∀ {us : List U} {vs : List V} {j : Nat}, UVs H us vs → j < us.length → ∃ v, vs[j]? = some v ∧ (us.getD j .n).at H v
  | u :: us, v :: vs, 0, ⟨a, _⟩, _ => ⟨v, rfl, a⟩
  | u :: us, v :: vs, j + 1, ⟨_, r⟩, hj => by
    obtain ⟨w, e, h⟩ := r.get (j := j) (by simpa using hj)
    exact ⟨w, by simpa using e, by simpa using h⟩
theorem UVs.set : ∀ {us : List U} {vs : List V} {j : Nat} {u : U} {v : V}, UVs H us vs → u.at H v → UVs H (us.set j u) (vs.set j v)
  | [], [], _, _, _, _, _ => True.intro
  | _ :: _, _ :: _, 0, _, _, ⟨_, r⟩, h => ⟨h, r⟩
  | _ :: us, _ :: vs, j + 1, _, _, ⟨a, r⟩, h => ⟨a, r.set (j := j) h⟩
theorem UVs.nones : ∀ {n : Nat}, UVs H (List.replicate n .n) (List.replicate n .non)
  | 0 => True.intro
  | n + 1 => ⟨rfl, UVs.nones (n := n)⟩
end
/-- hands and cells -/
structure Hc where
  hs : List U
  cs : List (List U)
def Hc.ex (s : Hc) : De → Option Hc
  | .mk h n => some ⟨s.hs.set h.toNat (.c s.cs.length), s.cs ++ [List.replicate n.toNat .n]⟩
  | .kp h x => some ⟨s.hs.set h.toNat (.i x), s.cs⟩
  | .sh h g => some ⟨s.hs.set h.toNat (s.hs.getD g.toNat .n), s.cs⟩
  | .dr h => some ⟨s.hs.set h.toNat .n, s.cs⟩
  | .tk h g k => match s.hs.getD g.toNat .n with
    | .c j => if k.toNat < (s.cs.getD j []).length ∧ j < s.cs.length then some ⟨s.hs.set h.toNat ((s.cs.getD j []).getD k.toNat .n), s.cs⟩ else none
    | _ => none
  | .pt g k h => match s.hs.getD g.toNat .n with
    | .c j => if k.toNat < (s.cs.getD j []).length ∧ j < s.cs.length then some ⟨s.hs, s.cs.set j ((s.cs.getD j []).set k.toNat (s.hs.getD h.toNat .n))⟩ else none
    | _ => none
  | .rd _ => some s
/-- hands are 0, 1, 2; slots and counts are none below nought -/
def De.ok : De → Prop
  | .mk h n => 0 ≤ h ∧ h < 3 ∧ 0 ≤ n ∧ n ≤ 8
  | .kp h _ => 0 ≤ h ∧ h < 3
  | .sh h g => 0 ≤ h ∧ h < 3 ∧ 0 ≤ g ∧ g < 3
  | .dr h => 0 ≤ h ∧ h < 3
  | .tk h g k => 0 ≤ h ∧ h < 3 ∧ 0 ≤ g ∧ g < 3 ∧ 0 ≤ k
  | .pt g k h => 0 ≤ g ∧ g < 3 ∧ 0 ≤ k ∧ 0 ≤ h ∧ h < 3
  | .rd h => 0 ≤ h ∧ h < 3
def sKV (lh lc lf : Addr) : List (Key × V) := [(Sum.inr (Str.ofString "hands"), V.ref lh), (Sum.inr (Str.ofString "cells"), V.ref lc), (Sum.inr (Str.ofString "frames"), V.ref lf)]
/-- the law's own dict of hands, cells and frames -/
structure SAt (H : Hp) (sd lh lc lf : Addr) (ra : List Addr) (s : Hc) (fk : List Int) : Prop where
  ob : H sd = some (.dK (sKV lh lc lf))
  hd : ∃ vs, H lh = some (.lst vs) ∧ UVs H s.hs vs
  cl : H lc = some (.lst (ra.map V.ref))
  rl : ra.length = s.cs.length
  rw : ∀ j a, ra[j]? = some a → ∃ vs, H a = some (.lst vs) ∧ UVs H (s.cs.getD j []) vs
  fr : H lf = some (.dK (fk.map fun k => (Sum.inl k, V.bl true)))
  nd : (lh :: lc :: ra).Nodup
  h3 : s.hs.length = 3
section
variable {H H' : Hp} {sd lh lc lf : Addr} {ra : List Addr} {s : Hc} {fk : List Int}
theorem SAt.same (st : SAt H sd lh lc lf ra s fk) (k : Same H H') : SAt H' sd lh lc lf ra s fk where
  ob := k _ _ st.ob
  hd := let ⟨vs, e, u⟩ := st.hd; ⟨vs, k _ _ e, u.mono fun a xs h => k _ _ h⟩
  cl := k _ _ st.cl
  rl := st.rl
  rw := fun j a hj => let ⟨vs, e, u⟩ := st.rw j a hj; ⟨vs, k _ _ e, u.mono fun a xs h => k _ _ h⟩
  fr := k _ _ st.fr
  nd := st.nd
  h3 := st.h3
end
theorem n_hc : ¬ ((Sum.inr (Str.ofString "hands") : Key) = Sum.inr (Str.ofString "cells")) := by decide +kernel
theorem n_hf : ¬ ((Sum.inr (Str.ofString "hands") : Key) = Sum.inr (Str.ofString "frames")) := by decide +kernel
theorem n_cf : ¬ ((Sum.inr (Str.ofString "cells") : Key) = Sum.inr (Str.ofString "frames")) := by decide +kernel
theorem sKV_h {lh lc lf : Addr} : valV (sKV lh lc lf) (Sum.inr (Str.ofString "hands")) = some (.ref lh) := valV_pos rfl
theorem sKV_c {lh lc lf : Addr} : valV (sKV lh lc lf) (Sum.inr (Str.ofString "cells")) = some (.ref lc) := by
  unfold sKV; rw [valV_neg n_hc]; exact valV_pos rfl
theorem sKV_f {lh lc lf : Addr} : valV (sKV lh lc lf) (Sum.inr (Str.ofString "frames")) = some (.ref lf) := by
  unfold sKV; rw [valV_neg n_hf, valV_neg n_cf]; exact valV_pos rfl
set_option genInjectivity false in
structure Ad where
  f_begun : Addr
  d_begun : FuncData
  f_holder : Addr
  d_holder : FuncData
  f_frame_of : Addr
  d_frame_of : FuncData
  f_slot_of : Addr
  d_slot_of : FuncData
  f__law_cell_at : Addr
  d__law_cell_at : FuncData
  f__law_next : Addr
  d__law_next : FuncData
  f__law_is_hand : Addr
  d__law_is_hand : FuncData
  f__law_cells : Addr
  d__law_cells : FuncData
  f__law_due : Addr
  d__law_due : FuncData
  f_walked : Addr
  d_walked : FuncData
  f__law_names : Addr
  d__law_names : FuncData
  f__law_slots : Addr
  d__law_slots : FuncData
  f__law_statement : Addr
  d__law_statement : FuncData
  f_loaded : Addr
  d_loaded : FuncData
  f_stored : Addr
  d_stored : FuncData
  f__law_deed : Addr
  d__law_deed : FuncData
  f_deeds_behind : Addr
  d_deeds_behind : FuncData
  f__law_all : Addr
  d__law_all : FuncData
  f_deeds_of : Addr
  d_deeds_of : FuncData
  f__law_stands : Addr
  d__law_stands : FuncData
  f__law_stepped : Addr
  d__law_stepped : FuncData
  f_law : Addr
  d_law : FuncData
structure Txt (K : PySem.W.Frag) (mg : Str → Option Value) (A : Ad) : Prop where
  fn_begun : Fun K "begun" "begun" s_begun A.f_begun A.d_begun
  b_begun : Binds K A.d_begun ["names"] []
  g_begun : mg "begun" = some (.ref A.f_begun)
  fn_holder : Fun K "holder" "holder" s_holder A.f_holder A.d_holder
  b_holder : Binds K A.d_holder ["frame", "hand"] []
  g_holder : mg "holder" = some (.ref A.f_holder)
  fn_frame_of : Fun K "frame_of" "frame_of" s_frame_of A.f_frame_of A.d_frame_of
  b_frame_of : Binds K A.d_frame_of ["names", "name"] []
  g_frame_of : mg "frame_of" = some (.ref A.f_frame_of)
  fn_slot_of : Fun K "slot_of" "slot_of" s_slot_of A.f_slot_of A.d_slot_of
  b_slot_of : Binds K A.d_slot_of ["names", "name"] []
  g_slot_of : mg "slot_of" = some (.ref A.f_slot_of)
  fn__law_cell_at : Fun K "_law_cell_at" "_law_cell_at" s__law_cell_at A.f__law_cell_at A.d__law_cell_at
  b__law_cell_at : Binds K A.d__law_cell_at ["_law_script", "_law_k"] []
  g__law_cell_at : mg "_law_cell_at" = some (.ref A.f__law_cell_at)
  fn__law_next : Fun K "_law_next" "_law_next" s__law_next A.f__law_next A.d__law_next
  b__law_next : Binds K A.d__law_next ["_law_seed"] []
  g__law_next : mg "_law_next" = some (.ref A.f__law_next)
  fn__law_is_hand : Fun K "_law_is_hand" "_law_is_hand" s__law_is_hand A.f__law_is_hand A.d__law_is_hand
  b__law_is_hand : Binds K A.d__law_is_hand ["_law_thing"] []
  g__law_is_hand : mg "_law_is_hand" = some (.ref A.f__law_is_hand)
  fn__law_cells : Fun K "_law_cells" "_law_cells" s__law_cells A.f__law_cells A.d__law_cells
  b__law_cells : Binds K A.d__law_cells ["_law_s", "_law_due_here"] []
  g__law_cells : mg "_law_cells" = some (.ref A.f__law_cells)
  fn__law_due : Fun K "_law_due" "_law_due" s__law_due A.f__law_due A.d__law_due
  b__law_due : Binds K A.d__law_due ["_law_s", "_law_names_here", "_law_due_here", "_law_statement_here"] []
  g__law_due : mg "_law_due" = some (.ref A.f__law_due)
  fn_walked : Fun K "walked" "walked" s_walked A.f_walked A.d_walked
  b_walked : Binds K A.d_walked ["frame", "hand"] []
  g_walked : mg "walked" = some (.ref A.f_walked)
  fn__law_names : Fun K "_law_names" "_law_names" s__law_names A.f__law_names A.d__law_names
  b__law_names : Binds K A.d__law_names ["_law_script"] []
  g__law_names : mg "_law_names" = some (.ref A.f__law_names)
  fn__law_slots : Fun K "_law_slots" "_law_slots" s__law_slots A.f__law_slots A.d__law_slots
  b__law_slots : Binds K A.d__law_slots ["_law_s", "_law_hand", "_law_slot"] []
  g__law_slots : mg "_law_slots" = some (.ref A.f__law_slots)
  fn__law_statement : Fun K "_law_statement" "_law_statement" s__law_statement A.f__law_statement A.d__law_statement
  b__law_statement : Binds K A.d__law_statement ["_law_s", "_law_names_here", "_law_due_here", "_law_seed"] []
  g__law_statement : mg "_law_statement" = some (.ref A.f__law_statement)
  fn_loaded : Fun K "loaded" "loaded" s_loaded A.f_loaded A.d_loaded
  b_loaded : Binds K A.d_loaded ["names", "name", "hand"] []
  g_loaded : mg "loaded" = some (.ref A.f_loaded)
  fn_stored : Fun K "stored" "stored" s_stored A.f_stored A.d_stored
  b_stored : Binds K A.d_stored ["names", "name"] []
  g_stored : mg "stored" = some (.ref A.f_stored)
  fn__law_deed : Fun K "_law_deed" "_law_deed" s__law_deed A.f__law_deed A.d__law_deed
  b__law_deed : Binds K A.d__law_deed ["_law_s", "_law_deed_here"] []
  g__law_deed : mg "_law_deed" = some (.ref A.f__law_deed)
  fn_deeds_behind : Fun K "deeds_behind" "deeds_behind" s_deeds_behind A.f_deeds_behind A.d_deeds_behind
  b_deeds_behind : Binds K A.d_deeds_behind ["names", "statement"] []
  g_deeds_behind : mg "deeds_behind" = some (.ref A.f_deeds_behind)
  fn__law_all : Fun K "_law_all" "_law_all" s__law_all A.f__law_all A.d__law_all
  b__law_all : Binds K A.d__law_all ["_law_s", "_law_deeds"] []
  g__law_all : mg "_law_all" = some (.ref A.f__law_all)
  fn_deeds_of : Fun K "deeds_of" "deeds_of" s_deeds_of A.f_deeds_of A.d_deeds_of
  b_deeds_of : Binds K A.d_deeds_of ["names", "statement"] []
  g_deeds_of : mg "deeds_of" = some (.ref A.f_deeds_of)
  fn__law_stands : Fun K "_law_stands" "_law_stands" s__law_stands A.f__law_stands A.d__law_stands
  b__law_stands : Binds K A.d__law_stands ["_law_s", "_law_names_here", "_law_due_here"] []
  g__law_stands : mg "_law_stands" = some (.ref A.f__law_stands)
  fn__law_stepped : Fun K "_law_stepped" "_law_stepped" s__law_stepped A.f__law_stepped A.d__law_stepped
  b__law_stepped : Binds K A.d__law_stepped ["_law_s", "_law_names_here", "_law_due_here", "_law_statement_here"] []
  g__law_stepped : mg "_law_stepped" = some (.ref A.f__law_stepped)
  fn_law : Fun K "law" "law" s_law A.f_law A.d_law
  b_law : Binds K A.d_law ["_law_script"] []
  g_law : mg "law" = some (.ref A.f_law)
  v_MOST_SLOTS : Gv mg "MOST_SLOTS" (.int (8))
  v_NAMES_IN_FRAME : Gv mg "NAMES_IN_FRAME" (.int (7))
  v_NEXT_SLOT : Gv mg "NEXT_SLOT" (.int (7))
  kt_NoneType_int : PySem.W.kitOne K (.type "NoneType") (.type "int") = some false
  kt_NoneType_bool : PySem.W.kitOne K (.type "NoneType") (.type "bool") = some false
  kt_NoneType_list : PySem.W.kitOne K (.type "NoneType") (.type "list") = some false
  kt_NoneType_tuple : PySem.W.kitOne K (.type "NoneType") (.type "tuple") = some false
  kt_bool_int : PySem.W.kitOne K (.type "bool") (.type "int") = some true
  kt_bool_bool : PySem.W.kitOne K (.type "bool") (.type "bool") = some true
  kt_bool_list : PySem.W.kitOne K (.type "bool") (.type "list") = some false
  kt_bool_tuple : PySem.W.kitOne K (.type "bool") (.type "tuple") = some false
  kt_int_int : PySem.W.kitOne K (.type "int") (.type "int") = some true
  kt_int_bool : PySem.W.kitOne K (.type "int") (.type "bool") = some false
  kt_int_list : PySem.W.kitOne K (.type "int") (.type "list") = some false
  kt_int_tuple : PySem.W.kitOne K (.type "int") (.type "tuple") = some false
  kt_str_int : PySem.W.kitOne K (.type "str") (.type "int") = some false
  kt_str_bool : PySem.W.kitOne K (.type "str") (.type "bool") = some false
  kt_str_list : PySem.W.kitOne K (.type "str") (.type "list") = some false
  kt_str_tuple : PySem.W.kitOne K (.type "str") (.type "tuple") = some false
  kt_list_int : PySem.W.kitOne K (.type "list") (.type "int") = some false
  kt_list_bool : PySem.W.kitOne K (.type "list") (.type "bool") = some false
  kt_list_list : PySem.W.kitOne K (.type "list") (.type "list") = some true
  kt_list_tuple : PySem.W.kitOne K (.type "list") (.type "tuple") = some false
  kt_tuple_int : PySem.W.kitOne K (.type "tuple") (.type "int") = some false
  kt_tuple_bool : PySem.W.kitOne K (.type "tuple") (.type "bool") = some false
  kt_tuple_list : PySem.W.kitOne K (.type "tuple") (.type "list") = some false
  kt_tuple_tuple : PySem.W.kitOne K (.type "tuple") (.type "tuple") = some true
  kt_dict_int : PySem.W.kitOne K (.type "dict") (.type "int") = some false
  kt_dict_bool : PySem.W.kitOne K (.type "dict") (.type "bool") = some false
  kt_dict_list : PySem.W.kitOne K (.type "dict") (.type "list") = some false
  kt_dict_tuple : PySem.W.kitOne K (.type "dict") (.type "tuple") = some false
  n_bool : mg "bool" = none
  n_enumerate : mg "enumerate" = none
  n_int : mg "int" = none
  n_isinstance : mg "isinstance" = none
  n_len : mg "len" = none
  n_list : mg "list" = none
  n_min : mg "min" = none
  n_range : mg "range" = none
  n_tuple : mg "tuple" = none
section
variable {P : Program} {w : World} {K : PySem.W.Frag} {mg : Str → Option Value} {base : Heap} {A : Ad}
def sp_begun : Sp := fun vs H Q _ => ∃ ln, ∃ ts : List Str, vs = [.ref ln] ∧ H ln = some (.lst (ts.map V.str)) ∧ ts.length ≤ 50 ∧ ∀ l H', Same H H' → H l = none → DsAt H' (begunD ts.length) l → Q (.ref l) H'
theorem sc_begun : FnScope ["names", "deeds", "more"] ["names"] (defScope s_begun) := ⟨rfl, rfl, rfl, by decide +kernel, rfl, by decide +kernel, by decide +kernel⟩
theorem ok_begun (T : Txt K mg A) : FnOk P w K mg base (CXE P w) true 1 A.f_begun A.d_begun ["names"] sp_begun := by
  refine T.fn_begun.okE sc_begun (fun vs H Q E h => ?_) (fun cdv A' outer s H vs Q E hr hx h => ?_)
  · obtain ⟨ln, ts, rfl, e, hl, q⟩ := h
    rfl
  · obtain ⟨ln, ts, rfl, e, hl, q⟩ := h
    refine ⟨_, JSs.run (j_pss_cons (j_ps_if (j_pt_cmpR j_c_eq (j_pe_callBF j_c_len (by rfl) T.n_len PyProof.Rows.Boot.«len» (j_pa_c (j_cv 0) j_pa_nil)) j_pe_int (nomark _)) (j_pss_one (j_ps_ret (j_pe_lst j_pa_nil))) j_pss_nil)
      (j_pss_cons (j_ps_set (i := 1) sc_begun.nd rfl (by first | exact Or.inl rfl | exact Or.inr rfl) (j_pe_lst (j_pa_c (j_pe_tup (j_pa_c j_pe_str (j_pa_c j_pe_int (j_pa_c (j_pe_gv T.v_MOST_SLOTS) j_pa_nil)))) j_pa_nil)))
      (j_pss_cons (j_ps_for hx.own rfl (j_pi_range1 rfl T.n_range (j_pa_c (j_pe_op j_c_fdiv (j_pe_op j_c_sub (j_pe_callBF j_c_len (by rfl) T.n_len PyProof.Rows.Boot.«len» (j_pa_c (j_cv 0) j_pa_nil)) j_pe_int) (j_pe_gv T.v_NAMES_IN_FRAME)) j_pa_nil)) (j_pg_name (i := 2) sc_begun.nd rfl (by first | exact Or.inl rfl | exact Or.inr rfl))
        (j_pss_one (j_ps_expr (j_c_bm PySem.F.slot_list_extend PySem.F.type_list_extend j_c_extend (j_cv 1) (j_pa_c (j_pe_lst (j_pa_c (j_pe_tup (j_pa_c j_pe_str (j_pa_c j_pe_int (j_pa_c j_pe_int j_pa_nil)))) (j_pa_c (j_pe_tup (j_pa_c j_pe_str (j_pa_c j_pe_int (j_pa_c (j_pe_gv T.v_MOST_SLOTS) j_pa_nil)))) (j_pa_c (j_pe_tup (j_pa_c j_pe_str (j_pa_c j_pe_int (j_pa_c (j_pe_gv T.v_NEXT_SLOT) (j_pa_c j_pe_int j_pa_nil))))) (j_pa_c (j_pe_tup (j_pa_c j_pe_str (j_pa_c j_pe_int j_pa_nil))) j_pa_nil))))) j_pa_nil)))))
      (j_pss_one (j_ps_ret (j_cv 1)))))), ?_⟩
    show tSeq _ _ _ [some (V.ref ln), none, none] H
    unfold begunD at q
    refine seq_mid (fun σ' H' => ts.length ≠ 0 ∧ H = H' ∧ σ' = [some (V.ref ln), none, none]) (fun R hR => ?_) ?_
    · simp only [tRet, tNext, tIfS, tTest, tOp, tCB, tCons, tNil, tC, cVar, tLst, cEq, eqv, cLen, List.length_nil, List.getElem?_cons_zero, V.int.injEq, V.bl.injEq, V.str.injEq, V.ref.injEq, V.ty.injEq, List.cons.injEq, Option.some.injEq, true_and, exists_eq_left', decide_eq_true_eq, sz0, e, List.length_map]
      by_cases z : ts.length = 0
      · rw [if_pos (by omega)]
        intro l hl'
        rw [if_pos z] at q
        exact q _ _ (Same.upd hl') hl' ⟨[], upd_same, True.intro⟩
      · rw [if_neg (by omega)]
        exact hR _ _ ⟨z, rfl, rfl⟩
    rintro _ _ ⟨z, rfl, rfl⟩
    rw [if_neg z] at q
    refine seq_mid (fun σ' H' => ∃ f, H f = none ∧ Same H H' ∧ DsAt H' [.mk 0 8] f ∧ σ' = [some (V.ref ln), some (V.ref f), none]) (fun R hR => ?_) ?_
    · simp only [tCons, tNil, tC, tLst, tTup, tAsg, gName, Int.reduceAdd, List.length_cons, List.length_nil, List.set_cons_zero, List.set_cons_succ, true_and, Nat.reduceAdd, sz1, sz3]
      intro p hp f hf
      have s2 := Same.upd (o := .tup (De.vs (.mk 0 8))) hp
      exact hR _ _ ⟨f, same_none s2 hf, s2.trans (Same.upd hf), ⟨[V.ref p], upd_same, DVs.one (Same.upd hf _ _ upd_same)⟩, rfl⟩
    rintro _ H1 ⟨f, hf, s1, d1, rfl⟩
    refine seq_mid (fun σ' H' => Same H H' ∧ DsAt H' (.mk 0 8 :: moreD ((ts.length - 1) / 7)) f ∧ ∃ v2, σ' = [some (V.ref ln), some (V.ref f), v2]) (fun R hR => ?_) ?_
    · simp only [tOp, tCB, tCons, tNil, tC, cVar, cSub, cFdiv, cLen, CDiv, Int.reduceLT, Nat.reduceLT, Int.reduceNeg, Int.reducePow, tFor_eq, iRng1, List.getElem?_cons_zero, V.int.injEq, V.bl.injEq, V.str.injEq, V.ref.injEq, V.ty.injEq, List.cons.injEq, Option.some.injEq, and_true, true_and, exists_eq_left', s1 _ _ e, List.length_map]
      have eN : (((ts.length : Int) - 1) / 7).toNat = (ts.length - 1) / 7 := by omega
      refine ⟨by omega, by omega, ?_⟩
      rw [eN]
      refine LoopW.range (fun t σ H' => t ≤ (ts.length - 1) / 7 ∧ Same H H' ∧ DsAt H' (.mk 0 8 :: moreD t) f ∧ ∃ v2, σ = [some (V.ref ln), some (V.ref f), v2]) ⟨Nat.zero_le _, s1, d1, _, rfl⟩ ?_ ?_
      · rintro t σ H2 ht ⟨_, s2, ⟨vs, e2, d2⟩, v2, rfl⟩
        simp only [tDrop, tCons, tNil, tC, cVar, tLst, tTup, gName, Int.reduceAdd, upd_same, cBM, cExtend, List.length_cons, List.length_nil, List.getElem?_cons_zero, List.getElem?_cons_succ, List.set_cons_zero, List.set_cons_succ, V.int.injEq, V.bl.injEq, V.str.injEq, V.ref.injEq, V.ty.injEq, List.cons.injEq, Option.some.injEq, and_true, true_and, Nat.reduceAdd, sz2, sz3, sz4, e2]
        intro p1 hp1 p2 hp2 p3 hp3 p4 hp4 l hl'
        have a1 := Same.upd (o := .tup (De.vs (.sh 1 0))) hp1
        have a2 := Same.upd (o := .tup (De.vs (.mk 0 8))) hp2
        have a3 := Same.upd (o := .tup (De.vs (.pt 0 7 1))) hp3
        have a4 := Same.upd (o := .tup (De.vs (.dr 1))) hp4
        have a5 := Same.upd (o := .lst [V.ref p1, V.ref p2, V.ref p3, V.ref p4]) hl'
        have sA := a1.trans (a2.trans (a3.trans (a4.trans a5)))
        have e6 := sA _ _ e2
        have dn := (d2.same sA).app (show DVs _ [.sh 1 0, .mk 0 8, .pt 0 7 1, .dr 1] [V.ref p1, V.ref p2, V.ref p3, V.ref p4] from ⟨⟨p1, rfl, (a2.trans (a3.trans (a4.trans a5))) _ _ upd_same⟩, ⟨p2, rfl, (a3.trans (a4.trans a5)) _ _ upd_same⟩, ⟨p3, rfl, (a4.trans a5) _ _ upd_same⟩, ⟨p4, rfl, a5 _ _ upd_same⟩, True.intro⟩)
        have nfl := ne_of_none ((a1.trans (a2.trans (a3.trans a4))) _ _ e2) hl'
        try simp only [De.vs] at sA e6 dn
        rw [e6]
        dsimp only
        have hlen := d2.len
        have hml : ∀ n, (moreD n).length = 4 * n := fun n => by
          induction n with
          | zero => rfl
          | succ n ih => show (moreD n ++ _).length = _; rw [List.length_append, ih]; show 4 * n + 4 = _; omega
        rw [List.length_cons, hml] at hlen
        refine ⟨nfl, Nat.le_trans (show vs.length + 4 ≤ 100 by omega) (by decide), by omega, (s2.trans sA).put hf, ⟨_, upd_same, ?_⟩, _, rfl⟩
        have dm : ∀ {G : Hp} {es : List De} {us : List V} {xs : List V}, DVs G es us → G f = some (.lst xs) → ∀ o, DVs (upd G f o) es us := fun {G es us xs} dd ef o => by
          induction es generalizing us with
          | nil => cases us with
            | nil => exact True.intro
            | cons v vs => exact dd.elim
          | cons d es ih => cases us with
            | nil => exact dd.elim
            | cons v vs =>
              obtain ⟨⟨x, ex, hx⟩, r⟩ := dd
              exact ⟨⟨x, ex, by rw [upd_ne (fun z => by rw [z, ef] at hx; cases hx)]; exact hx⟩, ih r⟩
        have e7 : De.mk 0 8 :: moreD (t + 1) = (De.mk 0 8 :: moreD t) ++ [.sh 1 0, .mk 0 8, .pt 0 7 1, .dr 1] := rfl
        rw [e7]
        exact dm dn e6 _
      · rintro σ H2 ⟨_, s2, d2, v2, rfl⟩
        exact hR _ _ ⟨s2, d2, _, rfl⟩
    rintro _ H2 ⟨s2, d2, v2, rfl⟩
    simp only [tRet, cVar, List.getElem?_cons_zero, List.getElem?_cons_succ]
    exact q _ _ s2 hf d2
def sp_holder : Sp := fun vs H Q _ => ∃ f h, vs = [.int f, .int h] ∧ Q (.int (hold f h)) H
theorem sc_holder : FnScope ["frame", "hand"] ["frame", "hand"] (defScope s_holder) := ⟨rfl, rfl, rfl, by decide +kernel, rfl, by decide +kernel, by decide +kernel⟩
theorem ok_holder {ca : Bool} (T : Txt K mg A) : FnOk P w K mg base (CXE P w) ca 1 A.f_holder A.d_holder ["frame", "hand"] sp_holder := by
  refine T.fn_holder.okE sc_holder (fun vs H Q E h => ?_) (fun cdv A' outer s H vs Q E hr hx h => ?_)
  · obtain ⟨f, h, rfl, q⟩ := h
    rfl
  · obtain ⟨f, h, rfl, q⟩ := h
    refine ⟨_, JSs.run (j_pss_one (j_ps_ret (j_pe_ifExp (j_pt_cmpR j_c_eq (j_cv 0) j_pe_int (nomark _)) j_pe_int (j_cv 1)))), ?_⟩
    simp only [tRet, tTest, tOp, tIf, tC, cVar, cEq, eqv, Int.reduceAdd, L2.start, List.map_cons, List.map_nil, List.length_cons, List.length_nil, List.replicate, List.append_nil, List.getElem?_cons_zero, List.getElem?_cons_succ, V.int.injEq, V.bl.injEq, V.str.injEq, V.ref.injEq, V.ty.injEq, List.cons.injEq, Option.some.injEq, exists_eq_left', decide_eq_true_eq, Nat.reduceAdd, Nat.sub_self]
    unfold hold at q
    split <;> rename_i z
    · rw [if_pos z] at q; exact q
    · rw [if_neg z] at q; exact q
def sp_frame_of : Sp := fun vs H Q _ => ∃ ln z, ∃ ts : List Str, vs = [.ref ln, .str z] ∧ H ln = some (.lst (ts.map V.str)) ∧ z ∈ ts ∧ Q (.int (ts.idxOf z / 7 : Nat)) H
theorem sc_frame_of : FnScope ["names", "name"] ["names", "name"] (defScope s_frame_of) := ⟨rfl, rfl, rfl, by decide +kernel, rfl, by decide +kernel, by decide +kernel⟩
theorem ok_frame_of {ca : Bool} (T : Txt K mg A) : FnOk P w K mg base (CXE P w) ca 1 A.f_frame_of A.d_frame_of ["names", "name"] sp_frame_of := by
  refine T.fn_frame_of.okE sc_frame_of (fun vs H Q E h => ?_) (fun cdv A' outer s H vs Q E hr hx h => ?_)
  · obtain ⟨ln, z, ts, rfl, e, hz, q⟩ := h
    rfl
  · obtain ⟨ln, z, ts, rfl, e, hz, q⟩ := h
    refine ⟨_, JSs.run (j_pss_one (j_ps_ret (j_pe_op j_c_fdiv (j_c_bm PySem.F.slot_list_index PySem.F.type_list_index j_c_indexS (j_cv 0) (j_pa_c (j_cv 1) j_pa_nil)) (j_pe_gv T.v_NAMES_IN_FRAME)))), ?_⟩
    simp only [tRet, tOp, tCons, tNil, tC, cVar, cFdiv, CDiv, Int.reduceLT, Nat.reduceLT, Int.reduceAdd, cBM, L2.start, List.map_cons, List.map_nil, List.length_cons, List.length_nil, List.replicate, List.append_nil, List.getElem?_cons_zero, List.getElem?_cons_succ, and_true, true_and, Nat.reduceAdd, Nat.sub_self, cIndexS, e]
    refine ⟨ts, rfl, hz, ?_⟩
    exact q
def sp_slot_of : Sp := fun vs H Q _ => ∃ ln z, ∃ ts : List Str, vs = [.ref ln, .str z] ∧ H ln = some (.lst (ts.map V.str)) ∧ z ∈ ts ∧ Q (.int (ts.idxOf z % 7 : Nat)) H
theorem sc_slot_of : FnScope ["names", "name"] ["names", "name"] (defScope s_slot_of) := ⟨rfl, rfl, rfl, by decide +kernel, rfl, by decide +kernel, by decide +kernel⟩
theorem ok_slot_of {ca : Bool} (T : Txt K mg A) : FnOk P w K mg base (CXE P w) ca 1 A.f_slot_of A.d_slot_of ["names", "name"] sp_slot_of := by
  refine T.fn_slot_of.okE sc_slot_of (fun vs H Q E h => ?_) (fun cdv A' outer s H vs Q E hr hx h => ?_)
  · obtain ⟨ln, z, ts, rfl, e, hz, q⟩ := h
    rfl
  · obtain ⟨ln, z, ts, rfl, e, hz, q⟩ := h
    refine ⟨_, JSs.run (j_pss_one (j_ps_ret (j_pe_op j_c_mod (j_c_bm PySem.F.slot_list_index PySem.F.type_list_index j_c_indexS (j_cv 0) (j_pa_c (j_cv 1) j_pa_nil)) (j_pe_gv T.v_NAMES_IN_FRAME)))), ?_⟩
    simp only [tRet, tOp, tCons, tNil, tC, cVar, cMod, Int.reduceLT, Nat.reduceLT, Int.reduceAdd, cBM, L2.start, List.map_cons, List.map_nil, List.length_cons, List.length_nil, List.replicate, List.append_nil, List.getElem?_cons_zero, List.getElem?_cons_succ, true_and, Nat.reduceAdd, Nat.sub_self, cIndexS, e]
    refine ⟨ts, rfl, hz, ?_⟩
    exact q
def cat (ns : List Int) (k : Int) : Int := ns.getD k.toNat 0
theorem atI_ints {ns : List Int} {k : Int} (h0 : 0 ≤ k) (h : k < (ns.map V.int).length) : atI (ns.map V.int) k = some (.int (cat ns k)) := by
  obtain ⟨n, rfl⟩ : ∃ n : Nat, k = n := ⟨k.toNat, by omega⟩
  rw [List.length_map] at h
  refine atI_nat ?_
  rw [List.getElem?_map, List.getElem?_eq_getElem (by omega)]
  simp only [cat, Int.toNat_natCast, Option.map_some, List.getD_eq_getElem?_getD, List.getElem?_eq_getElem (show n < ns.length by omega), Option.getD_some]
theorem cat_out {ns : List Int} {k : Int} (h0 : 0 ≤ k) (h : ¬ k < (ns.map V.int).length) : cat ns k = 0 := by
  rw [List.length_map] at h
  unfold cat
  rw [List.getD_eq_getElem?_getD, List.getElem?_eq_none (by omega)]
  rfl
def sp__law_cell_at (K : PySem.W.Frag) : Sp := fun vs H Q _ => ∃ a ns k, vs = [.ref a, .int k] ∧ SqL K H a (ns.map V.int) ∧ 0 ≤ k ∧ Q (.int (cat ns k)) H
theorem sc__law_cell_at : FnScope ["_law_script", "_law_k"] ["_law_script", "_law_k"] (defScope s__law_cell_at) := ⟨rfl, rfl, rfl, by decide +kernel, rfl, by decide +kernel, by decide +kernel⟩
theorem ok__law_cell_at {ca : Bool} (T : Txt K mg A) : FnOk P w K mg base (CXE P w) ca 1 A.f__law_cell_at A.d__law_cell_at ["_law_script", "_law_k"] (sp__law_cell_at K) := by
  refine T.fn__law_cell_at.okE sc__law_cell_at (fun vs H Q E h => ?_) (fun cdv A' outer s H vs Q E hr hx h => ?_)
  · obtain ⟨a, ns, k, rfl, hS, h0, q⟩ := h
    rfl
  · obtain ⟨a, ns, k, rfl, hS, h0, q⟩ := h
    refine ⟨_, JSs.run (j_pss_cons (j_ps_if (j_pt_cmpR j_c_lt (j_cv 1) (j_pe_callBF j_c_lenS (by rfl) T.n_len PyProof.Rows.Boot.«len» (j_pa_c (j_cv 0) j_pa_nil)) (nomark _)) (j_pss_one (j_ps_ret (j_pe_ix j_c_ixS (j_cv 0) (j_cv 1) (fun _ _ => rfl)))) j_pss_nil)
      (j_pss_one (j_ps_ret j_pe_int))), ?_⟩
    simp only [tRet, tNext, tSeq, tIfS, tTest, tOp, tCB, tCons, tNil, tC, cVar, cLt, cCmp, cIxS, cLenS, cxOf_K, Int.reduceAdd, L2.start, List.map_cons, List.map_nil, List.length_cons, List.length_nil, List.replicate, List.append_nil, List.getElem?_cons_zero, List.getElem?_cons_succ, V.int.injEq, V.bl.injEq, V.str.injEq, V.ref.injEq, V.ty.injEq, List.cons.injEq, Option.some.injEq, exists_eq_left', decide_eq_true_eq, Nat.reduceAdd, Nat.sub_self]
    refine ⟨_, hS, ?_⟩
    split <;> rename_i h
    · refine ⟨_, hS, ?_⟩
      rw [atI_ints h0 h]; exact q
    · rw [cat_out h0 h] at q; exact q
def sp__law_next : Sp := fun vs H Q _ => ∃ x, vs = [.int x] ∧ ∀ y, 0 ≤ y → Q (.int y) H
theorem sc__law_next : FnScope ["_law_seed"] ["_law_seed"] (defScope s__law_next) := ⟨rfl, rfl, rfl, by decide +kernel, rfl, by decide +kernel, by decide +kernel⟩
theorem ok__law_next {ca : Bool} (T : Txt K mg A) : FnOk P w K mg base (CXE P w) ca 1 A.f__law_next A.d__law_next ["_law_seed"] sp__law_next := by
  refine T.fn__law_next.okE sc__law_next (fun vs H Q E h => ?_) (fun cdv A' outer s H vs Q E hr hx h => ?_)
  · obtain ⟨x, rfl, q⟩ := h
    rfl
  · obtain ⟨x, rfl, q⟩ := h
    refine ⟨_, JSs.run (j_pss_one (j_ps_ret (j_pe_op j_c_mod (j_pe_op j_c_add (j_pe_op j_c_mul (j_cv 0) j_pe_int) j_pe_int) j_pe_int))), ?_⟩
    simp only [tRet, tOp, tC, cVar, cAdd, cMul, cMod, CMul, or_true, Int.reduceLT, Nat.reduceLT, Int.reduceNeg, Int.reducePow, Int.reduceAdd, L2.start, List.map_cons, List.map_nil, List.length_cons, List.length_nil, List.replicate, List.append_nil, List.getElem?_cons_zero, and_true, true_and, Nat.reduceAdd, Nat.sub_self]
    exact q _ (by omega)
def sp__law_is_hand : Sp := fun vs H Q _ => ∃ h, vs = [.int h] ∧ 0 ≤ h ∧ h < 3 ∧ Q (.bl true) H
theorem sc__law_is_hand : FnScope ["_law_thing"] ["_law_thing"] (defScope s__law_is_hand) := ⟨rfl, rfl, rfl, by decide +kernel, rfl, by decide +kernel, by decide +kernel⟩
theorem ok__law_is_hand {ca : Bool} (T : Txt K mg A) : FnOk P w K mg base (CXE P w) ca 1 A.f__law_is_hand A.d__law_is_hand ["_law_thing"] sp__law_is_hand := by
  refine T.fn__law_is_hand.okE sc__law_is_hand (fun vs H Q E h => ?_) (fun cdv A' outer s H vs Q E hr hx h => ?_)
  · obtain ⟨h, rfl, h0, h3, q⟩ := h
    rfl
  · obtain ⟨h, rfl, h0, h3, q⟩ := h
    refine ⟨_, JSs.run (j_pss_one (j_ps_ret (j_pe_and (j_pe_callBF j_call_isi (by rfl) T.n_isinstance PyProof.Rows.Boot.«isinstance» (j_pa_c (j_cv 0) (j_pa_c (j_pe_ty T.n_int PyProof.Rows.Boot.«int») j_pa_nil))) (j_pe_and (j_pe_not (j_pe_callBF j_call_isi (by rfl) T.n_isinstance PyProof.Rows.Boot.«isinstance» (j_pa_c (j_cv 0) (j_pa_c (j_pe_ty T.n_bool PyProof.Rows.Boot.«bool») j_pa_nil)))) (j_pe_one (j_pe_chain j_c_le j_c_lt j_pe_int (j_cv 0) j_pe_int)))))), ?_⟩
    simp only [tRet, tAndV, tNotV, tCB, tCons, tNil, tC, cVar, cLt, cLe, cCmp, tChain, rIsi, kitV, cxOf_K, Int.reduceAdd, Bool.not_eq_true', L2.start, List.map_cons, List.map_nil, List.length_cons, List.length_nil, List.replicate, List.append_nil, List.getElem?_cons_zero, V.int.injEq, V.bl.injEq, V.str.injEq, V.ref.injEq, V.ty.injEq, List.cons.injEq, Option.some.injEq, true_and, exists_eq_left', ite_true, decide_eq_true_eq, Nat.reduceAdd, Nat.sub_self, tyo, OkTy, T.kt_int_int, T.kt_int_bool]
    rw [if_pos h0, decide_eq_true h3]
    exact q
/-- a cell of the law's own -/
def Un (F m : Nat) (u : U) : Prop := ∀ j, u = .c j → F ≤ j ∧ j < m
def sp__law_cells : Sp := fun vs H Q _ => ∃ sd lh lc lf ra s fk ld du dv F, vs = [.ref sd, .ref ld] ∧ SAt H sd lh lc lf ra s fk ∧ H ld = some (.lst dv) ∧ UVs H du dv ∧ du.length ≤ 50 ∧ (∀ k, Un F s.cs.length (du.getD k .n)) ∧
  ∀ l H' (ks : List Nat), Same H H' → H l = none → H' l = some (.lst (ks.map fun k : Nat => V.int k)) → (∀ k ∈ ks, k < du.length ∧ ∃ j, du.getD k .n = .c j ∧ (s.cs.getD j []) ≠ []) → ks.length ≤ 50 → Q (.ref l) H'
theorem sc__law_cells : FnScope ["_law_s", "_law_due_here"] ["_law_s", "_law_due_here"] (defScope s__law_cells) := ⟨rfl, rfl, rfl, by decide +kernel, rfl, by decide +kernel, by decide +kernel⟩
theorem ok__law_cells (T : Txt K mg A) : FnOk P w K mg base (CXE P w) true 1 A.f__law_cells A.d__law_cells ["_law_s", "_law_due_here"] sp__law_cells := by
  refine T.fn__law_cells.okE sc__law_cells (fun vs H Q E h => ?_) (fun cdv A' outer s H vs Q E hr hx h => ?_)
  · obtain ⟨sd, lh, lc, lf, ra, s0, fk, ld, du, dv, F, rfl, st, ed, ud, d50, un, q⟩ := h
    rfl
  · obtain ⟨sd, lh, lc, lf, ra, s0, fk, ld, du, dv, F, rfl, st, ed, ud, d50, un, q⟩ := h
    refine ⟨_, JSs.run (j_pss_one (j_ps_ret (j_pe_comp (fsc := defScope s__law_cells) (N2 := ["_law_s", "_law_due_here"]) (js := [0, 1]) ⟨rfl, rfl, by decide +kernel, by decide +kernel, by decide +kernel, by decide +kernel, by decide +kernel, by decide +kernel, by decide +kernel⟩ rfl rfl (by rfl) (j_pi_range1 rfl T.n_range (j_pa_c (j_pe_callBF j_c_len (by rfl) T.n_len PyProof.Rows.Boot.«len» (j_pa_c (j_cv 1) j_pa_nil)) j_pa_nil)) (fun _ _ _ _ => (j_pifs_one (j_PW_pt (j_pw_and (jb_truth (j_pe_callBF jb_isi (by rfl) T.n_isinstance PyProof.Rows.Boot.«isinstance» (j_pa_c (j_pe_ix j_c_ix (j_cv 2) (j_cv 0) (fun _ _ => rfl)) (j_pa_c (j_pe_ty T.n_tuple PyProof.Rows.Boot.«tuple») j_pa_nil))) (fun _ => rfl)) (j_pw_and1 (j_pt_cmpR (j_c_neA (hu8 hr)) (j_pe_ix j_c_ix (j_c_dget (by exact hu_of hr) (j_cv 1) j_pe_str (fun _ _ => rfl)) (j_pe_ix j_c_ix (j_pe_ix j_c_ix (j_cv 2) (j_cv 0) (fun _ _ => rfl)) j_pe_int (fun _ _ => rfl)) (fun _ _ => rfl)) (j_pe_lst j_pa_nil) (nomark _))))))) (fun _ _ _ _ => (j_cv 0))))), ?_⟩
    have hdl := ud.len
    simp only [tRet, tOp, tCB, tCons, tNil, tC, cVar, rIsi, kitV, cIx, cLen, cxOf_K, TruV, Int.reduceNeg, Int.reducePow, Int.reduceAdd, tComp, capt, iRng1, L2.start, List.map_cons, List.map_nil, List.length_cons, List.length_nil, List.replicate, List.append_nil, List.getElem?_cons_zero, List.getElem?_cons_succ, V.int.injEq, V.bl.injEq, V.str.injEq, V.ref.injEq, V.ty.injEq, List.cons.injEq, Option.some.injEq, and_true, exists_eq_left', exists_eq_left, Nat.reduceAdd, Nat.sub_self, ed]
    refine ⟨by omega, by omega, ?_⟩
    refine compW_rangeG (fun i ys H' => Same H H' ∧ ∃ ks : List Nat, ys = ks.map (fun k : Nat => V.int k) ∧ ks.length ≤ i ∧ ∀ k ∈ ks, k < du.length ∧ ∃ j, du.getD k .n = .c j ∧ (s0.cs.getD j []) ≠ []) ⟨Same.refl _, [], rfl, Nat.le_refl _, fun k hk => by simp at hk⟩ (Nat.le_trans (show _ ≤ 100 by omega) (by decide)) (fun i ys H' ⟨_, ks, e, hl, _⟩ => by rw [e, List.length_map]; exact hl) ?_ ?_
    · rintro i ys H1 hi ⟨s1, ks, rfl, hl, hk⟩ K1 hK
      rw [show (0 + (i : Int)) = (i : Int) by omega]
      have hid : i < du.length := by omega
      obtain ⟨v, hv, av⟩ := ud.get hid
      have eg : atI dv (i : Int) = some v := by rw [atI_cast]; exact hv
      cases eu : du.getD i .n with
      | n =>
        rw [eu] at av
        cases av
        simp only [tTest, tOp, tAnd, tC, cVar, cIx, cDGet, keyV, List.getElem?_cons_zero, List.getElem?_cons_succ, true_and, ite_false, Bool.false_eq_true, s1 _ _ ed, eg, tyo, OkTy, Option.join_some, T.kt_NoneType_tuple]
        exact hK _ _ ⟨s1, ks, rfl, by omega, hk⟩
      | i x =>
        rw [eu] at av
        cases av
        simp only [tTest, tOp, tAnd, tC, cVar, cIx, cDGet, keyV, List.getElem?_cons_zero, List.getElem?_cons_succ, true_and, ite_false, Bool.false_eq_true, s1 _ _ ed, eg, tyo, OkTy, Option.join_some, T.kt_int_tuple]
        exact hK _ _ ⟨s1, ks, rfl, by omega, hk⟩
      | c j =>
        rw [eu] at av
        obtain ⟨a, rfl, ea⟩ := av
        have st1 := st.same s1
        have hj := (un i j eu).2
        have hjr : j < ra.length := by rw [st.rl]; exact hj
        obtain ⟨rs, er, ur⟩ := st1.rw j _ (List.getElem?_eq_getElem hjr)
        have aj : atI (ra.map V.ref) (j : Int) = some (.ref ra[j]) := by rw [atI_cast, List.getElem?_map, List.getElem?_eq_getElem hjr]; rfl
        simp only [tTest, tOp, tAnd, tNil, tC, cVar, tLst, eqv, cIx, Bool.not_eq_true', upd_same, cNeA, cNeL, cDGet, keyV, atI_1, List.length_nil, List.getElem?_cons_zero, List.getElem?_cons_succ, V.int.injEq, V.bl.injEq, V.str.injEq, V.ref.injEq, V.ty.injEq, List.cons.injEq, Option.some.injEq, true_and, exists_eq_left', ite_true, ite_false, Bool.false_eq_true, sz0, s1 _ _ ed, eg, tyo, OkTy, Option.join_some, T.kt_tuple_tuple, s1 _ _ ea, st1.ob, sKV_c, st1.cl, aj]
        intro p hp
        have s2 := Same.upd (o := .lst []) hp
        rw [s2 _ _ er]
        dsimp only
        cases rs with
        | nil => exact hK _ _ ⟨s1.trans s2, ks, rfl, by omega, hk⟩
        | cons r rs =>
          rw [if_neg (by simp)]
          refine hK _ _ ⟨s1.trans s2, ks ++ [i], by rw [List.map_append]; rfl, by rw [List.length_append]; show ks.length + 1 ≤ _; omega, fun k hk' => ?_⟩
          rcases List.mem_append.mp hk' with m | m
          · exact hk k m
          · rw [List.mem_singleton] at m
            subst m
            exact ⟨hid, j, eu, fun z => by rw [z] at ur; exact ur.elim⟩
    · rintro ys H1 ⟨s1, ks, rfl, hl, hk⟩ l hl'
      exact q _ _ ks (s1.trans (Same.upd hl')) (same_none s1 hl') upd_same hk (by omega)
/-- what a statement needs -/
def Sm.fit (ts : List Str) (s : Hc) (du : List U) : Sm → Prop
  | .make a n => a ∈ ts ∧ 0 ≤ n ∧ n ≤ 8
  | .keep a _ => a ∈ ts
  | .copy a b => a ∈ ts ∧ b ∈ ts
  | .drop a => a ∈ ts
  | .get a b k => a ∈ ts ∧ b ∈ ts ∧ 0 ≤ k ∧ ∃ j, du.getD (ts.idxOf b) .n = .c j ∧ k.toNat < (s.cs.getD j []).length
  | .set a k b => a ∈ ts ∧ b ∈ ts ∧ 0 ≤ k ∧ ∃ j, du.getD (ts.idxOf a) .n = .c j ∧ k.toNat < (s.cs.getD j []).length
  | .tell a => a ∈ ts
theorem Sm.fit.ok {ts : List Str} {s : Hc} {du : List U} {st : Sm} (h : st.fit ts s du) : st.ok ts := by
  cases st with
  | make a n => exact h.1
  | keep a n => exact h
  | copy a b => exact h
  | drop a => exact h
  | get a b k => exact ⟨h.1, h.2.1⟩
  | set a k b => exact ⟨h.1, h.2.1⟩
  | tell a => exact h
/-- what the names stand for behind a statement -/
def duN (ts : List Str) (s : Hc) (du : List U) : Sm → List U
  | .make a _ => du.set (ts.idxOf a) (.c s.cs.length)
  | .keep a x => du.set (ts.idxOf a) (.i x)
  | .copy a b => du.set (ts.idxOf a) (du.getD (ts.idxOf b) .n)
  | .drop a => du.set (ts.idxOf a) .n
  | .get a b k => (match du.getD (ts.idxOf b) .n with
    | .c j => du.set (ts.idxOf a) ((s.cs.getD j []).getD k.toNat .n)
    | _ => du)
  | .set _ _ _ => du
  | .tell _ => du
def Sm.word : Sm → Str
  | .make _ _ => "make"
  | .keep _ _ => "keep"
  | .copy _ _ => "copy"
  | .drop _ => "drop"
  | .get _ _ _ => "get"
  | .set _ _ _ => "set"
  | .tell _ => "tell"
def Sm.name : Sm → Str
  | .make a _ => a
  | .keep a _ => a
  | .copy a _ => a
  | .drop a => a
  | .get a _ _ => a
  | .set a _ _ => a
  | .tell a => a
theorem Sm.vs0 {sm : Sm} : sm.vs[0]? = some (V.str sm.word) := by cases sm <;> rfl
theorem Sm.vs1 {sm : Sm} : sm.vs[1]? = some (V.str sm.name) := by cases sm <;> rfl
theorem Sm.fit.name {ts : List Str} {s : Hc} {du : List U} {st : Sm} (h : st.fit ts s du) : st.name ∈ ts := by
  cases st with
  | make a n => exact h.1
  | keep a n => exact h
  | copy a b => exact h.1
  | drop a => exact h
  | get a b k => exact h.1
  | set a k b => exact h.1
  | tell a => exact h
theorem tup_upd' {H : Hp} {l : Addr} {vs us : List V} (e : H l = some (.lst vs)) : ∀ a xs, H a = some (.tup xs) → upd H l (.lst us) a = some (.tup xs) := fun a xs h => by
  rw [upd_ne (fun z => by subst z; rw [e] at h; cases h)]; exact h
def sp__law_due : Sp := fun vs H Q _ => ∃ sd lh lc lf ra s fk ln ld p, ∃ ts : List Str, ∃ du dv F, ∃ sm : Sm, vs = [.ref sd, .ref ln, .ref ld, .ref p] ∧ SAt H sd lh lc lf ra s fk ∧ H ln = some (.lst (ts.map V.str)) ∧ ts.length = du.length ∧ H ld = some (.lst dv) ∧ UVs H du dv ∧ (∀ k, Un F s.cs.length (du.getD k .n)) ∧ H p = some (.tup sm.vs) ∧ sm.fit ts s du ∧
  ∀ l H' vs, Same H H' → H l = none → H' l = some (.lst vs) → UVs H' (duN ts s du sm) vs → Q (.ref l) H'
theorem sc__law_due : FnScope ["_law_s", "_law_names_here", "_law_due_here", "_law_statement_here", "_law_word", "_law_place", "_law_fresh", "_law_held"] ["_law_s", "_law_names_here", "_law_due_here", "_law_statement_here"] (defScope s__law_due) := ⟨rfl, rfl, rfl, by decide +kernel, rfl, by decide +kernel, by decide +kernel⟩
theorem ok__law_due (T : Txt K mg A) : FnOk P w K mg base (CXE P w) true 1 A.f__law_due A.d__law_due ["_law_s", "_law_names_here", "_law_due_here", "_law_statement_here"] sp__law_due := by
  refine T.fn__law_due.okE sc__law_due (fun vs H Q E h => ?_) (fun cdv A' outer s H vs Q E hr hx h => ?_)
  · obtain ⟨sd, lh, lc, lf, ra, s0, fk, ln, ld, p, ts, du, dv, F, sm, rfl, st, en, hn, ed, ud, un, ep, fit, q⟩ := h
    rfl
  · obtain ⟨sd, lh, lc, lf, ra, s0, fk, ln, ld, p, ts, du, dv, F, sm, rfl, st, en, hn, ed, ud, un, ep, fit, q⟩ := h
    refine ⟨_, JSs.run (j_pss_cons (j_ps_set (i := 4) sc__law_due.nd rfl (by first | exact Or.inl rfl | exact Or.inr rfl) (j_pe_ix j_c_ix (j_cv 3) j_pe_int (fun _ _ => rfl)))
      (j_pss_cons (j_ps_set (i := 5) sc__law_due.nd rfl (by first | exact Or.inl rfl | exact Or.inr rfl) (j_c_bm PySem.F.slot_list_index PySem.F.type_list_index j_c_indexS (j_cv 1) (j_pa_c (j_pe_ix j_c_ix (j_cv 3) j_pe_int (fun _ _ => rfl)) j_pa_nil)))
      (j_pss_cons (j_ps_set (i := 6) sc__law_due.nd rfl (by first | exact Or.inl rfl | exact Or.inr rfl) (j_pe_callTyF j_c_list (by rfl) T.n_list PyProof.Rows.Boot.«list» (j_pa_c (j_cv 2) j_pa_nil)))
      (j_pss_cons (j_ps_if (j_pt_cmpR (j_c_eqA (hu8 hr)) (j_cv 4) j_pe_str (nomark _)) (j_pss_one (j_ps_asg (j_pe_tup (j_pa_c j_pe_str (j_pa_c (j_pe_callBF j_c_len (by rfl) T.n_len PyProof.Rows.Boot.«len» (j_pa_c (j_c_dget (by exact hu_of hr) (j_cv 0) j_pe_str (fun _ _ => rfl)) j_pa_nil)) j_pa_nil))) (j_pg_sub (j_cv 6) (j_cv 5) j_c_set))) j_pss_nil)
      (j_pss_cons (j_ps_if (j_pt_cmpR (j_c_eqA (hu8 hr)) (j_cv 4) j_pe_str (nomark _)) (j_pss_one (j_ps_asg (j_pe_ix j_c_ix (j_cv 3) j_pe_int (fun _ _ => rfl)) (j_pg_sub (j_cv 6) (j_cv 5) j_c_set))) j_pss_nil)
      (j_pss_cons (j_ps_if (j_pt_cmpR (j_c_eqA (hu8 hr)) (j_cv 4) j_pe_str (nomark _)) (j_pss_one (j_ps_asg (j_pe_ix j_c_ix (j_cv 2) (j_c_bm PySem.F.slot_list_index PySem.F.type_list_index j_c_indexS (j_cv 1) (j_pa_c (j_pe_ix j_c_ix (j_cv 3) j_pe_int (fun _ _ => rfl)) j_pa_nil)) (fun _ _ => rfl)) (j_pg_sub (j_cv 6) (j_cv 5) j_c_set))) j_pss_nil)
      (j_pss_cons (j_ps_if (j_pt_cmpR (j_c_eqA (hu8 hr)) (j_cv 4) j_pe_str (nomark _)) (j_pss_one (j_ps_asg j_pe_non (j_pg_sub (j_cv 6) (j_cv 5) j_c_set))) j_pss_nil)
      (j_pss_cons (j_ps_if (j_pt_cmpR (j_c_eqA (hu8 hr)) (j_cv 4) j_pe_str (nomark _)) (j_pss_cons (j_ps_set (i := 7) sc__law_due.nd rfl (by first | exact Or.inl rfl | exact Or.inr rfl) (j_pe_ix j_c_ix (j_cv 2) (j_c_bm PySem.F.slot_list_index PySem.F.type_list_index j_c_indexS (j_cv 1) (j_pa_c (j_pe_ix j_c_ix (j_cv 3) j_pe_int (fun _ _ => rfl)) j_pa_nil)) (fun _ _ => rfl)))
      (j_pss_one (j_ps_asg (j_pe_ix j_c_ix (j_pe_ix j_c_ix (j_c_dget (by exact hu_of hr) (j_cv 0) j_pe_str (fun _ _ => rfl)) (j_pe_ix j_c_ix (j_cv 7) j_pe_int (fun _ _ => rfl)) (fun _ _ => rfl)) (j_pe_ix j_c_ix (j_cv 3) j_pe_int (fun _ _ => rfl)) (fun _ _ => rfl)) (j_pg_sub (j_cv 6) (j_cv 5) j_c_set)))) j_pss_nil)
      (j_pss_one (j_ps_ret (j_cv 6))))))))))), ?_⟩
    have hdl := ud.len
    have hz := fit.name
    have hz' := List.idxOf_lt_length_iff.mpr hz
    show tSeq _ _ _ [some (V.ref sd), some (V.ref ln), some (V.ref ld), some (V.ref p), none, none, none, none] H
    refine seq_mid (fun σ' H' => H = H' ∧ σ' = [some (V.ref sd), some (V.ref ln), some (V.ref ld), some (V.ref p), some (V.str sm.word), none, none, none]) (fun R hR => ?_) ?_
    · simp only [tOp, tC, cVar, tAsg, gName, cIx, atI_0, List.getElem?_cons_zero, List.getElem?_cons_succ, List.set_cons_zero, List.set_cons_succ, ep, atI_0, Sm.vs0]
      exact hR _ _ ⟨rfl, rfl⟩
    rintro _ _ ⟨rfl, rfl⟩
    refine seq_mid (fun σ' H' => H = H' ∧ σ' = [some (V.ref sd), some (V.ref ln), some (V.ref ld), some (V.ref p), some (V.str sm.word), some (V.int (ts.idxOf sm.name)), none, none]) (fun R hR => ?_) ?_
    · simp only [tOp, tCons, tNil, tC, cVar, tAsg, gName, cIx, cBM, atI_1, List.getElem?_cons_zero, List.getElem?_cons_succ, List.set_cons_zero, List.set_cons_succ, cIndexS, ep, en, Sm.vs1]
      exact ⟨ts, rfl, hz, hR _ _ ⟨rfl, rfl⟩⟩
    rintro _ _ ⟨rfl, rfl⟩
    refine seq_mid (fun σ' H' => ∃ l, H l = none ∧ Same H H' ∧ H' l = some (.lst dv) ∧ σ' = [some (V.ref sd), some (V.ref ln), some (V.ref ld), some (V.ref p), some (V.str sm.word), some (V.int (ts.idxOf sm.name)), some (V.ref l), none]) (fun R hR => ?_) ?_
    · simp only [tCB, tCons, tNil, cVar, tAsg, gName, cList, List.getElem?_cons_zero, List.getElem?_cons_succ, List.set_cons_zero, List.set_cons_succ, ed]
      exact fun l hl => hR _ _ ⟨l, hl, Same.upd hl, upd_same, rfl⟩
    rintro _ H1 ⟨l, hl, s1, el, rfl⟩
    have st1 := st.same s1
    have ed1 := s1 _ _ ed
    have en1 := s1 _ _ en
    have ep1 := s1 _ _ ep
    have ix : ixN dv.length (ts.idxOf sm.name) = some (ts.idxOf sm.name) := ixN_cast (by omega)
    have q1 : ∀ u v H2, Same H1 H2 → u.at H2 v → duN ts s0 du sm = du.set (ts.idxOf sm.name) u → Q (V.ref l) (upd H2 l (.lst (dv.set (ts.idxOf sm.name) v))) := fun u v H2 s2 au e => by
      have el2 := s2 _ _ el
      refine q l _ _ ((s1.trans s2).put hl) hl upd_same ?_
      rw [e]
      exact ((ud.mono fun a xs h => (s1.trans s2) _ _ h).set au).mono (tup_upd' el2)
    cases sm with
    | make a n =>
      simp only [Sm.vs, Sm.word, Sm.name] at *
      simp only [tRet, tNext, tSeq, tIfS, tTest, tOp, tCB, tCons, tNil, tC, cVar, tTup, tAsg, gName, eqv, cIx, cLen, Int.reduceEq, Int.reduceAdd, ofs_inj, String.reduceEq, upd_same, decide_true, decide_false, cEqA, cSetL, cBM, cDGet, keyV, gSub, atI_2, atI_3, List.length_cons, List.length_nil, List.getElem?_cons_zero, List.getElem?_cons_succ, List.set_cons_zero, List.set_cons_succ, V.int.injEq, V.bl.injEq, V.str.injEq, V.ref.injEq, V.ty.injEq, List.cons.injEq, Option.some.injEq, true_and, exists_eq_left', ite_true, ite_false, Bool.false_eq_true, Nat.reduceAdd, sz2, cIndexS, st1.ob, sKV_c, st1.cl]
      intro p1 hp1
      have s2 := Same.upd (o := .tup [V.str (Str.ofString "cell"), V.int ((ra.map V.ref).length : Nat)]) hp1
      rw [s2 _ _ el]
      dsimp only
      rw [ix]
      exact q1 (.c s0.cs.length) _ _ s2 ⟨p1, rfl, by rw [upd_same, List.length_map, st.rl]⟩ rfl
    | keep a x =>
      simp only [Sm.vs, Sm.word, Sm.name] at *
      simp only [tRet, tNext, tSeq, tIfS, tTest, tOp, tCB, tCons, tNil, tC, cVar, tTup, tAsg, gName, eqv, cIx, cLen, Int.reduceEq, Int.reduceAdd, ofs_inj, String.reduceEq, upd_same, decide_true, decide_false, cEqA, cSetL, cBM, cDGet, keyV, gSub, atI_2, atI_3, List.length_cons, List.length_nil, List.getElem?_cons_zero, List.getElem?_cons_succ, List.set_cons_zero, List.set_cons_succ, V.int.injEq, V.bl.injEq, V.str.injEq, V.ref.injEq, V.ty.injEq, List.cons.injEq, Option.some.injEq, true_and, exists_eq_left', ite_true, ite_false, Bool.false_eq_true, Nat.reduceAdd, sz2, cIndexS, ep1, el, ix]
      exact q1 (.i x) _ _ (Same.refl _) rfl rfl
    | copy a b =>
      simp only [Sm.vs, Sm.word, Sm.name] at *
      simp only [tRet, tNext, tSeq, tIfS, tTest, tOp, tCB, tCons, tNil, tC, cVar, tTup, tAsg, gName, eqv, cIx, cLen, Int.reduceEq, Int.reduceAdd, ofs_inj, String.reduceEq, upd_same, decide_true, decide_false, cEqA, cSetL, cBM, cDGet, keyV, gSub, atI_2, atI_3, List.length_cons, List.length_nil, List.getElem?_cons_zero, List.getElem?_cons_succ, List.set_cons_zero, List.set_cons_succ, V.int.injEq, V.bl.injEq, V.str.injEq, V.ref.injEq, V.ty.injEq, List.cons.injEq, Option.some.injEq, true_and, exists_eq_left', ite_true, ite_false, Bool.false_eq_true, Nat.reduceAdd, sz2, cIndexS, ep1, en1, ed1, el, ix]
      obtain ⟨v, hv, av⟩ := ud.get (j := ts.idxOf b) (by rw [← hn]; exact List.idxOf_lt_length_iff.mpr fit.2)
      refine ⟨ts, rfl, fit.2, ?_⟩
      rw [atI_cast, hv]
      exact q1 _ v _ (Same.refl _) (av.mono fun a xs h => s1 _ _ h) rfl
    | drop a =>
      simp only [Sm.vs, Sm.word, Sm.name] at *
      simp only [tRet, tNext, tSeq, tIfS, tTest, tOp, tCB, tCons, tNil, tC, cVar, tTup, tAsg, gName, eqv, cIx, cLen, Int.reduceEq, Int.reduceAdd, ofs_inj, String.reduceEq, upd_same, decide_true, decide_false, cEqA, cSetL, cBM, cDGet, keyV, gSub, atI_2, atI_3, List.length_cons, List.length_nil, List.getElem?_cons_zero, List.getElem?_cons_succ, List.set_cons_zero, List.set_cons_succ, V.int.injEq, V.bl.injEq, V.str.injEq, V.ref.injEq, V.ty.injEq, List.cons.injEq, Option.some.injEq, true_and, exists_eq_left', ite_true, ite_false, Bool.false_eq_true, Nat.reduceAdd, sz2, cIndexS, el, ix]
      exact q1 .n _ _ (Same.refl _) rfl rfl
    | get a b k =>
      simp only [Sm.vs, Sm.word, Sm.name] at *
      simp only [tRet, tNext, tSeq, tIfS, tTest, tOp, tCB, tCons, tNil, tC, cVar, tTup, tAsg, gName, eqv, cIx, cLen, Int.reduceEq, Int.reduceAdd, ofs_inj, String.reduceEq, upd_same, decide_true, decide_false, cEqA, cSetL, cBM, cDGet, keyV, gSub, atI_2, atI_3, List.length_cons, List.length_nil, List.getElem?_cons_zero, List.getElem?_cons_succ, List.set_cons_zero, List.set_cons_succ, V.int.injEq, V.bl.injEq, V.str.injEq, V.ref.injEq, V.ty.injEq, List.cons.injEq, Option.some.injEq, true_and, exists_eq_left', ite_true, ite_false, Bool.false_eq_true, Nat.reduceAdd, sz2, cIndexS, ep1, en1, ed1, st1.ob, sKV_c, st1.cl, el, ix]
      obtain ⟨fa, fb, k0, j, hj, hk⟩ := fit
      obtain ⟨v, hv, av⟩ := ud.get (j := ts.idxOf b) (by rw [← hn]; exact List.idxOf_lt_length_iff.mpr fb)
      refine ⟨ts, rfl, fb, ?_⟩
      rw [atI_cast, hv]
      have hjl := (un _ j hj).2
      have hjr : j < ra.length := by rw [st.rl]; exact hjl
      rw [hj] at av
      obtain ⟨t, rfl, et⟩ := av
      obtain ⟨rs, er, ur⟩ := st1.rw j _ (List.getElem?_eq_getElem hjr)
      obtain ⟨w', hw, aw⟩ := ur.get hk
      have aj : atI (ra.map V.ref) (j : Int) = some (.ref ra[j]) := by rw [atI_cast, List.getElem?_map, List.getElem?_eq_getElem hjr]; rfl
      have ak : atI rs k = some w' := by rw [atI_in k0 (by rw [ur.len]; omega)]; exact hw
      dsimp only
      rw [s1 _ _ et]
      dsimp only
      rw [show atI [V.str (Str.ofString "cell"), V.int (j : Int)] 1 = some (V.int j) from rfl]
      dsimp only
      rw [st1.cl]
      dsimp only
      rw [aj]
      dsimp only
      rw [er]
      dsimp only
      rw [ak]
      exact q1 _ w' _ (Same.refl _) aw (by unfold duN; dsimp only; rw [hj])
    | set a k b =>
      simp only [Sm.vs, Sm.word, Sm.name] at *
      simp only [tRet, tNext, tSeq, tIfS, tTest, tOp, tCB, tCons, tNil, tC, cVar, tTup, tAsg, gName, eqv, cIx, cLen, Int.reduceEq, Int.reduceAdd, ofs_inj, String.reduceEq, upd_same, decide_false, cEqA, cSetL, cBM, cDGet, keyV, gSub, atI_2, atI_3, List.length_cons, List.length_nil, List.getElem?_cons_zero, List.getElem?_cons_succ, List.set_cons_zero, List.set_cons_succ, V.int.injEq, V.bl.injEq, V.str.injEq, V.ref.injEq, V.ty.injEq, List.cons.injEq, Option.some.injEq, true_and, exists_eq_left', ite_false, Bool.false_eq_true, Nat.reduceAdd, sz2, cIndexS]
      exact q l _ _ s1 hl el (ud.mono fun a xs h => s1 _ _ h)
    | tell a =>
      simp only [Sm.vs, Sm.word, Sm.name] at *
      simp only [tRet, tNext, tSeq, tIfS, tTest, tOp, tCB, tCons, tNil, tC, cVar, tTup, tAsg, gName, eqv, cIx, cLen, Int.reduceEq, Int.reduceAdd, ofs_inj, String.reduceEq, upd_same, decide_false, cEqA, cSetL, cBM, cDGet, keyV, gSub, atI_2, atI_3, List.length_cons, List.length_nil, List.getElem?_cons_zero, List.getElem?_cons_succ, List.set_cons_zero, List.set_cons_succ, V.int.injEq, V.bl.injEq, V.str.injEq, V.ref.injEq, V.ty.injEq, List.cons.injEq, Option.some.injEq, true_and, exists_eq_left', ite_false, Bool.false_eq_true, Nat.reduceAdd, sz2, cIndexS]
      exact q l _ _ s1 hl el (ud.mono fun a xs h => s1 _ _ h)
def sp_walked : Sp := fun vs H Q _ => ∃ (f : Nat) (h : Int), vs = [.int f, .int h] ∧ f ≤ 100 ∧ ∀ l H', Same H H' → H l = none → DsAt H' (walkD f h) l → Q (.ref l) H'
theorem sc_walked : FnScope ["frame", "hand"] ["frame", "hand"] (defScope s_walked) := ⟨rfl, rfl, rfl, by decide +kernel, rfl, by decide +kernel, by decide +kernel⟩
theorem ok_walked (T : Txt K mg A) : FnOk P w K mg base (CXE P w) true 2 A.f_walked A.d_walked ["frame", "hand"] sp_walked := by
  refine T.fn_walked.okE sc_walked (fun vs H Q E h => ?_) (fun cdv A' outer s H vs Q E hr hx h => ?_)
  · obtain ⟨f, h, rfl, hf, q⟩ := h
    rfl
  · obtain ⟨f, h, rfl, hf, q⟩ := h
    refine ⟨_, JSs.run (j_pss_one (j_ps_ret (j_pe_comp (fsc := defScope s_walked) (N2 := ["hand"]) (js := [1]) ⟨rfl, rfl, by decide +kernel, by decide +kernel, by decide +kernel, by decide +kernel, by decide +kernel, by decide +kernel, by decide +kernel⟩ rfl rfl (by rfl) (j_pi_range1 rfl T.n_range (j_pa_c (j_cv 0) j_pa_nil)) (fun _ _ _ _ => j_pifs_nil) (fun _ _ _ _ => (j_pe_tup (j_pa_c j_pe_str (j_pa_c (j_cv 1) (j_pa_c (j_pe_callF ((ok_holder T).mono (by decide)) hr rfl T.g_holder T.fn_holder.kp T.b_holder exc_blk (j_pa_c (j_cv 0) (j_pa_c (j_cv 1) j_pa_nil))) (j_pa_c (j_pe_gv T.v_NEXT_SLOT) j_pa_nil))))))))), ?_⟩
    simp only [tRet, tCons, tNil, cVar, Int.reduceNeg, Int.reducePow, Int.reduceAdd, tComp, capt, iRng1, L2.start, List.map_cons, List.map_nil, List.length_cons, List.length_nil, List.replicate, List.append_nil, List.getElem?_cons_zero, List.getElem?_cons_succ, V.int.injEq, V.bl.injEq, V.str.injEq, V.ref.injEq, V.ty.injEq, List.cons.injEq, Option.some.injEq, and_true, exists_eq_left', Nat.reduceAdd, Nat.sub_self]
    refine ⟨by omega, by omega, ?_⟩
    refine compW_rangeG (fun i ys H' => i ≤ f ∧ Same H H' ∧ DVs H' (walkD i h) ys) ⟨Nat.zero_le _, Same.refl _, True.intro⟩ (Nat.le_trans (show _ ≤ 100 by omega) (by decide)) (fun i ys H' hP => by rw [hP.2.2.len]; unfold walkD; rw [List.length_map, List.length_range]; exact Nat.le_refl _) ?_ ?_
    · rintro i ys H1 hi ⟨_, s1, d1⟩ K1 hK
      simp only [tCons, tNil, tC, cVar, tTup, tCallE, and_assoc, Int.reduceAdd, tYes, List.length_cons, List.length_nil, List.getElem?_cons_zero, List.getElem?_cons_succ, V.int.injEq, V.bl.injEq, V.str.injEq, V.ref.injEq, V.ty.injEq, List.cons.injEq, Option.some.injEq, and_true, true_and, exists_eq_left', exists_and_left, ite_true, Nat.reduceAdd, sz4, sp_holder, Option.join_some]
      intro p hp
      rw [show (0 + (i : Int)) = (i : Int) by omega]
      refine hK _ _ ⟨by omega, s1.trans (Same.upd hp), ?_⟩
      have e : walkD (i + 1) h = walkD i h ++ [.tk h (hold i h) 7] := by unfold walkD; rw [List.range_succ, List.map_append]; rfl
      rw [e]
      exact (d1.same (Same.upd hp)).app (DVs.one upd_same)
    · rintro ys H1 ⟨_, s1, d1⟩ l hl
      rw [Int.toNat_natCast] at d1
      exact q _ _ (s1.trans (Same.upd hl)) (same_none s1 hl) ⟨ys, upd_same, d1.same (Same.upd hl)⟩
def alpha : Str := Str.ofString "abcdefghijklmnopqrstuvwxyz"
theorem alpha_len : alpha.cps.toList.length = 26 := by decide +kernel
theorem alpha_nd : alpha.cps.toList.Nodup := by decide +kernel
theorem alpha_asc : (alpha.cps.all fun c => decide (c < 128)) = true := by decide +kernel
def ab : Str := Str.ofString "ab"
theorem ab_sl {j : Int} (h2 : 2 ≤ j) (h6 : j ≤ 6) : StrLaws.sliceText ab none (some j) = ab := by
  have : j = 2 ∨ j = 3 ∨ j = 4 ∨ j = 5 ∨ j = 6 := by omega
  rcases this with rfl | rfl | rfl | rfl | rfl <;> decide +kernel
def one (c : Nat) : Str := ⟨#[c]⟩
def Nm (z : Str) (i : Nat) (c : Nat) : Str := ((⟨(z.cps.toList.take i).toArray⟩ : Str) ++ one c) ++ (⟨(z.cps.toList.drop i).toArray⟩ : Str)
theorem str_len (x y : Str) : (x ++ y).length = x.length + y.length := Str.length_append x y
theorem len_cps (x : Str) : x.length = x.cps.toList.length := rfl
theorem app_cps (x y : Str) : (x ++ y).cps.toList = x.cps.toList ++ y.cps.toList := by
  show (x.cps ++ y.cps).toList = _
  rw [Array.toList_append]
theorem Nm_cps {z : Str} {i c : Nat} : (Nm z i c).cps.toList = z.cps.toList.take i ++ [c] ++ z.cps.toList.drop i := by
  unfold Nm one; rw [app_cps, app_cps]
theorem Nm_len {z : Str} {i c : Nat} : (Nm z i c).length = z.length + 1 := by
  rw [len_cps, Nm_cps, List.length_append, List.length_append, List.length_singleton, List.length_take, List.length_drop, len_cps]; omega
theorem Nm_inj {z : Str} {i c d : Nat} (h : Nm z i c = Nm z i d) : c = d := by
  have h1 : (Nm z i c).cps.toList = (Nm z i d).cps.toList := by rw [h]
  rw [Nm_cps, Nm_cps] at h1
  have h2 := List.append_cancel_right h1
  have h3 := List.append_cancel_left h2
  injection h3
def ts1 (z : Str) (i : Nat) : List Str := alpha.cps.toList.map (Nm z i)
theorem ts1_nd {z : Str} {i : Nat} : (ts1 z i).Nodup := List.Pairwise.map _ (fun c d h e => h (Nm_inj e)) alpha_nd
theorem ts1_len {z : Str} {i : Nat} : ∀ t ∈ ts1 z i, t.length = z.length + 1 := fun t ht => by
  obtain ⟨c, _, rfl⟩ := List.mem_map.mp ht
  exact Nm_len
def ts2 (z : Str) (i : Nat) : List Str := if z.length + 1 < 7 then (ts1 z i).map (· ++ ab) else []
theorem app_inj {x y u : Str} (h : x ++ u = y ++ u) : x = y := by
  have h1 : (x ++ u).cps.toList = (y ++ u).cps.toList := by rw [h]
  rw [app_cps, app_cps] at h1
  have h2 := List.append_cancel_right h1
  cases x; cases y
  exact congrArg Str.mk (Array.toList_inj.mp h2)
theorem tsA_nd {z : Str} {i : Nat} : (ts1 z i ++ ts2 z i).Nodup := by
  rw [List.nodup_append]
  refine ⟨ts1_nd, ?_, fun t ht u hu e => ?_⟩
  · unfold ts2; split
    · exact List.Pairwise.map _ (fun c d h e => h (app_inj e)) ts1_nd
    · exact List.nodup_nil
  · unfold ts2 at hu
    split at hu
    · obtain ⟨v, hv, rfl⟩ := List.mem_map.mp hu
      have h1 := ts1_len t ht
      have h2 := ts1_len v hv
      rw [e, str_len, h2] at h1
      have : ab.length = 2 := by decide +kernel
      omega
    · cases hu
theorem tsA_len {z : Str} {i : Nat} : 26 ≤ (ts1 z i ++ ts2 z i).length ∧ (ts1 z i ++ ts2 z i).length ≤ 52 := by
  have h1 : (ts1 z i).length = 26 := by unfold ts1; rw [List.length_map, alpha_len]
  have h2 : (ts2 z i).length ≤ 26 := by
    unfold ts2; split
    · rw [List.length_map, h1]; exact Nat.le_refl _
    · exact Nat.zero_le _
  rw [List.length_append]; omega
theorem cutV_to {xs : List V} {k : Int} (h0 : 0 ≤ k) (h1 : k ≤ xs.length) : cutV xs none (some k) = xs.take k.toNat := by
  unfold cutV HT.sIx
  dsimp only
  rw [if_neg (by omega), List.drop_zero, Nat.sub_zero, Nat.min_eq_left (by omega)]
def sp__law_names (K : PySem.W.Frag) : Sp := fun vs H Q _ => ∃ a, ∃ ns : List Int, vs = [.ref a] ∧ SqL K H a (ns.map V.int) ∧ ∀ l H' (ts : List Str), Same H H' → H l = none → H' l = some (.lst (ts.map V.str)) → ts.Nodup → 1 ≤ ts.length → ts.length ≤ 42 → Q (.ref l) H'
theorem sc__law_names : FnScope ["_law_script", "_law_some", "_law_seed", "_law_base", "_law_at", "_law_names_here"] ["_law_script"] (defScope s__law_names) := ⟨rfl, rfl, rfl, by decide +kernel, rfl, by decide +kernel, by decide +kernel⟩
theorem ok__law_names (T : Txt K mg A) : FnOk P w K mg base (CXE P w) true 2 A.f__law_names A.d__law_names ["_law_script"] (sp__law_names K) := by
  refine T.fn__law_names.okE sc__law_names (fun vs H Q E h => ?_) (fun cdv A' outer s H vs Q E hr hx h => ?_)
  · obtain ⟨a, ns, rfl, hS, q⟩ := h
    rfl
  · obtain ⟨a, ns, rfl, hS, q⟩ := h
    refine ⟨_, JSs.run (j_pss_cons (j_ps_set (i := 1) sc__law_names.nd rfl (by first | exact Or.inl rfl | exact Or.inr rfl) j_pe_str)
      (j_pss_cons (j_ps_set (i := 2) sc__law_names.nd rfl (by first | exact Or.inl rfl | exact Or.inr rfl) (j_pe_callF ((ok__law_next T).mono (by decide)) hr rfl T.g__law_next T.fn__law_next.kp T.b__law_next hx (j_pa_c (j_pe_callF ((ok__law_cell_at T).mono (by decide)) hr rfl T.g__law_cell_at T.fn__law_cell_at.kp T.b__law_cell_at hx (j_pa_c (j_cv 0) (j_pa_c j_pe_int j_pa_nil))) j_pa_nil)))
      (j_pss_cons (j_ps_set (i := 3) sc__law_names.nd rfl (by first | exact Or.inl rfl | exact Or.inr rfl) (j_c_bmS PySem.F.slot_str_join PySem.F.type_str_join j_c_join j_pe_str (j_pa_c (j_pe_comp (fsc := defScope s__law_names) (N2 := ["_law_some", "_law_seed"]) (js := [1, 2]) ⟨rfl, rfl, by decide +kernel, by decide +kernel, by decide +kernel, by decide +kernel, by decide +kernel, by decide +kernel, by decide +kernel⟩ rfl rfl (by rfl) (j_pi_range1 rfl T.n_range (j_pa_c (j_pe_op j_c_add j_pe_int (j_pe_op j_c_mod (j_cv 2) j_pe_int)) j_pa_nil)) (fun _ _ _ _ => j_pifs_nil) (fun _ _ _ _ => (j_pe_ix j_c_ixT (j_cv 1) (j_pe_op j_c_mod (j_pe_op j_c_add (j_pe_op j_c_fdiv (j_cv 2) j_pe_int) (j_pe_op j_c_mul j_pe_int (j_cv 0))) j_pe_int) (fun _ _ => rfl)))) j_pa_nil)))
      (j_pss_cons (j_ps_set (i := 4) sc__law_names.nd rfl (by first | exact Or.inl rfl | exact Or.inr rfl) (j_pe_op j_c_mod (j_pe_op j_c_fdiv (j_cv 2) j_pe_int) (j_pe_op j_c_add (j_pe_callBF j_c_lenT (by rfl) T.n_len PyProof.Rows.Boot.«len» (j_pa_c (j_cv 3) j_pa_nil)) j_pe_int)))
      (j_pss_cons (j_ps_setcomp (i := 5) (fsc := defScope s__law_names) (N2 := ["_law_base", "_law_at"]) (js := [3, 4]) sc__law_names.nd rfl (by first | exact Or.inl rfl | exact Or.inr rfl) ⟨rfl, rfl, by decide +kernel, by decide +kernel, by decide +kernel, by decide +kernel, by decide +kernel, by decide +kernel, by decide +kernel⟩ rfl rfl (by rfl) (j_pi_str (j_cv 1)) (fun _ _ _ _ => j_pifs_nil) (fun _ _ _ _ => (j_pe_op j_c_add (j_pe_op j_c_add (j_pe_slice j_c_slT (j_cv 1) j_po_none (j_c_part (j_cv 2))) (j_cv 0)) (j_pe_slice j_c_slT (j_cv 1) (j_c_part (j_cv 2)) j_po_none))))
      (j_pss_cons (j_ps_set (i := 5) sc__law_names.nd rfl (by first | exact Or.inl rfl | exact Or.inr rfl) (j_pe_op j_c_cat (j_cv 5) (j_pe_comp (fsc := defScope s__law_names) (N2 := []) (js := []) ⟨rfl, rfl, by decide +kernel, by decide +kernel, by decide +kernel, by decide +kernel, by decide +kernel, by decide +kernel, by decide +kernel⟩ rfl rfl (by rfl) (j_pi_list (j_cv 5)) (fun _ _ _ _ => (j_pifs_one (j_pt_cmpR j_c_lt (j_pe_callBF j_c_lenT (by rfl) T.n_len PyProof.Rows.Boot.«len» (j_pa_c (j_cv 0) j_pa_nil)) j_pe_int (nomark _)))) (fun _ _ _ _ => (j_pe_op j_c_add (j_cv 0) (j_pe_slice j_c_slT j_pe_str j_po_none (j_c_part (j_pe_op j_c_sub j_pe_int (j_pe_callBF j_c_lenT (by rfl) T.n_len PyProof.Rows.Boot.«len» (j_pa_c (j_cv 0) j_pa_nil))))))))))
      (j_pss_one (j_ps_ret (j_pe_slice j_c_sl (j_cv 5) j_po_none (j_c_part (j_pe_op j_c_add j_pe_int (j_pe_op j_c_mod (j_pe_callF ((ok__law_cell_at T).mono (by decide)) hr rfl T.g__law_cell_at T.fn__law_cell_at.kp T.b__law_cell_at hx (j_pa_c (j_cv 0) (j_pa_c j_pe_int j_pa_nil))) (j_pe_callBF (j_c_min2 (by rfl)) (by rfl) T.n_min PyProof.Rows.Boot.«min» (j_pa_c j_pe_int (j_pa_c (j_pe_callBF j_c_len (by rfl) T.n_len PyProof.Rows.Boot.«len» (j_pa_c (j_cv 5) j_pa_nil)) j_pa_nil))))))))))))))), ?_⟩
    show tSeq _ _ _ [some (V.ref a), none, none, none, none, none] H
    refine seq_mid (fun σ' H' => H = H' ∧ σ' = [some (V.ref a), some (V.str alpha), none, none, none, none]) (fun R hR => ?_) ?_
    · simp only [tC, tAsg, gName, List.set_cons_zero, List.set_cons_succ]
      exact hR _ _ ⟨rfl, rfl⟩
    rintro _ _ ⟨rfl, rfl⟩
    refine seq_mid (fun σ' H' => H = H' ∧ ∃ x : Int, 0 ≤ x ∧ σ' = [some (V.ref a), some (V.str alpha), some (V.int x), none, none, none]) (fun R hR => ?_) ?_
    · simp only [tCons, tNil, tC, cVar, tAsg, gName, tCallE, and_assoc, Int.reduceLE, List.getElem?_cons_zero, List.set_cons_zero, List.set_cons_succ, V.int.injEq, V.bl.injEq, V.str.injEq, V.ref.injEq, V.ty.injEq, List.cons.injEq, Option.some.injEq, and_true, true_and, exists_eq_left', exists_and_left, sp__law_cell_at, sp__law_next]
      exact ⟨ns, hS, fun y y0 => hR _ _ ⟨rfl, y, y0, rfl⟩⟩
    rintro _ _ ⟨rfl, x, x0, rfl⟩
    refine seq_mid (fun σ' H' => Same H H' ∧ ∃ z : Str, 1 ≤ z.length ∧ z.length ≤ 7 ∧ σ' = [some (V.ref a), some (V.str alpha), some (V.int x), some (V.str z), none, none]) (fun R hR => ?_) ?_
    · simp only [tOp, tCons, tNil, tC, cVar, tAsg, gName, cAdd, cMod, Int.reduceLT, Nat.reduceLT, Int.reduceNeg, Int.reducePow, tComp, capt, iRng1, List.map_cons, List.map_nil, List.getElem?_cons_zero, List.getElem?_cons_succ, List.set_cons_zero, List.set_cons_succ, V.int.injEq, V.bl.injEq, V.str.injEq, V.ref.injEq, V.ty.injEq, List.cons.injEq, Option.some.injEq, and_true, true_and, exists_eq_left', cJoin, cBMS]
      refine ⟨by omega, by omega, CompW.mapR (fun k => V.str (one (alpha.cps.toList.getD ((x / 7 + 5 * (k : Int)) % 26).toNat 0))) (Nat.le_trans (show _ ≤ 7 by omega) (by decide)) (fun k hk K' hK => ?_) fun p hp => ?_⟩
      · rw [show (0 + (k : Int)) = (k : Int) by omega]
        have ea : atI alpha.cps.toList ((x / 7 + 5 * (k : Int)) % 26) = some (alpha.cps.toList.getD ((x / 7 + 5 * (k : Int)) % 26).toNat 0) := by
          rw [atI_in (by omega) (by rw [alpha_len]; omega), List.getD_eq_getElem?_getD, List.getElem?_eq_getElem (by rw [alpha_len]; omega)]; rfl
        simp only [tOp, tC, cVar, cAdd, cMul, cFdiv, cMod, CDiv, CMul, true_or, Int.reduceLT, Nat.reduceLT, Int.reduceNeg, Int.reducePow, List.getElem?_cons_zero, List.getElem?_cons_succ, and_true, true_and, cIxT, Option.join_some, ea]
        exact ⟨Nat.le_trans (show alpha.cps.toList.length ≤ 26 by rw [alpha_len]; exact Nat.le_refl _) (by decide), hK⟩
      · simp only [upd_same]
        obtain ⟨m, hm⟩ : ∃ m : Nat, m = (1 + x % 7).toNat := ⟨_, rfl⟩
        rw [← hm]
        obtain ⟨us, hus⟩ : ∃ us : List Str, us = (List.range m).map fun k : Nat => one (alpha.cps.toList.getD ((x / 7 + 5 * (k : Int)) % 26).toNat 0) := ⟨_, rfl⟩
        have hsum : ∀ (g : Nat → Nat) (ks : List Nat), ((ks.map fun k => one (g k)).map (·.length)).sum = ks.length := fun g ks => by
          induction ks with
          | nil => rfl
          | cons k ks ih => rw [List.map_cons, List.map_cons, List.sum_cons, ih, List.length_cons]; show 1 + _ = _; omega
        have hs := hsum (fun k => alpha.cps.toList.getD ((x / 7 + 5 * (k : Int)) % 26).toNat 0) (List.range m)
        rw [← hus, List.length_range] at hs
        have e0 : (Str.ofString "").length = 0 := by decide +kernel
        refine ⟨us, by rw [hus, List.map_map]; rfl, ?_, hR _ _ ⟨Same.upd hp, Txt.join (Str.ofString "") us, ?_, ?_, rfl⟩⟩
        · unfold JoinOk
          rw [StrLaws.joinTotal, hs, e0]
          unfold Builtin.Str.tooLong
          rw [Bool.not_eq_true', decide_eq_false_iff_not]
          exact Nat.not_lt.mpr (Nat.le_trans (show _ ≤ 7 by omega) (by decide))
        · unfold Txt.join
          rw [size_glued, hs]; omega
        · unfold Txt.join
          rw [size_glued, hs, e0]; omega
    rintro _ H1 ⟨s1, z, z1, z7, rfl⟩
    refine seq_mid (fun σ' H' => H1 = H' ∧ ∃ i : Nat, i ≤ z.length ∧ σ' = [some (V.ref a), some (V.str alpha), some (V.int x), some (V.str z), some (V.int i), none]) (fun R hR => ?_) ?_
    · simp only [tOp, tCB, tCons, tNil, tC, cVar, tAsg, gName, cAdd, cFdiv, cMod, CDiv, Int.reduceLT, Nat.reduceLT, List.getElem?_cons_zero, List.getElem?_cons_succ, List.set_cons_zero, List.set_cons_succ, and_true, true_and, cLenT]
      refine ⟨Nat.le_trans z7 (by decide), by omega, hR _ _ ⟨rfl, (x / 200 % ((z.length : Int) + 1)).toNat, ?_, ?_⟩⟩
      · have := Int.emod_lt_of_pos (x / 200) (show (0 : Int) < (z.length : Int) + 1 by omega); have := Int.emod_nonneg (x / 200) (show (z.length : Int) + 1 ≠ 0 by omega); omega
      · rw [Int.toNat_of_nonneg (Int.emod_nonneg _ (by omega))]
    rintro _ _ ⟨rfl, i, hi, rfl⟩
    refine seq_mid (fun σ' H' => ∃ l1, Same H1 H' ∧ H' l1 = some (.lst ((ts1 z i).map V.str)) ∧ σ' = [some (V.ref a), some (V.str alpha), some (V.int x), some (V.str z), some (V.int i), some (V.ref l1)]) (fun R hR => ?_) ?_
    · simp only [cVar, tAsg, gName, tComp, capt, List.map_cons, List.map_nil, List.getElem?_cons_zero, List.getElem?_cons_succ, List.set_cons_zero, List.set_cons_succ, iStr]
      refine ⟨alpha_asc, CompW.mapX (fun c => V.str (Nm z i c)) (by rw [alpha_len]; decide) (fun c hc K' hK => ?_) fun p hp => ?_⟩
      · have e1 : StrLaws.sliceText z none (some (i : Int)) = ⟨(z.cps.toList.take i).toArray⟩ := by
          rw [StrLaws.sliceText_to (x := z) (j := (i : Int)) ⟨by omega, by rw [← len_cps]; omega⟩, List.drop_zero, show ((i : Int) - 0).toNat = i by omega]
        have e2 : StrLaws.sliceText z (some (i : Int)) none = ⟨(z.cps.toList.drop i).toArray⟩ := by
          rw [StrLaws.sliceText_from (x := z) (i := (i : Int)) ⟨by omega, by rw [← len_cps]; omega⟩, show ((i : Int)).toNat = i by omega, List.take_of_length_le (by rw [List.length_drop]; omega)]
        simp only [tOp, cVar, cAdd, cPart, tNoPart, tSl, List.getElem?_cons_zero, List.getElem?_cons_succ, cSlT, Option.join_some, e1, e2]
        have h1 : (⟨(z.cps.toList.take i).toArray⟩ : Str).length ≤ 7 := by rw [len_cps]; show (z.cps.toList.take i).length ≤ 7; rw [List.length_take]; rw [len_cps] at z7; omega
        have h2 : (⟨(z.cps.toList.drop i).toArray⟩ : Str).length ≤ 7 := by rw [len_cps]; show (z.cps.toList.drop i).length ≤ 7; rw [List.length_drop]; rw [len_cps] at z7; omega
        have h3 : (⟨#[c]⟩ : Str).length = 1 := rfl
        have big : ∀ k, k ≤ 100 → k ≤ sizeLine := fun k hk => Nat.le_trans hk (by decide)
        exact ⟨big _ (by omega), big _ (by omega), big _ (by omega), big _ (by rw [str_len]; omega), hK⟩
      · exact hR _ _ ⟨p, Same.upd hp, by rw [upd_same]; unfold ts1; rw [List.map_map]; rfl, rfl⟩
    rintro _ H2 ⟨l1, s2, e1, rfl⟩
    refine seq_mid (fun σ' H' => ∃ l2, Same H1 H' ∧ H' l2 = some (.lst ((ts1 z i ++ ts2 z i).map V.str)) ∧ σ' = [some (V.ref a), some (V.str alpha), some (V.int x), some (V.str z), some (V.int i), some (V.ref l2)]) (fun R hR => ?_) ?_
    · have l26 : (ts1 z i).length = 26 := by unfold ts1; rw [List.length_map, alpha_len]
      have big : ∀ k, k ≤ 100 → k ≤ sizeLine := fun k hk => Nat.le_trans hk (by decide)
      simp only [tOp, cVar, tAsg, gName, cLt, cxOf_K, tComp, capt, iList, cCat, List.map_nil, List.getElem?_cons_zero, List.getElem?_cons_succ, List.set_cons_zero, List.set_cons_succ, V.int.injEq, V.bl.injEq, V.str.injEq, V.ref.injEq, V.ty.injEq, List.cons.injEq, Option.some.injEq, exists_eq_left']
      refine ⟨⟨_, SqL.of e1⟩, CompW.filtL (fun _ => decide (z.length + 1 < 7)) (fun v => match v with | .str t => .str (t ++ ab) | v => v) (SqL.of e1) (big _ (by rw [List.length_map, l26]; decide)) (fun v hv K' hK => ?_) (fun v hv hp K' hK => ?_) fun l hl => ?_⟩
      · obtain ⟨t, ht, rfl⟩ := List.mem_map.mp hv
        have hl := ts1_len t ht
        simp only [tTest, tOp, tCB, tCons, tNil, tC, cVar, cCmp, List.getElem?_cons_zero, V.int.injEq, V.bl.injEq, V.str.injEq, V.ref.injEq, V.ty.injEq, List.cons.injEq, Option.some.injEq, exists_eq_left', cLenT]
        refine ⟨big _ (by omega), ?_⟩
        rw [show decide ((t.length : Int) < 7) = decide (z.length + 1 < 7) from decide_eq_decide.mpr (by omega)]
        exact hK
      · obtain ⟨t, ht, rfl⟩ := List.mem_map.mp hv
        have hl := ts1_len t ht
        rw [decide_eq_true_eq] at hp
        have es : StrLaws.sliceText (Str.ofString "ab") none (some (8 - (t.length : Int))) = ab := ab_sl (by omega) (by omega)
        simp only [tOp, tCB, tCons, tNil, tC, cVar, cAdd, cSub, cPart, tNoPart, tSl, List.getElem?_cons_zero, cSlT, cLenT, es]
        have h2 : ab.length = 2 := by decide +kernel
        exact ⟨big _ (by omega), big _ (by omega), big _ (by omega), hK⟩
      · dsimp only
        rw [Same.upd hl _ _ e1, upd_same]
        dsimp only
        have ef : (((ts1 z i).map V.str).filter fun _ => decide (z.length + 1 < 7)).map (fun v => match v with | .str t => V.str (t ++ ab) | v => v) = (ts2 z i).map V.str := by
          unfold ts2
          by_cases y : z.length + 1 < 7
          · rw [if_pos y, List.filter_eq_self.mpr (fun _ _ => decide_eq_true y), List.map_map, List.map_map]; rfl
          · rw [if_neg y, List.filter_eq_nil_iff.mpr (fun _ _ h => y (of_decide_eq_true h))]; rfl
        rw [ef]
        refine ⟨big _ (by rw [← List.length_append, ← List.map_append, List.length_map]; have := (tsA_len (z := z) (i := i)).2; omega), fun p hp => hR _ _ ⟨p, s2.trans ((Same.upd hl).trans (Same.upd hp)), by rw [upd_same, ← List.map_append], rfl⟩⟩
    rintro _ H3 ⟨l2, s3, e2, rfl⟩
    have hS3 := (s1.trans s3).seq hS
    simp only [tRet, tOp, tCB, tCons, tNil, tC, cVar, tCallE, cAdd, cMod, cLen, and_assoc, Int.reduceLE, cSl, cPart, tNoPart, tSl, cMin2, List.getElem?_cons_zero, List.getElem?_cons_succ, V.int.injEq, V.bl.injEq, V.str.injEq, V.ref.injEq, V.ty.injEq, List.cons.injEq, Option.some.injEq, and_true, true_and, exists_eq_left', exists_and_left, sp__law_cell_at, e2]
    have hl := tsA_len (z := z) (i := i)
    rw [List.length_map]
    obtain ⟨m, hm⟩ : ∃ m : Int, m = if ((ts1 z i ++ ts2 z i).length : Int) < 42 then ((ts1 z i ++ ts2 z i).length : Int) else 42 := ⟨_, rfl⟩
    have hm1 : 0 < m ∧ m ≤ 42 ∧ m ≤ (ts1 z i ++ ts2 z i).length := by rw [hm]; split <;> omega
    rw [← hm]
    refine ⟨ns, hS3, hm1.1, fun p hp => ?_⟩
    have h1 := Int.emod_nonneg (cat ns 0) (show m ≠ 0 by omega)
    have h2 := Int.emod_lt_of_pos (cat ns 0) hm1.1
    rw [cutV_to (by omega) (by rw [List.length_map]; omega)]
    refine q p _ ((ts1 z i ++ ts2 z i).take (1 + cat ns 0 % m).toNat) ((s1.trans s3).trans (Same.upd hp)) (same_none (s1.trans s3) hp) (by rw [upd_same, List.map_take]) (List.Pairwise.sublist (List.take_sublist _ _) tsA_nd) ?_ ?_
    · rw [List.length_take]; omega
    · rw [List.length_take]; omega
def sp__law_slots : Sp := fun vs H Q _ => ∃ sd lh lc lf ra s fk g k j a, vs = [.ref sd, .int g, .int k] ∧ SAt H sd lh lc lf ra s fk ∧ 0 ≤ g ∧ g < 3 ∧ 0 ≤ k ∧ s.hs.getD g.toNat .n = .c j ∧ ra[j]? = some a ∧ k.toNat < (s.cs.getD j []).length ∧ Q (.ref a) H
theorem sc__law_slots : FnScope ["_law_s", "_law_hand", "_law_slot", "_law_row"] ["_law_s", "_law_hand", "_law_slot"] (defScope s__law_slots) := ⟨rfl, rfl, rfl, by decide +kernel, rfl, by decide +kernel, by decide +kernel⟩
theorem ok__law_slots (T : Txt K mg A) : FnOk P w K mg base (CXE P w) true 2 A.f__law_slots A.d__law_slots ["_law_s", "_law_hand", "_law_slot"] sp__law_slots := by
  refine T.fn__law_slots.okE sc__law_slots (fun vs H Q E h => ?_) (fun cdv A' outer s H vs Q E hr hx h => ?_)
  · obtain ⟨sd, lh, lc, lf, ra, s0, fk, g, k, j, a, rfl, st, g0, g3, k0, hg, hj, hk, q⟩ := h
    rfl
  · obtain ⟨sd, lh, lc, lf, ra, s0, fk, g, k, j, a, rfl, st, g0, g3, k0, hg, hj, hk, q⟩ := h
    refine ⟨_, JSs.run (j_pss_cons (j_ps_if (j_PW_pt (j_pw_or (j_pt_not (j_pt_truth (j_pe_callF ((ok__law_is_hand T).mono (by decide)) hr rfl T.g__law_is_hand T.fn__law_is_hand.kp T.b__law_is_hand hx (j_pa_c (j_cv 1) j_pa_nil)) (fun _ => rfl))) (j_pw_or (j_pt_not (j_pt_truth (j_pe_callBF j_call_isi (by rfl) T.n_isinstance PyProof.Rows.Boot.«isinstance» (j_pa_c (j_pe_ix j_c_ix (j_c_dget (by exact hu_of hr) (j_cv 0) j_pe_str (fun _ _ => rfl)) (j_cv 1) (fun _ _ => rfl)) (j_pa_c (j_pe_ty T.n_tuple PyProof.Rows.Boot.«tuple») j_pa_nil))) (fun _ => rfl))) (j_pw_or1 (j_pt_not (j_pt_truth (j_pe_callBF j_call_isi (by rfl) T.n_isinstance PyProof.Rows.Boot.«isinstance» (j_pa_c (j_cv 2) (j_pa_c (j_pe_ty T.n_int PyProof.Rows.Boot.«int») j_pa_nil))) (fun _ => rfl))))))) (j_pss_one (j_ps_ret j_pe_non)) j_pss_nil)
      (j_pss_cons (j_ps_set (i := 3) sc__law_slots.nd rfl (by first | exact Or.inl rfl | exact Or.inr rfl) (j_pe_ix j_c_ix (j_c_dget (by exact hu_of hr) (j_cv 0) j_pe_str (fun _ _ => rfl)) (j_pe_ix j_c_ix (j_pe_ix j_c_ix (j_c_dget (by exact hu_of hr) (j_cv 0) j_pe_str (fun _ _ => rfl)) (j_cv 1) (fun _ _ => rfl)) j_pe_int (fun _ _ => rfl)) (fun _ _ => rfl)))
      (j_pss_cons (j_ps_if (j_PW_pt (j_pw_or (j_pt_truth (j_pe_callBF j_call_isi (by rfl) T.n_isinstance PyProof.Rows.Boot.«isinstance» (j_pa_c (j_cv 2) (j_pa_c (j_pe_ty T.n_bool PyProof.Rows.Boot.«bool») j_pa_nil))) (fun _ => rfl)) (j_pw_or1 (j_pt_not (j_pt_chain j_c_le j_c_lt j_pe_int (j_cv 2) (j_pe_callBF j_c_len (by rfl) T.n_len PyProof.Rows.Boot.«len» (j_pa_c (j_cv 3) j_pa_nil))))))) (j_pss_one (j_ps_ret j_pe_non)) j_pss_nil)
      (j_pss_one (j_ps_ret (j_cv 3)))))), ?_⟩
    obtain ⟨vs, eh, uh⟩ := st.hd
    obtain ⟨v, hv, at_⟩ := uh.get (j := g.toNat) (by rw [st.h3]; omega)
    rw [hg] at at_
    obtain ⟨t, rfl, et⟩ := at_
    obtain ⟨rs, er, ur⟩ := st.rw j a hj
    have hrl := ur.len
    have ag : atI vs g = some (.ref t) := by rw [atI_in g0 (by rw [uh.len, st.h3]; exact g3)]; exact hv
    have aj : atI (ra.map V.ref) (j : Int) = some (.ref a) := by rw [atI_cast, List.getElem?_map, hj]; rfl
    simp only [tRet, tNext, tSeq, tIfS, tTest, tOp, tOr, tNot, tCB, tCons, tNil, tC, cVar, tAsg, gName, tCallE, cLt, cLe, cCmp, tChain, rIsi, kitV, cIx, cLen, cxOf_K, TruV, Int.reduceAdd, Int.reduceSub, Bool.not_eq_true', Bool.true_eq_false, cDGet, keyV, atI_1, decide_eq_false_iff_not, L2.start, List.map_cons, List.map_nil, List.length_cons, List.length_nil, List.replicate, List.cons_append, List.nil_append, List.getElem?_cons_zero, List.getElem?_cons_succ, List.set_cons_zero, List.set_cons_succ, V.int.injEq, V.bl.injEq, V.str.injEq, V.ref.injEq, V.ty.injEq, List.cons.injEq, Option.some.injEq, and_true, true_and, exists_eq_left', exists_eq_left, ite_true, ite_false, Bool.false_eq_true, decide_eq_true_eq, Nat.reduceSub, Nat.reduceAdd, sp__law_is_hand, st.ob, sKV_h, sKV_c, eh, ag, tyo, OkTy, et, T.kt_tuple_tuple, T.kt_int_int, T.kt_int_bool]
    refine ⟨g0, g3, ?_⟩
    rw [st.cl]
    dsimp only
    rw [aj]
    dsimp only
    rw [if_pos k0, er]
    dsimp only
    rw [if_neg (fun n => n (by rw [hrl]; omega))]
    exact q
def sp__law_statement : Sp := fun vs H Q _ => ∃ sd lh lc lf ra s fk ln ld, ∃ ts : List Str, ∃ du dv F x, vs = [.ref sd, .ref ln, .ref ld, .int x] ∧ SAt H sd lh lc lf ra s fk ∧ H ln = some (.lst (ts.map V.str)) ∧ ts.length = du.length ∧ 1 ≤ du.length ∧ du.length ≤ 50 ∧ ts.Nodup ∧ H ld = some (.lst dv) ∧ UVs H du dv ∧ (∀ k, Un F s.cs.length (du.getD k .n)) ∧ 0 ≤ x ∧
  ∀ p H' (sm : Sm), Same H H' → H' p = some (.tup sm.vs) → sm.fit ts s du → Q (.ref p) H'
theorem sc__law_statement : FnScope ["_law_s", "_law_names_here", "_law_due_here", "_law_seed", "_law_one", "_law_other", "_law_wide", "_law_pick", "_law_cell", "_law_slot"] ["_law_s", "_law_names_here", "_law_due_here", "_law_seed"] (defScope s__law_statement) := ⟨rfl, rfl, rfl, by decide +kernel, rfl, by decide +kernel, by decide +kernel⟩
theorem ok__law_statement (T : Txt K mg A) : FnOk P w K mg base (CXE P w) true 2 A.f__law_statement A.d__law_statement ["_law_s", "_law_names_here", "_law_due_here", "_law_seed"] sp__law_statement := by
  refine T.fn__law_statement.okE sc__law_statement (fun vs H Q E h => ?_) (fun cdv A' outer s H vs Q E hr hx h => ?_)
  · obtain ⟨sd, lh, lc, lf, ra, s0, fk, ln, ld, ts, du, dv, F, x, rfl, st, en, hn, n1, n50, nd, ed, ud, un, x0, q⟩ := h
    rfl
  · obtain ⟨sd, lh, lc, lf, ra, s0, fk, ln, ld, ts, du, dv, F, x, rfl, st, en, hn, n1, n50, nd, ed, ud, un, x0, q⟩ := h
    refine ⟨_, JSs.run (j_pss_cons (j_ps_set (i := 4) sc__law_statement.nd rfl (by first | exact Or.inl rfl | exact Or.inr rfl) (j_pe_op j_c_mod (j_pe_op j_c_fdiv (j_cv 3) j_pe_int) (j_pe_callBF j_c_len (by rfl) T.n_len PyProof.Rows.Boot.«len» (j_pa_c (j_cv 1) j_pa_nil))))
      (j_pss_cons (j_ps_set (i := 5) sc__law_statement.nd rfl (by first | exact Or.inl rfl | exact Or.inr rfl) (j_pe_op j_c_mod (j_pe_op j_c_fdiv (j_cv 3) j_pe_int) (j_pe_callBF j_c_len (by rfl) T.n_len PyProof.Rows.Boot.«len» (j_pa_c (j_cv 1) j_pa_nil))))
      (j_pss_cons (j_ps_set (i := 6) sc__law_statement.nd rfl (by first | exact Or.inl rfl | exact Or.inr rfl) (j_pe_callF ((ok__law_cells T).mono (by decide)) hr rfl T.g__law_cells T.fn__law_cells.kp T.b__law_cells hx (j_pa_c (j_cv 0) (j_pa_c (j_cv 2) j_pa_nil))))
      (j_pss_cons (j_ps_set (i := 7) sc__law_statement.nd rfl (by first | exact Or.inl rfl | exact Or.inr rfl) (j_pe_op j_c_mod (j_cv 3) j_pe_int))
      (j_pss_cons (j_ps_if (j_PW_pt (j_pw_or (j_pt_cmpR (j_c_eqA (hu8 hr)) (j_cv 7) j_pe_int (nomark _)) (j_pw_or1 (j_PW_pt (j_pw_and (j_pt_cmpR j_c_gt (j_cv 7) j_pe_int (nomark _)) (j_pw_and1 (j_pt_cmpR (j_c_eqA (hu8 hr)) (j_cv 6) (j_pe_lst j_pa_nil) (nomark _)))))))) (j_pss_one (j_ps_ret (j_pe_tup (j_pa_c j_pe_str (j_pa_c (j_pe_ix j_c_ix (j_cv 1) (j_cv 4) (fun _ _ => rfl)) (j_pa_c (j_pe_op j_c_mod (j_pe_op j_c_fdiv (j_cv 3) j_pe_int) j_pe_int) j_pa_nil)))))) j_pss_nil)
      (j_pss_cons (j_ps_if (j_pt_cmpR (j_c_eqA (hu8 hr)) (j_cv 7) j_pe_int (nomark _)) (j_pss_one (j_ps_ret (j_pe_tup (j_pa_c j_pe_str (j_pa_c (j_pe_ix j_c_ix (j_cv 1) (j_cv 4) (fun _ _ => rfl)) (j_pa_c (j_pe_op j_c_sub (j_pe_op j_c_mod (j_pe_op j_c_fdiv (j_cv 3) j_pe_int) j_pe_int) j_pe_int) j_pa_nil)))))) j_pss_nil)
      (j_pss_cons (j_ps_if (j_pt_cmpR (j_c_eqA (hu8 hr)) (j_cv 7) j_pe_int (nomark _)) (j_pss_one (j_ps_ret (j_pe_tup (j_pa_c j_pe_str (j_pa_c (j_pe_ix j_c_ix (j_cv 1) (j_cv 4) (fun _ _ => rfl)) (j_pa_c (j_pe_ix j_c_ix (j_cv 1) (j_cv 5) (fun _ _ => rfl)) j_pa_nil)))))) j_pss_nil)
      (j_pss_cons (j_ps_if (j_pt_cmpR (j_c_eqA (hu8 hr)) (j_cv 7) j_pe_int (nomark _)) (j_pss_one (j_ps_ret (j_pe_tup (j_pa_c j_pe_str (j_pa_c (j_pe_ix j_c_ix (j_cv 1) (j_cv 4) (fun _ _ => rfl)) j_pa_nil))))) j_pss_nil)
      (j_pss_cons (j_ps_set (i := 8) sc__law_statement.nd rfl (by first | exact Or.inl rfl | exact Or.inr rfl) (j_pe_ix j_c_ix (j_cv 6) (j_pe_op j_c_mod (j_pe_op j_c_fdiv (j_cv 3) j_pe_int) (j_pe_callBF j_c_len (by rfl) T.n_len PyProof.Rows.Boot.«len» (j_pa_c (j_cv 6) j_pa_nil))) (fun _ _ => rfl)))
      (j_pss_cons (j_ps_set (i := 9) sc__law_statement.nd rfl (by first | exact Or.inl rfl | exact Or.inr rfl) (j_pe_op j_c_mod (j_pe_op j_c_fdiv (j_cv 3) j_pe_int) (j_pe_callBF j_c_len (by rfl) T.n_len PyProof.Rows.Boot.«len» (j_pa_c (j_pe_ix j_c_ix (j_c_dget (by exact hu_of hr) (j_cv 0) j_pe_str (fun _ _ => rfl)) (j_pe_ix j_c_ix (j_pe_ix j_c_ix (j_cv 2) (j_cv 8) (fun _ _ => rfl)) j_pe_int (fun _ _ => rfl)) (fun _ _ => rfl)) j_pa_nil))))
      (j_pss_cons (j_ps_if (j_pt_cmpR (j_c_eqA (hu8 hr)) (j_cv 7) j_pe_int (nomark _)) (j_pss_one (j_ps_ret (j_pe_tup (j_pa_c j_pe_str (j_pa_c (j_pe_ix j_c_ix (j_cv 1) (j_cv 4) (fun _ _ => rfl)) (j_pa_c (j_pe_ix j_c_ix (j_cv 1) (j_cv 8) (fun _ _ => rfl)) (j_pa_c (j_cv 9) j_pa_nil))))))) j_pss_nil)
      (j_pss_cons (j_ps_if (j_pt_cmpR (j_c_eqA (hu8 hr)) (j_cv 7) j_pe_int (nomark _)) (j_pss_one (j_ps_ret (j_pe_tup (j_pa_c j_pe_str (j_pa_c (j_pe_ix j_c_ix (j_cv 1) (j_cv 8) (fun _ _ => rfl)) (j_pa_c (j_cv 9) (j_pa_c (j_pe_ix j_c_ix (j_cv 1) (j_cv 5) (fun _ _ => rfl)) j_pa_nil))))))) j_pss_nil)
      (j_pss_one (j_ps_ret (j_pe_tup (j_pa_c j_pe_str (j_pa_c (j_pe_ix j_c_ix (j_cv 1) (j_cv 4) (fun _ _ => rfl)) j_pa_nil))))))))))))))))), ?_⟩
    have hdl := ud.len
    have nm : ∀ i : Nat, i < ts.length → atI (ts.map V.str) (i : Int) = some (V.str (ts.getD i default)) := fun i hi => by
      rw [atI_cast, List.getElem?_map, List.getD_eq_getElem?_getD, List.getElem?_eq_getElem hi]; rfl
    have mem : ∀ i : Nat, i < ts.length → ts.getD i default ∈ ts := fun i hi => by
      rw [List.getD_eq_getElem?_getD, List.getElem?_eq_getElem hi]; exact List.getElem_mem hi
    have ixo : ∀ i : Nat, i < ts.length → ts.idxOf (ts.getD i default) = i := fun i hi => by
      rw [List.getD_eq_getElem?_getD, List.getElem?_eq_getElem hi]; exact List.Nodup.idxOf_getElem nd i hi
    show tSeq _ _ _ [some (V.ref sd), some (V.ref ln), some (V.ref ld), some (V.int x), none, none, none, none, none, none] H
    refine seq_mid (fun σ' H' => H = H' ∧ ∃ o : Nat, o < ts.length ∧ σ' = [some (V.ref sd), some (V.ref ln), some (V.ref ld), some (V.int x), some (V.int o), none, none, none, none, none]) (fun R hR => ?_) ?_
    · simp only [tOp, tCB, tCons, tNil, tC, cVar, tAsg, gName, cFdiv, cMod, cLen, CDiv, Int.reduceLT, Nat.reduceLT, List.getElem?_cons_zero, List.getElem?_cons_succ, List.set_cons_zero, List.set_cons_succ, and_true, true_and, en]
      rw [List.length_map]
      exact ⟨by omega, hR _ _ ⟨rfl, (x / 7 % (ts.length : Int)).toNat, by have := Int.emod_lt_of_pos (x / 7) (show (0 : Int) < ts.length by omega); have := Int.emod_nonneg (x / 7) (show (ts.length : Int) ≠ 0 by omega); omega, by rw [Int.toNat_of_nonneg (Int.emod_nonneg _ (by omega))]⟩⟩
    rintro _ _ ⟨rfl, o, ho, rfl⟩
    refine seq_mid (fun σ' H' => H = H' ∧ ∃ r : Nat, r < ts.length ∧ σ' = [some (V.ref sd), some (V.ref ln), some (V.ref ld), some (V.int x), some (V.int o), some (V.int r), none, none, none, none]) (fun R hR => ?_) ?_
    · simp only [tOp, tCB, tCons, tNil, tC, cVar, tAsg, gName, cFdiv, cMod, cLen, CDiv, Int.reduceLT, Nat.reduceLT, List.getElem?_cons_zero, List.getElem?_cons_succ, List.set_cons_zero, List.set_cons_succ, and_true, true_and, en]
      rw [List.length_map]
      exact ⟨by omega, hR _ _ ⟨rfl, (x / 301 % (ts.length : Int)).toNat, by have := Int.emod_lt_of_pos (x / 301) (show (0 : Int) < ts.length by omega); have := Int.emod_nonneg (x / 301) (show (ts.length : Int) ≠ 0 by omega); omega, by rw [Int.toNat_of_nonneg (Int.emod_nonneg _ (by omega))]⟩⟩
    rintro _ _ ⟨rfl, r, hr', rfl⟩
    refine seq_mid (fun σ' H' => ∃ l, ∃ ks : List Nat, Same H H' ∧ H' l = some (.lst (ks.map fun k : Nat => V.int k)) ∧ (∀ k ∈ ks, k < du.length ∧ ∃ j, du.getD k .n = .c j ∧ (s0.cs.getD j []) ≠ []) ∧ ks.length ≤ 50 ∧ σ' = [some (V.ref sd), some (V.ref ln), some (V.ref ld), some (V.int x), some (V.int o), some (V.int r), some (V.ref l), none, none, none]) (fun R hR => ?_) ?_
    · simp only [tCons, tNil, cVar, tAsg, gName, tCallE, and_assoc, List.getElem?_cons_zero, List.getElem?_cons_succ, List.set_cons_zero, List.set_cons_succ, V.int.injEq, V.bl.injEq, V.str.injEq, V.ref.injEq, V.ty.injEq, List.cons.injEq, Option.some.injEq, and_true, exists_eq_left', exists_and_left, sp__law_cells]
      exact ⟨lh, lc, lf, ra, s0, fk, st, du, dv, ed, ud, n50, F, un, fun l H' ks s1 _ el hk hkl => hR _ _ ⟨l, ks, s1, el, hk, hkl, rfl⟩⟩
    rintro _ H1 ⟨l, ks, s1, el, hk, hkl, rfl⟩
    have st1 := st.same s1
    have en1 := s1 _ _ en
    have ed1 := s1 _ _ ed
    refine seq_mid (fun σ' H' => H1 = H' ∧ ∃ t : Nat, t < 7 ∧ σ' = [some (V.ref sd), some (V.ref ln), some (V.ref ld), some (V.int x), some (V.int o), some (V.int r), some (V.ref l), some (V.int t), none, none]) (fun R hR => ?_) ?_
    · simp only [tOp, tC, cVar, tAsg, gName, cMod, Int.reduceLT, Nat.reduceLT, List.getElem?_cons_zero, List.getElem?_cons_succ, List.set_cons_zero, List.set_cons_succ, true_and]
      exact hR _ _ ⟨rfl, (x % 7).toNat, by omega, by rw [show (((x % 7).toNat : Nat) : Int) = x % 7 by omega]⟩
    rintro _ _ ⟨rfl, t, ht, rfl⟩
    refine seq_mid (fun σ' H' => Same H1 H' ∧ t ≠ 0 ∧ (3 < t → ks ≠ []) ∧ σ' = [some (V.ref sd), some (V.ref ln), some (V.ref ld), some (V.int x), some (V.int o), some (V.int r), some (V.ref l), some (V.int t), none, none]) (fun R hR => ?_) ?_
    · have q1 : ∀ H', Same H1 H' → ∀ p, H' p = none → Q (V.ref p) (upd H' p (.tup [V.str (Str.ofString "make"), V.str (ts.getD o default), V.int (x / 11 % 9)])) := fun H' s' p hp => q p _ (.make (ts.getD o default) (x / 11 % 9)) (s1.trans (s'.trans (Same.upd hp))) upd_same ⟨mem o ho, by omega, by omega⟩
      simp only [tRet, tNext, tIfS, tTest, tOp, tAnd, tOr, tCons, tNil, tC, cVar, tLst, tTup, cFdiv, cMod, cGt, cCmp, eqv, cIx, CDiv, Int.reduceLT, Nat.reduceLT, Int.reduceAdd, upd_same, cEqA, cEqL, List.length_cons, List.length_nil, List.getElem?_cons_zero, List.getElem?_cons_succ, V.int.injEq, V.bl.injEq, V.str.injEq, V.ref.injEq, V.ty.injEq, List.cons.injEq, Option.some.injEq, and_true, true_and, exists_eq_left', ite_true, ite_false, Bool.false_eq_true, decide_eq_true_eq, Nat.reduceAdd, sz0, sz3, en1, nm o ho]
      by_cases t0 : t = 0
      · rw [if_pos (by omega)]
        exact q1 _ (Same.refl _)
      · rw [if_neg (by omega)]
        by_cases t3 : 3 < t
        · rw [if_pos (by omega)]
          intro p hp
          have s2 := Same.upd (o := .lst []) hp
          rw [s2 _ _ el]
          dsimp only
          cases ks with
          | nil =>
            rw [if_pos (show (List.map (fun k : Nat => V.int (k : Int)) []).length = ([] : List V).length from rfl)]
            show match upd H1 p (HO.lst []) ln with | some (HO.lst xs) => _ | some (HO.tup xs) => _ | _ => False
            rw [s2 _ _ en1]
            dsimp only
            rw [nm o ho]
            exact q1 _ s2
          | cons k ks =>
            rw [if_neg (by simp)]
            exact hR _ _ ⟨s2, t0, fun _ => List.cons_ne_nil _ _, rfl⟩
        · rw [if_neg (by omega)]
          exact hR _ _ ⟨Same.refl _, t0, fun z => absurd z t3, rfl⟩
    rintro _ H2 ⟨s2, t0, tk, rfl⟩
    have en2 := s2 _ _ en1
    have el2 := s2 _ _ el
    have ed2 := s2 _ _ ed1
    have st2 := st1.same s2
    have q2 : ∀ p, H2 p = none → ∀ sm : Sm, sm.fit ts s0 du → Q (V.ref p) (upd H2 p (.tup sm.vs)) := fun p hp sm f => q p _ sm (s1.trans (s2.trans (Same.upd hp))) upd_same f
    refine seq_mid (fun σ' H' => H2 = H' ∧ t ≠ 1 ∧ σ' = [some (V.ref sd), some (V.ref ln), some (V.ref ld), some (V.int x), some (V.int o), some (V.int r), some (V.ref l), some (V.int t), none, none]) (fun R hR => ?_) ?_
    · simp only [tRet, tNext, tIfS, tTest, tOp, tCons, tNil, tC, cVar, tTup, cSub, cFdiv, cMod, eqv, cIx, CDiv, Int.reduceLT, Nat.reduceLT, Int.reduceAdd, cEqA, List.length_cons, List.length_nil, List.getElem?_cons_zero, List.getElem?_cons_succ, V.int.injEq, V.bl.injEq, V.str.injEq, V.ref.injEq, V.ty.injEq, List.cons.injEq, Option.some.injEq, and_true, true_and, exists_eq_left', decide_eq_true_eq, Nat.reduceAdd, sz3, en2, nm o ho]
      by_cases y : t = 1
      · rw [if_pos (by omega)]
        exact fun p hp => q2 p hp (.keep _ _) (mem o ho)
      · rw [if_neg (by omega)]
        exact hR _ _ ⟨rfl, y, rfl⟩
    rintro _ _ ⟨rfl, t1, rfl⟩
    refine seq_mid (fun σ' H' => H2 = H' ∧ t ≠ 2 ∧ σ' = [some (V.ref sd), some (V.ref ln), some (V.ref ld), some (V.int x), some (V.int o), some (V.int r), some (V.ref l), some (V.int t), none, none]) (fun R hR => ?_) ?_
    · simp only [tRet, tNext, tIfS, tTest, tOp, tCons, tNil, tC, cVar, tTup, eqv, cIx, Int.reduceAdd, cEqA, List.length_cons, List.length_nil, List.getElem?_cons_zero, List.getElem?_cons_succ, V.int.injEq, V.bl.injEq, V.str.injEq, V.ref.injEq, V.ty.injEq, List.cons.injEq, Option.some.injEq, true_and, exists_eq_left', decide_eq_true_eq, Nat.reduceAdd, sz3, en2, nm o ho, nm r hr']
      by_cases y : t = 2
      · rw [if_pos (by omega)]
        exact fun p hp => q2 p hp (.copy _ _) ⟨mem o ho, mem r hr'⟩
      · rw [if_neg (by omega)]
        exact hR _ _ ⟨rfl, y, rfl⟩
    rintro _ _ ⟨rfl, t2, rfl⟩
    refine seq_mid (fun σ' H' => H2 = H' ∧ t ≠ 3 ∧ σ' = [some (V.ref sd), some (V.ref ln), some (V.ref ld), some (V.int x), some (V.int o), some (V.int r), some (V.ref l), some (V.int t), none, none]) (fun R hR => ?_) ?_
    · simp only [tRet, tNext, tIfS, tTest, tOp, tCons, tNil, tC, cVar, tTup, eqv, cIx, Int.reduceAdd, cEqA, List.length_cons, List.length_nil, List.getElem?_cons_zero, List.getElem?_cons_succ, V.int.injEq, V.bl.injEq, V.str.injEq, V.ref.injEq, V.ty.injEq, List.cons.injEq, Option.some.injEq, true_and, exists_eq_left', decide_eq_true_eq, Nat.reduceAdd, sz2, en2, nm o ho]
      by_cases y : t = 3
      · rw [if_pos (by omega)]
        exact fun p hp => q2 p hp (.drop _) (mem o ho)
      · rw [if_neg (by omega)]
        exact hR _ _ ⟨rfl, y, rfl⟩
    rintro _ _ ⟨rfl, t3, rfl⟩
    have kn := tk (by omega)
    have kl : 0 < ks.length := List.length_pos_iff.mpr kn
    refine seq_mid (fun σ' H' => H2 = H' ∧ ∃ c : Nat, c < ts.length ∧ (∃ j, du.getD c .n = .c j ∧ (s0.cs.getD j []) ≠ []) ∧ σ' = [some (V.ref sd), some (V.ref ln), some (V.ref ld), some (V.int x), some (V.int o), some (V.int r), some (V.ref l), some (V.int t), some (V.int c), none]) (fun R hR => ?_) ?_
    · simp only [tOp, tCB, tCons, tNil, tC, cVar, tAsg, gName, cFdiv, cMod, cIx, cLen, CDiv, Int.reduceLT, Nat.reduceLT, List.getElem?_cons_zero, List.getElem?_cons_succ, List.set_cons_zero, List.set_cons_succ, and_true, true_and, el2]
      rw [List.length_map]
      refine ⟨by omega, ?_⟩
      obtain ⟨i, hi⟩ : ∃ i : Nat, (i : Int) = x / 17 % (ks.length : Int) := ⟨(x / 17 % (ks.length : Int)).toNat, Int.toNat_of_nonneg (Int.emod_nonneg _ (by omega))⟩
      have hil : i < ks.length := by have := Int.emod_lt_of_pos (x / 17) (show (0 : Int) < ks.length by omega); omega
      rw [← hi, atI_cast, List.getElem?_map, List.getElem?_eq_getElem hil]
      have := hk _ (List.getElem_mem hil)
      exact hR _ _ ⟨rfl, ks[i], by omega, this.2, rfl⟩
    rintro _ _ ⟨rfl, c, hc, ⟨j, hj, hje⟩, rfl⟩
    have hjl := (un _ j hj).2
    have hjr : j < ra.length := by rw [st.rl]; exact hjl
    have cl0 : 0 < (s0.cs.getD j []).length := List.length_pos_iff.mpr hje
    refine seq_mid (fun σ' H' => H2 = H' ∧ ∃ k : Nat, k < (s0.cs.getD j []).length ∧ σ' = [some (V.ref sd), some (V.ref ln), some (V.ref ld), some (V.int x), some (V.int o), some (V.int r), some (V.ref l), some (V.int t), some (V.int c), some (V.int k)]) (fun R hR => ?_) ?_
    · obtain ⟨v, hv, av⟩ := ud.get (j := c) (by omega)
      rw [hj] at av
      obtain ⟨a, rfl, ea⟩ := av
      obtain ⟨rs, er, ur⟩ := st2.rw j _ (List.getElem?_eq_getElem hjr)
      have hrl := ur.len
      have aj : atI (ra.map V.ref) (j : Int) = some (.ref ra[j]) := by rw [atI_cast, List.getElem?_map, List.getElem?_eq_getElem hjr]; rfl
      have ac : atI dv (c : Int) = some (.ref a) := by rw [atI_cast]; exact hv
      simp only [tOp, tCB, tCons, tNil, tC, cVar, tAsg, gName, cFdiv, cMod, cIx, cLen, CDiv, Int.reduceLT, Nat.reduceLT, cDGet, keyV, atI_1, List.getElem?_cons_zero, List.getElem?_cons_succ, List.set_cons_zero, List.set_cons_succ, and_true, true_and, st2.ob, sKV_c, ed2, ac, s2 _ _ (s1 _ _ ea), st2.cl, aj, er]
      refine ⟨by omega, hR _ _ ⟨rfl, (x / 19 % (rs.length : Int)).toNat, by have := Int.emod_lt_of_pos (x / 19) (show (0 : Int) < rs.length by omega); have := Int.emod_nonneg (x / 19) (show (rs.length : Int) ≠ 0 by omega); omega, by rw [Int.toNat_of_nonneg (Int.emod_nonneg _ (by omega))]⟩⟩
    rintro _ _ ⟨rfl, k, hk', rfl⟩
    simp only [tRet, tNext, tSeq, tIfS, tTest, tOp, tCons, tNil, tC, cVar, tTup, eqv, cIx, Int.reduceAdd, cEqA, List.length_cons, List.length_nil, List.getElem?_cons_zero, List.getElem?_cons_succ, V.int.injEq, V.bl.injEq, V.str.injEq, V.ref.injEq, V.ty.injEq, List.cons.injEq, Option.some.injEq, true_and, exists_eq_left', decide_eq_true_eq, Nat.reduceAdd, sz2, sz4, en2, nm o ho, nm r hr', nm c hc]
    by_cases y : t = 4
    · rw [if_pos (by omega)]
      exact fun p hp => q2 p hp (.get _ _ _) ⟨mem o ho, mem c hc, by omega, j, by rw [ixo c hc]; exact hj, by rw [Int.toNat_natCast]; exact hk'⟩
    · rw [if_neg (by omega)]
      by_cases y : t = 5
      · rw [if_pos (by omega)]
        exact fun p hp => q2 p hp (.set _ _ _) ⟨mem c hc, mem r hr', by omega, j, by rw [ixo c hc]; exact hj, by rw [Int.toNat_natCast]; exact hk'⟩
      · rw [if_neg (by omega)]
        exact fun p hp => q2 p hp (.tell _) (mem o ho)
def sp_loaded : Sp := fun vs H Q _ => ∃ ln z h, ∃ ts : List Str, vs = [.ref ln, .str z, .int h] ∧ H ln = some (.lst (ts.map V.str)) ∧ z ∈ ts ∧ ts.length ≤ 50 ∧ ∀ l H', Same H H' → H l = none → DsAt H' (loadD ts z h) l → Q (.ref l) H'
theorem sc_loaded : FnScope ["names", "name", "hand", "frame"] ["names", "name", "hand"] (defScope s_loaded) := ⟨rfl, rfl, rfl, by decide +kernel, rfl, by decide +kernel, by decide +kernel⟩
theorem ok_loaded (T : Txt K mg A) : FnOk P w K mg base (CXE P w) true 3 A.f_loaded A.d_loaded ["names", "name", "hand"] sp_loaded := by
  refine T.fn_loaded.okE sc_loaded (fun vs H Q E h => ?_) (fun cdv A' outer s H vs Q E hr hx h => ?_)
  · obtain ⟨ln, z, h, ts, rfl, e, hz, hl, q⟩ := h
    rfl
  · obtain ⟨ln, z, h, ts, rfl, e, hz, hl, q⟩ := h
    refine ⟨_, JSs.run (j_pss_cons (j_ps_set (i := 3) sc_loaded.nd rfl (by first | exact Or.inl rfl | exact Or.inr rfl) (j_pe_callF ((ok_frame_of T).mono (by decide)) hr rfl T.g_frame_of T.fn_frame_of.kp T.b_frame_of hx (j_pa_c (j_cv 0) (j_pa_c (j_cv 1) j_pa_nil))))
      (j_pss_one (j_ps_ret (j_pe_op j_c_cat (j_pe_callF ((ok_walked T).mono (by decide)) hr rfl T.g_walked T.fn_walked.kp T.b_walked hx (j_pa_c (j_cv 3) (j_pa_c (j_cv 2) j_pa_nil))) (j_pe_lst (j_pa_c (j_pe_tup (j_pa_c j_pe_str (j_pa_c (j_cv 2) (j_pa_c (j_pe_callF ((ok_holder T).mono (by decide)) hr rfl T.g_holder T.fn_holder.kp T.b_holder hx (j_pa_c (j_cv 3) (j_pa_c (j_cv 2) j_pa_nil))) (j_pa_c (j_pe_callF ((ok_slot_of T).mono (by decide)) hr rfl T.g_slot_of T.fn_slot_of.kp T.b_slot_of hx (j_pa_c (j_cv 0) (j_pa_c (j_cv 1) j_pa_nil))) j_pa_nil))))) j_pa_nil)))))), ?_⟩
    have hj : ts.idxOf z < ts.length := List.idxOf_lt_length_iff.mpr hz
    show tSeq _ _ _ [some (V.ref ln), some (V.str z), some (V.int h), none] H
    refine seq_mid (fun σ' H' => H = H' ∧ σ' = [some (V.ref ln), some (V.str z), some (V.int h), some (V.int (ts.idxOf z / 7 : Nat))]) (fun R hR => ?_) ?_
    · simp only [tCons, tNil, cVar, tAsg, gName, tCallE, and_assoc, List.getElem?_cons_zero, List.getElem?_cons_succ, List.set_cons_zero, List.set_cons_succ, V.int.injEq, V.bl.injEq, V.str.injEq, V.ref.injEq, V.ty.injEq, List.cons.injEq, Option.some.injEq, and_true, exists_eq_left', exists_and_left, sp_frame_of]
      exact ⟨ts, e, hz, hR _ _ ⟨rfl, rfl⟩⟩
    rintro _ _ ⟨rfl, rfl⟩
    simp only [tRet, tOp, tCons, tNil, tC, cVar, tLst, tTup, tCallE, and_assoc, Int.reduceAdd, upd_same, cCat, List.length_cons, List.length_nil, List.getElem?_cons_zero, List.getElem?_cons_succ, V.int.injEq, V.bl.injEq, V.str.injEq, V.ref.injEq, V.ty.injEq, List.cons.injEq, Option.some.injEq, and_true, true_and, exists_eq_left', exists_and_left, Nat.reduceAdd, sz1, sz4, sp_walked, sp_holder, sp_slot_of]
    refine ⟨ts.idxOf z / 7, rfl, by omega, fun l H1 s1 hl1 ⟨vs, el, dv⟩ => ⟨ts, s1 _ _ e, hz, fun p hp p1 hp1 => ?_⟩⟩
    have s2 := Same.upd (o := .tup (De.vs (.tk h (hold (ts.idxOf z / 7 : Nat) h) (ts.idxOf z % 7 : Nat)))) hp
    have s3 := Same.upd (o := .lst [V.ref p]) hp1
    have el3 := s3 _ _ (s2 _ _ el)
    have dn : DVs (upd (upd H1 p (.tup (De.vs (.tk h (hold (ts.idxOf z / 7 : Nat) h) (ts.idxOf z % 7 : Nat))))) p1 (.lst [V.ref p])) (loadD ts z h) (vs ++ [V.ref p]) := (dv.same (s2.trans s3)).app (DVs.one (s3 _ _ upd_same))
    try simp only [De.vs] at s2 s3 el3 dn
    rw [el3]
    dsimp only
    refine ⟨?_, fun l2 hl2 => q _ _ (s1.trans (s2.trans (s3.trans (Same.upd hl2)))) (same_none (s1.trans (s2.trans s3)) hl2) ⟨_, upd_same, dn.same (Same.upd hl2)⟩⟩
    exact Nat.le_trans (show vs.length + 1 ≤ 20 by rw [dv.len]; unfold walkD; rw [List.length_map, List.length_range]; omega) (by decide)
def sp_stored : Sp := fun vs H Q _ => ∃ ln z, ∃ ts : List Str, vs = [.ref ln, .str z] ∧ H ln = some (.lst (ts.map V.str)) ∧ z ∈ ts ∧ ts.length ≤ 50 ∧ ∀ l H', Same H H' → H l = none → DsAt H' (storeD ts z) l → Q (.ref l) H'
theorem sc_stored : FnScope ["names", "name", "frame"] ["names", "name"] (defScope s_stored) := ⟨rfl, rfl, rfl, by decide +kernel, rfl, by decide +kernel, by decide +kernel⟩
theorem ok_stored (T : Txt K mg A) : FnOk P w K mg base (CXE P w) true 3 A.f_stored A.d_stored ["names", "name"] sp_stored := by
  refine T.fn_stored.okE sc_stored (fun vs H Q E h => ?_) (fun cdv A' outer s H vs Q E hr hx h => ?_)
  · obtain ⟨ln, z, ts, rfl, e, hz, hl, q⟩ := h
    rfl
  · obtain ⟨ln, z, ts, rfl, e, hz, hl, q⟩ := h
    refine ⟨_, JSs.run (j_pss_cons (j_ps_set (i := 2) sc_stored.nd rfl (by first | exact Or.inl rfl | exact Or.inr rfl) (j_pe_callF ((ok_frame_of T).mono (by decide)) hr rfl T.g_frame_of T.fn_frame_of.kp T.b_frame_of hx (j_pa_c (j_cv 0) (j_pa_c (j_cv 1) j_pa_nil))))
      (j_pss_one (j_ps_ret (j_pe_op j_c_cat (j_pe_callF ((ok_walked T).mono (by decide)) hr rfl T.g_walked T.fn_walked.kp T.b_walked hx (j_pa_c (j_cv 2) (j_pa_c j_pe_int j_pa_nil))) (j_pe_lst (j_pa_c (j_pe_tup (j_pa_c j_pe_str (j_pa_c (j_pe_callF ((ok_holder T).mono (by decide)) hr rfl T.g_holder T.fn_holder.kp T.b_holder hx (j_pa_c (j_cv 2) (j_pa_c j_pe_int j_pa_nil))) (j_pa_c (j_pe_callF ((ok_slot_of T).mono (by decide)) hr rfl T.g_slot_of T.fn_slot_of.kp T.b_slot_of hx (j_pa_c (j_cv 0) (j_pa_c (j_cv 1) j_pa_nil))) (j_pa_c j_pe_int j_pa_nil))))) j_pa_nil)))))), ?_⟩
    have hj : ts.idxOf z < ts.length := List.idxOf_lt_length_iff.mpr hz
    show tSeq _ _ _ [some (V.ref ln), some (V.str z), none] H
    refine seq_mid (fun σ' H' => H = H' ∧ σ' = [some (V.ref ln), some (V.str z), some (V.int (ts.idxOf z / 7 : Nat))]) (fun R hR => ?_) ?_
    · simp only [tCons, tNil, cVar, tAsg, gName, tCallE, and_assoc, List.getElem?_cons_zero, List.getElem?_cons_succ, List.set_cons_zero, List.set_cons_succ, V.int.injEq, V.bl.injEq, V.str.injEq, V.ref.injEq, V.ty.injEq, List.cons.injEq, Option.some.injEq, and_true, exists_eq_left', exists_and_left, sp_frame_of]
      exact ⟨ts, e, hz, hR _ _ ⟨rfl, rfl⟩⟩
    rintro _ _ ⟨rfl, rfl⟩
    simp only [tRet, tOp, tCons, tNil, tC, cVar, tLst, tTup, tCallE, and_assoc, Int.reduceAdd, upd_same, cCat, List.length_cons, List.length_nil, List.getElem?_cons_zero, List.getElem?_cons_succ, V.int.injEq, V.bl.injEq, V.str.injEq, V.ref.injEq, V.ty.injEq, List.cons.injEq, Option.some.injEq, and_true, true_and, exists_eq_left', exists_and_left, Nat.reduceAdd, sz1, sz4, sp_walked, sp_holder, sp_slot_of]
    refine ⟨ts.idxOf z / 7, rfl, by omega, fun l H1 s1 hl1 ⟨vs, el, dv⟩ => ⟨ts, s1 _ _ e, hz, fun p hp p1 hp1 => ?_⟩⟩
    have s2 := Same.upd (o := .tup (De.vs (.pt (hold (ts.idxOf z / 7 : Nat) 2) (ts.idxOf z % 7 : Nat) 1))) hp
    have s3 := Same.upd (o := .lst [V.ref p]) hp1
    have el3 := s3 _ _ (s2 _ _ el)
    have dn : DVs (upd (upd H1 p (.tup (De.vs (.pt (hold (ts.idxOf z / 7 : Nat) 2) (ts.idxOf z % 7 : Nat) 1)))) p1 (.lst [V.ref p])) (storeD ts z) (vs ++ [V.ref p]) := (dv.same (s2.trans s3)).app (DVs.one (s3 _ _ upd_same))
    try simp only [De.vs] at s2 s3 el3 dn
    rw [el3]
    dsimp only
    refine ⟨?_, fun l2 hl2 => q _ _ (s1.trans (s2.trans (s3.trans (Same.upd hl2)))) (same_none (s1.trans (s2.trans s3)) hl2) ⟨_, upd_same, dn.same (Same.upd hl2)⟩⟩
    exact Nat.le_trans (show vs.length + 1 ≤ 20 by rw [dv.len]; unfold walkD; rw [List.length_map, List.length_range]; omega) (by decide)
theorem tup_upd {H : Hp} {l : Addr} {vs us : List V} (e : H l = some (.lst vs)) : ∀ a xs, H a = some (.tup xs) → upd H l (.lst us) a = some (.tup xs) := fun a xs h => by
  rw [upd_ne (fun z => by subst z; rw [e] at h; cases h)]; exact h
section
variable {H H' : Hp} {sd lh lc lf : Addr} {ra : List Addr} {s : Hc} {fk : List Int}
theorem SAt.nhc (st : SAt H sd lh lc lf ra s fk) : lh ≠ lc := fun z => by
  have := st.nd; rw [List.nodup_cons] at this; exact this.1 (by rw [z]; exact List.mem_cons_self)
theorem SAt.nhr (st : SAt H sd lh lc lf ra s fk) {a : Addr} (h : a ∈ ra) : a ≠ lh ∧ a ≠ lc := by
  have nd := st.nd
  rw [List.nodup_cons, List.nodup_cons] at nd
  exact ⟨fun z => nd.1 (by rw [← z]; exact List.mem_cons_of_mem _ h), fun z => nd.2.1 (by rw [← z]; exact h)⟩
theorem SAt.hand (st : SAt H sd lh lc lf ra s fk) {vs : List V} (eh : H lh = some (.lst vs)) (uh : UVs H s.hs vs) {h : Nat} {u : U} {v : V} (hu : u.at H v) : SAt (upd H lh (.lst (vs.set h v))) sd lh lc lf ra ⟨s.hs.set h u, s.cs⟩ fk where
  ob := by rw [upd_ne (fun z => by have := st.ob; rw [z, eh] at this; cases this)]; exact st.ob
  hd := ⟨_, upd_same, (uh.set hu).mono (tup_upd eh)⟩
  cl := by rw [upd_ne (Ne.symm st.nhc)]; exact st.cl
  rl := st.rl
  rw := fun j a hj => by
    obtain ⟨ws, e, w⟩ := st.rw j a hj
    exact ⟨ws, by rw [upd_ne (st.nhr (List.mem_of_getElem? hj)).1]; exact e, w.mono (tup_upd eh)⟩
  fr := by rw [upd_ne (fun z => by have := st.fr; rw [z, eh] at this; cases this)]; exact st.fr
  nd := st.nd
  h3 := by show (s.hs.set h u).length = 3; rw [List.length_set]; exact st.h3
theorem SAt.row (st : SAt H sd lh lc lf ra s fk) {j k : Nat} {a : Addr} {rs : List V} {u : U} {v : V} (hj : ra[j]? = some a) (er : H a = some (.lst rs)) (ur : UVs H (s.cs.getD j []) rs) (hu : u.at H v) :
    SAt (upd H a (.lst (rs.set k v))) sd lh lc lf ra ⟨s.hs, s.cs.set j ((s.cs.getD j []).set k u)⟩ fk := by
  have na := st.nhr (List.mem_of_getElem? hj)
  have hjl : j < ra.length := (List.getElem?_eq_some_iff.mp hj).1
  exact {
    ob := by rw [upd_ne (fun z => by have := st.ob; rw [z, er] at this; cases this)]; exact st.ob
    hd := by
      obtain ⟨vs, eh, uh⟩ := st.hd
      exact ⟨vs, by rw [upd_ne (Ne.symm na.1)]; exact eh, uh.mono (tup_upd er)⟩
    cl := by rw [upd_ne (Ne.symm na.2)]; exact st.cl
    rl := by show ra.length = (s.cs.set j _).length; rw [List.length_set]; exact st.rl
    rw := fun i b hb => by
      show ∃ vs, _ ∧ UVs _ ((s.cs.set j ((s.cs.getD j []).set k u)).getD i []) vs
      by_cases z : i = j
      · subst z
        rw [hj] at hb
        cases hb
        rw [List.getD_eq_getElem?_getD, List.getElem?_set, if_pos rfl, if_pos (by rw [← st.rl]; exact hjl)]
        exact ⟨_, upd_same, (ur.set hu).mono (tup_upd er)⟩
      · obtain ⟨ws, e, w⟩ := st.rw i b hb
        have nb : b ≠ a := fun y => by
          subst y
          have nd := st.nd
          rw [List.nodup_cons, List.nodup_cons] at nd
          have h1 := (List.getElem?_eq_some_iff.mp hb)
          have h2 := (List.getElem?_eq_some_iff.mp hj)
          exact z ((List.getElem_inj nd.2.2).mp (h1.2.trans h2.2.symm))
        rw [List.getD_eq_getElem?_getD, List.getElem?_set, if_neg (Ne.symm z), ← List.getD_eq_getElem?_getD]
        exact ⟨ws, by rw [upd_ne nb]; exact e, w.mono (tup_upd er)⟩
    fr := by rw [upd_ne (fun z => by have := st.fr; rw [z, er] at this; cases this)]; exact st.fr
    nd := st.nd
    h3 := st.h3 }
theorem SAt.add (st : SAt H sd lh lc lf ra s fk) {a : Addr} {n : Nat} (ea : H a = some (.lst (List.replicate n .non))) (hn : a ∉ lh :: lc :: ra) :
    SAt (upd H lc (.lst (ra.map V.ref ++ [V.ref a]))) sd lh lc lf (ra ++ [a]) ⟨s.hs, s.cs ++ [List.replicate n .n]⟩ fk := by
  have nac : a ≠ lc := fun z => hn (by rw [z]; exact List.mem_cons_of_mem _ List.mem_cons_self)
  exact {
    ob := by rw [upd_ne (fun z => by have := st.ob; rw [z, st.cl] at this; cases this)]; exact st.ob
    hd := by
      obtain ⟨vs, eh, uh⟩ := st.hd
      exact ⟨vs, by rw [upd_ne st.nhc]; exact eh, uh.mono (tup_upd st.cl)⟩
    cl := by rw [upd_same, List.map_append]; rfl
    rl := by show (ra ++ [a]).length = (s.cs ++ [_]).length; rw [List.length_append, List.length_append, st.rl]; rfl
    rw := fun i b hb => by
      show ∃ vs, _ ∧ UVs _ ((s.cs ++ [List.replicate n U.n]).getD i []) vs
      by_cases z : i < ra.length
      · rw [List.getElem?_append_left z] at hb
        obtain ⟨ws, e, w⟩ := st.rw i b hb
        rw [List.getD_eq_getElem?_getD, List.getElem?_append_left (by rw [← st.rl]; exact z), ← List.getD_eq_getElem?_getD]
        exact ⟨ws, by rw [upd_ne (st.nhr (List.mem_of_getElem? hb)).2]; exact e, w.mono (tup_upd st.cl)⟩
      · have hi : i = ra.length := by
          have := (List.getElem?_eq_some_iff.mp hb).1
          rw [List.length_append, List.length_singleton] at this
          omega
        subst hi
        rw [List.getElem?_append_right (Nat.le_refl _), Nat.sub_self] at hb
        cases hb
        rw [List.getD_eq_getElem?_getD, List.getElem?_append_right (by rw [st.rl]; exact Nat.le_refl _), st.rl, Nat.sub_self]
        exact ⟨_, by rw [upd_ne nac]; exact ea, (UVs.nones (H := H)).mono (tup_upd st.cl)⟩
    fr := by rw [upd_ne (fun z => by have := st.fr; rw [z, st.cl] at this; cases this)]; exact st.fr
    nd := by
      have e : lh :: lc :: (ra ++ [a]) = (lh :: lc :: ra) ++ [a] := rfl
      rw [e, List.nodup_append]
      exact ⟨st.nd, by simp, fun u hu v hv z => by rw [List.mem_singleton] at hv; subst hv; subst z; exact hn hu⟩
    h3 := st.h3 }
end
/-- the rows that were there, and new ones behind them -/
def Grow (H : Hp) (ra ra' : List Addr) : Prop := ∃ more, ra' = ra ++ more ∧ ∀ a ∈ more, H a = none
theorem Grow.refl (H : Hp) (ra : List Addr) : Grow H ra ra := ⟨[], by simp, by simp⟩
def own (sd lh lc : Addr) (ra : List Addr) (b : Addr) : Prop := b = sd ∨ b = lh ∨ b = lc ∨ b ∈ ra
theorem if_yes {tc : TT} {t u : TS} {D : Ends} {σ : St} {H : Hp} (h : ∀ K : Bool → Hp → Prop, K true H → tc σ H K) (ht : t D σ H) : tIfS tc t u D σ H := h _ (by rw [if_pos rfl]; exact ht)
theorem if_no {tc : TT} {t u : TS} {D : Ends} {σ : St} {H : Hp} (h : ∀ K : Bool → Hp → Prop, K false H → tc σ H K) (ht : u D σ H) : tIfS tc t u D σ H := h _ (by rw [if_neg (by intro z; cases z)]; exact ht)
def De.fst : De → Int
  | .mk h _ => h
  | .kp h _ => h
  | .sh h _ => h
  | .dr h => h
  | .tk h _ _ => h
  | .pt g _ _ => g
  | .rd h => h
theorem De.vs1 {de : De} : de.vs[1]? = some (V.int de.fst) := by cases de <;> rfl
theorem De.len2 {de : De} : 2 ≤ de.vs.length := by cases de <;> simp [De.vs]
theorem De.ok.hand {de : De} (h : de.ok) : 0 ≤ de.fst ∧ de.fst < 3 := by
  cases de with
  | mk => exact ⟨h.1, h.2.1⟩
  | kp => exact h
  | sh => exact ⟨h.1, h.2.1⟩
  | dr => exact h
  | tk => exact ⟨h.1, h.2.1⟩
  | pt => exact ⟨h.1, h.2.1⟩
  | rd => exact h
def sp__law_deed : Sp := fun vs H Q _ => ∃ sd lh lc lf ra s fk d de s', vs = [.ref sd, .ref d] ∧ SAt H sd lh lc lf ra s fk ∧ H d = some (.tup (De.vs de)) ∧ de.ok ∧ s.ex de = some s' ∧ s.cs.length ≤ 500 ∧
  ∀ H' ra', SAt H' sd lh lc lf ra' s' fk → (∀ b o, H b = some o → ¬ own sd lh lc ra b → H' b = some o) → Grow H ra ra' → Q (.bl true) H'
theorem sc__law_deed : FnScope ["_law_s", "_law_deed_here", "_law_row"] ["_law_s", "_law_deed_here"] (defScope s__law_deed) := ⟨rfl, rfl, rfl, by decide +kernel, rfl, by decide +kernel, by decide +kernel⟩
theorem ok__law_deed (T : Txt K mg A) : FnOk P w K mg base (CXE P w) true 3 A.f__law_deed A.d__law_deed ["_law_s", "_law_deed_here"] sp__law_deed := by
  refine T.fn__law_deed.okE sc__law_deed (fun vs H Q E h => ?_) (fun cdv A' outer s H vs Q E hr hx h => ?_)
  · obtain ⟨sd, lh, lc, lf, ra, s0, fk, d, de, s1, rfl, st, ed, ok, hex, hcl, q⟩ := h
    rfl
  · obtain ⟨sd, lh, lc, lf, ra, s0, fk, d, de, s1, rfl, st, ed, ok, hex, hcl, q⟩ := h
    refine ⟨_, JSs.run (j_pss_cons (j_ps_if (j_PW_pt (j_pw_or (j_pt_not (j_pt_truth (j_pe_callBF j_call_isi (by rfl) T.n_isinstance PyProof.Rows.Boot.«isinstance» (j_pa_c (j_cv 1) (j_pa_c (j_pe_ty T.n_tuple PyProof.Rows.Boot.«tuple») j_pa_nil))) (fun _ => rfl))) (j_pw_or (j_pt_cmpR j_c_lt (j_pe_callBF j_c_len (by rfl) T.n_len PyProof.Rows.Boot.«len» (j_pa_c (j_cv 1) j_pa_nil)) j_pe_int (nomark _)) (j_pw_or1 (j_pt_not (j_pt_truth (j_pe_callF ((ok__law_is_hand T).mono (by decide)) hr rfl T.g__law_is_hand T.fn__law_is_hand.kp T.b__law_is_hand hx (j_pa_c (j_pe_ix j_c_ix (j_cv 1) j_pe_int (fun _ _ => rfl)) j_pa_nil)) (fun _ => rfl))))))) (j_pss_one (j_ps_ret j_pe_bl)) j_pss_nil)
      (j_pss_cons (j_ps_if (j_PW_pt (j_pw_and (j_pt_cmpR (j_c_eqA (hu8 hr)) (j_pe_ix j_c_ix (j_cv 1) j_pe_int (fun _ _ => rfl)) j_pe_str (nomark _)) (j_pw_and (j_pt_cmpR (j_c_eqA (hu8 hr)) (j_pe_callBF j_c_len (by rfl) T.n_len PyProof.Rows.Boot.«len» (j_pa_c (j_cv 1) j_pa_nil)) j_pe_int (nomark _)) (j_pw_and (j_pt_truth (j_pe_callBF j_call_isi (by rfl) T.n_isinstance PyProof.Rows.Boot.«isinstance» (j_pa_c (j_pe_ix j_c_ix (j_cv 1) j_pe_int (fun _ _ => rfl)) (j_pa_c (j_pe_ty T.n_int PyProof.Rows.Boot.«int») j_pa_nil))) (fun _ => rfl)) (j_pw_and1 (j_pt_chain j_c_le j_c_le j_pe_int (j_pe_ix j_c_ix (j_cv 1) j_pe_int (fun _ _ => rfl)) j_pe_int)))))) (j_pss_cons (j_ps_expr (j_c_bm PySem.F.slot_list_append PySem.F.type_list_append j_c_append (j_c_dget (by exact hu_of hr) (j_cv 0) j_pe_str (fun _ _ => rfl)) (j_pa_c (j_pe_op j_c_rep (j_pe_lst (j_pa_c j_pe_non j_pa_nil)) (j_pe_ix j_c_ix (j_cv 1) j_pe_int (fun _ _ => rfl))) j_pa_nil)))
      (j_pss_one (j_ps_asg (j_pe_tup (j_pa_c j_pe_str (j_pa_c (j_pe_op j_c_sub (j_pe_callBF j_c_len (by rfl) T.n_len PyProof.Rows.Boot.«len» (j_pa_c (j_c_dget (by exact hu_of hr) (j_cv 0) j_pe_str (fun _ _ => rfl)) j_pa_nil)) j_pe_int) j_pa_nil))) (j_pg_sub (j_c_dget (by exact hu_of hr) (j_cv 0) j_pe_str (fun _ _ => rfl)) (j_pe_ix j_c_ix (j_cv 1) j_pe_int (fun _ _ => rfl)) j_c_set)))) (j_pss_one (j_ps_if (j_PW_pt (j_pw_and (j_pt_cmpR (j_c_eqA (hu8 hr)) (j_pe_ix j_c_ix (j_cv 1) j_pe_int (fun _ _ => rfl)) j_pe_str (nomark _)) (j_pw_and (j_pt_cmpR (j_c_eqA (hu8 hr)) (j_pe_callBF j_c_len (by rfl) T.n_len PyProof.Rows.Boot.«len» (j_pa_c (j_cv 1) j_pa_nil)) j_pe_int (nomark _)) (j_pw_and1 (j_pt_truth (j_pe_callBF j_call_isi (by rfl) T.n_isinstance PyProof.Rows.Boot.«isinstance» (j_pa_c (j_pe_ix j_c_ix (j_cv 1) j_pe_int (fun _ _ => rfl)) (j_pa_c (j_pe_ty T.n_int PyProof.Rows.Boot.«int») j_pa_nil))) (fun _ => rfl)))))) (j_pss_one (j_ps_asg (j_pe_ix j_c_ix (j_cv 1) j_pe_int (fun _ _ => rfl)) (j_pg_sub (j_c_dget (by exact hu_of hr) (j_cv 0) j_pe_str (fun _ _ => rfl)) (j_pe_ix j_c_ix (j_cv 1) j_pe_int (fun _ _ => rfl)) j_c_set))) (j_pss_one (j_ps_if (j_PW_pt (j_pw_and (j_pt_cmpR (j_c_eqA (hu8 hr)) (j_pe_ix j_c_ix (j_cv 1) j_pe_int (fun _ _ => rfl)) j_pe_str (nomark _)) (j_pw_and (j_pt_cmpR (j_c_eqA (hu8 hr)) (j_pe_callBF j_c_len (by rfl) T.n_len PyProof.Rows.Boot.«len» (j_pa_c (j_cv 1) j_pa_nil)) j_pe_int (nomark _)) (j_pw_and1 (j_pt_truth (j_pe_callF ((ok__law_is_hand T).mono (by decide)) hr rfl T.g__law_is_hand T.fn__law_is_hand.kp T.b__law_is_hand hx (j_pa_c (j_pe_ix j_c_ix (j_cv 1) j_pe_int (fun _ _ => rfl)) j_pa_nil)) (fun _ => rfl)))))) (j_pss_one (j_ps_asg (j_pe_ix j_c_ix (j_c_dget (by exact hu_of hr) (j_cv 0) j_pe_str (fun _ _ => rfl)) (j_pe_ix j_c_ix (j_cv 1) j_pe_int (fun _ _ => rfl)) (fun _ _ => rfl)) (j_pg_sub (j_c_dget (by exact hu_of hr) (j_cv 0) j_pe_str (fun _ _ => rfl)) (j_pe_ix j_c_ix (j_cv 1) j_pe_int (fun _ _ => rfl)) j_c_set))) (j_pss_one (j_ps_if (j_PW_pt (j_pw_and (j_pt_cmpR (j_c_eqA (hu8 hr)) (j_pe_ix j_c_ix (j_cv 1) j_pe_int (fun _ _ => rfl)) j_pe_str (nomark _)) (j_pw_and1 (j_pt_cmpR (j_c_eqA (hu8 hr)) (j_pe_callBF j_c_len (by rfl) T.n_len PyProof.Rows.Boot.«len» (j_pa_c (j_cv 1) j_pa_nil)) j_pe_int (nomark _))))) (j_pss_one (j_ps_asg j_pe_non (j_pg_sub (j_c_dget (by exact hu_of hr) (j_cv 0) j_pe_str (fun _ _ => rfl)) (j_pe_ix j_c_ix (j_cv 1) j_pe_int (fun _ _ => rfl)) j_c_set))) (j_pss_one (j_ps_if (j_PW_pt (j_pw_and (j_pt_cmpR (j_c_eqA (hu8 hr)) (j_pe_ix j_c_ix (j_cv 1) j_pe_int (fun _ _ => rfl)) j_pe_str (nomark _)) (j_pw_and1 (j_pt_cmpR (j_c_eqA (hu8 hr)) (j_pe_callBF j_c_len (by rfl) T.n_len PyProof.Rows.Boot.«len» (j_pa_c (j_cv 1) j_pa_nil)) j_pe_int (nomark _))))) (j_pss_cons (j_ps_set (i := 2) sc__law_deed.nd rfl (by first | exact Or.inl rfl | exact Or.inr rfl) (j_pe_callF ((ok__law_slots T).mono (by decide)) hr rfl T.g__law_slots T.fn__law_slots.kp T.b__law_slots hx (j_pa_c (j_cv 0) (j_pa_c (j_pe_ix j_c_ix (j_cv 1) j_pe_int (fun _ _ => rfl)) (j_pa_c (j_pe_ix j_c_ix (j_cv 1) j_pe_int (fun _ _ => rfl)) j_pa_nil)))))
      (j_pss_cons (j_ps_if (j_pt_cmpR j_c_is (j_cv 2) j_pe_non (nomark _)) (j_pss_one (j_ps_ret j_pe_bl)) j_pss_nil)
      (j_pss_one (j_ps_asg (j_pe_ix j_c_ix (j_cv 2) (j_pe_ix j_c_ix (j_cv 1) j_pe_int (fun _ _ => rfl)) (fun _ _ => rfl)) (j_pg_sub (j_c_dget (by exact hu_of hr) (j_cv 0) j_pe_str (fun _ _ => rfl)) (j_pe_ix j_c_ix (j_cv 1) j_pe_int (fun _ _ => rfl)) j_c_set))))) (j_pss_one (j_ps_if (j_PW_pt (j_pw_and (j_pt_cmpR (j_c_eqA (hu8 hr)) (j_pe_ix j_c_ix (j_cv 1) j_pe_int (fun _ _ => rfl)) j_pe_str (nomark _)) (j_pw_and1 (j_pt_cmpR (j_c_eqA (hu8 hr)) (j_pe_callBF j_c_len (by rfl) T.n_len PyProof.Rows.Boot.«len» (j_pa_c (j_cv 1) j_pa_nil)) j_pe_int (nomark _))))) (j_pss_cons (j_ps_set (i := 2) sc__law_deed.nd rfl (by first | exact Or.inl rfl | exact Or.inr rfl) (j_pe_callF ((ok__law_slots T).mono (by decide)) hr rfl T.g__law_slots T.fn__law_slots.kp T.b__law_slots hx (j_pa_c (j_cv 0) (j_pa_c (j_pe_ix j_c_ix (j_cv 1) j_pe_int (fun _ _ => rfl)) (j_pa_c (j_pe_ix j_c_ix (j_cv 1) j_pe_int (fun _ _ => rfl)) j_pa_nil)))))
      (j_pss_cons (j_ps_if (j_PW_pt (j_pw_or (j_pt_cmpR j_c_is (j_cv 2) j_pe_non (nomark _)) (j_pw_or1 (j_pt_not (j_pt_truth (j_pe_callF ((ok__law_is_hand T).mono (by decide)) hr rfl T.g__law_is_hand T.fn__law_is_hand.kp T.b__law_is_hand hx (j_pa_c (j_pe_ix j_c_ix (j_cv 1) j_pe_int (fun _ _ => rfl)) j_pa_nil)) (fun _ => rfl)))))) (j_pss_one (j_ps_ret j_pe_bl)) j_pss_nil)
      (j_pss_one (j_ps_asg (j_pe_ix j_c_ix (j_c_dget (by exact hu_of hr) (j_cv 0) j_pe_str (fun _ _ => rfl)) (j_pe_ix j_c_ix (j_cv 1) j_pe_int (fun _ _ => rfl)) (fun _ _ => rfl)) (j_pg_sub (j_cv 2) (j_pe_ix j_c_ix (j_cv 1) j_pe_int (fun _ _ => rfl)) j_c_set))))) (j_pss_one (j_ps_ret (j_pe_and (j_pe_cmpR (j_c_eqA (hu8 hr)) (j_pe_ix j_c_ix (j_cv 1) j_pe_int (fun _ _ => rfl)) j_pe_str (nomark _)) (j_pe_one (j_pe_cmpR (j_c_eqA (hu8 hr)) (j_pe_callBF j_c_len (by rfl) T.n_len PyProof.Rows.Boot.«len» (j_pa_c (j_cv 1) j_pa_nil)) j_pe_int (nomark _)))))))))))))))))
      (j_pss_one (j_ps_ret j_pe_bl)))), ?_⟩
    obtain ⟨vs, eh, uh⟩ := st.hd
    have hvl := uh.len
    rw [st.h3] at hvl
    show tSeq _ _ _ [some (V.ref sd), some (V.ref d), none] H
    refine seq_mid (fun σ' H' => H = H' ∧ σ' = [some (V.ref sd), some (V.ref d), none]) (fun R hR => ?_) ?_
    · have v1 := De.vs1 (de := de)
      have h03 := ok.hand
      have l2 : ¬ ((de.vs.length : Int) < 2) := by have := De.len2 (de := de); omega
      generalize de.vs = xs at *
      generalize de.fst = h at *
      simp only [tRet, tNext, tIfS, tTest, tOp, tOr, tNot, tCB, tCons, tNil, tC, cVar, tCallE, cLt, cCmp, rIsi, kitV, cIx, cLen, cxOf_K, TruV, Bool.not_eq_true', decide_false, Bool.true_eq_false, atI_1, List.getElem?_cons_zero, List.getElem?_cons_succ, V.int.injEq, V.bl.injEq, V.str.injEq, V.ref.injEq, V.ty.injEq, List.cons.injEq, Option.some.injEq, and_true, true_and, exists_eq_left', exists_eq_left, ite_true, ite_false, Bool.false_eq_true, ed, tyo, OkTy, T.kt_tuple_tuple, sp__law_is_hand, v1, l2]
      exact ⟨h03.1, h03.2, hR _ _ ⟨rfl, rfl⟩⟩
    rintro _ _ ⟨rfl, rfl⟩
    refine seq_mid (fun σ' H' => ∃ ra', SAt H' sd lh lc lf ra' s1 fk ∧ (∀ b o, H b = some o → ¬ own sd lh lc ra b → H' b = some o) ∧ Grow H ra ra' ∧ ∃ v2, σ' = [some (V.ref sd), some (V.ref d), v2]) (fun R hR => ?_) ?_
    · cases de with
    | mk h n =>
      simp only [De.vs] at ed
      obtain ⟨h0, h3, n0, n8⟩ := ok
      refine if_yes (fun K1 hK => ?_) ?_
      · simp only [tTest, tOp, tAnd, tCB, tCons, tNil, tC, cVar, cLe, cCmp, eqv, tChain, rIsi, kitV, cIx, cLen, cxOf_K, TruV, Int.cast_ofNat_Int, Int.reduceAdd, decide_true, cEqA, atI_0, atI_2, List.length_cons, List.length_nil, List.getElem?_cons_zero, List.getElem?_cons_succ, V.int.injEq, V.bl.injEq, V.str.injEq, V.ref.injEq, V.ty.injEq, List.cons.injEq, Option.some.injEq, true_and, exists_eq_left', exists_eq_left, ite_true, decide_eq_true_eq, Nat.reduceAdd, ed, tyo, OkTy, T.kt_int_int]
        rw [if_pos n0, decide_eq_true n8]
        exact hK
      cases hex
      refine seq_mid (fun σ' H' => ∃ p1, SAt H' sd lh lc lf (ra ++ [p1]) ⟨s0.hs, s0.cs ++ [List.replicate n.toNat .n]⟩ fk ∧ H p1 = none ∧ (∀ b o, H b = some o → b ≠ lc → H' b = some o) ∧ σ' = [some (V.ref sd), some (V.ref d), none]) (fun R1 hR1 => ?_) ?_
      · simp only [tDrop, tOp, tCons, tNil, tC, cVar, tLst, cIx, Int.reduceNeg, Int.reducePow, Int.reduceAdd, cRep, cAppend, cBM, cDGet, keyV, atI_2, List.length_cons, List.length_nil, List.getElem?_cons_zero, List.getElem?_cons_succ, true_and, Nat.reduceAdd, sz1, st.ob, sKV_c, st.cl]
        intro p hp
        have sp1 := Same.upd (o := .lst [V.non]) hp
        rw [sp1 _ _ ed]
        dsimp only [List.getElem?_cons_succ, List.getElem?_cons_zero]
        rw [upd_same]
        dsimp only
        refine ⟨by omega, by omega, Nat.le_trans (show 1 * n.toNat ≤ 8 by omega) (by decide), fun p1 hp1 => ?_⟩
        have sp2 := Same.upd (o := .lst (List.replicate n.toNat [V.non]).flatten) hp1
        have fl : (List.replicate n.toNat [V.non]).flatten = List.replicate n.toNat V.non := by
          induction n.toNat with
          | zero => rfl
          | succ m ih => rw [List.replicate_succ, List.flatten_cons, ih]; rfl
        rw [fl] at sp2 ⊢
        have st2 := st.same (sp1.trans sp2)
        have ep1 : upd (upd H p (.lst [V.non])) p1 (.lst (List.replicate n.toNat V.non)) p1 = some (.lst (List.replicate n.toNat V.non)) := upd_same
        have hp0 := same_none sp1 hp1
        have fresh : p1 ∉ lh :: lc :: ra := fun m => by
          rcases List.mem_cons.mp m with z | m
          · rw [z, eh] at hp0; cases hp0
          · rcases List.mem_cons.mp m with z | m
            · have := st.cl; rw [← z, hp0] at this; cases this
            · obtain ⟨j, hj⟩ := List.mem_iff_getElem?.mp m
              obtain ⟨ws, e, _⟩ := st.rw j p1 hj
              rw [hp0] at e; cases e
        have sA := sp1.trans sp2
        generalize upd (upd H p (.lst [V.non])) p1 (.lst (List.replicate n.toNat V.non)) = H2 at *
        rw [st2.cl]
        dsimp only
        have hral := st.rl
        exact ⟨Nat.lt_of_le_of_lt (show (ra.map V.ref).length ≤ 500 by rw [List.length_map]; omega) (by decide), hR1 _ _ ⟨p1, st2.add ep1 fresh, hp0, fun b o eb nb => by rw [upd_ne nb]; exact sA _ _ eb, rfl⟩⟩
      rintro _ H3 ⟨p1, st3, hp0, f3, rfl⟩
      have ed3 := f3 _ _ ed (fun z => by have := st.cl; rw [← z, ed] at this; cases this)
      have hral := st.rl
      simp only [tOp, tCB, tCons, tNil, tC, cVar, tTup, tAsg, cSub, cIx, cLen, Int.reduceAdd, cSetL, cDGet, keyV, gSub, atI_1, List.length_cons, List.length_nil, List.getElem?_cons_zero, List.getElem?_cons_succ, true_and, Nat.reduceAdd, sz2, st3.ob, sKV_c, st3.cl]
      intro p4 hp4
      have elen : (((ra ++ [p1]).map V.ref).length : Int) - 1 = (s0.cs.length : Int) := by rw [List.length_map, List.length_append, ← hral]; show (((ra.length + 1 : Nat) : Int)) - 1 = _; omega
      rw [elen]
      have s4 := Same.upd (o := .tup [V.str (Str.ofString "cell"), V.int (s0.cs.length : Int)]) hp4
      have st4 := st3.same s4
      obtain ⟨ws, eh4, uh4⟩ := st4.hd
      have ed4 := s4 _ _ ed3
      have ep4 : upd H3 p4 (.tup [V.str (Str.ofString "cell"), V.int (s0.cs.length : Int)]) p4 = some (.tup [V.str (Str.ofString "cell"), V.int (s0.cs.length : Int)]) := upd_same
      generalize upd H3 p4 (.tup [V.str (Str.ofString "cell"), V.int (s0.cs.length : Int)]) = H4 at *
      rw [st4.ob]
      dsimp only
      rw [sKV_h]
      dsimp only
      rw [ed4]
      dsimp only [List.getElem?_cons_succ, List.getElem?_cons_zero]
      rw [eh4]
      dsimp only
      rw [ixN_in h0 (by rw [uh4.len, st4.h3]; exact h3)]
      refine hR _ _ ⟨ra ++ [p1], st4.hand eh4 uh4 (u := .c s0.cs.length) ⟨p4, rfl, ep4⟩, fun b o eb nb => ?_, ⟨[p1], rfl, fun a ha => by rw [List.mem_singleton] at ha; rw [ha]; exact hp0⟩, _, rfl⟩
      rw [upd_ne (fun z => nb (.inr (.inl z)))]
      exact s4 _ _ (f3 _ _ eb fun z => nb (.inr (.inr (.inl z))))
    | kp h x =>
      simp only [De.vs] at ed
      obtain ⟨h0, h3⟩ := ok
      refine if_no (fun K1 hK => ?_) ?_
      · simp only [tTest, tOp, tAnd, tCB, tCons, tNil, tC, cVar, cLe, cCmp, eqv, tChain, rIsi, kitV, cIx, cLen, cxOf_K, TruV, Int.reduceEq, Int.cast_ofNat_Int, Int.reduceAdd, ofs_inj, String.reduceEq, decide_true, decide_false, cEqA, atI_0, atI_2, List.length_cons, List.length_nil, List.getElem?_cons_zero, List.getElem?_cons_succ, V.int.injEq, V.bl.injEq, V.str.injEq, V.ref.injEq, V.ty.injEq, List.cons.injEq, Option.some.injEq, exists_eq_left', exists_eq_left, ite_true, ite_false, Bool.false_eq_true, decide_eq_true_eq, Nat.reduceAdd, ed]
        exact hK
      refine if_yes (fun K1 hK => ?_) ?_
      · simp only [tTest, tOp, tAnd, tCB, tCons, tNil, tC, cVar, eqv, rIsi, kitV, cIx, cLen, cxOf_K, TruV, Int.cast_ofNat_Int, Int.reduceAdd, decide_true, cEqA, atI_0, atI_2, List.length_cons, List.length_nil, List.getElem?_cons_zero, List.getElem?_cons_succ, V.int.injEq, V.bl.injEq, V.str.injEq, V.ref.injEq, V.ty.injEq, List.cons.injEq, Option.some.injEq, true_and, exists_eq_left', exists_eq_left, ite_true, Nat.reduceAdd, ed, tyo, OkTy, T.kt_int_int]
        exact hK
      cases hex
      simp only [tOp, tC, cVar, tAsg, cIx, cSetL, cDGet, keyV, gSub, atI_1, atI_2, List.getElem?_cons_zero, List.getElem?_cons_succ, ed, st.ob, sKV_h, eh]
      rw [ixN_in h0 (by omega)]
      exact hR _ _ ⟨ra, st.hand eh uh rfl, fun b o eb nb => by rw [upd_ne (fun z => nb (.inr (.inl z)))]; exact eb, Grow.refl _ _, _, rfl⟩
    | sh h g =>
      simp only [De.vs] at ed
      obtain ⟨h0, h3, g0, g3⟩ := ok
      refine if_no (fun K1 hK => ?_) ?_
      · simp only [tTest, tOp, tAnd, tCB, tCons, tNil, tC, cVar, cLe, cCmp, eqv, tChain, rIsi, kitV, cIx, cLen, cxOf_K, TruV, Int.reduceEq, Int.cast_ofNat_Int, Int.reduceAdd, ofs_inj, String.reduceEq, decide_true, decide_false, cEqA, atI_0, atI_2, List.length_cons, List.length_nil, List.getElem?_cons_zero, List.getElem?_cons_succ, V.int.injEq, V.bl.injEq, V.str.injEq, V.ref.injEq, V.ty.injEq, List.cons.injEq, Option.some.injEq, exists_eq_left', exists_eq_left, ite_true, ite_false, Bool.false_eq_true, decide_eq_true_eq, Nat.reduceAdd, ed]
        exact hK
      refine if_no (fun K1 hK => ?_) ?_
      · simp only [tTest, tOp, tAnd, tCB, tCons, tNil, tC, cVar, eqv, rIsi, kitV, cIx, cLen, cxOf_K, TruV, Int.reduceEq, Int.cast_ofNat_Int, Int.reduceAdd, ofs_inj, String.reduceEq, decide_true, decide_false, cEqA, atI_0, atI_2, List.length_cons, List.length_nil, List.getElem?_cons_zero, List.getElem?_cons_succ, V.int.injEq, V.bl.injEq, V.str.injEq, V.ref.injEq, V.ty.injEq, List.cons.injEq, Option.some.injEq, exists_eq_left', exists_eq_left, ite_true, ite_false, Bool.false_eq_true, Nat.reduceAdd, ed]
        exact hK
      refine if_yes (fun K1 hK => ?_) ?_
      · simp only [tTest, tOp, tAnd, tCB, tCons, tNil, tC, cVar, tCallE, eqv, cIx, cLen, TruV, Int.cast_ofNat_Int, Int.reduceAdd, decide_true, cEqA, atI_0, atI_2, List.length_cons, List.length_nil, List.getElem?_cons_zero, List.getElem?_cons_succ, V.int.injEq, V.bl.injEq, V.str.injEq, V.ref.injEq, V.ty.injEq, List.cons.injEq, Option.some.injEq, and_true, exists_eq_left', exists_eq_left, ite_true, Nat.reduceAdd, ed, sp__law_is_hand]
        exact ⟨g0, g3, hK⟩
      cases hex
      obtain ⟨v, hv, av⟩ := uh.get (j := g.toNat) (by rw [st.h3]; omega)
      simp only [tOp, tC, cVar, tAsg, cIx, cSetL, cDGet, keyV, gSub, atI_1, atI_2, List.getElem?_cons_zero, List.getElem?_cons_succ, ed, st.ob, sKV_h, eh]
      rw [atI_in g0 (by omega), hv]
      dsimp only
      rw [ixN_in h0 (by omega)]
      exact hR _ _ ⟨ra, st.hand eh uh av, fun b o eb nb => by rw [upd_ne (fun z => nb (.inr (.inl z)))]; exact eb, Grow.refl _ _, _, rfl⟩
    | dr h =>
      simp only [De.vs] at ed
      obtain ⟨h0, h3⟩ := ok
      refine if_no (fun K1 hK => ?_) ?_
      · simp only [tTest, tOp, tAnd, tCB, tCons, tNil, tC, cVar, cLe, cCmp, eqv, tChain, rIsi, kitV, cIx, cLen, cxOf_K, TruV, Int.reduceEq, Int.cast_ofNat_Int, Int.reduceAdd, ofs_inj, String.reduceEq, decide_false, cEqA, atI_0, atI_2, List.length_cons, List.length_nil, List.getElem?_cons_zero, List.getElem?_cons_succ, V.int.injEq, V.bl.injEq, V.str.injEq, V.ref.injEq, V.ty.injEq, List.cons.injEq, Option.some.injEq, exists_eq_left', exists_eq_left, ite_false, Bool.false_eq_true, decide_eq_true_eq, Nat.reduceAdd, ed]
        exact hK
      refine if_no (fun K1 hK => ?_) ?_
      · simp only [tTest, tOp, tAnd, tCB, tCons, tNil, tC, cVar, eqv, rIsi, kitV, cIx, cLen, cxOf_K, TruV, Int.reduceEq, Int.cast_ofNat_Int, Int.reduceAdd, ofs_inj, String.reduceEq, decide_false, cEqA, atI_0, atI_2, List.length_cons, List.length_nil, List.getElem?_cons_zero, List.getElem?_cons_succ, V.int.injEq, V.bl.injEq, V.str.injEq, V.ref.injEq, V.ty.injEq, List.cons.injEq, Option.some.injEq, exists_eq_left', exists_eq_left, ite_false, Bool.false_eq_true, Nat.reduceAdd, ed]
        exact hK
      refine if_no (fun K1 hK => ?_) ?_
      · simp only [tTest, tOp, tAnd, tCB, tCons, tNil, tC, cVar, tCallE, eqv, cIx, cLen, cxOf_K, TruV, Int.reduceEq, Int.cast_ofNat_Int, Int.reduceAdd, ofs_inj, String.reduceEq, decide_false, cEqA, atI_0, atI_2, List.length_cons, List.length_nil, List.getElem?_cons_zero, List.getElem?_cons_succ, V.int.injEq, V.bl.injEq, V.str.injEq, V.ref.injEq, V.ty.injEq, List.cons.injEq, Option.some.injEq, exists_eq_left', ite_false, Bool.false_eq_true, Nat.reduceAdd, ed]
        exact hK
      refine if_yes (fun K1 hK => ?_) ?_
      · simp only [tTest, tOp, tAnd, tCB, tCons, tNil, tC, cVar, eqv, cIx, cLen, Int.cast_ofNat_Int, Int.reduceAdd, decide_true, cEqA, atI_0, List.length_cons, List.length_nil, List.getElem?_cons_zero, List.getElem?_cons_succ, V.int.injEq, V.bl.injEq, V.str.injEq, V.ref.injEq, V.ty.injEq, List.cons.injEq, Option.some.injEq, exists_eq_left', ite_true, Nat.reduceAdd, ed]
        exact hK
      cases hex
      simp only [tOp, tC, cVar, tAsg, cIx, cSetL, cDGet, keyV, gSub, atI_1, List.getElem?_cons_zero, List.getElem?_cons_succ, ed, st.ob, sKV_h, eh]
      rw [ixN_in h0 (by omega)]
      exact hR _ _ ⟨ra, st.hand eh uh rfl, fun b o eb nb => by rw [upd_ne (fun z => nb (.inr (.inl z)))]; exact eb, Grow.refl _ _, _, rfl⟩
    | tk h g k =>
      simp only [De.vs] at ed
      obtain ⟨h0, h3, g0, g3, k0⟩ := ok
      refine if_no (fun K1 hK => ?_) ?_
      · simp only [tTest, tOp, tAnd, tCB, tCons, tNil, tC, cVar, cLe, cCmp, eqv, tChain, rIsi, kitV, cIx, cLen, cxOf_K, TruV, Int.reduceEq, Int.cast_ofNat_Int, Int.reduceAdd, ofs_inj, String.reduceEq, decide_false, cEqA, atI_0, atI_2, List.length_cons, List.length_nil, List.getElem?_cons_zero, List.getElem?_cons_succ, V.int.injEq, V.bl.injEq, V.str.injEq, V.ref.injEq, V.ty.injEq, List.cons.injEq, Option.some.injEq, exists_eq_left', exists_eq_left, ite_false, Bool.false_eq_true, decide_eq_true_eq, Nat.reduceAdd, ed]
        exact hK
      refine if_no (fun K1 hK => ?_) ?_
      · simp only [tTest, tOp, tAnd, tCB, tCons, tNil, tC, cVar, eqv, rIsi, kitV, cIx, cLen, cxOf_K, TruV, Int.reduceEq, Int.cast_ofNat_Int, Int.reduceAdd, ofs_inj, String.reduceEq, decide_false, cEqA, atI_0, atI_2, List.length_cons, List.length_nil, List.getElem?_cons_zero, List.getElem?_cons_succ, V.int.injEq, V.bl.injEq, V.str.injEq, V.ref.injEq, V.ty.injEq, List.cons.injEq, Option.some.injEq, exists_eq_left', exists_eq_left, ite_false, Bool.false_eq_true, Nat.reduceAdd, ed]
        exact hK
      refine if_no (fun K1 hK => ?_) ?_
      · simp only [tTest, tOp, tAnd, tCB, tCons, tNil, tC, cVar, tCallE, eqv, cIx, cLen, cxOf_K, TruV, Int.reduceEq, Int.cast_ofNat_Int, Int.reduceAdd, ofs_inj, String.reduceEq, decide_false, cEqA, atI_0, atI_2, List.length_cons, List.length_nil, List.getElem?_cons_zero, List.getElem?_cons_succ, V.int.injEq, V.bl.injEq, V.str.injEq, V.ref.injEq, V.ty.injEq, List.cons.injEq, Option.some.injEq, exists_eq_left', ite_false, Bool.false_eq_true, Nat.reduceAdd, ed]
        exact hK
      refine if_no (fun K1 hK => ?_) ?_
      · simp only [tTest, tOp, tAnd, tCB, tCons, tNil, tC, cVar, eqv, cIx, cLen, Int.reduceEq, Int.cast_ofNat_Int, Int.reduceAdd, ofs_inj, String.reduceEq, decide_false, cEqA, atI_0, List.length_cons, List.length_nil, List.getElem?_cons_zero, List.getElem?_cons_succ, V.int.injEq, V.bl.injEq, V.str.injEq, V.ref.injEq, V.ty.injEq, List.cons.injEq, Option.some.injEq, exists_eq_left', ite_false, Bool.false_eq_true, Nat.reduceAdd, ed]
        exact hK
      refine if_yes (fun K1 hK => ?_) ?_
      · simp only [tTest, tOp, tAnd, tCB, tCons, tNil, tC, cVar, eqv, cIx, cLen, Int.cast_ofNat_Int, Int.reduceAdd, decide_true, cEqA, atI_0, List.length_cons, List.length_nil, List.getElem?_cons_zero, List.getElem?_cons_succ, V.int.injEq, V.bl.injEq, V.str.injEq, V.ref.injEq, V.ty.injEq, List.cons.injEq, Option.some.injEq, exists_eq_left', ite_true, Nat.reduceAdd, ed]
        exact hK
      unfold Hc.ex at hex
      dsimp only at hex
      cases hg : s0.hs.getD g.toNat .n with
      | n => rw [hg] at hex; cases hex
      | i x => rw [hg] at hex; cases hex
      | c j =>
        rw [hg] at hex
        dsimp only at hex
        by_cases hc : k.toNat < (s0.cs.getD j []).length ∧ j < s0.cs.length
        · rw [if_pos hc] at hex
          cases hex
          have hja : ra[j]? = some (ra[j]'(by rw [st.rl]; exact hc.2)) := List.getElem?_eq_getElem (by rw [st.rl]; exact hc.2)
          obtain ⟨rs, er, ur⟩ := st.rw j _ hja
          have hrl := ur.len
          refine seq_mid (fun σ' H' => H = H' ∧ σ' = [some (V.ref sd), some (V.ref d), some (V.ref (ra[j]'(by rw [st.rl]; exact hc.2)))]) (fun R1 hR1 => ?_) ?_
          · simp only [tOp, tCons, tNil, tC, cVar, tAsg, gName, tCallE, cIx, and_assoc, atI_2, atI_3, List.getElem?_cons_zero, List.getElem?_cons_succ, List.set_cons_zero, List.set_cons_succ, V.int.injEq, V.bl.injEq, V.str.injEq, V.ref.injEq, V.ty.injEq, List.cons.injEq, Option.some.injEq, and_true, exists_eq_left', exists_and_left, ed, sp__law_slots]
            exact ⟨lh, lc, lf, ra, s0, fk, st, g0, g3, k0, j, hg, _, hja, hc.1, hR1 _ _ ⟨rfl, rfl⟩⟩
          rintro _ _ ⟨rfl, rfl⟩
          obtain ⟨v, hv, av⟩ := ur.get hc.1
          simp only [tRet, tNext, tSeq, tIfS, tTest, tOp, tC, cVar, tAsg, cIs, isNon, cIx, cSetL, cDGet, keyV, gSub, atI_1, atI_3, List.getElem?_cons_zero, List.getElem?_cons_succ, V.int.injEq, V.bl.injEq, V.str.injEq, V.ref.injEq, V.ty.injEq, List.cons.injEq, Option.some.injEq, exists_eq_left', ite_false, Bool.false_eq_true, ed, st.ob, sKV_h, eh, er]
          rw [atI_in k0 (by rw [hrl]; omega), hv]
          dsimp only
          rw [ixN_in h0 (by omega)]
          exact hR _ _ ⟨ra, st.hand eh uh av, fun b o eb nb => by rw [upd_ne (fun z => nb (.inr (.inl z)))]; exact eb, Grow.refl _ _, _, rfl⟩
        · rw [if_neg hc] at hex; cases hex
    | pt g k h =>
      simp only [De.vs] at ed
      obtain ⟨g0, g3, k0, h0, h3⟩ := ok
      refine if_no (fun K1 hK => ?_) ?_
      · simp only [tTest, tOp, tAnd, tCB, tCons, tNil, tC, cVar, cLe, cCmp, eqv, tChain, rIsi, kitV, cIx, cLen, cxOf_K, TruV, Int.reduceEq, Int.cast_ofNat_Int, Int.reduceAdd, ofs_inj, String.reduceEq, decide_false, cEqA, atI_0, atI_2, List.length_cons, List.length_nil, List.getElem?_cons_zero, List.getElem?_cons_succ, V.int.injEq, V.bl.injEq, V.str.injEq, V.ref.injEq, V.ty.injEq, List.cons.injEq, Option.some.injEq, exists_eq_left', exists_eq_left, ite_false, Bool.false_eq_true, decide_eq_true_eq, Nat.reduceAdd, ed]
        exact hK
      refine if_no (fun K1 hK => ?_) ?_
      · simp only [tTest, tOp, tAnd, tCB, tCons, tNil, tC, cVar, eqv, rIsi, kitV, cIx, cLen, cxOf_K, TruV, Int.reduceEq, Int.cast_ofNat_Int, Int.reduceAdd, ofs_inj, String.reduceEq, decide_false, cEqA, atI_0, atI_2, List.length_cons, List.length_nil, List.getElem?_cons_zero, List.getElem?_cons_succ, V.int.injEq, V.bl.injEq, V.str.injEq, V.ref.injEq, V.ty.injEq, List.cons.injEq, Option.some.injEq, exists_eq_left', exists_eq_left, ite_false, Bool.false_eq_true, Nat.reduceAdd, ed]
        exact hK
      refine if_no (fun K1 hK => ?_) ?_
      · simp only [tTest, tOp, tAnd, tCB, tCons, tNil, tC, cVar, tCallE, eqv, cIx, cLen, cxOf_K, TruV, Int.reduceEq, Int.cast_ofNat_Int, Int.reduceAdd, ofs_inj, String.reduceEq, decide_false, cEqA, atI_0, atI_2, List.length_cons, List.length_nil, List.getElem?_cons_zero, List.getElem?_cons_succ, V.int.injEq, V.bl.injEq, V.str.injEq, V.ref.injEq, V.ty.injEq, List.cons.injEq, Option.some.injEq, exists_eq_left', ite_false, Bool.false_eq_true, Nat.reduceAdd, ed]
        exact hK
      refine if_no (fun K1 hK => ?_) ?_
      · simp only [tTest, tOp, tAnd, tCB, tCons, tNil, tC, cVar, eqv, cIx, cLen, Int.reduceEq, Int.cast_ofNat_Int, Int.reduceAdd, ofs_inj, String.reduceEq, decide_false, cEqA, atI_0, List.length_cons, List.length_nil, List.getElem?_cons_zero, List.getElem?_cons_succ, V.int.injEq, V.bl.injEq, V.str.injEq, V.ref.injEq, V.ty.injEq, List.cons.injEq, Option.some.injEq, exists_eq_left', ite_false, Bool.false_eq_true, Nat.reduceAdd, ed]
        exact hK
      refine if_no (fun K1 hK => ?_) ?_
      · simp only [tTest, tOp, tAnd, tCB, tCons, tNil, tC, cVar, eqv, cIx, cLen, Int.reduceEq, Int.cast_ofNat_Int, Int.reduceAdd, ofs_inj, String.reduceEq, decide_true, decide_false, cEqA, atI_0, List.length_cons, List.length_nil, List.getElem?_cons_zero, List.getElem?_cons_succ, V.int.injEq, V.bl.injEq, V.str.injEq, V.ref.injEq, V.ty.injEq, List.cons.injEq, Option.some.injEq, exists_eq_left', ite_false, Bool.false_eq_true, Nat.reduceAdd, ed]
        exact hK
      refine if_yes (fun K1 hK => ?_) ?_
      · simp only [tTest, tOp, tAnd, tCB, tCons, tNil, tC, cVar, eqv, cIx, cLen, Int.cast_ofNat_Int, Int.reduceAdd, decide_true, cEqA, atI_0, List.length_cons, List.length_nil, List.getElem?_cons_zero, List.getElem?_cons_succ, V.int.injEq, V.bl.injEq, V.str.injEq, V.ref.injEq, V.ty.injEq, List.cons.injEq, Option.some.injEq, exists_eq_left', ite_true, Nat.reduceAdd, ed]
        exact hK
      unfold Hc.ex at hex
      dsimp only at hex
      cases hg : s0.hs.getD g.toNat .n with
      | n => rw [hg] at hex; cases hex
      | i x => rw [hg] at hex; cases hex
      | c j =>
        rw [hg] at hex
        dsimp only at hex
        by_cases hc : k.toNat < (s0.cs.getD j []).length ∧ j < s0.cs.length
        · rw [if_pos hc] at hex
          cases hex
          have hja : ra[j]? = some (ra[j]'(by rw [st.rl]; exact hc.2)) := List.getElem?_eq_getElem (by rw [st.rl]; exact hc.2)
          obtain ⟨rs, er, ur⟩ := st.rw j _ hja
          have hrl := ur.len
          refine seq_mid (fun σ' H' => H = H' ∧ σ' = [some (V.ref sd), some (V.ref d), some (V.ref (ra[j]'(by rw [st.rl]; exact hc.2)))]) (fun R1 hR1 => ?_) ?_
          · simp only [tOp, tCons, tNil, tC, cVar, tAsg, gName, tCallE, cIx, and_assoc, atI_1, atI_2, List.getElem?_cons_zero, List.getElem?_cons_succ, List.set_cons_zero, List.set_cons_succ, V.int.injEq, V.bl.injEq, V.str.injEq, V.ref.injEq, V.ty.injEq, List.cons.injEq, Option.some.injEq, and_true, exists_eq_left', exists_and_left, ed, sp__law_slots]
            exact ⟨lh, lc, lf, ra, s0, fk, st, g0, g3, k0, j, hg, _, hja, hc.1, hR1 _ _ ⟨rfl, rfl⟩⟩
          rintro _ _ ⟨rfl, rfl⟩
          obtain ⟨v, hv, av⟩ := uh.get (j := h.toNat) (by rw [st.h3]; omega)
          simp only [tRet, tNext, tSeq, tIfS, tTest, tOp, tOr, tNot, tCons, tNil, tC, cVar, tAsg, tCallE, cIs, isNon, cIx, TruV, Bool.not_eq_true', Bool.true_eq_false, cSetL, cDGet, keyV, gSub, atI_2, atI_3, List.getElem?_cons_zero, List.getElem?_cons_succ, V.int.injEq, V.bl.injEq, V.str.injEq, V.ref.injEq, V.ty.injEq, List.cons.injEq, Option.some.injEq, and_true, exists_eq_left', exists_eq_left, ite_true, ite_false, Bool.false_eq_true, ed, st.ob, sKV_h, eh, er, sp__law_is_hand]
          refine ⟨h0, h3, ?_⟩
          rw [atI_in h0 (by omega), hv]
          dsimp only
          rw [ixN_in k0 (by rw [hrl]; omega)]
          exact hR _ _ ⟨ra, st.row hja er ur av, fun b o eb nb => by rw [upd_ne (fun z => nb (.inr (.inr (.inr (by rw [z]; exact List.getElem_mem _)))))]; exact eb, Grow.refl _ _, _, rfl⟩
        · rw [if_neg hc] at hex; cases hex
    | rd h =>
      simp only [De.vs] at ed
      obtain ⟨h0, h3⟩ := ok
      refine if_no (fun K1 hK => ?_) ?_
      · simp only [tTest, tOp, tAnd, tCB, tCons, tNil, tC, cVar, cLe, cCmp, eqv, tChain, rIsi, kitV, cIx, cLen, cxOf_K, TruV, Int.reduceEq, Int.cast_ofNat_Int, Int.reduceAdd, ofs_inj, String.reduceEq, decide_false, cEqA, atI_0, atI_2, List.length_cons, List.length_nil, List.getElem?_cons_zero, List.getElem?_cons_succ, V.int.injEq, V.bl.injEq, V.str.injEq, V.ref.injEq, V.ty.injEq, List.cons.injEq, Option.some.injEq, exists_eq_left', exists_eq_left, ite_false, Bool.false_eq_true, decide_eq_true_eq, Nat.reduceAdd, ed]
        exact hK
      refine if_no (fun K1 hK => ?_) ?_
      · simp only [tTest, tOp, tAnd, tCB, tCons, tNil, tC, cVar, eqv, rIsi, kitV, cIx, cLen, cxOf_K, TruV, Int.reduceEq, Int.cast_ofNat_Int, Int.reduceAdd, ofs_inj, String.reduceEq, decide_false, cEqA, atI_0, atI_2, List.length_cons, List.length_nil, List.getElem?_cons_zero, List.getElem?_cons_succ, V.int.injEq, V.bl.injEq, V.str.injEq, V.ref.injEq, V.ty.injEq, List.cons.injEq, Option.some.injEq, exists_eq_left', exists_eq_left, ite_false, Bool.false_eq_true, Nat.reduceAdd, ed]
        exact hK
      refine if_no (fun K1 hK => ?_) ?_
      · simp only [tTest, tOp, tAnd, tCB, tCons, tNil, tC, cVar, tCallE, eqv, cIx, cLen, cxOf_K, TruV, Int.reduceEq, Int.cast_ofNat_Int, Int.reduceAdd, ofs_inj, String.reduceEq, decide_false, cEqA, atI_0, atI_2, List.length_cons, List.length_nil, List.getElem?_cons_zero, List.getElem?_cons_succ, V.int.injEq, V.bl.injEq, V.str.injEq, V.ref.injEq, V.ty.injEq, List.cons.injEq, Option.some.injEq, exists_eq_left', ite_false, Bool.false_eq_true, Nat.reduceAdd, ed]
        exact hK
      refine if_no (fun K1 hK => ?_) ?_
      · simp only [tTest, tOp, tAnd, tCB, tCons, tNil, tC, cVar, eqv, cIx, cLen, Int.reduceEq, Int.cast_ofNat_Int, Int.reduceAdd, ofs_inj, String.reduceEq, decide_true, decide_false, cEqA, atI_0, List.length_cons, List.length_nil, List.getElem?_cons_zero, List.getElem?_cons_succ, V.int.injEq, V.bl.injEq, V.str.injEq, V.ref.injEq, V.ty.injEq, List.cons.injEq, Option.some.injEq, exists_eq_left', ite_false, Bool.false_eq_true, Nat.reduceAdd, ed]
        exact hK
      refine if_no (fun K1 hK => ?_) ?_
      · simp only [tTest, tOp, tAnd, tCB, tCons, tNil, tC, cVar, eqv, cIx, cLen, Int.reduceEq, Int.cast_ofNat_Int, Int.reduceAdd, ofs_inj, String.reduceEq, decide_false, cEqA, atI_0, List.length_cons, List.length_nil, List.getElem?_cons_zero, List.getElem?_cons_succ, V.int.injEq, V.bl.injEq, V.str.injEq, V.ref.injEq, V.ty.injEq, List.cons.injEq, Option.some.injEq, exists_eq_left', ite_false, Bool.false_eq_true, Nat.reduceAdd, ed]
        exact hK
      refine if_no (fun K1 hK => ?_) ?_
      · simp only [tTest, tOp, tAnd, tCB, tCons, tNil, tC, cVar, eqv, cIx, cLen, Int.reduceEq, Int.cast_ofNat_Int, Int.reduceAdd, ofs_inj, String.reduceEq, decide_false, cEqA, atI_0, List.length_cons, List.length_nil, List.getElem?_cons_zero, List.getElem?_cons_succ, V.int.injEq, V.bl.injEq, V.str.injEq, V.ref.injEq, V.ty.injEq, List.cons.injEq, Option.some.injEq, exists_eq_left', ite_false, Bool.false_eq_true, Nat.reduceAdd, ed]
        exact hK
      simp only [tRet, tOp, tAndV, tCB, tCons, tNil, tC, cVar, eqv, cIx, cLen, Int.cast_ofNat_Int, Int.reduceAdd, decide_true, cEqA, atI_0, List.length_cons, List.length_nil, List.getElem?_cons_zero, List.getElem?_cons_succ, V.int.injEq, V.bl.injEq, V.str.injEq, V.ref.injEq, V.ty.injEq, List.cons.injEq, Option.some.injEq, exists_eq_left', ite_true, Nat.reduceAdd, ed]
      cases hex
      exact q _ ra st (fun b o eb _ => eb) (Grow.refl _ _)
    rintro _ H2 ⟨ra', st2, f2, g2, v2, rfl⟩
    simp only [tRet, tC]
    exact q _ ra' st2 f2 g2
def sp_deeds_behind : Sp := fun vs H Q _ => ∃ ln p, ∃ ts : List Str, ∃ st : Sm, vs = [.ref ln, .ref p] ∧ H ln = some (.lst (ts.map V.str)) ∧ H p = some (.tup st.vs) ∧ st.ok ts ∧ ts.length ≤ 50 ∧ ∀ l H', Same H H' → H l = none → DsAt H' (behD ts st) l → Q (.ref l) H'
theorem sc_deeds_behind : FnScope ["names", "statement", "word", "name"] ["names", "statement"] (defScope s_deeds_behind) := ⟨rfl, rfl, rfl, by decide +kernel, rfl, by decide +kernel, by decide +kernel⟩
theorem ok_deeds_behind (T : Txt K mg A) : FnOk P w K mg base (CXE P w) true 4 A.f_deeds_behind A.d_deeds_behind ["names", "statement"] sp_deeds_behind := by
  refine T.fn_deeds_behind.okE sc_deeds_behind (fun vs H Q E h => ?_) (fun cdv A' outer s H vs Q E hr hx h => ?_)
  · obtain ⟨ln, p, ts, st, rfl, e, ep, ok, hl, q⟩ := h
    rfl
  · obtain ⟨ln, p, ts, st, rfl, e, ep, ok, hl, q⟩ := h
    refine ⟨_, JSs.run (j_pss_cons (j_ps_set (i := 2) sc_deeds_behind.nd rfl (by first | exact Or.inl rfl | exact Or.inr rfl) (j_pe_ix j_c_ix (j_cv 1) j_pe_int (fun _ _ => rfl)))
      (j_pss_cons (j_ps_set (i := 3) sc_deeds_behind.nd rfl (by first | exact Or.inl rfl | exact Or.inr rfl) (j_pe_ix j_c_ix (j_cv 1) j_pe_int (fun _ _ => rfl)))
      (j_pss_cons (j_ps_if (j_pt_cmpR (j_c_eqA (hu8 hr)) (j_cv 2) j_pe_str (nomark _)) (j_pss_one (j_ps_ret (j_pe_op j_c_cat (j_pe_lst (j_pa_c (j_pe_tup (j_pa_c j_pe_str (j_pa_c j_pe_int (j_pa_c (j_pe_ix j_c_ix (j_cv 1) j_pe_int (fun _ _ => rfl)) j_pa_nil)))) j_pa_nil)) (j_pe_callF ((ok_stored T).mono (by decide)) hr rfl T.g_stored T.fn_stored.kp T.b_stored hx (j_pa_c (j_cv 0) (j_pa_c (j_cv 3) j_pa_nil)))))) j_pss_nil)
      (j_pss_cons (j_ps_if (j_pt_cmpR (j_c_eqA (hu8 hr)) (j_cv 2) j_pe_str (nomark _)) (j_pss_one (j_ps_ret (j_pe_op j_c_cat (j_pe_lst (j_pa_c (j_pe_tup (j_pa_c j_pe_str (j_pa_c j_pe_int (j_pa_c (j_pe_ix j_c_ix (j_cv 1) j_pe_int (fun _ _ => rfl)) j_pa_nil)))) j_pa_nil)) (j_pe_callF ((ok_stored T).mono (by decide)) hr rfl T.g_stored T.fn_stored.kp T.b_stored hx (j_pa_c (j_cv 0) (j_pa_c (j_cv 3) j_pa_nil)))))) j_pss_nil)
      (j_pss_cons (j_ps_if (j_pt_cmpR (j_c_eqA (hu8 hr)) (j_cv 2) j_pe_str (nomark _)) (j_pss_one (j_ps_ret (j_pe_op j_c_cat (j_pe_callF ((ok_loaded T).mono (by decide)) hr rfl T.g_loaded T.fn_loaded.kp T.b_loaded hx (j_pa_c (j_cv 0) (j_pa_c (j_pe_ix j_c_ix (j_cv 1) j_pe_int (fun _ _ => rfl)) (j_pa_c j_pe_int j_pa_nil)))) (j_pe_callF ((ok_stored T).mono (by decide)) hr rfl T.g_stored T.fn_stored.kp T.b_stored hx (j_pa_c (j_cv 0) (j_pa_c (j_cv 3) j_pa_nil)))))) j_pss_nil)
      (j_pss_cons (j_ps_if (j_pt_cmpR (j_c_eqA (hu8 hr)) (j_cv 2) j_pe_str (nomark _)) (j_pss_one (j_ps_ret (j_pe_op j_c_cat (j_pe_op j_c_cat (j_pe_callF ((ok_loaded T).mono (by decide)) hr rfl T.g_loaded T.fn_loaded.kp T.b_loaded hx (j_pa_c (j_cv 0) (j_pa_c (j_pe_ix j_c_ix (j_cv 1) j_pe_int (fun _ _ => rfl)) (j_pa_c j_pe_int j_pa_nil)))) (j_pe_lst (j_pa_c (j_pe_tup (j_pa_c j_pe_str (j_pa_c j_pe_int (j_pa_c j_pe_int (j_pa_c (j_pe_ix j_c_ix (j_cv 1) j_pe_int (fun _ _ => rfl)) j_pa_nil))))) j_pa_nil))) (j_pe_callF ((ok_stored T).mono (by decide)) hr rfl T.g_stored T.fn_stored.kp T.b_stored hx (j_pa_c (j_cv 0) (j_pa_c (j_cv 3) j_pa_nil)))))) j_pss_nil)
      (j_pss_cons (j_ps_if (j_pt_cmpR (j_c_eqA (hu8 hr)) (j_cv 2) j_pe_str (nomark _)) (j_pss_one (j_ps_ret (j_pe_op j_c_cat (j_pe_op j_c_cat (j_pe_callF ((ok_loaded T).mono (by decide)) hr rfl T.g_loaded T.fn_loaded.kp T.b_loaded hx (j_pa_c (j_cv 0) (j_pa_c (j_cv 3) (j_pa_c j_pe_int j_pa_nil)))) (j_pe_callF ((ok_loaded T).mono (by decide)) hr rfl T.g_loaded T.fn_loaded.kp T.b_loaded hx (j_pa_c (j_cv 0) (j_pa_c (j_pe_ix j_c_ix (j_cv 1) j_pe_int (fun _ _ => rfl)) (j_pa_c j_pe_int j_pa_nil))))) (j_pe_lst (j_pa_c (j_pe_tup (j_pa_c j_pe_str (j_pa_c j_pe_int (j_pa_c (j_pe_ix j_c_ix (j_cv 1) j_pe_int (fun _ _ => rfl)) (j_pa_c j_pe_int j_pa_nil))))) j_pa_nil))))) j_pss_nil)
      (j_pss_cons (j_ps_if (j_pt_cmpR (j_c_eqA (hu8 hr)) (j_cv 2) j_pe_str (nomark _)) (j_pss_one (j_ps_ret (j_pe_op j_c_cat (j_pe_callF ((ok_loaded T).mono (by decide)) hr rfl T.g_loaded T.fn_loaded.kp T.b_loaded hx (j_pa_c (j_cv 0) (j_pa_c (j_cv 3) (j_pa_c j_pe_int j_pa_nil)))) (j_pe_lst (j_pa_c (j_pe_tup (j_pa_c j_pe_str (j_pa_c j_pe_int j_pa_nil))) j_pa_nil))))) j_pss_nil)
      (j_pss_one (j_ps_ret (j_pe_callF ((ok_stored T).mono (by decide)) hr rfl T.g_stored T.fn_stored.kp T.b_stored hx (j_pa_c (j_cv 0) (j_pa_c (j_cv 3) j_pa_nil))))))))))))), ?_⟩
    cases st with
    | make a n =>
      simp only [Sm.vs] at ep
      simp only [tRet, tNext, tSeq, tIfS, tTest, tOp, tCons, tNil, tC, cVar, tLst, tTup, tAsg, gName, tCallE, eqv, cIx, and_assoc, Int.reduceEq, Int.reduceAdd, Int.reduceSub, ofs_inj, String.reduceEq, upd_same, decide_true, decide_false, cEqA, atI_0, atI_1, atI_2, atI_3, L2.start, cCat, List.map_cons, List.map_nil, List.length_cons, List.length_nil, List.replicate, List.cons_append, List.nil_append, List.getElem?_cons_zero, List.getElem?_cons_succ, List.set_cons_zero, List.set_cons_succ, V.int.injEq, V.bl.injEq, V.str.injEq, V.ref.injEq, V.ty.injEq, List.cons.injEq, Option.some.injEq, and_true, true_and, exists_eq_left', exists_and_left, exists_const, reduceCtorEq, false_and, and_false, ite_true, ite_false, Bool.false_eq_true, Nat.reduceSub, Nat.reduceAdd, sz1, sz2, sz3, sz4, ep, sp_loaded, sp_stored]
      intro p1 hp1 l1 hl1
      have s1 := Same.upd (o := .tup (De.vs (.mk 1 n))) hp1
      have s2 := Same.upd (o := .lst [V.ref p1]) hl1
      have d1 := DsAt.one (d := .mk 1 n) (H := upd H p1 _) upd_same hl1
      refine ⟨ts, s2 _ _ (s1 _ _ e), ok, hl, fun l2 H2 s3 _ d2 => ?_⟩
      exact cat_ds (d1.same s3) d2 (by have := storeD_len (z := a) hl; show 1 + _ ≤ 1000; omega) fun l3 H3 s4 h4 d3 => q _ _ (s1.trans (s2.trans (s3.trans s4))) (same_none (s1.trans (s2.trans s3)) h4) d3
    | keep a x =>
      simp only [Sm.vs] at ep
      simp only [tRet, tNext, tSeq, tIfS, tTest, tOp, tCons, tNil, tC, cVar, tLst, tTup, tAsg, gName, tCallE, eqv, cIx, and_assoc, Int.reduceEq, Int.reduceAdd, Int.reduceSub, ofs_inj, String.reduceEq, upd_same, decide_true, decide_false, cEqA, atI_0, atI_1, atI_2, atI_3, L2.start, cCat, List.map_cons, List.map_nil, List.length_cons, List.length_nil, List.replicate, List.cons_append, List.nil_append, List.getElem?_cons_zero, List.getElem?_cons_succ, List.set_cons_zero, List.set_cons_succ, V.int.injEq, V.bl.injEq, V.str.injEq, V.ref.injEq, V.ty.injEq, List.cons.injEq, Option.some.injEq, and_true, true_and, exists_eq_left', exists_and_left, exists_const, reduceCtorEq, false_and, and_false, ite_true, ite_false, Bool.false_eq_true, Nat.reduceSub, Nat.reduceAdd, sz1, sz2, sz3, sz4, ep, sp_loaded, sp_stored]
      intro p1 hp1 l1 hl1
      have s1 := Same.upd (o := .tup (De.vs (.kp 1 x))) hp1
      have s2 := Same.upd (o := .lst [V.ref p1]) hl1
      have d1 := DsAt.one (d := .kp 1 x) (H := upd H p1 _) upd_same hl1
      refine ⟨ts, s2 _ _ (s1 _ _ e), ok, hl, fun l2 H2 s3 _ d2 => ?_⟩
      exact cat_ds (d1.same s3) d2 (by have := storeD_len (z := a) hl; show 1 + _ ≤ 1000; omega) fun l3 H3 s4 h4 d3 => q _ _ (s1.trans (s2.trans (s3.trans s4))) (same_none (s1.trans (s2.trans s3)) h4) d3
    | copy a b =>
      simp only [Sm.vs] at ep
      simp only [tRet, tNext, tSeq, tIfS, tTest, tOp, tCons, tNil, tC, cVar, tLst, tTup, tAsg, gName, tCallE, eqv, cIx, and_assoc, Int.reduceEq, Int.reduceAdd, Int.reduceSub, ofs_inj, String.reduceEq, upd_same, decide_true, decide_false, cEqA, atI_0, atI_1, atI_2, atI_3, L2.start, cCat, List.map_cons, List.map_nil, List.length_cons, List.length_nil, List.replicate, List.cons_append, List.nil_append, List.getElem?_cons_zero, List.getElem?_cons_succ, List.set_cons_zero, List.set_cons_succ, V.int.injEq, V.bl.injEq, V.str.injEq, V.ref.injEq, V.ty.injEq, List.cons.injEq, Option.some.injEq, and_true, true_and, exists_eq_left', exists_and_left, ite_true, ite_false, Bool.false_eq_true, Nat.reduceSub, Nat.reduceAdd, sz1, sz2, sz3, sz4, ep, sp_loaded, sp_stored]
      refine ⟨ts, e, ok.2, hl, fun l1 H1 s1 _ d1 => ⟨ts, s1 _ _ e, ok.1, hl, fun l2 H2 s2 _ d2 => ?_⟩⟩
      exact cat_ds (d1.same s2) d2 (by have := storeD_len (z := a) hl; have := loadD_len (z := b) (h := 1) hl; omega) fun l3 H3 s3 h3 d3 => q _ _ (s1.trans (s2.trans s3)) (same_none (s1.trans s2) h3) d3
    | drop a =>
      simp only [Sm.vs] at ep
      simp only [tRet, tNext, tSeq, tIfS, tTest, tOp, tCons, tNil, tC, cVar, tLst, tTup, tAsg, gName, tCallE, eqv, cIx, and_assoc, Int.reduceEq, Int.reduceAdd, Int.reduceSub, ofs_inj, String.reduceEq, upd_same, decide_false, cEqA, atI_0, atI_1, atI_2, atI_3, L2.start, cCat, List.map_cons, List.map_nil, List.length_cons, List.length_nil, List.replicate, List.cons_append, List.nil_append, List.getElem?_cons_zero, List.getElem?_cons_succ, List.set_cons_zero, List.set_cons_succ, V.int.injEq, V.bl.injEq, V.str.injEq, V.ref.injEq, V.ty.injEq, List.cons.injEq, Option.some.injEq, and_true, true_and, exists_eq_left', exists_and_left, ite_false, Bool.false_eq_true, Nat.reduceSub, Nat.reduceAdd, sz1, sz2, sz3, sz4, ep, sp_loaded, sp_stored]
      exact ⟨ts, e, ok, hl, fun l1 H1 s1 h1 d1 => q _ _ s1 h1 d1⟩
    | get a b k =>
      simp only [Sm.vs] at ep
      simp only [tRet, tNext, tSeq, tIfS, tTest, tOp, tCons, tNil, tC, cVar, tLst, tTup, tAsg, gName, tCallE, eqv, cIx, and_assoc, Int.reduceEq, Int.reduceAdd, Int.reduceSub, ofs_inj, String.reduceEq, upd_same, decide_true, decide_false, cEqA, atI_0, atI_1, atI_2, atI_3, L2.start, cCat, List.map_cons, List.map_nil, List.length_cons, List.length_nil, List.replicate, List.cons_append, List.nil_append, List.getElem?_cons_zero, List.getElem?_cons_succ, List.set_cons_zero, List.set_cons_succ, V.int.injEq, V.bl.injEq, V.str.injEq, V.ref.injEq, V.ty.injEq, List.cons.injEq, Option.some.injEq, and_true, true_and, exists_eq_left', exists_and_left, ite_true, ite_false, Bool.false_eq_true, Nat.reduceSub, Nat.reduceAdd, sz1, sz2, sz3, sz4, ep, sp_loaded, sp_stored]
      refine ⟨ts, e, ok.2, hl, fun l1 H1 s1 _ d1 => ?_⟩
      rw [s1 _ _ ep]
      dsimp only
      intro p1 hp1 l2 hl2
      have s2 := Same.upd (o := .tup (De.vs (.tk 1 1 k))) hp1
      have s3 := Same.upd (o := .lst [V.ref p1]) hl2
      obtain ⟨vs, e1, dv⟩ := d1.same (s2.trans s3)
      have dn := dv.app (DVs.one (d := .tk 1 1 k) (s3 _ _ upd_same))
      have hvl := dv.len
      have hll := loadD_len (ts := ts) (z := b) (h := 1) hl
      try simp only [De.vs] at s2 s3 e1 dn
      show match upd (upd H1 p1 (HO.tup [V.str (Str.ofString "take"), V.int 1, V.int 1, V.int k])) l2 (HO.lst [V.ref p1]) l1, some (HO.lst [V.ref p1]) with | some (.lst xs), some (.lst zs) => _ | _, _ => False
      rw [e1]
      dsimp only
      have sA := s1.trans (s2.trans s3)
      generalize upd (upd H1 p1 (HO.tup [V.str (Str.ofString "take"), V.int 1, V.int 1, V.int k])) l2 (HO.lst [V.ref p1]) = H3 at *
      refine ⟨Nat.le_trans (show vs.length + 1 ≤ 100 by omega) (by decide), fun l3 hl3 => ⟨ts, Same.upd hl3 _ _ (sA _ _ e), ok.1, hl, fun l4 H4 s4 _ d4 => ?_⟩⟩
      have d3 : DsAt H4 (loadD ts b 1 ++ [.tk 1 1 k]) l3 := ⟨_, s4 _ _ upd_same, (dn.same (Same.upd hl3)).same s4⟩
      exact cat_ds d3 d4 (by have := storeD_len (z := a) hl; rw [List.length_append]; show _ + 1 + _ ≤ 1000; omega) fun l5 H5 s5 h5 d5 => q _ _ (sA.trans ((Same.upd hl3).trans (s4.trans s5))) (same_none (sA.trans ((Same.upd hl3).trans s4)) h5) d5
    | set a k b =>
      simp only [Sm.vs] at ep
      simp only [tRet, tNext, tSeq, tIfS, tTest, tOp, tCons, tNil, tC, cVar, tLst, tTup, tAsg, gName, tCallE, eqv, cIx, and_assoc, Int.reduceEq, Int.reduceAdd, Int.reduceSub, ofs_inj, String.reduceEq, upd_same, decide_true, decide_false, cEqA, atI_0, atI_1, atI_2, atI_3, L2.start, cCat, List.map_cons, List.map_nil, List.length_cons, List.length_nil, List.replicate, List.cons_append, List.nil_append, List.getElem?_cons_zero, List.getElem?_cons_succ, List.set_cons_zero, List.set_cons_succ, V.int.injEq, V.bl.injEq, V.str.injEq, V.ref.injEq, V.ty.injEq, List.cons.injEq, Option.some.injEq, and_true, true_and, exists_eq_left', exists_and_left, exists_const, reduceCtorEq, false_and, and_false, ite_true, ite_false, Bool.false_eq_true, Nat.reduceSub, Nat.reduceAdd, sz1, sz2, sz3, sz4, ep, sp_loaded, sp_stored]
      refine ⟨ts, e, ok.1, hl, fun l1 H1 s1 _ d1 => ?_⟩
      rw [s1 _ _ ep]
      dsimp only
      refine ⟨b, rfl, ts, s1 _ _ e, ok.2, hl, fun l2 H2 s2 _ d2 => ?_⟩
      obtain ⟨vs, e1, dv⟩ := d1.same s2
      obtain ⟨us, e2, du⟩ := d2
      have hvl := dv.len
      have hul := du.len
      have hll := loadD_len (ts := ts) (z := a) (h := 2) hl
      have hlm := loadD_len (ts := ts) (z := b) (h := 1) hl
      rw [e1, e2]
      dsimp only
      refine ⟨Nat.le_trans (show vs.length + us.length ≤ 100 by omega) (by decide), fun l3 hl3 => ?_⟩
      have sB := s1.trans (s2.trans (Same.upd (o := .lst (vs ++ us)) hl3))
      have d3 := (dv.app du).same (Same.upd (o := .lst (vs ++ us)) hl3)
      have e3 : upd H2 l3 (HO.lst (vs ++ us)) l3 = some (HO.lst (vs ++ us)) := upd_same
      generalize upd H2 l3 (HO.lst (vs ++ us)) = H3 at *
      rw [sB _ _ ep]
      dsimp only
      intro p1 hp1 l4 hl4
      have s4 := Same.upd (o := .tup (De.vs (.pt 2 k 1))) hp1
      have s5 := Same.upd (o := .lst [V.ref p1]) hl4
      have dn := (d3.same (s4.trans s5)).app (DVs.one (d := .pt 2 k 1) (s5 _ _ upd_same))
      have e5 := s5 _ _ (s4 _ _ e3)
      try simp only [De.vs] at s4 s5 e5 dn
      show match upd (upd H3 p1 (HO.tup [V.str (Str.ofString "put"), V.int 2, V.int k, V.int 1])) l4 (HO.lst [V.ref p1]) l3, some (HO.lst [V.ref p1]) with | some (.lst xs), some (.lst zs) => _ | _, _ => False
      rw [e5]
      dsimp only
      refine ⟨Nat.le_trans (show (vs ++ us).length + 1 ≤ 100 by rw [List.length_append]; omega) (by decide), fun l5 hl5 => ?_⟩
      exact q _ _ (sB.trans (s4.trans (s5.trans (Same.upd hl5)))) (same_none (sB.trans (s4.trans s5)) hl5) ⟨_, upd_same, dn.same (Same.upd hl5)⟩
    | tell a =>
      simp only [Sm.vs] at ep
      simp only [tRet, tNext, tSeq, tIfS, tTest, tOp, tCons, tNil, tC, cVar, tLst, tTup, tAsg, gName, tCallE, eqv, cIx, and_assoc, Int.reduceEq, Int.reduceAdd, Int.reduceSub, ofs_inj, String.reduceEq, upd_same, decide_true, decide_false, cEqA, atI_0, atI_1, atI_2, atI_3, L2.start, cCat, List.map_cons, List.map_nil, List.length_cons, List.length_nil, List.replicate, List.cons_append, List.nil_append, List.getElem?_cons_zero, List.getElem?_cons_succ, List.set_cons_zero, List.set_cons_succ, V.int.injEq, V.bl.injEq, V.str.injEq, V.ref.injEq, V.ty.injEq, List.cons.injEq, Option.some.injEq, and_true, true_and, exists_eq_left', exists_and_left, ite_true, ite_false, Bool.false_eq_true, Nat.reduceSub, Nat.reduceAdd, sz1, sz2, sz3, sz4, ep, sp_loaded, sp_stored]
      refine ⟨ts, e, ok, hl, fun l1 H1 s1 _ d1 => ?_⟩
      intro p1 hp1 l2 hl2
      have s2 := Same.upd (o := .tup (De.vs (.rd 1))) hp1
      have s3 := Same.upd (o := .lst [V.ref p1]) hl2
      obtain ⟨vs, e1, dv⟩ := d1.same (s2.trans s3)
      have dn := dv.app (DVs.one (d := .rd 1) (s3 _ _ upd_same))
      have hvl := dv.len
      have hll := loadD_len (ts := ts) (z := a) (h := 1) hl
      try simp only [De.vs] at s2 s3 e1 dn
      rw [e1]
      dsimp only
      refine ⟨Nat.le_trans (show vs.length + 1 ≤ 100 by omega) (by decide), fun l5 hl5 => ?_⟩
      exact q _ _ (s1.trans (s2.trans (s3.trans (Same.upd hl5)))) (same_none (s1.trans (s2.trans s3)) hl5) ⟨_, upd_same, dn.same (Same.upd hl5)⟩
def Hc.exs (s : Hc) : List De → Option Hc
  | [] => some s
  | d :: ds => match s.ex d with
    | some s' => s'.exs ds
    | none => none
def DVs.get {H : Hp} : ∀ {ds : List De} {vs : List V} {j : Nat} {v : V}, DVs H ds vs → vs[j]? = some v → ∃ d a, ds[j]? = some d ∧ v = .ref a ∧ H a = some (.tup d.vs)
  | [], [], _, _, _, h => by simp at h
  | d :: ds, v :: vs, 0, w, ⟨⟨a, e, h⟩, _⟩, hv => ⟨d, a, rfl, by simp at hv; rw [← hv]; exact e, h⟩
  | d :: ds, v :: vs, j + 1, w, ⟨_, r⟩, hv => by
    obtain ⟨d', a, e1, e2, e3⟩ := r.get (j := j) (by simpa using hv)
    exact ⟨d', a, by simpa using e1, e2, e3⟩
theorem exs_snoc {s : Hc} : ∀ {ds : List De} {d : De}, s.exs (ds ++ [d]) = (s.exs ds).bind fun s' => s'.ex d := by
  intro ds
  induction ds generalizing s with
  | nil => intro d; show (match s.ex d with | some s' => s'.exs [] | none => none) = s.ex d; cases s.ex d <;> rfl
  | cons e ds ih =>
    intro d
    show (match s.ex e with | some s' => s'.exs (ds ++ [d]) | none => none) = _
    show _ = (match s.ex e with | some s' => s'.exs ds | none => none).bind _
    cases s.ex e with
    | none => rfl
    | some s' => exact ih
theorem exs_app {s : Hc} : ∀ {ds es : List De}, s.exs (ds ++ es) = (s.exs ds).bind fun s' => s'.exs es := by
  intro ds
  induction ds generalizing s with
  | nil => intro es; rfl
  | cons e ds ih =>
    intro es
    show (match s.ex e with | some s' => s'.exs (ds ++ es) | none => none) = (match s.ex e with | some s' => s'.exs ds | none => none).bind _
    cases s.ex e with
    | none => rfl
    | some s' => exact ih
theorem ex_len {s s' : Hc} {d : De} (h : s.ex d = some s') : s'.cs.length ≤ s.cs.length + 1 := by
  cases d with
  | mk h n => cases h; show (s.cs ++ [_]).length ≤ _; simp
  | kp h x => cases h; exact Nat.le_succ _
  | sh h g => cases h; exact Nat.le_succ _
  | dr h => cases h; exact Nat.le_succ _
  | tk a g k =>
    unfold Hc.ex at h
    dsimp only at h
    split at h
    · split at h
      · cases h; exact Nat.le_succ _
      · cases h
    · cases h
  | pt g k a =>
    unfold Hc.ex at h
    dsimp only at h
    split at h
    · split at h
      · cases h; show (s.cs.set _ _).length ≤ _; rw [List.length_set]; exact Nat.le_succ _
      · cases h
    · cases h
  | rd h => cases h; exact Nat.le_succ _
/-- the lists that the law holds beside: they stay -/
theorem SAt.ntup {H : Hp} {sd lh lc lf : Addr} {ra : List Addr} {s : Hc} {fk : List Int} (st : SAt H sd lh lc lf ra s fk) {a : Addr} {xs : List V} (e : H a = some (.tup xs)) : ¬ own sd lh lc ra a := by
  rintro (z | z | z | z)
  · have := st.ob; rw [← z, e] at this; cases this
  · obtain ⟨vs, eh, _⟩ := st.hd; rw [← z, e] at eh; cases eh
  · have := st.cl; rw [← z, e] at this; cases this
  · obtain ⟨j, hj⟩ := List.mem_iff_getElem?.mp z
    obtain ⟨ws, ew, _⟩ := st.rw j a hj
    rw [e] at ew; cases ew
section
variable {H H2 : Hp} {sd lh lc lf : Addr} {ra ra' ra3 : List Addr} {s s' : Hc} {fk : List Int}
theorem SAt.nown (_ : SAt H2 sd lh lc lf ra' s' fk) (gr : Grow H ra ra') {b : Addr} {o : HO} (eb : H b = some o) (nb : ¬ own sd lh lc ra b) : ¬ own sd lh lc ra' b := by
  obtain ⟨more, rfl, hm⟩ := gr
  rintro (z | z | z | z)
  · exact nb (.inl z)
  · exact nb (.inr (.inl z))
  · exact nb (.inr (.inr (.inl z)))
  · rcases List.mem_append.mp z with m | m
    · exact nb (.inr (.inr (.inr m)))
    · rw [hm _ m] at eb; cases eb
theorem SAt.osome (st : SAt H2 sd lh lc lf ra' s' fk) {b : Addr} (h : own sd lh lc ra' b) : H2 b ≠ none := by
  rcases h with z | z | z | z
  · rw [z, st.ob]; intro y; cases y
  · obtain ⟨vs, eh, _⟩ := st.hd; rw [z, eh]; intro y; cases y
  · rw [z, st.cl]; intro y; cases y
  · obtain ⟨j, hj⟩ := List.mem_iff_getElem?.mp z
    obtain ⟨ws, ew, _⟩ := st.rw j b hj
    rw [ew]; intro y; cases y
theorem SAt.grow (st2 : SAt H2 sd lh lc lf ra' s' fk) (_ : SAt H sd lh lc lf ra s fk) (f2 : ∀ b o, H b = some o → ¬ own sd lh lc ra b → H2 b = some o) (g1 : Grow H ra ra') (g2 : Grow H2 ra' ra3) : Grow H ra ra3 := by
  obtain ⟨m1, rfl, h1⟩ := g1
  obtain ⟨m2, rfl, h2⟩ := g2
  refine ⟨m1 ++ m2, by rw [List.append_assoc], fun a ha => ?_⟩
  rcases List.mem_append.mp ha with m | m
  · exact h1 a m
  · cases e : H a with
    | none => rfl
    | some u =>
      have hn := h2 a m
      by_cases o2 : own sd lh lc ra a
      · refine absurd hn (st2.osome ?_)
        rcases o2 with z | z | z | z
        · exact .inl z
        · exact .inr (.inl z)
        · exact .inr (.inr (.inl z))
        · exact .inr (.inr (.inr (List.mem_append_left _ z)))
      · rw [f2 _ _ e o2] at hn; cases hn
end
def sp__law_all : Sp := fun vs H Q _ => ∃ sd lh lc lf ra s fk l ds s', vs = [.ref sd, .ref l] ∧ SAt H sd lh lc lf ra s fk ∧ DsAt H ds l ∧ ¬ own sd lh lc ra l ∧ (∀ d ∈ ds, d.ok) ∧ s.exs ds = some s' ∧ s.cs.length + ds.length ≤ 500 ∧
  ∀ H' ra', SAt H' sd lh lc lf ra' s' fk → (∀ b o, H b = some o → ¬ own sd lh lc ra b → H' b = some o) → Grow H ra ra' → Q (.bl true) H'
theorem sc__law_all : FnScope ["_law_s", "_law_deeds", "_law_deed_here"] ["_law_s", "_law_deeds"] (defScope s__law_all) := ⟨rfl, rfl, rfl, by decide +kernel, rfl, by decide +kernel, by decide +kernel⟩
theorem ok__law_all (T : Txt K mg A) : FnOk P w K mg base (CXE P w) true 4 A.f__law_all A.d__law_all ["_law_s", "_law_deeds"] sp__law_all := by
  refine T.fn__law_all.okE sc__law_all (fun vs H Q E h => ?_) (fun cdv A' outer s H vs Q E hr hx h => ?_)
  · obtain ⟨sd, lh, lc, lf, ra, s0, fk, l, ds, s1, rfl, st, ⟨vs, el, dv⟩, nl, ok, hex, hlen, q⟩ := h
    rfl
  · obtain ⟨sd, lh, lc, lf, ra, s0, fk, l, ds, s1, rfl, st, ⟨vs, el, dv⟩, nl, ok, hex, hlen, q⟩ := h
    refine ⟨_, JSs.run (j_pss_cons (j_ps_if (j_pt_not (j_pt_truth (j_pe_callBF j_call_isi (by rfl) T.n_isinstance PyProof.Rows.Boot.«isinstance» (j_pa_c (j_cv 1) (j_pa_c (j_pe_ty T.n_list PyProof.Rows.Boot.«list») j_pa_nil))) (fun _ => rfl))) (j_pss_one (j_ps_ret j_pe_bl)) j_pss_nil)
      (j_pss_cons (j_ps_for hx.own rfl (j_pi_list (j_cv 1)) (j_pg_name (i := 2) sc__law_all.nd rfl (by first | exact Or.inl rfl | exact Or.inr rfl))
        (j_pss_one (j_ps_if (j_pt_not (j_pt_truth (j_pe_callF ((ok__law_deed T).mono (by decide)) hr rfl T.g__law_deed T.fn__law_deed.kp T.b__law_deed hx (j_pa_c (j_cv 0) (j_pa_c (j_cv 2) j_pa_nil))) (fun _ => rfl))) (j_pss_one (j_ps_ret j_pe_bl)) j_pss_nil)))
      (j_pss_one (j_ps_ret j_pe_bl)))), ?_⟩
    simp only [tRet, tNext, tSeq, tIfS, tNot, tCB, tCons, tNil, tC, cVar, tCallE, rIsi, kitV, cxOf_K, TruV, Int.reduceAdd, Int.reduceSub, Bool.not_eq_true', Bool.true_eq_false, tFor_eq, iList, L2.start, List.map_cons, List.map_nil, List.length_cons, List.length_nil, List.replicate, List.cons_append, List.nil_append, List.getElem?_cons_zero, List.getElem?_cons_succ, V.int.injEq, V.bl.injEq, V.str.injEq, V.ref.injEq, V.ty.injEq, List.cons.injEq, Option.some.injEq, true_and, exists_eq_left', exists_eq_left, ite_false, Nat.reduceSub, Nat.reduceAdd, tyo, OkTy, el, T.kt_list_list]
    refine ⟨⟨_, SqL.of el⟩, ?_⟩
    have hvl := dv.len
    refine LoopW.list (xs := vs) (fun t σ H' => ∃ s' ra' v2, s0.exs (ds.take t) = some s' ∧ s'.cs.length ≤ s0.cs.length + t ∧ SAt H' sd lh lc lf ra' s' fk ∧ (∀ b o, H b = some o → ¬ own sd lh lc ra b → H' b = some o) ∧ Grow H ra ra' ∧ σ = [some (V.ref sd), some (V.ref l), v2]) ⟨s0, ra, _, rfl, Nat.le_refl _, st, fun b o eb _ => eb, Grow.refl _ _, rfl⟩ ?_ ?_ ?_
    · rintro t σ H' ht ⟨s', ra', v2, _, _, _, f', _, _⟩
      exact SqL.of (f' _ _ el nl)
    · rintro t x σ H2 hx ⟨s', ra', v2, h1, h2, st2, f2, fr2, rfl⟩
      have ht : t < vs.length := (List.getElem?_eq_some_iff.mp hx).1
      obtain ⟨d, a, hd, rfl, ea⟩ := dv.get hx
      have na : ¬ own sd lh lc ra a := st.ntup ea
      have ea2 := f2 _ _ ea na
      have hsp : ds = ds.take t ++ d :: ds.drop (t + 1) := by
        have h1 := (List.getElem?_eq_some_iff.mp hd)
        rw [← h1.2, List.getElem_cons_drop, List.take_append_drop]
      have hx2 : ∃ s2, s'.ex d = some s2 := by
        rw [hsp, exs_app, h1] at hex
        have hex' : (match s'.ex d with | some s2 => s2.exs (ds.drop (t + 1)) | none => none) = some s1 := hex
        cases e : s'.ex d with
        | none => rw [e] at hex'; cases hex'
        | some s2 => exact ⟨s2, rfl⟩
      obtain ⟨s2, hs2⟩ := hx2
      have hsl := ex_len hs2
      simp only [tRet, tNext, tIfS, tNot, tC, gName, and_assoc, Bool.not_eq_true', Bool.true_eq_false, List.getElem?_cons_zero, List.getElem?_cons_succ, List.set_cons_zero, List.set_cons_succ, V.int.injEq, V.bl.injEq, V.str.injEq, V.ref.injEq, V.ty.injEq, List.cons.injEq, Option.some.injEq, and_true, true_and, exists_eq_left', exists_and_left, exists_eq_left, ite_false, sp__law_deed]
      refine ⟨lh, lc, lf, ra', s', fk, st2, d, ea2, ok d (List.mem_of_getElem? hd), s2, hs2, by omega, fun H3 ra3 st3 f3 fr3 => ?_⟩
      refine ⟨s2, ?_, by omega, ra3, st3, fun b o eb nb => f3 _ _ (f2 _ _ eb nb) (st2.nown fr2 eb nb), st2.grow st f2 fr2 fr3, _, rfl⟩
      rw [List.take_add_one, hd]
      show s0.exs (ds.take t ++ [d]) = _
      rw [exs_snoc, h1]; exact hs2
    · rintro σ H2 ⟨s', ra', v2, h1, h2, st2, f2, fr2, rfl⟩
      rw [hvl, List.take_length, hex] at h1
      cases h1
      exact q _ ra' st2 f2 fr2
def sp_deeds_of : Sp := fun vs H Q _ => ∃ ln p, ∃ ts : List Str, ∃ st : Sm, vs = [.ref ln, .ref p] ∧ H ln = some (.lst (ts.map V.str)) ∧ H p = some (.tup st.vs) ∧ st.ok ts ∧ ts.length ≤ 50 ∧ ∀ l H', Same H H' → H l = none → DsAt H' (stD ts st) l → Q (.ref l) H'
theorem sc_deeds_of : FnScope ["names", "statement"] ["names", "statement"] (defScope s_deeds_of) := ⟨rfl, rfl, rfl, by decide +kernel, rfl, by decide +kernel, by decide +kernel⟩
theorem ok_deeds_of (T : Txt K mg A) : FnOk P w K mg base (CXE P w) true 5 A.f_deeds_of A.d_deeds_of ["names", "statement"] sp_deeds_of := by
  refine T.fn_deeds_of.okE sc_deeds_of (fun vs H Q E h => ?_) (fun cdv A' outer s H vs Q E hr hx h => ?_)
  · obtain ⟨ln, p, ts, st, rfl, e, ep, ok, hl, q⟩ := h
    rfl
  · obtain ⟨ln, p, ts, st, rfl, e, ep, ok, hl, q⟩ := h
    refine ⟨_, JSs.run (j_pss_one (j_ps_ret (j_pe_op j_c_cat (j_pe_lst (j_pa_c (j_pe_tup (j_pa_c j_pe_str (j_pa_c j_pe_int j_pa_nil))) (j_pa_c (j_pe_tup (j_pa_c j_pe_str (j_pa_c j_pe_int j_pa_nil))) j_pa_nil))) (j_pe_callF ((ok_deeds_behind T).mono (by decide)) hr rfl T.g_deeds_behind T.fn_deeds_behind.kp T.b_deeds_behind hx (j_pa_c (j_cv 0) (j_pa_c (j_cv 1) j_pa_nil)))))), ?_⟩
    simp only [tRet, tOp, tCons, tNil, tC, cVar, tLst, tTup, tCallE, and_assoc, Int.reduceAdd, L2.start, cCat, List.map_cons, List.map_nil, List.length_cons, List.length_nil, List.replicate, List.append_nil, List.getElem?_cons_zero, List.getElem?_cons_succ, V.int.injEq, V.bl.injEq, V.str.injEq, V.ref.injEq, V.ty.injEq, List.cons.injEq, Option.some.injEq, and_true, true_and, exists_eq_left', exists_and_left, Nat.reduceAdd, Nat.sub_self, sz2, sp_deeds_behind]
    intro p1 hp1 p2 hp2 l1 hl1
    have a1 := Same.upd (o := .tup (De.vs (.dr 1))) hp1
    have a2 := Same.upd (o := .tup (De.vs (.dr 2))) hp2
    have a3 := Same.upd (o := .lst [V.ref p1, V.ref p2]) hl1
    have sA := a1.trans (a2.trans a3)
    have d1 : DsAt (upd (upd (upd H p1 (.tup (De.vs (.dr 1)))) p2 (.tup (De.vs (.dr 2)))) l1 (.lst [V.ref p1, V.ref p2])) [.dr 1, .dr 2] l1 := ⟨[V.ref p1, V.ref p2], upd_same, ⟨p1, rfl, (a2.trans a3) _ _ upd_same⟩, ⟨p2, rfl, a3 _ _ upd_same⟩, True.intro⟩
    try simp only [De.vs] at sA d1
    refine ⟨ts, sA _ _ e, st, sA _ _ ep, ok, hl, fun l2 H2 s2 _ d2 => ?_⟩
    refine cat_ds (d1.same s2) d2 ?_ fun l3 H3 s3 h3 d3 => q _ _ (sA.trans (s2.trans s3)) (same_none (sA.trans s2) h3) d3
    have hb : (behD ts st).length ≤ 100 := by
      cases st with
      | make a n => have := storeD_len (z := a) hl; show (storeD ts a).length + 1 ≤ 100; omega
      | keep a n => have := storeD_len (z := a) hl; show (storeD ts a).length + 1 ≤ 100; omega
      | copy a b => have := storeD_len (z := a) hl; have := loadD_len (z := b) (h := 1) hl; show (loadD ts b 1 ++ storeD ts a).length ≤ 100; rw [List.length_append]; omega
      | drop a => have := storeD_len (z := a) hl; show (storeD ts a).length ≤ 100; omega
      | get a b k => have := storeD_len (z := a) hl; have := loadD_len (z := b) (h := 1) hl; show ((loadD ts b 1 ++ [De.tk 1 1 k]) ++ storeD ts a).length ≤ 100; rw [List.length_append, List.length_append]; show _ + 1 + _ ≤ 100; omega
      | set a k b => have := loadD_len (z := a) (h := 2) hl; have := loadD_len (z := b) (h := 1) hl; show ((loadD ts a 2 ++ loadD ts b 1) ++ [De.pt 2 k 1]).length ≤ 100; rw [List.length_append, List.length_append]; show _ + _ + 1 ≤ 100; omega
      | tell a => have := loadD_len (z := a) (h := 1) hl; show (loadD ts a 1 ++ [De.rd 1]).length ≤ 100; rw [List.length_append]; show _ + 1 ≤ 100; omega
    show 2 + _ ≤ 1000
    omega
theorem getD_set_self {α : Type} {l : List α} {i : Nat} {x d : α} (h : i < l.length) : (l.set i x).getD i d = x := by
  rw [List.getD_eq_getElem?_getD, List.getElem?_set, if_pos rfl, if_pos h]; rfl
theorem getD_set_other {α : Type} {l : List α} {i j : Nat} {x d : α} (h : i ≠ j) : (l.set i x).getD j d = l.getD j d := by
  rw [List.getD_eq_getElem?_getD, List.getElem?_set, if_neg h, ← List.getD_eq_getElem?_getD]
/-- names stand in frames: n names, so many frames, what they stand for -/
structure Fr (n F : Nat) (s : Hc) (du : List U) : Prop where
  n1 : 1 ≤ n
  fF : F = (n - 1) / 7 + 1
  dl : du.length = n
  cl : F ≤ s.cs.length
  h3 : s.hs.length = 3
  h0 : s.hs.getD 0 .n = .c (F - 1)
  sl : ∀ c, c < F → (s.cs.getD c []).length = 8
  ch : ∀ c, 0 < c → c < F → (s.cs.getD c []).getD 7 .n = .c (c - 1)
  at_ : ∀ j, j < n → (s.cs.getD (F - 1 - j / 7) []).getD (j % 7) .n = du.getD j .n
section
variable {n F : Nat} {s : Hc} {du : List U}
theorem Fr.walk (w : Fr n F s du) {h : Nat} (h1 : 1 ≤ h) (h2 : h < 3) : ∀ {f : Nat}, f ≤ F - 1 → s.exs (walkD f (h : Int)) = some ⟨if f = 0 then s.hs else s.hs.set h (.c (F - 1 - f)), s.cs⟩
  | 0, _ => by rw [if_pos rfl]; rfl
  | f + 1, hf => by
    have hF := w.fF
    have h3 := w.h3
    have e : walkD (f + 1) (h : Int) = walkD f (h : Int) ++ [.tk h (hold f h) 7] := by unfold walkD; rw [List.range_succ, List.map_append]; rfl
    rw [e, exs_snoc, w.walk h1 h2 (f := f) (by omega), if_neg (show ¬ (f + 1 = 0) by omega), Option.bind_some]
    unfold Hc.ex
    dsimp only
    by_cases z : f = 0
    · subst z
      rw [if_pos rfl, show (hold ((0 : Nat) : Int) (h : Int)).toNat = 0 from rfl, w.h0]
      dsimp only
      rw [if_pos ⟨by rw [w.sl _ (by omega)]; decide, by have := w.cl; omega⟩, show (7 : Int).toNat = 7 from rfl, w.ch (F - 1) (by omega) (by omega), show ((h : Int)).toNat = h from Int.toNat_natCast h, show F - 1 - 1 = F - 1 - (0 + 1) by omega]
    · rw [if_neg z, show (hold (f : Int) (h : Int)).toNat = h by unfold hold; rw [if_neg (by omega)]; exact Int.toNat_natCast h, getD_set_self (by omega)]
      dsimp only
      rw [if_pos ⟨by rw [w.sl _ (by omega)]; decide, by have := w.cl; omega⟩, show (7 : Int).toNat = 7 from rfl, w.ch (F - 1 - f) (by omega) (by omega), show ((h : Int)).toNat = h from Int.toNat_natCast h, List.set_set, show F - 1 - f - 1 = F - 1 - (f + 1) by omega]
theorem Fr.hold_at (w : Fr n F s du) {h : Nat} (h1 : 1 ≤ h) (h2 : h < 3) {f : Nat} (hf : f ≤ F - 1) : (if f = 0 then s.hs else s.hs.set h (.c (F - 1 - f))).getD (hold (f : Int) (h : Int)).toNat .n = .c (F - 1 - f) := by
  have h3 := w.h3
  by_cases z : f = 0
  · subst z
    rw [if_pos rfl, show (hold ((0 : Nat) : Int) (h : Int)).toNat = 0 from rfl, w.h0]; rfl
  · rw [if_neg z, show (hold (f : Int) (h : Int)).toNat = h by unfold hold; rw [if_neg (by omega)]; exact Int.toNat_natCast h, getD_set_self (by omega)]
theorem Fr.load (w : Fr n F s du) {ts : List Str} {z : Str} (hn : ts.length = n) (hz : z ∈ ts) {h : Nat} (h1 : 1 ≤ h) (h2 : h < 3) : s.exs (loadD ts z (h : Int)) = some ⟨s.hs.set h (du.getD (ts.idxOf z) .n), s.cs⟩ := by
  have hj : ts.idxOf z < ts.length := List.idxOf_lt_length_iff.mpr hz
  have hF := w.fF
  have h3 := w.h3
  have n1 := w.n1
  have hcl := w.cl
  generalize hjj : ts.idxOf z = j at *
  have hf : j / 7 ≤ F - 1 := by omega
  unfold loadD
  rw [hjj, exs_snoc, w.walk h1 h2 hf, Option.bind_some]
  unfold Hc.ex
  dsimp only
  rw [w.hold_at h1 h2 hf]
  dsimp only
  rw [if_pos ⟨by rw [w.sl _ (by omega), Int.toNat_natCast]; omega, by omega⟩, Int.toNat_natCast, Int.toNat_natCast, w.at_ j (by omega)]
  by_cases z0 : j / 7 = 0
  · rw [if_pos z0]
  · rw [if_neg z0, List.set_set]
theorem Fr.store (w : Fr n F s du) {ts : List Str} {z : Str} (hn : ts.length = n) (hz : z ∈ ts) : ∃ hs', s.exs (storeD ts z) = some ⟨hs', s.cs.set (F - 1 - ts.idxOf z / 7) ((s.cs.getD (F - 1 - ts.idxOf z / 7) []).set (ts.idxOf z % 7) (s.hs.getD 1 .n))⟩ ∧ hs'.length = 3 ∧ hs'.getD 0 .n = s.hs.getD 0 .n ∧ hs'.getD 1 .n = s.hs.getD 1 .n := by
  have hj : ts.idxOf z < ts.length := List.idxOf_lt_length_iff.mpr hz
  have hF := w.fF
  have h3 := w.h3
  have n1 := w.n1
  have hcl := w.cl
  generalize hjj : ts.idxOf z = j at *
  have hf : j / 7 ≤ F - 1 := by omega
  unfold storeD
  rw [hjj]
  have ew := w.walk (h := 2) (by decide) (by decide) hf
  have eh := w.hold_at (h := 2) (by decide) (by decide) hf
  refine ⟨if j / 7 = 0 then s.hs else s.hs.set 2 (.c (F - 1 - j / 7)), ?_, ?_, ?_, ?_⟩
  · rw [exs_snoc, show ((2 : Int)) = ((2 : Nat) : Int) from rfl, ew, Option.bind_some]
    unfold Hc.ex
    dsimp only
    rw [eh]
    dsimp only
    rw [if_pos ⟨by rw [w.sl _ (by omega), Int.toNat_natCast]; omega, by omega⟩, Int.toNat_natCast, show (1 : Int).toNat = 1 from rfl]
    congr 4
    split
    · rfl
    · exact getD_set_other (by decide)
  · split
    · exact h3
    · rw [List.length_set]; exact h3
  · split
    · rfl
    · exact getD_set_other (by decide)
  · split
    · rfl
    · exact getD_set_other (by decide)
end
/-- the frames as they are begun -/
def frR (c : Nat) : List U := if c = 0 then List.replicate 8 .n else (List.replicate 8 .n).set 7 (.c (c - 1))
def frs (m : Nat) : List (List U) := (List.range m).map frR
theorem frs_len {m : Nat} : (frs m).length = m := by unfold frs; rw [List.length_map, List.length_range]
theorem frs_get {m c : Nat} (h : c < m) : (frs m).getD c [] = frR c := by
  unfold frs; rw [List.getD_eq_getElem?_getD, List.getElem?_map, List.getElem?_range h]; rfl
theorem frs_succ {m : Nat} : frs (m + 1) = frs m ++ [frR m] := by unfold frs; rw [List.range_succ, List.map_append]; rfl
theorem frR_len {c : Nat} : (frR c).length = 8 := by unfold frR; split <;> simp
theorem more_ex : ∀ k : Nat, (Hc.mk [.c 0, .n, .n] (frs 1)).exs (moreD k) = some ⟨[.c k, .n, .n], frs (k + 1)⟩
  | 0 => rfl
  | k + 1 => by
    show Hc.exs _ (moreD k ++ [.sh 1 0, .mk 0 8, .pt 0 7 1, .dr 1]) = _
    rw [exs_app, more_ex k, Option.bind_some]
    have e1 : (Hc.mk [.c k, .n, .n] (frs (k + 1))).ex (.sh 1 0) = some ⟨[.c k, .c k, .n], frs (k + 1)⟩ := rfl
    have e2 : (Hc.mk [.c k, .c k, .n] (frs (k + 1))).ex (.mk 0 8) = some ⟨[.c (k + 1), .c k, .n], frs (k + 1) ++ [List.replicate 8 .n]⟩ := by
      show some (Hc.mk ([U.c k, .c k, .n].set 0 (.c (frs (k + 1)).length)) _) = _
      rw [frs_len]; rfl
    have eg : (frs (k + 1) ++ [List.replicate 8 U.n]).getD (k + 1) [] = List.replicate 8 .n := by
      rw [List.getD_eq_getElem?_getD, List.getElem?_append_right (by rw [frs_len]; exact Nat.le_refl _), frs_len, Nat.sub_self]; rfl
    have e3 : (Hc.mk [.c (k + 1), .c k, .n] (frs (k + 1) ++ [List.replicate 8 .n])).ex (.pt 0 7 1) = some ⟨[.c (k + 1), .c k, .n], frs (k + 2)⟩ := by
      unfold Hc.ex
      show (if (7 : Int).toNat < ((frs (k + 1) ++ [List.replicate 8 U.n]).getD (k + 1) []).length ∧ k + 1 < (frs (k + 1) ++ [List.replicate 8 U.n]).length then some (Hc.mk [U.c (k + 1), .c k, .n] ((frs (k + 1) ++ [List.replicate 8 U.n]).set (k + 1) (((frs (k + 1) ++ [List.replicate 8 U.n]).getD (k + 1) []).set (7 : Int).toNat ([U.c (k + 1), .c k, .n].getD (1 : Int).toNat .n)))) else none) = _
      rw [eg, if_pos ⟨by decide, by rw [List.length_append, frs_len]; show k + 1 < k + 1 + 1; omega⟩]
      have : (frs (k + 1) ++ [List.replicate 8 U.n]).set (k + 1) ((List.replicate 8 U.n).set (7 : Int).toNat ([U.c (k + 1), .c k, .n].getD (1 : Int).toNat .n)) = frs (k + 2) := by
        rw [List.set_append_right _ _ (by rw [frs_len]; exact Nat.le_refl _), frs_len, Nat.sub_self, frs_succ (m := k + 1)]
        rfl
      rw [this]
    have e4 : (Hc.mk [.c (k + 1), .c k, .n] (frs (k + 2))).ex (.dr 1) = some ⟨[.c (k + 1), .n, .n], frs (k + 2)⟩ := rfl
    show (match (Hc.mk [U.c k, .n, .n] (frs (k + 1))).ex (.sh 1 0) with | some s' => s'.exs [.mk 0 8, .pt 0 7 1, .dr 1] | none => none) = _
    rw [e1]
    show (match (Hc.mk [U.c k, .c k, .n] (frs (k + 1))).ex (.mk 0 8) with | some s' => s'.exs [.pt 0 7 1, .dr 1] | none => none) = _
    rw [e2]
    show (match (Hc.mk [U.c (k + 1), .c k, .n] (frs (k + 1) ++ [List.replicate 8 .n])).ex (.pt 0 7 1) with | some s' => s'.exs [.dr 1] | none => none) = _
    rw [e3]
    rfl
theorem begun_ex {n : Nat} (n1 : 1 ≤ n) : (Hc.mk [.n, .n, .n] []).exs (begunD n) = some ⟨[.c ((n - 1) / 7), .n, .n], frs ((n - 1) / 7 + 1)⟩ := by
  unfold begunD
  rw [if_neg (by omega)]
  show (Hc.mk [.c 0, .n, .n] (frs 1)).exs (moreD ((n - 1) / 7)) = _
  exact more_ex _
theorem Fr.begun {n : Nat} (n1 : 1 ≤ n) : Fr n ((n - 1) / 7 + 1) ⟨[.c ((n - 1) / 7), .n, .n], frs ((n - 1) / 7 + 1)⟩ (List.replicate n .n) where
  n1 := n1
  fF := rfl
  dl := List.length_replicate
  cl := by show _ ≤ (frs _).length; rw [frs_len]; exact Nat.le_refl _
  h3 := rfl
  h0 := rfl
  sl := fun c hc => by show ((frs _).getD c []).length = 8; rw [frs_get hc, frR_len]
  ch := fun c h0 hc => by
    show ((frs _).getD c []).getD 7 .n = _
    rw [frs_get hc]; unfold frR; rw [if_neg (by omega)]
    exact getD_set_self (by simp)
  at_ := fun j hj => by
    show ((frs _).getD _ []).getD (j % 7) .n = _
    rw [frs_get (by omega)]
    have er : ∀ m i : Nat, (List.replicate m U.n).getD i .n = .n := fun m i => by
      rw [List.getD_eq_getElem?_getD, List.getElem?_replicate]; split <;> rfl
    rw [er]
    unfold frR
    split
    · exact er _ _
    · rw [getD_set_other (by omega)]; exact er _ _
theorem deq_U {H : Hp} {u : U} {v w : V} (d : Nat) (h1 : u.at H v) (h2 : u.at H w) : deq H (d + 1) v w = some true := by
  cases u with
  | n => cases h1; cases h2; simp [deq, flatV, eqV]
  | i x => cases h1; cases h2; simp [deq, flatV, eqV]
  | c k =>
    obtain ⟨a, rfl, ea⟩ := h1
    obtain ⟨b, rfl, eb⟩ := h2
    unfold deq
    dsimp only
    rw [ea, eb]
    dsimp only
    rw [if_pos rfl]
    cases d <;> simp [deq, flatV, eqV, allO]
theorem deq_Us {H : Hp} (d : Nat) : ∀ {us : List U} {vs ws : List V}, UVs H us vs → UVs H us ws → allO (List.zipWith (deq H (d + 1)) vs ws) = some true
  | [], [], [], _, _ => rfl
  | u :: us, v :: vs, w :: ws, ⟨h1, r1⟩, ⟨h2, r2⟩ => by
    rw [List.zipWith_cons_cons, deq_U d h1 h2]
    show (allO _).map _ = _
    rw [deq_Us d r1 r2]; rfl
theorem deq_rows {H : Hp} : ∀ {cs : List (List U)} {ra rb : List Addr}, ra.length = cs.length → rb.length = cs.length → (∀ j a, ra[j]? = some a → ∃ vs, H a = some (.lst vs) ∧ UVs H (cs.getD j []) vs) → (∀ j a, rb[j]? = some a → ∃ vs, H a = some (.lst vs) ∧ UVs H (cs.getD j []) vs) → allO (List.zipWith (deq H 2) (ra.map V.ref) (rb.map V.ref)) = some true
  | [], [], [], _, _, _, _ => rfl
  | c :: cs, a :: ra, b :: rb, h1, h2, r1, r2 => by
    obtain ⟨vs, ea, ua⟩ := r1 0 a rfl
    obtain ⟨ws, eb, ub⟩ := r2 0 b rfl
    have e : deq H 2 (.ref a) (.ref b) = some true := by
      unfold deq
      dsimp only
      rw [ea, eb]
      dsimp only
      rw [if_pos (by rw [ua.len, ub.len])]
      exact deq_Us 0 ua ub
    rw [List.map_cons, List.map_cons, List.zipWith_cons_cons, e]
    show (allO _).map _ = _
    rw [deq_rows (cs := cs) (by simpa using h1) (by simpa using h2) (fun j a h => by simpa using r1 (j + 1) a (by simpa using h)) (fun j a h => by simpa using r2 (j + 1) a (by simpa using h))]; rfl
theorem ne_U {H : Hp} {u : U} {v w : V} {Q : VK} (h1 : u.at H v) (h2 : u.at H w) (q : Q (.bl false) H) : cNeT v w H Q := by
  cases u with
  | n => cases h1; cases h2; exact q
  | i x => cases h1; cases h2; unfold cNeT cNeA; simp only [eqv, decide_true]; exact q
  | c k =>
    obtain ⟨a, rfl, ea⟩ := h1
    obtain ⟨b, rfl, eb⟩ := h2
    unfold cNeT
    dsimp only
    rw [ea, eb]
    dsimp only
    refine ⟨rfl, ?_⟩
    have : allO (List.zipWith (deq H 2) [V.str (Str.ofString "cell"), V.int (k : Int)] [V.str (Str.ofString "cell"), V.int (k : Int)]) = some true := by
      simp [deq, flatV, eqV, allO]
    rw [this]; exact q
/-- rows laid anew, each with what it held -/
structure Cp (H H' : Hp) (ra : List Addr) (lx : Addr) (rb : List Addr) : Prop where
  s : Same H H'
  nx : H lx = none
  ex : H' lx = some (.lst (rb.map V.ref))
  nd : (lx :: rb).Nodup
  nb : ∀ b ∈ rb, H b = none
  rl : rb.length = ra.length
  rw : ∀ (j : Nat) (a : Addr) (vs : List V), ra[j]? = some a → H a = some (.lst vs) → ∃ b, rb[j]? = some b ∧ H' b = some (.lst vs)
theorem comp_copy {K : PySem.W.Frag} {H : Hp} {lc : Addr} {ra : List Addr} {cap : St} {tt : TT} {te : TE} {Q : VK} (ec : H lc = some (.lst (ra.map V.ref))) (hz : ra.length ≤ 1000) (rows : ∀ (j : Nat) (a : Addr), ra[j]? = some a → ∃ vs, H a = some (.lst vs))
    (ht : ∀ σ H' K', K' true H' → tt σ H' K') (hte : ∀ a vs H' K', H' a = some (.lst vs) → (∀ l, H' l = none → K' (.ref l) (upd H' l (.lst vs))) → te (some (.ref a) :: cap) H' K')
    (q : ∀ lx rb H', Cp H H' ra lx rb → Q (.ref lx) H') : CompW (Itl K lc) cap tt te H Q := by
  refine compW_listG (xs := ra.map V.ref) (fun i ys H' => ∃ rb : List Addr, ys = rb.map V.ref ∧ rb.length = i ∧ Same H H' ∧ rb.Nodup ∧ (∀ b ∈ rb, H b = none ∧ H' b ≠ none) ∧ ∀ (j : Nat) (a : Addr) (vs : List V), j < i → ra[j]? = some a → H a = some (.lst vs) → ∃ b, rb[j]? = some b ∧ H' b = some (.lst vs)) ⟨[], rfl, rfl, Same.refl _, List.nodup_nil, fun b hb => by simp at hb, fun j a vs hj => by omega⟩ ?_ (by rw [List.length_map]; exact Nat.le_trans hz (by decide)) ?_ ?_ ?_
  · rintro i ys H' ⟨rb, _, _, s1, _⟩
    exact SqL.of (s1 _ _ ec)
  · rintro i ys H' ⟨rb, rfl, rfl, _⟩
    rw [List.length_map]; exact Nat.le_refl _
  · rintro i x ys H' hx ⟨rb, rfl, hl, s1, nd, nb, rw1⟩ K1 hK
    refine ht _ _ _ ?_
    rw [if_pos rfl]
    rw [List.getElem?_map] at hx
    obtain ⟨a, ha, rfl⟩ := Option.map_eq_some_iff.mp hx
    obtain ⟨vs, ea⟩ := rows i a ha
    refine hte _ vs _ _ (s1 _ _ ea) fun l hl' => hK _ _ ⟨rb ++ [l], by rw [List.map_append]; rfl, by rw [List.length_append, hl]; rfl, s1.trans (Same.upd hl'), ?_, ?_, ?_⟩
    · rw [List.nodup_append]
      exact ⟨nd, by simp, fun u hu v hv z => by rw [List.mem_singleton] at hv; subst hv; subst z; exact (nb u hu).2 hl'⟩
    · intro b hb
      rcases List.mem_append.mp hb with m | m
      · exact ⟨(nb b m).1, fun z => by
          rw [upd_ne (fun y => (nb b m).2 (by rw [y]; exact hl'))] at z
          exact (nb b m).2 z⟩
      · rw [List.mem_singleton] at m
        subst m
        exact ⟨same_none s1 hl', by rw [upd_same]; intro z; cases z⟩
    · intro j a' vs' hj ha' ea'
      by_cases z : j < i
      · obtain ⟨b, hb, eb⟩ := rw1 j a' vs' z ha' ea'
        exact ⟨b, by rw [List.getElem?_append_left (by omega)]; exact hb, Same.upd hl' _ _ eb⟩
      · have : j = i := by omega
        subst this
        rw [ha] at ha'
        cases ha'
        rw [ea] at ea'
        cases ea'
        exact ⟨l, by rw [List.getElem?_append_right (by omega), hl, Nat.sub_self]; rfl, upd_same⟩
  · rintro ys H' ⟨rb, rfl, hl, s1, nd, nb, rw1⟩ l hl'
    rw [List.length_map] at hl rw1
    refine q l rb _ ⟨s1.trans (Same.upd hl'), same_none s1 hl', upd_same, List.nodup_cons.mpr ⟨fun m => (nb l m).2 hl', nd⟩, fun b hb => (nb b hb).1, hl, fun j a vs ha ea => ?_⟩
    obtain ⟨b, hb, eb⟩ := rw1 j a vs (List.getElem?_eq_some_iff.mp ha).1 ha ea
    exact ⟨b, hb, Same.upd hl' _ _ eb⟩
section
variable {H : Hp} {sd lh lc lf : Addr} {ra : List Addr} {s : Hc} {fk : List Int}
theorem SAt.rehand (st : SAt H sd lh lc lf ra s fk) {l2 : Addr} {vs : List V} {hs : List U} (e2 : H l2 = some (.lst vs)) (u2 : UVs H hs vs) (h3 : hs.length = 3) (n2 : l2 ∉ lc :: ra) : SAt (upd H sd (.dK (sKV l2 lc lf))) sd l2 lc lf ra ⟨hs, s.cs⟩ fk := by
  have td : ∀ a xs, H a = some (.tup xs) → upd H sd (.dK (sKV l2 lc lf)) a = some (.tup xs) := fun a xs h => by
    rw [upd_ne (fun z => by have := st.ob; rw [← z, h] at this; cases this)]; exact h
  have tl : ∀ a xs, H a = some (.lst xs) → upd H sd (.dK (sKV l2 lc lf)) a = some (.lst xs) := fun a xs h => by
    rw [upd_ne (fun z => by have := st.ob; rw [← z, h] at this; cases this)]; exact h
  have nd := st.nd
  rw [List.nodup_cons] at nd
  exact {
    ob := upd_same
    hd := ⟨vs, tl _ _ e2, u2.mono td⟩
    cl := tl _ _ st.cl
    rl := st.rl
    rw := fun j a hj => let ⟨ws, e, w⟩ := st.rw j a hj; ⟨ws, tl _ _ e, w.mono td⟩
    fr := by
      by_cases z : lf = sd
      · have h1 := st.fr; have h2 := st.ob; rw [z, h2] at h1
        exfalso
        have h3 : sKV lh lc sd = fk.map fun k => (Sum.inl k, V.bl true) := by
          rw [z] at *; injection h1 with h1; injection h1
        cases fk with
        | nil => cases h3
        | cons k r => injection h3 with h3; injection h3 with h3; cases h3
      · rw [upd_ne z]; exact st.fr
    nd := List.nodup_cons.mpr ⟨n2, nd.2⟩
    h3 := h3 }
theorem SAt.keep {H0 : Hp} {ra' : List Addr} {s' : Hc} (st : SAt H sd lh lc lf ra' s' fk) (hr : ra.length = s.cs.length) (hc : s'.cs.length = s.cs.length) (gr : Grow H0 ra ra') : ra' = ra := by
  obtain ⟨more, rfl, _⟩ := gr
  have h1 := st.rl
  rw [List.length_append, hc, ← hr] at h1
  have : more = [] := List.length_eq_zero_iff.mp (by omega)
  rw [this, List.append_nil]
end
theorem walkD_ok {f h : Nat} (h1 : h < 3) : ∀ d ∈ walkD f (h : Int), d.ok := fun d hd => by
  unfold walkD at hd
  obtain ⟨i, _, rfl⟩ := List.mem_map.mp hd
  refine ⟨by omega, by omega, ?_, ?_, by omega⟩ <;> · unfold hold; split <;> omega
theorem loadD_ok {ts : List Str} {z : Str} {h : Nat} (h1 : h < 3) : ∀ d ∈ loadD ts z (h : Int), d.ok := fun d hd => by
  unfold loadD at hd
  rcases List.mem_append.mp hd with m | m
  · exact walkD_ok h1 d m
  · rw [List.mem_singleton] at m
    subst m
    refine ⟨by omega, by omega, ?_, ?_, by omega⟩ <;> · unfold hold; split <;> omega
theorem storeD_ok {ts : List Str} {z : Str} : ∀ d ∈ storeD ts z, d.ok := fun d hd => by
  unfold storeD at hd
  rcases List.mem_append.mp hd with m | m
  · exact walkD_ok (h := 2) (by decide) d m
  · rw [List.mem_singleton] at m
    subst m
    refine ⟨?_, ?_, by omega, by omega, by omega⟩ <;> · unfold hold; split <;> omega
theorem putK_h {lh lc lf l : Addr} : putK (sKV lh lc lf) (Sum.inr (Str.ofString "hands")) (V.ref l) = sKV l lc lf := by
  unfold putK sKV
  rw [if_pos (by simp)]
  simp only [List.map_cons, List.map_nil, if_true]
  rw [if_neg (fun z => n_hc z.symm), if_neg (fun z => n_hf z.symm)]
def sp__law_stands : Sp := fun vs H Q _ => ∃ sd lh lc lf ra s fk ln ld, ∃ ts : List Str, ∃ n F du dv, vs = [.ref sd, .ref ln, .ref ld] ∧ SAt H sd lh lc lf ra s fk ∧ Fr n F s du ∧ H ln = some (.lst (ts.map V.str)) ∧ ts.length = n ∧ ts.Nodup ∧ n ≤ 50 ∧ H ld = some (.lst dv) ∧ UVs H du dv ∧ ¬ own sd lh lc ra ln ∧ ¬ own sd lh lc ra ld ∧ s.cs.length ≤ 100 ∧
  ∀ H' lh', SAt H' sd lh' lc lf ra s fk → (lh' = lh ∨ H lh' = none) → (∀ b o, H b = some o → ¬ own sd lh lc ra b → H' b = some o) → Q (.bl true) H'
theorem sc__law_stands : FnScope ["_law_s", "_law_names_here", "_law_due_here", "_law_kept", "_law_cells_here", "_law_k", "_law_name", "_law_hand", "_law_other"] ["_law_s", "_law_names_here", "_law_due_here"] (defScope s__law_stands) := ⟨rfl, rfl, rfl, by decide +kernel, rfl, by decide +kernel, by decide +kernel⟩
theorem ok__law_stands (T : Txt K mg A) : FnOk P w K mg base (CXE P w) true 5 A.f__law_stands A.d__law_stands ["_law_s", "_law_names_here", "_law_due_here"] sp__law_stands := by
  refine T.fn__law_stands.okE sc__law_stands (fun vs H Q E h => ?_) (fun cdv A' outer s H vs Q E hr hx h => ?_)
  · obtain ⟨sd, lh, lc, lf, ra, s0, fk, ln, ld, ts, n, F, du, dv, rfl, st, fr, en, hn, nd, n50, ed, ud, nln, nld, hcl, q⟩ := h
    rfl
  · obtain ⟨sd, lh, lc, lf, ra, s0, fk, ln, ld, ts, n, F, du, dv, rfl, st, fr, en, hn, nd, n50, ed, ud, nln, nld, hcl, q⟩ := h
    refine ⟨_, JSs.run (j_pss_cons (j_ps_set (i := 3) sc__law_stands.nd rfl (by first | exact Or.inl rfl | exact Or.inr rfl) (j_pe_callTyF j_c_list (by rfl) T.n_list PyProof.Rows.Boot.«list» (j_pa_c (j_c_dget (by exact hu_of hr) (j_cv 0) j_pe_str (fun _ _ => rfl)) j_pa_nil)))
      (j_pss_cons (j_ps_setcomp (i := 4) (fsc := defScope s__law_stands) (N2 := []) (js := []) sc__law_stands.nd rfl (by first | exact Or.inl rfl | exact Or.inr rfl) ⟨rfl, rfl, by decide +kernel, by decide +kernel, by decide +kernel, by decide +kernel, by decide +kernel, by decide +kernel, by decide +kernel⟩ rfl rfl (by rfl) (j_pi_list (j_c_dget (by exact hu_of hr) (j_cv 0) j_pe_str (fun _ _ => rfl))) (fun _ _ _ _ => j_pifs_nil) (fun _ _ _ _ => (j_pe_callTyF j_c_list (by rfl) T.n_list PyProof.Rows.Boot.«list» (j_pa_c (j_cv 0) j_pa_nil))))
      (j_pss_cons (j_ps_for hx.own rfl (j_pi_enum rfl T.n_enumerate (j_pa_c (j_cv 1) j_pa_nil)) (j_pg_tup (n := 2) (by rfl) (j_pgs_cons (j_pg_name (i := 5) sc__law_stands.nd rfl (by first | exact Or.inl rfl | exact Or.inr rfl)) (j_pgs_cons (j_pg_name (i := 6) sc__law_stands.nd rfl (by first | exact Or.inl rfl | exact Or.inr rfl)) j_pgs_nil)))
        (j_pss_cons (j_ps_set (i := 7) sc__law_stands.nd rfl (by first | exact Or.inl rfl | exact Or.inr rfl) (j_pe_op j_c_add j_pe_int (j_pe_op j_c_mod (j_cv 5) j_pe_int)))
      (j_pss_cons (j_ps_if (j_PW_pt (j_pw_or (j_pt_not (j_pt_truth (j_pe_callF ((ok__law_all T).mono (by decide)) hr rfl T.g__law_all T.fn__law_all.kp T.b__law_all hx (j_pa_c (j_cv 0) (j_pa_c (j_pe_callF ((ok_loaded T).mono (by decide)) hr rfl T.g_loaded T.fn_loaded.kp T.b_loaded hx (j_pa_c (j_cv 1) (j_pa_c (j_cv 6) (j_pa_c (j_cv 7) j_pa_nil)))) j_pa_nil))) (fun _ => rfl))) (j_pw_or1 (j_pt_cmpR (j_c_neT (hu8 hr)) (j_pe_ix j_c_ix (j_c_dget (by exact hu_of hr) (j_cv 0) j_pe_str (fun _ _ => rfl)) (j_cv 7) (fun _ _ => rfl)) (j_pe_ix j_c_ix (j_cv 2) (j_cv 5) (fun _ _ => rfl)) (nomark _))))) (j_pss_one (j_ps_ret j_pe_bl)) j_pss_nil)
      (j_pss_cons (j_ps_for hx.own rfl (j_pi_range1 rfl T.n_range (j_pa_c j_pe_int j_pa_nil)) (j_pg_name (i := 8) sc__law_stands.nd rfl (by first | exact Or.inl rfl | exact Or.inr rfl))
        (j_pss_one (j_ps_if (j_PW_pt (j_pw_and (j_pt_cmpR (j_c_neT (hu8 hr)) (j_cv 8) (j_cv 7) (nomark _)) (j_pw_and1 (j_pt_cmpR (j_c_neT (hu8 hr)) (j_pe_ix j_c_ix (j_c_dget (by exact hu_of hr) (j_cv 0) j_pe_str (fun _ _ => rfl)) (j_cv 8) (fun _ _ => rfl)) (j_pe_ix j_c_ix (j_cv 3) (j_cv 8) (fun _ _ => rfl)) (nomark _))))) (j_pss_one (j_ps_ret j_pe_bl)) j_pss_nil)))
      (j_pss_one (j_c_dput (hu_of hr) (j_cv 0) j_pe_str (j_pe_callTyF j_c_list (by rfl) T.n_list PyProof.Rows.Boot.«list» (j_pa_c (j_cv 3) j_pa_nil)) rfl))))))
      (j_pss_one (j_ps_ret (j_pe_cmpR (j_c_eqA (hu8 hr)) (j_c_dget (by exact hu_of hr) (j_cv 0) j_pe_str (fun _ _ => rfl)) (j_cv 4) (nomark _))))))), ?_⟩
    obtain ⟨hv, eh, uh⟩ := st.hd
    show tSeq _ _ _ [some (V.ref sd), some (V.ref ln), some (V.ref ld), none, none, none, none, none, none] H
    refine seq_mid (fun σ' H' => ∃ lk, H lk = none ∧ Same H H' ∧ H' lk = some (.lst hv) ∧ σ' = [some (V.ref sd), some (V.ref ln), some (V.ref ld), some (V.ref lk), none, none, none, none, none]) (fun R hR => ?_) ?_
    · simp only [tCB, tCons, tNil, tC, cVar, tAsg, gName, cList, cDGet, keyV, List.getElem?_cons_zero, List.set_cons_zero, List.set_cons_succ, st.ob, sKV_h, eh]
      exact fun lk hlk => hR _ _ ⟨lk, hlk, Same.upd hlk, upd_same, rfl⟩
    rintro _ H1 ⟨lk, hlk, s1, elk, rfl⟩
    refine seq_mid (fun σ' H' => ∃ lx rb, Cp H1 H' ra lx rb ∧ σ' = [some (V.ref sd), some (V.ref ln), some (V.ref ld), some (V.ref lk), some (V.ref lx), none, none, none, none]) (fun R hR => ?_) ?_
    · have st1 := st.same s1
      simp only [tC, cVar, tAsg, gName, cxOf_K, tComp, capt, iList, cDGet, keyV, List.map_nil, List.getElem?_cons_zero, List.set_cons_zero, List.set_cons_succ, V.int.injEq, V.bl.injEq, V.str.injEq, V.ref.injEq, V.ty.injEq, List.cons.injEq, Option.some.injEq, exists_eq_left', st1.ob, sKV_c]
      refine ⟨⟨_, SqL.of st1.cl⟩, comp_copy st1.cl (by rw [st.rl]; omega) (fun j a hj => let ⟨vs, e, _⟩ := st1.rw j a hj; ⟨vs, e⟩) (fun _ _ _ k => k) (fun a vs H' K' ea k => ?_) fun lx rb H' cp => hR _ _ ⟨lx, rb, cp, rfl⟩⟩
      simp only [tCB, tCons, tNil, cVar, cList, List.getElem?_cons_zero, ea]
      exact k
    rintro _ H2 ⟨lx, rb, cp, rfl⟩
    have st2 := (st.same s1).same cp.s
    have sm := s1.trans cp.s
    refine seq_mid (fun σ' H' => ∃ lh' v5 v6 v7 v8, SAt H' sd lh' lc lf ra s0 fk ∧ (lh' = lh ∨ H2 lh' = none) ∧ (∀ b o, H2 b = some o → ¬ own sd lh lc ra b → H' b = some o) ∧ (∀ b, H' b = none → H2 b = none) ∧ σ' = [some (V.ref sd), some (V.ref ln), some (V.ref ld), some (V.ref lk), some (V.ref lx), v5, v6, v7, v8]) (fun R hR => ?_) ?_
    · have olx : ∀ b, H b = none → ¬ own sd lh lc ra b := fun b hb ho => st.osome ho hb
      simp only [tCons, tNil, tC, cVar, tCallE, cxOf_K, TruV, Int.reduceLT, Nat.reduceLT, Int.reduceLE, Int.reduceNeg, Int.reducePow, Int.reduceToNat, tFor_eq, iRng1, iEnum, List.getElem?_cons_zero, List.getElem?_cons_succ, V.int.injEq, V.bl.injEq, V.str.injEq, V.ref.injEq, V.ty.injEq, List.cons.injEq, Option.some.injEq, and_true, true_and, exists_eq_left']
      refine ⟨⟨_, SqL.of (sm _ _ en)⟩, LoopW.enum (xs := ts.map V.str) (fun t σ' H' => ∃ lh' v5 v6 v7 v8, SAt H' sd lh' lc lf ra s0 fk ∧ (lh' = lh ∨ H2 lh' = none) ∧ (∀ b o, H2 b = some o → ¬ own sd lh lc ra b → H' b = some o) ∧ (∀ b, H' b = none → H2 b = none) ∧ σ' = [some (V.ref sd), some (V.ref ln), some (V.ref ld), some (V.ref lk), some (V.ref lx), v5, v6, v7, v8]) ⟨lh, _, _, _, _, st2, .inl rfl, fun b o eb _ => eb, fun b h => h, rfl⟩ ?_ ?_ fun σ' H' h => hR _ _ h⟩
      · rintro t σ' H' _ ⟨lh', v5, v6, v7, v8, _, _, f', _, rfl⟩
        exact SqL.of (f' _ _ (sm _ _ en) nln)
      · rintro t x σ' H3 p hx ⟨lh', v5, v6, v7, v8, st3, hlh, f3, g3, rfl⟩ hp
        rw [List.getElem?_map] at hx
        obtain ⟨z, hz, rfl⟩ := Option.map_eq_some_iff.mp hx
        have ht : t < n := by rw [← hn]; exact (List.getElem?_eq_some_iff.mp hz).1
        have hix : ts.idxOf z = t := by
          have h1 := (List.getElem?_eq_some_iff.mp hz).2
          rw [← h1]; exact List.Nodup.idxOf_getElem nd t (by omega)
        have s3 := Same.upd (o := .tup [.int t, .str z]) hp
        refine ⟨p, [V.int t, V.str z], rfl, SqT.of upd_same, rfl, _, _, rfl, _, _, rfl, rfl, ?_⟩
        show tSeq _ _ _ [some (V.ref sd), some (V.ref ln), some (V.ref ld), some (V.ref lk), some (V.ref lx), some (V.int t), some (V.str z), v7, v8] _
        have f4 : ∀ b o, H2 b = some o → ¬ own sd lh lc ra b → upd H3 p (.tup [.int t, .str z]) b = some o := fun b o eb nb => s3 _ _ (f3 _ _ eb nb)
        have st4 := st3.same s3
        have g4 : ∀ b, upd H3 p (.tup [.int t, .str z]) b = none → H2 b = none := fun b h => g3 b (same_none s3 h)
        generalize upd H3 p (.tup [.int t, .str z]) = H4 at st4 f4 g4 ⊢
        clear st3 f3 s3 g3 hp
        obtain ⟨h, hh⟩ : ∃ h : Nat, h = 1 + t % 2 := ⟨_, rfl⟩
        have nw : ∀ {b o}, H2 b = some o → ¬ own sd lh lc ra b → ¬ own sd lh' lc ra b := fun {b o} eb nb ho => by
          rcases ho with y | y | y | y
          · exact nb (.inl y)
          · rcases hlh with e | e
            · exact nb (.inr (.inl (y.trans e)))
            · rw [y, e] at eb; cases eb
          · exact nb (.inr (.inr (.inl y)))
          · exact nb (.inr (.inr (.inr y)))
        refine seq_mid (fun σ' H' => H4 = H' ∧ σ' = [some (V.ref sd), some (V.ref ln), some (V.ref ld), some (V.ref lk), some (V.ref lx), some (V.int t), some (V.str z), some (V.int (h : Nat)), v8]) (fun R hR => ?_) ?_
        · simp only [tOp, tC, cVar, tAsg, gName, cAdd, cMod, Int.reduceLT, Nat.reduceLT, List.getElem?_cons_zero, List.getElem?_cons_succ, List.set_cons_zero, List.set_cons_succ, true_and]
          exact hR _ _ ⟨rfl, by rw [show (1 + (t : Int) % 2) = ((h : Nat) : Int) by omega]⟩
        rintro _ _ ⟨rfl, rfl⟩
        refine seq_mid (fun σ' H' => SAt H' sd lh' lc lf ra ⟨s0.hs.set h (du.getD t .n), s0.cs⟩ fk ∧ (∀ b o, H2 b = some o → ¬ own sd lh lc ra b → H' b = some o) ∧ (∀ b, H' b = none → H2 b = none) ∧ σ' = [some (V.ref sd), some (V.ref ln), some (V.ref ld), some (V.ref lk), some (V.ref lx), some (V.int t), some (V.str z), some (V.int (h : Nat)), v8]) (fun R hR => ?_) ?_
        · simp only [tRet, tNext, tIfS, tTest, tOp, tOr, tNot, tC, cVar, cIx, and_assoc, Bool.not_eq_true', Bool.true_eq_false, cDGet, keyV, List.getElem?_cons_zero, List.getElem?_cons_succ, V.int.injEq, V.bl.injEq, V.str.injEq, V.ref.injEq, V.ty.injEq, List.cons.injEq, Option.some.injEq, and_true, exists_eq_left', exists_and_left, exists_eq_left, ite_true, ite_false, sp_loaded, sp__law_all, -cNeT]
          refine ⟨ts, f4 _ _ (sm _ _ en) nln, List.mem_of_getElem? hz, by omega, fun l H' s5 hl5 d5 => ⟨lh', lc, lf, ra, s0, fk, st4.same s5, _, d5, fun ho => st4.osome ho hl5, loadD_ok (by omega), _, (fr.load hn (List.mem_of_getElem? hz) (by omega) (by omega)), by have := loadD_len (z := z) (h := (h : Int)) (ts := ts) (by omega); omega, fun H6 ra6 st6 f6 g6 => ?_⟩⟩
          rw [hix] at st6
          have er := st6.keep st.rl rfl g6
          rw [er] at st6
          obtain ⟨vs6, e6, u6⟩ := st6.hd
          have h3 := st.h3
          obtain ⟨v, hv6, a6⟩ := u6.get (j := h) (by show h < (s0.hs.set h _).length; rw [List.length_set]; omega)
          rw [show (Hc.mk (s0.hs.set h (du.getD t .n)) s0.cs).hs.getD h .n = du.getD t .n from getD_set_self (by omega)] at a6
          obtain ⟨w', hw, aw⟩ := ud.get (j := t) (by rw [fr.dl]; exact ht)
          have ld6 := f6 _ _ (s5 _ _ (f4 _ _ (sm _ _ ed) nld)) (nw (sm _ _ ed) nld)
          rw [st6.ob]
          dsimp only
          rw [sKV_h]
          dsimp only
          rw [e6]
          dsimp only
          rw [atI_cast, hv6]
          dsimp only
          rw [ld6]
          dsimp only
          rw [atI_cast, hw]
          dsimp only
          refine ne_U a6 (aw.mono fun a xs ha => f6 _ _ (s5 _ _ (f4 _ _ (sm _ _ ha) (st.ntup ha))) (nw (sm _ _ ha) (st.ntup ha))) ⟨false, rfl, ?_⟩
          rw [if_neg Bool.false_ne_true]
          refine hR _ _ ⟨st6, fun b o eb nb => f6 _ _ (s5 _ _ (f4 _ _ eb nb)) (nw eb nb), fun b hb => g4 b (same_none s5 ?_), rfl⟩
          cases e : H' b with
          | none => rfl
          | some o =>
            by_cases ho : own sd lh' lc ra b
            · exact absurd hb (st6.osome ho)
            · rw [f6 _ _ e ho] at hb; cases hb
        rintro _ H5 ⟨st5, f5, g5, rfl⟩
        refine seq_mid (fun σ' H' => H5 = H' ∧ ∃ v8, σ' = [some (V.ref sd), some (V.ref ln), some (V.ref ld), some (V.ref lk), some (V.ref lx), some (V.int t), some (V.str z), some (V.int (h : Nat)), v8]) (fun R hR => ?_) ?_
        · obtain ⟨vs5, e5, u5⟩ := st5.hd
          have elk5 := f5 _ _ (cp.s _ _ elk) (olx _ hlk)
          have h3 := st.h3
          simp only [exists_and_left, -cNeT]
          refine LoopW.range (fun _ σ' H' => H5 = H' ∧ ∃ v8, σ' = [some (V.ref sd), some (V.ref ln), some (V.ref ld), some (V.ref lk), some (V.ref lx), some (V.int t), some (V.str z), some (V.int (h : Nat)), v8]) ⟨rfl, _, rfl⟩ ?_ ?_
          · rintro i σ' _ hi ⟨rfl, v8', rfl⟩
            obtain ⟨v, hvv, av⟩ := u5.get (j := i) (by show i < (s0.hs.set h _).length; rw [List.length_set]; omega)
            obtain ⟨w', hw, aw⟩ := uh.get (j := i) (by omega)
            simp only [tRet, tNext, tIfS, tTest, tOp, tAnd, tC, cVar, gName, eqv, cIx, Bool.not_eq_true', cNeA, cDGet, keyV, decide_eq_false_iff_not, List.getElem?_cons_zero, List.getElem?_cons_succ, List.set_cons_zero, List.set_cons_succ, V.int.injEq, V.bl.injEq, V.str.injEq, V.ref.injEq, V.ty.injEq, List.cons.injEq, Option.some.injEq, and_true, true_and, exists_eq_left', ite_false, Bool.false_eq_true, cNeT, -cNeT]
            rw [show (0 + (i : Int)) = (i : Int) by omega]
            by_cases y : i = h
            · subst y
              rw [if_neg (fun n => n rfl)]
              exact ⟨_, rfl⟩
            · rw [if_pos (by omega)]
              rw [show (Hc.mk (s0.hs.set h (du.getD t .n)) s0.cs).hs.getD i .n = s0.hs.getD i .n from getD_set_other (Ne.symm y)] at av
              rw [st5.ob]
              dsimp only
              rw [sKV_h]
              dsimp only
              rw [e5]
              dsimp only
              rw [atI_cast, hvv]
              dsimp only
              rw [elk5]
              dsimp only
              rw [atI_cast, hw]
              dsimp only
              refine ne_U av (aw.mono fun a xs ha => f5 _ _ (sm _ _ ha) (st.ntup ha)) ⟨false, rfl, ?_⟩
              rw [if_neg Bool.false_ne_true]
              exact ⟨rfl, _, rfl⟩
          · rintro σ' _ ⟨rfl, v8', rfl⟩
            exact hR _ _ ⟨rfl, _, rfl⟩
        rintro _ _ ⟨rfl, v8', rfl⟩
        simp only [tCB, tCons, tNil, tC, cVar, cList, cDPut, keyV, List.getElem?_cons_zero, List.getElem?_cons_succ, V.int.injEq, V.bl.injEq, V.str.injEq, V.ref.injEq, V.ty.injEq, List.cons.injEq, Option.some.injEq, and_true, true_and, exists_eq_left', exists_and_left, f5 _ _ (cp.s _ _ elk) (olx _ hlk)]
        intro l hl
        have s6 := Same.upd (o := .lst hv) hl
        rw [s6 _ _ st5.ob]
        dsimp only
        rw [putK_h]
        have tupU : ∀ a xs, H a = some (.tup xs) → upd H5 l (.lst hv) a = some (.tup xs) := fun a xs ha => s6 _ _ (f5 _ _ (sm _ _ ha) (st.ntup ha))
        refine ⟨by show 3 < sizeLine; decide, l, (st5.same s6).rehand upd_same (uh.mono tupU) st.h3 (fun m => st5.osome (.inr (.inr (List.mem_cons.mp m))) hl), .inr (g5 _ hl), fun b o eb nb => ?_, fun b hb => ?_, _, rfl⟩
        · rw [upd_ne (fun y => nb (.inl y))]
          exact s6 _ _ (f5 _ _ eb nb)
        · by_cases y : b = sd
          · subst y; rw [upd_same] at hb; cases hb
          · rw [upd_ne y] at hb
            exact g5 _ (same_none s6 hb)
    rintro _ H3 ⟨lh', v5, v6, v7, v8, st3, hlh, f3, g3, rfl⟩
    have olx : ∀ b, H b = none → ¬ own sd lh lc ra b := fun b hb ho => st.osome ho hb
    have ex3 := f3 _ _ cp.ex (olx _ (same_none s1 cp.nx))
    have tup3 : ∀ a xs, H2 a = some (.tup xs) → H3 a = some (.tup xs) := fun a xs ea => f3 _ _ ea (st2.ntup ea)
    have rb3 : ∀ j b, rb[j]? = some b → ∃ vs, H3 b = some (.lst vs) ∧ UVs H3 (s0.cs.getD j []) vs := fun j b hb => by
      have hj : j < ra.length := by rw [← cp.rl]; exact (List.getElem?_eq_some_iff.mp hb).1
      obtain ⟨vs, ea, ua⟩ := (st.same s1).rw j _ (List.getElem?_eq_getElem hj)
      obtain ⟨b', hb', eb'⟩ := cp.rw j _ vs (List.getElem?_eq_getElem hj) ea
      rw [hb] at hb'
      cases hb'
      exact ⟨vs, f3 _ _ eb' (olx _ (same_none s1 (cp.nb b (List.mem_of_getElem? hb)))), (ua.mono fun a xs h => cp.s _ _ h).mono tup3⟩
    simp only [tRet, tOp, tC, cVar, eqv, cEqA, cEqL, cDGet, keyV, List.getElem?_cons_zero, List.getElem?_cons_succ, st3.ob, sKV_c, st3.cl, ex3, deq_rows st3.rl (cp.rl.trans st3.rl) st3.rw rb3]
    rw [if_pos (by rw [List.length_map, List.length_map, cp.rl])]
    exact q _ lh' st3 (hlh.imp id fun z => same_none sm z) fun b o eb nb => f3 _ _ (sm _ _ eb) nb
section
variable {n F : Nat} {s : Hc} {du : List U}
theorem Fr.mono (w : Fr n F s du) {hs' : List U} {cs' : List (List U)} (h3 : hs'.length = 3) (h0 : hs'.getD 0 .n = s.hs.getD 0 .n) (hl : F ≤ cs'.length) (hc : ∀ c, c < F → cs'.getD c [] = s.cs.getD c []) : Fr n F ⟨hs', cs'⟩ du where
  n1 := w.n1
  fF := w.fF
  dl := w.dl
  cl := hl
  h3 := h3
  h0 := by show hs'.getD 0 .n = _; rw [h0]; exact w.h0
  sl := fun c h => by show (cs'.getD c []).length = 8; rw [hc c h]; exact w.sl c h
  ch := fun c h1 h => by show (cs'.getD c []).getD 7 .n = _; rw [hc c h]; exact w.ch c h1 h
  at_ := fun j hj => by
    have := w.fF; have := w.n1
    show (cs'.getD (F - 1 - j / 7) []).getD (j % 7) .n = _; rw [hc _ (by omega)]; exact w.at_ j hj
theorem Fr.stored (w : Fr n F s du) {ts : List Str} {z : Str} (hn : ts.length = n) (hz : z ∈ ts) : ∃ s2, s.exs (storeD ts z) = some s2 ∧ Fr n F s2 (du.set (ts.idxOf z) (s.hs.getD 1 .n)) ∧ s2.hs.getD 1 .n = s.hs.getD 1 .n ∧ (∀ c, F ≤ c → s2.cs.getD c [] = s.cs.getD c []) ∧ s2.cs.length = s.cs.length := by
  obtain ⟨hs', e, h3, h0, h1⟩ := w.store hn hz
  have hj : ts.idxOf z < ts.length := List.idxOf_lt_length_iff.mpr hz
  have hF := w.fF
  have n1 := w.n1
  have hcl := w.cl
  refine ⟨_, e, ?_, h1, fun c hc => ?_, List.length_set⟩
  · generalize ts.idxOf z = j at *
    have hfl : F - 1 - j / 7 < F := by omega
    exact {
      n1 := n1
      fF := hF
      dl := by rw [List.length_set]; exact w.dl
      cl := by show F ≤ (s.cs.set _ _).length; rw [List.length_set]; exact hcl
      h3 := h3
      h0 := by show hs'.getD 0 .n = _; rw [h0]; exact w.h0
      sl := fun c hc => by
        show ((s.cs.set _ _).getD c []).length = 8
        by_cases y : F - 1 - j / 7 = c
        · subst y; rw [getD_set_self (by omega), List.length_set]; exact w.sl _ hc
        · rw [getD_set_other y]; exact w.sl c hc
      ch := fun c c0 hc => by
        show ((s.cs.set _ _).getD c []).getD 7 .n = _
        by_cases y : F - 1 - j / 7 = c
        · rw [← y, getD_set_self (by omega), getD_set_other (by omega), y]; exact w.ch c c0 hc
        · rw [getD_set_other y]; exact w.ch c c0 hc
      at_ := fun i hi => by
        show ((s.cs.set _ _).getD (F - 1 - i / 7) []).getD (i % 7) .n = _
        by_cases y : i = j
        · subst y
          rw [getD_set_self (by omega), getD_set_self (by rw [w.sl _ hfl]; omega), getD_set_self (by rw [w.dl]; exact hi)]
        · rw [getD_set_other (Ne.symm y)]
          by_cases x : F - 1 - j / 7 = F - 1 - i / 7
          · rw [← x, getD_set_self (by omega), getD_set_other (by omega), x]; exact w.at_ i hi
          · rw [getD_set_other x]; exact w.at_ i hi }
  · exact getD_set_other (by omega)
end
/-- the cells behind a statement, frames aside -/
def csN (ts : List Str) (s : Hc) (du : List U) : Sm → List (List U)
  | .make _ n => s.cs ++ [List.replicate n.toNat .n]
  | .set a k b => (match du.getD (ts.idxOf a) .n with
    | .c j => s.cs.set j ((s.cs.getD j []).set k.toNat (du.getD (ts.idxOf b) .n))
    | _ => s.cs)
  | _ => s.cs
structure Stp (n F : Nat) (ts : List Str) (s : Hc) (du : List U) (sm : Sm) (s2 : Hc) : Prop where
  ex : s.exs (stD ts sm) = some s2
  fr : Fr n F s2 (duN ts s du sm)
  ln : s2.cs.length = (csN ts s du sm).length
  cs : ∀ c, F ≤ c → s2.cs.getD c [] = (csN ts s du sm).getD c []
  tl : ∀ a, sm = .tell a → s2.hs.getD 1 .n = du.getD (ts.idxOf a) .n
structure Ow (F : Nat) (s : Hc) (du : List U) : Prop where
  du : ∀ k, Un F s.cs.length (du.getD k .n)
  cs : ∀ c, F ≤ c → ∀ k, Un F s.cs.length ((s.cs.getD c []).getD k .n)
theorem getD_app_l {α : Type} {l r : List α} {i : Nat} {d : α} (h : i < l.length) : (l ++ r).getD i d = l.getD i d := by
  rw [List.getD_eq_getElem?_getD, List.getElem?_append_left h, ← List.getD_eq_getElem?_getD]
section
variable {n F : Nat} {s : Hc} {du : List U} {ts : List Str}
theorem step_ex (w : Fr n F s du) (o : Ow F s du) (hn : ts.length = n) {sm : Sm} (fit : sm.fit ts s du) : ∃ s2, Stp n F ts s du sm s2 := by
  have h3 := w.h3
  have hcl := w.cl
  have w1 : Fr n F ⟨(s.hs.set 1 .n).set 2 .n, s.cs⟩ du := w.mono (by rw [List.length_set, List.length_set]; exact h3) (by rw [getD_set_other (by decide), getD_set_other (by decide)]) hcl fun _ _ => rfl
  have hl1 : ((s.hs.set 1 .n).set 2 .n).length = 3 := w1.h3
  have hz0 : ∀ u, (((s.hs.set 1 .n).set 2 .n).set 1 u).getD 0 .n = s.hs.getD 0 .n := fun u => by rw [getD_set_other (by decide), getD_set_other (by decide), getD_set_other (by decide)]
  have hz1 : ∀ u, (((s.hs.set 1 .n).set 2 .n).set 1 u).getD 1 .n = u := fun u => getD_set_self (by omega)
  have e0 : ∀ ds, s.exs ([.dr 1, .dr 2] ++ ds) = (Hc.mk ((s.hs.set 1 .n).set 2 .n) s.cs).exs ds := fun ds => rfl
  generalize hh : (s.hs.set 1 U.n).set 2 U.n = hs1 at *
  have n1 : hs1.getD 1 .n = .n := by rw [← hh, getD_set_other (by decide), getD_set_self (by omega)]
  cases sm with
  | make a m =>
    have w2 : Fr n F ⟨hs1.set 1 (.c s.cs.length), s.cs ++ [List.replicate m.toNat .n]⟩ du := w.mono (by rw [List.length_set]; exact hl1) (hz0 _) (by rw [List.length_append]; omega) fun c hc => getD_app_l (by omega)
    obtain ⟨s2, e2, w3, _, cs2, cl2⟩ := w2.stored hn fit.1
    exact ⟨s2, (e0 _).trans e2, by rw [show (Hc.mk (hs1.set 1 (.c s.cs.length)) (s.cs ++ [List.replicate m.toNat .n])).hs.getD 1 .n = .c s.cs.length from hz1 _] at w3; exact w3, cl2, cs2, fun a h => by cases h⟩
  | keep a x =>
    have w2 : Fr n F ⟨hs1.set 1 (.i x), s.cs⟩ du := w.mono (by rw [List.length_set]; exact hl1) (hz0 _) hcl fun c hc => rfl
    obtain ⟨s2, e2, w3, _, cs2, cl2⟩ := w2.stored hn fit
    exact ⟨s2, (e0 _).trans e2, by rw [show (Hc.mk (hs1.set 1 (.i x)) s.cs).hs.getD 1 .n = .i x from hz1 _] at w3; exact w3, cl2, cs2, fun a h => by cases h⟩
  | copy a b =>
    have w2 : Fr n F ⟨hs1.set 1 (du.getD (ts.idxOf b) .n), s.cs⟩ du := w.mono (by rw [List.length_set]; exact hl1) (hz0 _) hcl fun c hc => rfl
    obtain ⟨s2, e2, w3, _, cs2, cl2⟩ := w2.stored hn fit.1
    have el : (Hc.mk hs1 s.cs).exs (loadD ts b 1) = _ := w1.load hn fit.2 (h := 1) (by decide) (by decide)
    exact ⟨s2, (e0 _).trans (by show Hc.exs _ (loadD ts b 1 ++ storeD ts a) = _; rw [exs_app, el]; exact e2), by rw [show (Hc.mk (hs1.set 1 (du.getD (ts.idxOf b) .n)) s.cs).hs.getD 1 .n = du.getD (ts.idxOf b) .n from hz1 _] at w3; exact w3, cl2, cs2, fun a h => by cases h⟩
  | drop a =>
    obtain ⟨s2, e2, w3, _, cs2, cl2⟩ := w1.stored hn fit
    exact ⟨s2, (e0 _).trans e2, by rw [show (Hc.mk hs1 s.cs).hs.getD 1 .n = .n from n1] at w3; exact w3, cl2, cs2, fun a h => by cases h⟩
  | get a b k =>
    obtain ⟨fa, fb, k0, j, hj, hk⟩ := fit
    have hjl := (o.du _ j hj).2
    have w2 : Fr n F ⟨hs1.set 1 ((s.cs.getD j []).getD k.toNat .n), s.cs⟩ du := w.mono (by rw [List.length_set]; exact hl1) (hz0 _) hcl fun c hc => rfl
    obtain ⟨s2, e2, w3, _, cs2, cl2⟩ := w2.stored hn fa
    have el : (Hc.mk hs1 s.cs).exs (loadD ts b 1) = _ := w1.load hn fb (h := 1) (by decide) (by decide)
    have et : (Hc.mk (hs1.set 1 (.c j)) s.cs).ex (.tk 1 1 k) = some ⟨hs1.set 1 ((s.cs.getD j []).getD k.toNat .n), s.cs⟩ := by
      unfold Hc.ex
      dsimp only
      rw [show (hs1.set 1 (U.c j)).getD (1 : Int).toNat .n = .c j from hz1 _]
      dsimp only
      rw [if_pos ⟨hk, hjl⟩, show (1 : Int).toNat = 1 from rfl, List.set_set]
    refine ⟨s2, (e0 _).trans (by show Hc.exs _ ((loadD ts b 1 ++ [.tk 1 1 k]) ++ storeD ts a) = _; rw [exs_app, exs_snoc, el, hj, Option.bind_some, et]; exact e2), ?_, cl2, cs2, fun a h => by cases h⟩
    rw [show (Hc.mk (hs1.set 1 ((s.cs.getD j []).getD k.toNat .n)) s.cs).hs.getD 1 .n = (s.cs.getD j []).getD k.toNat .n from hz1 _] at w3
    unfold duN; dsimp only; rw [hj]; exact w3
  | set a k b =>
    obtain ⟨fa, fb, k0, j, hj, hk⟩ := fit
    have hjl := o.du _ j hj
    have w2 : Fr n F ⟨hs1.set 2 (.c j), s.cs⟩ du := w.mono (by rw [List.length_set]; exact hl1) (by rw [← hh, getD_set_other (by decide), getD_set_other (by decide), getD_set_other (by decide)]) hcl fun c hc => rfl
    have ea : (Hc.mk hs1 s.cs).exs (loadD ts a 2) = _ := w1.load hn fa (h := 2) (by decide) (by decide)
    have eb : (Hc.mk (hs1.set 2 (.c j)) s.cs).exs (loadD ts b 1) = _ := w2.load hn fb (h := 1) (by decide) (by decide)
    have et : (Hc.mk ((hs1.set 2 (.c j)).set 1 (du.getD (ts.idxOf b) .n)) s.cs).ex (.pt 2 k 1) = some ⟨(hs1.set 2 (.c j)).set 1 (du.getD (ts.idxOf b) .n), s.cs.set j ((s.cs.getD j []).set k.toNat (du.getD (ts.idxOf b) .n))⟩ := by
      unfold Hc.ex
      dsimp only
      rw [show ((hs1.set 2 (.c j)).set 1 (du.getD (ts.idxOf b) .n)).getD (2 : Int).toNat .n = .c j from by
        rw [show (2 : Int).toNat = 2 from rfl, getD_set_other (by decide), getD_set_self (by omega)]]
      dsimp only
      rw [if_pos ⟨hk, hjl.2⟩, show ((hs1.set 2 (.c j)).set 1 (du.getD (ts.idxOf b) .n)).getD (1 : Int).toNat .n = du.getD (ts.idxOf b) .n from getD_set_self (by rw [List.length_set]; show 1 < _; omega)]
    have ec : csN ts s du (.set a k b) = s.cs.set j ((s.cs.getD j []).set k.toNat (du.getD (ts.idxOf b) .n)) := by unfold csN; dsimp only; rw [hj]
    refine ⟨_, (e0 _).trans (by show Hc.exs _ ((loadD ts a 2 ++ loadD ts b 1) ++ [.pt 2 k 1]) = _; rw [exs_snoc, exs_app, ea, hj, Option.bind_some]; show (Hc.exs (Hc.mk (hs1.set 2 (.c j)) s.cs) _).bind _ = _; rw [eb, Option.bind_some]; exact et), ?_, by rw [ec], fun c _ => by rw [ec], fun a h => by cases h⟩
    exact w.mono (by rw [List.length_set, List.length_set]; exact hl1) (by rw [getD_set_other (by decide), ← hh, getD_set_other (by decide), getD_set_other (by decide), getD_set_other (by decide)]) (by rw [List.length_set]; exact hcl) fun c hc => getD_set_other (by omega)
  | tell a =>
    have el : (Hc.mk hs1 s.cs).exs (loadD ts a 1) = _ := w1.load hn fit (h := 1) (by decide) (by decide)
    refine ⟨⟨hs1.set 1 (du.getD (ts.idxOf a) .n), s.cs⟩, (e0 _).trans (by show Hc.exs _ (loadD ts a 1 ++ [.rd 1]) = _; rw [exs_snoc, el]; rfl), ?_, rfl, fun c _ => rfl, fun a' h => by cases h; exact hz1 _⟩
    exact w.mono (by rw [List.length_set]; exact hl1) (hz0 _) hcl fun c hc => rfl
theorem Un.le {m m' : Nat} {u : U} (h : Un F m u) (l : m ≤ m') : Un F m' u := fun j e => ⟨(h j e).1, Nat.lt_of_lt_of_le (h j e).2 l⟩
theorem Un.set {m : Nat} {l : List U} {i : Nat} {u : U} (h : ∀ k, Un F m (l.getD k .n)) (hu : Un F m u) : ∀ k, Un F m ((l.set i u).getD k .n) := fun k => by
  by_cases y : i = k
  · subst y
    by_cases z : i < l.length
    · rw [getD_set_self z]; exact hu
    · rw [List.set_eq_of_length_le (by omega)]; exact h _
  · rw [getD_set_other y]; exact h k
theorem Stp.ow {s2 : Hc} {sm : Sm} (p : Stp n F ts s du sm s2) (w : Fr n F s du) (o : Ow F s du) (fit : sm.fit ts s du) : Ow F s2 (duN ts s du sm) := by
  have hcl := w.cl
  have hle : s.cs.length ≤ (csN ts s du sm).length := by
    cases sm with
    | make a m => show _ ≤ (s.cs ++ _).length; rw [List.length_append]; omega
    | set a k b => unfold csN; dsimp only; split
                   · rw [List.length_set]; exact Nat.le_refl _
                   · exact Nat.le_refl _
    | _ => exact Nat.le_refl _
  have un : ∀ x, Un F s2.cs.length (U.i x) := fun x j e => by cases e
  have unn : Un F s2.cs.length U.n := fun j e => by cases e
  have od : ∀ k, Un F s2.cs.length (du.getD k .n) := fun k => (o.du k).le (by rw [p.ln]; exact hle)
  have oc : ∀ c, F ≤ c → ∀ k, Un F s2.cs.length ((s.cs.getD c []).getD k .n) := fun c hc k => (o.cs c hc k).le (by rw [p.ln]; exact hle)
  constructor
  · cases sm with
    | make a m =>
      refine Un.set od fun j e => ?_
      cases e
      rw [p.ln]
      exact ⟨hcl, by show _ < (s.cs ++ _).length; rw [List.length_append]; show _ < _ + 1; omega⟩
    | keep a x => exact Un.set od (un x)
    | copy a b => exact Un.set od (od _)
    | drop a => exact Un.set od unn
    | get a b k =>
      obtain ⟨fa, fb, k0, j, hj, hk⟩ := fit
      unfold duN; dsimp only; rw [hj]
      exact Un.set od (oc j (o.du _ j hj).1 _)
    | set a k b => exact od
    | tell a => exact od
  · intro c hc k
    rw [p.cs c hc]
    cases sm with
    | make a m =>
      show Un F _ (((s.cs ++ [List.replicate m.toNat U.n]).getD c []).getD k .n)
      by_cases y : c < s.cs.length
      · rw [getD_app_l y]; exact oc c hc k
      · have : ((s.cs ++ [List.replicate m.toNat U.n]).getD c []).getD k .n = .n := by
          rw [List.getD_eq_getElem?_getD (l := s.cs ++ _), List.getElem?_append_right (by omega)]
          cases hq : c - s.cs.length with
          | zero => show (List.replicate m.toNat U.n).getD k .n = .n; rw [List.getD_eq_getElem?_getD, List.getElem?_replicate]; split <;> rfl
          | succ i => rfl
        rw [this]; exact unn
    | set a k' b =>
      obtain ⟨fa, fb, k0, j, hj, hk⟩ := fit
      have ec : csN ts s du (.set a k' b) = s.cs.set j ((s.cs.getD j []).set k'.toNat (du.getD (ts.idxOf b) .n)) := by unfold csN; dsimp only; rw [hj]
      rw [ec]
      by_cases y : j = c
      · subst y
        rw [getD_set_self (o.du _ j hj).2]
        exact Un.set (oc j hc) (od _) k
      · rw [getD_set_other y]; exact oc c hc k
    | keep a x => exact oc c hc k
    | copy a b => exact oc c hc k
    | drop a => exact oc c hc k
    | get a b k' => exact oc c hc k
    | tell a => exact oc c hc k
end
/-- the law's own copy of the cells -/
structure RAt (H : Hp) (lx : Addr) (rb : List Addr) (cs : List (List U)) : Prop where
  ex : H lx = some (.lst (rb.map V.ref))
  rl : rb.length = cs.length
  rw : ∀ (j : Nat) (b : Addr), rb[j]? = some b → ∃ vs, H b = some (.lst vs) ∧ UVs H (cs.getD j []) vs
  nd : (lx :: rb).Nodup
theorem RAt.mono {H H' : Hp} {lx : Addr} {rb : List Addr} {cs : List (List U)} (r : RAt H lx rb cs) (h1 : ∀ b o, b ∈ lx :: rb → H b = some o → H' b = some o) (h2 : ∀ a xs, H a = some (.tup xs) → H' a = some (.tup xs)) : RAt H' lx rb cs where
  ex := h1 _ _ List.mem_cons_self r.ex
  rl := r.rl
  rw := fun j b hb => let ⟨vs, e, u⟩ := r.rw j b hb; ⟨vs, h1 _ _ (List.mem_cons_of_mem _ (List.mem_of_getElem? hb)) e, u.mono h2⟩
  nd := r.nd
def midN (s : Hc) : Sm → List (List U)
  | .make _ n => s.cs ++ [List.replicate n.toNat .n]
  | _ => s.cs
theorem Sm.is_make {sm : Sm} (h : sm.word = Str.ofString "make") : ∃ a n, sm = .make a n := by
  cases sm with
  | make a n => exact ⟨a, n, rfl⟩
  | _ => exact absurd h (by unfold Sm.word; dsimp only; decide +kernel)
theorem Sm.is_tell {sm : Sm} (h : sm.word = Str.ofString "tell") : ∃ a, sm = .tell a := by
  cases sm with
  | tell a => exact ⟨a, rfl⟩
  | _ => exact absurd h (by unfold Sm.word; dsimp only; decide +kernel)
theorem Sm.is_set {sm : Sm} (h : sm.word = Str.ofString "set") : ∃ a k b, sm = .set a k b := by
  cases sm with
  | set a k b => exact ⟨a, k, b, rfl⟩
  | _ => exact absurd h (by unfold Sm.word; dsimp only; decide +kernel)
theorem stD_ok {ts : List Str} {s : Hc} {du : List U} {sm : Sm} (fit : sm.fit ts s du) : ∀ d ∈ stD ts sm, d.ok := fun d hd => by
  unfold stD at hd
  rcases List.mem_append.mp hd with m | m
  · rcases List.mem_cons.mp m with rfl | m
    · exact ⟨by omega, by omega⟩
    · rw [List.mem_singleton] at m; subst m; exact ⟨by omega, by omega⟩
  · cases sm with
    | make a n => rcases List.mem_cons.mp m with rfl | m
                  · exact ⟨by omega, by omega, fit.2⟩
                  · exact storeD_ok d m
    | keep a n => rcases List.mem_cons.mp m with rfl | m
                  · exact ⟨by omega, by omega⟩
                  · exact storeD_ok d m
    | copy a b => rcases List.mem_append.mp m with m | m
                  · exact loadD_ok (h := 1) (by decide) d m
                  · exact storeD_ok d m
    | drop a => exact storeD_ok d m
    | get a b k => rcases List.mem_append.mp m with m | m
                   · rcases List.mem_append.mp m with m | m
                     · exact loadD_ok (h := 1) (by decide) d m
                     · rw [List.mem_singleton] at m; subst m; exact ⟨by omega, by omega, by omega, by omega, fit.2.2.1⟩
                   · exact storeD_ok d m
    | set a k b => rcases List.mem_append.mp m with m | m
                   · rcases List.mem_append.mp m with m | m
                     · exact loadD_ok (h := 2) (by decide) d m
                     · exact loadD_ok (h := 1) (by decide) d m
                   · rw [List.mem_singleton] at m; subst m; exact ⟨by omega, by omega, fit.2.2.1, by omega, by omega⟩
    | tell a => rcases List.mem_append.mp m with m | m
                · exact loadD_ok (h := 1) (by decide) d m
                · rw [List.mem_singleton] at m; subst m; exact ⟨by omega, by omega⟩
theorem stD_len {ts : List Str} {sm : Sm} (hl : ts.length ≤ 50) : (stD ts sm).length ≤ 100 := by
  unfold stD
  rw [List.length_append]
  show 2 + _ ≤ 100
  cases sm with
  | make a n => have := storeD_len (z := a) hl; show 2 + ((storeD ts a).length + 1) ≤ 100; omega
  | keep a n => have := storeD_len (z := a) hl; show 2 + ((storeD ts a).length + 1) ≤ 100; omega
  | copy a b => have := storeD_len (z := a) hl; have := loadD_len (z := b) (h := 1) hl; show 2 + (loadD ts b 1 ++ storeD ts a).length ≤ 100; rw [List.length_append]; omega
  | drop a => have := storeD_len (z := a) hl; show 2 + (storeD ts a).length ≤ 100; omega
  | get a b k => have := storeD_len (z := a) hl; have := loadD_len (z := b) (h := 1) hl; show 2 + ((loadD ts b 1 ++ [De.tk 1 1 k]) ++ storeD ts a).length ≤ 100; rw [List.length_append, List.length_append]; show 2 + (_ + 1 + _) ≤ 100; omega
  | set a k b => have := loadD_len (z := a) (h := 2) hl; have := loadD_len (z := b) (h := 1) hl; show 2 + ((loadD ts a 2 ++ loadD ts b 1) ++ [De.pt 2 k 1]).length ≤ 100; rw [List.length_append, List.length_append]; show 2 + (_ + _ + 1) ≤ 100; omega
  | tell a => have := loadD_len (z := a) (h := 1) hl; show 2 + (loadD ts a 1 ++ [De.rd 1]).length ≤ 100; rw [List.length_append]; show 2 + (_ + 1) ≤ 100; omega
theorem DVs.mono {H H' : Hp} (t : ∀ a xs, H a = some (.tup xs) → H' a = some (.tup xs)) : ∀ {ds : List De} {vs : List V}, DVs H ds vs → DVs H' ds vs
  | [], [], _ => True.intro
  | d :: ds, v :: vs, ⟨⟨a, e, h⟩, r⟩ => ⟨⟨a, e, t _ _ h⟩, r.mono t⟩
theorem SAt.off {H : Hp} {sd lh lc lf : Addr} {ra : List Addr} {s : Hc} {fk : List Int} (st : SAt H sd lh lc lf ra s fk) {b : Addr} {us xs : List V} (eb : H b = some (.lst us)) (nb : ¬ own sd lh lc ra b) : SAt (upd H b (.lst xs)) sd lh lc lf ra s fk where
  ob := by rw [upd_ne (fun z => nb (.inl z.symm))]; exact st.ob
  hd := let ⟨vs, e, u⟩ := st.hd; ⟨vs, by rw [upd_ne (fun z => nb (.inr (.inl z.symm)))]; exact e, u.mono (tup_upd eb)⟩
  cl := by rw [upd_ne (fun z => nb (.inr (.inr (.inl z.symm))))]; exact st.cl
  rl := st.rl
  rw := fun j a hj => let ⟨vs, e, u⟩ := st.rw j a hj; ⟨vs, by rw [upd_ne (fun z => nb (.inr (.inr (.inr (by rw [← z]; exact List.mem_of_getElem? hj)))))]; exact e, u.mono (tup_upd eb)⟩
  fr := by rw [upd_ne (fun z => by have := st.fr; rw [z, eb] at this; cases this)]; exact st.fr
  nd := st.nd
  h3 := st.h3
/-- all that stands while a statement's outcome is looked at -/
structure Gs (H : Hp) (sd lh lc lf ln ld p l ls : Addr) (ra ra' : List Addr) (s2 : Hc) (fk : List Int) (ts : List Str) (du du2 : List U) (dv vs : List V) (sm : Sm) (H' : Hp) : Prop where
  st : SAt H' sd lh lc lf ra' s2 fk
  en : H' ln = some (.lst (ts.map V.str))
  ed : H' ld = some (.lst dv)
  ud : UVs H' du dv
  ep : H' p = some (.tup sm.vs)
  el : H' l = some (.lst vs)
  ul : UVs H' du2 vs
  ds : DsAt H' (stD ts sm) ls
  fr : ∀ b o, H b = some o → ¬ own sd lh lc ra b → H' b = some o
section
variable {H H' H'' : Hp} {sd lh lc lf ln ld p l ls : Addr} {ra ra' : List Addr} {s2 : Hc} {fk : List Int} {ts : List Str} {du du2 : List U} {dv vs : List V} {sm : Sm}
theorem Gs.same (g : Gs H sd lh lc lf ln ld p l ls ra ra' s2 fk ts du du2 dv vs sm H') (k : Same H' H'') : Gs H sd lh lc lf ln ld p l ls ra ra' s2 fk ts du du2 dv vs sm H'' :=
  ⟨g.st.same k, k _ _ g.en, k _ _ g.ed, g.ud.mono fun a xs h => k _ _ h, k _ _ g.ep, k _ _ g.el, g.ul.mono fun a xs h => k _ _ h, g.ds.same k, fun b o eb nb => k _ _ (g.fr b o eb nb)⟩
theorem Gs.put (g : Gs H sd lh lc lf ln ld p l ls ra ra' s2 fk ts du du2 dv vs sm H') {b : Addr} {us xs : List V} (eb : H' b = some (.lst us)) (n1 : ¬ own sd lh lc ra' b) (n2 : b ≠ ln) (n3 : b ≠ ld) (n4 : b ≠ l) (n5 : b ≠ ls) (hb : H b = none) : Gs H sd lh lc lf ln ld p l ls ra ra' s2 fk ts du du2 dv vs sm (upd H' b (.lst xs)) :=
  ⟨g.st.off eb n1, by rw [upd_ne (Ne.symm n2)]; exact g.en, by rw [upd_ne (Ne.symm n3)]; exact g.ed, g.ud.mono (tup_upd eb), tup_upd eb _ _ g.ep, by rw [upd_ne (Ne.symm n4)]; exact g.el, g.ul.mono (tup_upd eb),
    let ⟨ws, e, d⟩ := g.ds; ⟨ws, by rw [upd_ne (Ne.symm n5)]; exact e, d.mono (tup_upd eb)⟩, fun c o ec nc => by rw [upd_ne (fun z => by rw [z, hb] at ec; cases ec)]; exact g.fr c o ec nc⟩
end
theorem RAt.add {H : Hp} {lx : Addr} {rb : List Addr} {cs : List (List U)} (r : RAt H lx rb cs) {a : Addr} {n : Nat} (ea : H a = some (.lst (List.replicate n .non))) (hn : a ∉ lx :: rb) : RAt (upd H lx (.lst (rb.map V.ref ++ [V.ref a]))) lx (rb ++ [a]) (cs ++ [List.replicate n .n]) := by
  have nx : a ≠ lx := fun z => hn (by rw [z]; exact List.mem_cons_self)
  have nd := r.nd
  rw [List.nodup_cons] at nd
  exact {
    ex := by rw [upd_same, List.map_append]; rfl
    rl := by rw [List.length_append, List.length_append, r.rl]; rfl
    rw := fun i b hb => by
      by_cases z : i < rb.length
      · rw [List.getElem?_append_left z] at hb
        obtain ⟨ws, e, w⟩ := r.rw i b hb
        rw [getD_app_l (by rw [← r.rl]; exact z)]
        exact ⟨ws, by rw [upd_ne (fun y => nd.1 (by rw [← y]; exact List.mem_of_getElem? hb))]; exact e, w.mono (tup_upd r.ex)⟩
      · have hi : i = rb.length := by
          have := (List.getElem?_eq_some_iff.mp hb).1
          rw [List.length_append, List.length_singleton] at this
          omega
        subst hi
        rw [List.getElem?_append_right (Nat.le_refl _), Nat.sub_self] at hb
        cases hb
        rw [List.getD_eq_getElem?_getD, List.getElem?_append_right (by rw [r.rl]; exact Nat.le_refl _), r.rl, Nat.sub_self]
        exact ⟨_, by rw [upd_ne nx]; exact ea, (UVs.nones (H := H)).mono (tup_upd r.ex)⟩
    nd := by
      have e : lx :: (rb ++ [a]) = (lx :: rb) ++ [a] := rfl
      rw [e, List.nodup_append]
      exact ⟨r.nd, by simp, fun u hu v hv z => by rw [List.mem_singleton] at hv; subst hv; subst z; exact hn hu⟩ }
theorem RAt.row {H : Hp} {lx : Addr} {rb : List Addr} {cs : List (List U)} (r : RAt H lx rb cs) {j k : Nat} {a : Addr} {rs : List V} {u : U} {v : V} (hj : rb[j]? = some a) (er : H a = some (.lst rs)) (ur : UVs H (cs.getD j []) rs) (hu : u.at H v) :
    RAt (upd H a (.lst (rs.set k v))) lx rb (cs.set j ((cs.getD j []).set k u)) := by
  have nd := r.nd
  rw [List.nodup_cons] at nd
  have hjl : j < rb.length := (List.getElem?_eq_some_iff.mp hj).1
  exact {
    ex := by rw [upd_ne (fun y => nd.1 (by rw [y]; exact List.mem_of_getElem? hj))]; exact r.ex
    rl := by rw [List.length_set]; exact r.rl
    rw := fun i b hb => by
      by_cases z : i = j
      · subst z
        rw [hj] at hb
        cases hb
        rw [getD_set_self (by rw [← r.rl]; exact hjl)]
        exact ⟨_, upd_same, (ur.set hu).mono (tup_upd er)⟩
      · obtain ⟨ws, e, w⟩ := r.rw i b hb
        have nb : b ≠ a := fun y => by
          subst y
          have h1 := (List.getElem?_eq_some_iff.mp hb)
          have h2 := (List.getElem?_eq_some_iff.mp hj)
          exact z ((List.getElem_inj nd.2).mp (h1.2.trans h2.2.symm))
        rw [getD_set_other (Ne.symm z)]
        exact ⟨ws, by rw [upd_ne nb]; exact e, w.mono (tup_upd er)⟩
    nd := r.nd }
theorem csN_len {ts : List Str} {s : Hc} {du : List U} {sm : Sm} : (csN ts s du sm).length = (midN s sm).length := by
  cases sm with
  | set a k b =>
    unfold csN midN; dsimp only; split
    · rw [List.length_set]
    · rfl
  | _ => rfl
theorem midN_len {s : Hc} {sm : Sm} : (midN s sm).length ≤ s.cs.length + 1 := by
  cases sm with
  | make a n => unfold midN; dsimp only; rw [List.length_append]; exact Nat.le_refl _
  | _ => exact Nat.le_succ _
theorem valV_fk {x : Int} : ∀ {fk : List Int}, (valV (fk.map fun k => ((Sum.inl k : Key), V.bl true)) (Sum.inl x)).isSome = decide (x ∈ fk)
  | [] => by simp [valV]
  | k :: fk => by
    rw [List.map_cons]
    by_cases y : k = x
    · subst y; rw [valV_pos rfl]; simp
    · rw [valV_neg (fun z => y (Sum.inl.inj z)), valV_fk]
      simp [Ne.symm y]
theorem DVs.last {H : Hp} {ds : List De} {d : De} {vs : List V} (h : DVs H (ds ++ [d]) vs) : ∃ a, atI vs (-1) = some (.ref a) ∧ H a = some (.tup d.vs) := by
  have hl := h.len
  rw [List.length_append] at hl
  have hl' : vs.length = ds.length + 1 := hl
  have hx := List.getElem?_eq_getElem (l := vs) (i := ds.length) (by omega)
  obtain ⟨d', a, hd, e, ea⟩ := h.get hx
  rw [List.getElem?_append_right (Nat.le_refl _), Nat.sub_self] at hd
  cases hd
  refine ⟨a, ?_, ea⟩
  unfold atI ixN
  rw [if_neg (by omega), if_pos (by omega), show ((-1 : Int) + (vs.length : Int)).toNat = ds.length by omega, Option.bind_some, hx, e]
theorem deq_si {H : Hp} {a b : Addr} {x : Str} {i : Int} (ha : H a = some (.tup [.str x, .int i])) (hb : H b = some (.tup [.str x, .int i])) : deq H 2 (.ref a) (.ref b) = some true := by
  unfold deq
  dsimp only
  rw [ha, hb]
  simp [deq, flatV, eqV, allO]
theorem cutV_two {a b : V} {r : List V} : cutV (a :: b :: r) none (some 2) = [a, b] := by
  simp [cutV, HT.sIx]
def sp__law_stepped : Sp := fun vs H Q _ => ∃ sd lh lc lf ra s fk ln ld p, ∃ ts : List Str, ∃ n F du dv, ∃ sm : Sm, vs = [.ref sd, .ref ln, .ref ld, .ref p] ∧ SAt H sd lh lc lf ra s fk ∧ Fr n F s du ∧ Ow F s du ∧ fk = (List.range F).map (fun k : Nat => (k : Int)) ∧ H ln = some (.lst (ts.map V.str)) ∧ ts.length = n ∧ n ≤ 50 ∧ H ld = some (.lst dv) ∧ UVs H du dv ∧ ¬ own sd lh lc ra ln ∧ ¬ own sd lh lc ra ld ∧ H p = some (.tup sm.vs) ∧ sm.fit ts s du ∧ s.cs.length ≤ 90 ∧
  ∀ l H' ra' s2 vs, Stp n F ts s du sm s2 → SAt H' sd lh lc lf ra' s2 fk → H l = none → H' l = some (.lst vs) → UVs H' (duN ts s du sm) vs → ¬ own sd lh lc ra' l → (∀ b o, H b = some o → ¬ own sd lh lc ra b → H' b = some o) → Grow H ra ra' → Q (.ref l) H'
theorem sc__law_stepped : FnScope ["_law_s", "_law_names_here", "_law_due_here", "_law_statement_here", "_law_fresh", "_law_row", "_law_deeds", "_law_here", "_law_held", "_law_k"] ["_law_s", "_law_names_here", "_law_due_here", "_law_statement_here"] (defScope s__law_stepped) := ⟨rfl, rfl, rfl, by decide +kernel, rfl, by decide +kernel, by decide +kernel⟩
theorem ok__law_stepped (T : Txt K mg A) : FnOk P w K mg base (CXE P w) true 6 A.f__law_stepped A.d__law_stepped ["_law_s", "_law_names_here", "_law_due_here", "_law_statement_here"] sp__law_stepped := by
  refine T.fn__law_stepped.okE sc__law_stepped (fun vs H Q E h => ?_) (fun cdv A' outer s H vs Q E hr hx h => ?_)
  · obtain ⟨sd, lh, lc, lf, ra, s0, fk, ln, ld, p, ts, n, F, du, dv, sm, rfl, st, fr, ow, hfk, en, hn, n50, ed, ud, nln, nld, ep, fit, hcl, q⟩ := h
    rfl
  · obtain ⟨sd, lh, lc, lf, ra, s0, fk, ln, ld, p, ts, n, F, du, dv, sm, rfl, st, fr, ow, hfk, en, hn, n50, ed, ud, nln, nld, ep, fit, hcl, q⟩ := h
    refine ⟨_, JSs.run (j_pss_cons (j_ps_set (i := 4) sc__law_stepped.nd rfl (by first | exact Or.inl rfl | exact Or.inr rfl) (j_pe_callF ((ok__law_due T).mono (by decide)) hr rfl T.g__law_due T.fn__law_due.kp T.b__law_due hx (j_pa_c (j_cv 0) (j_pa_c (j_cv 1) (j_pa_c (j_cv 2) (j_pa_c (j_cv 3) j_pa_nil))))))
      (j_pss_cons (j_ps_setcomp (i := 5) (fsc := defScope s__law_stepped) (N2 := []) (js := []) sc__law_stepped.nd rfl (by first | exact Or.inl rfl | exact Or.inr rfl) ⟨rfl, rfl, by decide +kernel, by decide +kernel, by decide +kernel, by decide +kernel, by decide +kernel, by decide +kernel, by decide +kernel⟩ rfl rfl (by rfl) (j_pi_list (j_c_dget (by exact hu_of hr) (j_cv 0) j_pe_str (fun _ _ => rfl))) (fun _ _ _ _ => j_pifs_nil) (fun _ _ _ _ => (j_pe_callTyF j_c_list (by rfl) T.n_list PyProof.Rows.Boot.«list» (j_pa_c (j_cv 0) j_pa_nil))))
      (j_pss_cons (j_ps_set (i := 6) sc__law_stepped.nd rfl (by first | exact Or.inl rfl | exact Or.inr rfl) (j_pe_callF ((ok_deeds_of T).mono (by decide)) hr rfl T.g_deeds_of T.fn_deeds_of.kp T.b_deeds_of hx (j_pa_c (j_cv 1) (j_pa_c (j_cv 3) j_pa_nil))))
      (j_pss_cons (j_ps_if (j_PW_pt (j_pw_or (j_pt_not (j_pt_truth (j_pe_callF ((ok__law_all T).mono (by decide)) hr rfl T.g__law_all T.fn__law_all.kp T.b__law_all hx (j_pa_c (j_cv 0) (j_pa_c (j_cv 6) j_pa_nil))) (fun _ => rfl))) (j_pw_or1 (j_pt_cmpR (j_c_neT (hu8 hr)) (j_pe_slice j_c_sl (j_cv 6) j_po_none (j_c_part j_pe_int)) (j_pe_lst (j_pa_c (j_pe_tup (j_pa_c j_pe_str (j_pa_c j_pe_int j_pa_nil))) (j_pa_c (j_pe_tup (j_pa_c j_pe_str (j_pa_c j_pe_int j_pa_nil))) j_pa_nil))) (nomark _))))) (j_pss_one (j_ps_ret j_pe_non)) j_pss_nil)
      (j_pss_cons (j_ps_if (j_pt_cmpR (j_c_eqA (hu8 hr)) (j_pe_ix j_c_ix (j_cv 3) j_pe_int (fun _ _ => rfl)) j_pe_str (nomark _)) (j_pss_one (j_ps_expr (j_c_bm PySem.F.slot_list_append PySem.F.type_list_append j_c_append (j_cv 5) (j_pa_c (j_pe_op j_c_rep (j_pe_lst (j_pa_c j_pe_non j_pa_nil)) (j_pe_ix j_c_ix (j_cv 3) j_pe_int (fun _ _ => rfl))) j_pa_nil)))) j_pss_nil)
      (j_pss_cons (j_ps_if (j_pt_cmpR (j_c_neT (hu8 hr)) (j_pe_callBF j_c_len (by rfl) T.n_len PyProof.Rows.Boot.«len» (j_pa_c (j_c_dget (by exact hu_of hr) (j_cv 0) j_pe_str (fun _ _ => rfl)) j_pa_nil)) (j_pe_callBF j_c_len (by rfl) T.n_len PyProof.Rows.Boot.«len» (j_pa_c (j_cv 5) j_pa_nil)) (nomark _)) (j_pss_one (j_ps_ret j_pe_non)) j_pss_nil)
      (j_pss_cons (j_ps_set (i := 7) sc__law_stepped.nd rfl (by first | exact Or.inl rfl | exact Or.inr rfl) (j_c_bm PySem.F.slot_list_index PySem.F.type_list_index j_c_indexS (j_cv 1) (j_pa_c (j_pe_ix j_c_ix (j_cv 3) j_pe_int (fun _ _ => rfl)) j_pa_nil)))
      (j_pss_cons (j_ps_if (j_pt_cmpR (j_c_eqA (hu8 hr)) (j_pe_ix j_c_ix (j_cv 3) j_pe_int (fun _ _ => rfl)) j_pe_str (nomark _)) (j_pss_one (j_ps_if (j_PW_pt (j_pw_or (j_pt_cmpR (j_c_neT (hu8 hr)) (j_pe_ix j_c_ix (j_cv 6) (j_pe_un j_c_neg j_pe_int) (fun _ _ => rfl)) (j_pe_tup (j_pa_c j_pe_str (j_pa_c j_pe_int j_pa_nil))) (nomark _)) (j_pw_or1 (j_pt_cmpR (j_c_neT (hu8 hr)) (j_pe_ix j_c_ix (j_c_dget (by exact hu_of hr) (j_cv 0) j_pe_str (fun _ _ => rfl)) j_pe_int (fun _ _ => rfl)) (j_pe_ix j_c_ix (j_cv 2) (j_cv 7) (fun _ _ => rfl)) (nomark _))))) (j_pss_one (j_ps_ret j_pe_non)) j_pss_nil)) j_pss_nil)
      (j_pss_cons (j_ps_if (j_pt_cmpR (j_c_eqA (hu8 hr)) (j_pe_ix j_c_ix (j_cv 3) j_pe_int (fun _ _ => rfl)) j_pe_str (nomark _)) (j_pss_cons (j_ps_set (i := 8) sc__law_stepped.nd rfl (by first | exact Or.inl rfl | exact Or.inr rfl) (j_pe_ix j_c_ix (j_cv 2) (j_c_bm PySem.F.slot_list_index PySem.F.type_list_index j_c_indexS (j_cv 1) (j_pa_c (j_pe_ix j_c_ix (j_cv 3) j_pe_int (fun _ _ => rfl)) j_pa_nil)) (fun _ _ => rfl)))
      (j_pss_one (j_ps_asg (j_cv 8) (j_pg_sub (j_pe_ix j_c_ix (j_cv 5) (j_pe_ix j_c_ix (j_pe_ix j_c_ix (j_cv 2) (j_cv 7) (fun _ _ => rfl)) j_pe_int (fun _ _ => rfl)) (fun _ _ => rfl)) (j_pe_ix j_c_ix (j_cv 3) j_pe_int (fun _ _ => rfl)) j_c_set)))) j_pss_nil)
      (j_pss_cons (j_ps_for hx.own rfl (j_pi_range1 rfl T.n_range (j_pa_c (j_pe_callBF j_c_len (by rfl) T.n_len PyProof.Rows.Boot.«len» (j_pa_c (j_cv 5) j_pa_nil)) j_pa_nil)) (j_pg_name (i := 9) sc__law_stepped.nd rfl (by first | exact Or.inl rfl | exact Or.inr rfl))
        (j_pss_one (j_ps_if (j_PW_pt (j_pw_and (j_pt_cmpR (j_c_notInD (hu_of hr)) (j_cv 9) (j_c_dget (by exact hu_of hr) (j_cv 0) j_pe_str (fun _ _ => rfl)) (by with_unfolding_all rfl)) (j_pw_and1 (j_pt_cmpR (j_c_neT (hu8 hr)) (j_pe_ix j_c_ix (j_c_dget (by exact hu_of hr) (j_cv 0) j_pe_str (fun _ _ => rfl)) (j_cv 9) (fun _ _ => rfl)) (j_pe_ix j_c_ix (j_cv 5) (j_cv 9) (fun _ _ => rfl)) (nomark _))))) (j_pss_one (j_ps_ret j_pe_non)) j_pss_nil)))
      (j_pss_one (j_ps_ret (j_cv 4))))))))))))), ?_⟩
    obtain ⟨s2, stp⟩ := step_ex fr ow hn fit
    have olx : ∀ b, H b = none → ¬ own sd lh lc ra b := fun b hb ho => st.osome ho hb
    show tSeq _ _ _ [some (V.ref sd), some (V.ref ln), some (V.ref ld), some (V.ref p), none, none, none, none, none, none] H
    refine seq_mid (fun σ' H' => ∃ l vs, H l = none ∧ Same H H' ∧ H' l = some (.lst vs) ∧ UVs H' (duN ts s0 du sm) vs ∧ σ' = [some (V.ref sd), some (V.ref ln), some (V.ref ld), some (V.ref p), some (V.ref l), none, none, none, none, none]) (fun R hR => ?_) ?_
    · simp only [tCons, tNil, cVar, tAsg, gName, tCallE, and_assoc, List.getElem?_cons_zero, List.getElem?_cons_succ, List.set_cons_zero, List.set_cons_succ, V.int.injEq, V.bl.injEq, V.str.injEq, V.ref.injEq, V.ty.injEq, List.cons.injEq, Option.some.injEq, and_true, exists_eq_left', exists_and_left, sp__law_due]
      exact ⟨lh, lc, lf, ra, s0, fk, st, ts, en, du, by rw [fr.dl]; exact hn, dv, ed, ud, F, ow.du, sm, ep, fit, fun l H' vs s1 hl el ul => hR _ _ ⟨l, vs, hl, s1, el, ul, rfl⟩⟩
    rintro _ H1 ⟨l, vs, hl, s1, el, ul, rfl⟩
    have st1 := st.same s1
    refine seq_mid (fun σ' H' => ∃ lx rb, Cp H1 H' ra lx rb ∧ σ' = [some (V.ref sd), some (V.ref ln), some (V.ref ld), some (V.ref p), some (V.ref l), some (V.ref lx), none, none, none, none]) (fun R hR => ?_) ?_
    · simp only [tC, cVar, tAsg, gName, cxOf_K, tComp, capt, iList, cDGet, keyV, List.map_nil, List.getElem?_cons_zero, List.set_cons_zero, List.set_cons_succ, V.int.injEq, V.bl.injEq, V.str.injEq, V.ref.injEq, V.ty.injEq, List.cons.injEq, Option.some.injEq, exists_eq_left', st1.ob, sKV_c]
      refine ⟨⟨_, SqL.of st1.cl⟩, comp_copy st1.cl (by rw [st.rl]; omega) (fun j a hj => let ⟨vs, e, _⟩ := st1.rw j a hj; ⟨vs, e⟩) (fun _ _ _ k => k) (fun a vs H' K' ea k => ?_) fun lx rb H' cp => hR _ _ ⟨lx, rb, cp, rfl⟩⟩
      simp only [tCB, tCons, tNil, cVar, cList, List.getElem?_cons_zero, ea]
      exact k
    rintro _ H2 ⟨lx, rb, cp, rfl⟩
    have st2 := st1.same cp.s
    have r2 : RAt H2 lx rb s0.cs := ⟨cp.ex, cp.rl.trans st.rl, fun j b hb => by
      have hj : j < ra.length := by rw [← cp.rl]; exact (List.getElem?_eq_some_iff.mp hb).1
      obtain ⟨vs, ea, ua⟩ := st1.rw j _ (List.getElem?_eq_getElem hj)
      obtain ⟨b', hb', eb'⟩ := cp.rw j _ vs (List.getElem?_eq_getElem hj) ea
      rw [hb] at hb'
      cases hb'
      exact ⟨vs, eb', ua.mono fun a xs h => cp.s _ _ h⟩, cp.nd⟩
    have rn : ∀ b ∈ lx :: rb, H1 b = none := fun b hb => by
      rcases List.mem_cons.mp hb with rfl | m
      · exact cp.nx
      · exact cp.nb b m
    refine seq_mid (fun σ' H' => ∃ ls, Same H2 H' ∧ H2 ls = none ∧ DsAt H' (stD ts sm) ls ∧ σ' = [some (V.ref sd), some (V.ref ln), some (V.ref ld), some (V.ref p), some (V.ref l), some (V.ref lx), some (V.ref ls), none, none, none]) (fun R hR => ?_) ?_
    · simp only [tCons, tNil, cVar, tAsg, gName, tCallE, and_assoc, List.getElem?_cons_zero, List.getElem?_cons_succ, List.set_cons_zero, List.set_cons_succ, V.int.injEq, V.bl.injEq, V.str.injEq, V.ref.injEq, V.ty.injEq, List.cons.injEq, Option.some.injEq, and_true, exists_eq_left', exists_and_left, sp_deeds_of]
      exact ⟨ts, cp.s _ _ (s1 _ _ en), sm, cp.s _ _ (s1 _ _ ep), fit.ok, by omega, fun ls H' s3 hls d3 => hR _ _ ⟨ls, s3, hls, d3, rfl⟩⟩
    rintro _ H3 ⟨ls, s3, hls, d3, rfl⟩
    have st3 := st2.same s3
    have sA := s1.trans (cp.s.trans s3)
    have o3 : ∀ {b}, H3 b ≠ none → H b = none → ∀ {ra'}, Grow H3 ra ra' → ¬ own sd lh lc ra' b := fun {b} h3 hb {ra'} g ho => by
      obtain ⟨more, rfl, hm⟩ := g
      rcases ho with y | y | y | y
      · exact olx b hb (.inl y)
      · exact olx b hb (.inr (.inl y))
      · exact olx b hb (.inr (.inr (.inl y)))
      · rcases List.mem_append.mp y with y | y
        · exact olx b hb (.inr (.inr (.inr y)))
        · exact h3 (hm b y)
    have dl := d3
    obtain ⟨dvs, els, dds⟩ := dl
    refine seq_mid (fun σ' H' => ∃ ra' H4, SAt H4 sd lh lc lf ra' s2 fk ∧ (∀ b o, H3 b = some o → ¬ own sd lh lc ra b → H4 b = some o) ∧ Grow H3 ra ra' ∧ Same H4 H' ∧ σ' = [some (V.ref sd), some (V.ref ln), some (V.ref ld), some (V.ref p), some (V.ref l), some (V.ref lx), some (V.ref ls), none, none, none]) (fun R hR => ?_) ?_
    · simp only [tRet, tNext, tIfS, tTest, tOp, tOr, tNot, tCons, tNil, tC, cVar, tLst, tTup, tCallE, eqv, TruV, and_assoc, Int.reduceAdd, Bool.not_eq_true', upd_same, Bool.true_eq_false, cNeA, cNeL, cSl, cPart, tNoPart, tSl, List.length_cons, List.length_nil, List.getElem?_cons_zero, List.getElem?_cons_succ, V.int.injEq, V.bl.injEq, V.str.injEq, V.ref.injEq, V.ty.injEq, List.cons.injEq, Option.some.injEq, and_true, true_and, exists_eq_left', exists_and_left, exists_eq_left, ite_true, ite_false, Nat.reduceAdd, sz2, cNeT, sp__law_all]
      refine ⟨lh, lc, lf, ra, s0, fk, st3, _, d3, olx _ (same_none (s1.trans cp.s) hls), stD_ok fit, _, stp.ex, by have := stD_len (sm := sm) (ts := ts) (by omega); omega, fun H4 ra4 st4 f4 g4 => ?_⟩
      rw [f4 _ _ els (olx _ (same_none (s1.trans cp.s) hls))]
      dsimp only
      intro p1 hp1 p2 hp2 p3 hp3 p4 hp4
      match dvs, dds with
      | r1 :: r2 :: rest, ⟨⟨a1, e1, h1⟩, ⟨a2, e2, h2⟩, _⟩ =>
        rw [cutV_two] at hp2 hp3 hp4 ⊢
        have a5 := Same.upd (o := .lst [r1, r2]) hp1
        have a6 := Same.upd (o := .tup [V.str (Str.ofString "drop"), V.int 1]) hp2
        have a7 := Same.upd (o := .tup [V.str (Str.ofString "drop"), V.int 2]) hp3
        have a8 := Same.upd (o := .lst [V.ref p2, V.ref p3]) hp4
        have g1 := (a6.trans (a7.trans a8)) _ _ upd_same
        have g2 := (a7.trans a8) _ _ upd_same
        have g3 := a8 _ _ upd_same
        have sAll := a5.trans (a6.trans (a7.trans a8))
        have k1 := sAll _ _ (f4 _ _ h1 (st3.ntup h1))
        have k2 := sAll _ _ (f4 _ _ h2 (st3.ntup h2))
        generalize upd (upd (upd (upd H4 p1 (HO.lst [r1, r2])) p2 (HO.tup [V.str (Str.ofString "drop"), V.int 1])) p3 (HO.tup [V.str (Str.ofString "drop"), V.int 2])) p4 (HO.lst [V.ref p2, V.ref p3]) = G at *
        rw [g1]
        dsimp only
        rw [e1, e2, if_pos (show [V.ref a1, V.ref a2].length = [V.ref p2, V.ref p3].length from rfl), List.zipWith_cons_cons, List.zipWith_cons_cons, deq_si k1 g2, deq_si k2 g3]
        exact hR _ _ ⟨ra4, H4, st4, f4, g4, sAll, rfl⟩
    rintro _ H5 ⟨ra', H4, st4, f4, g4, s5, rfl⟩
    have gs : Gs H sd lh lc lf ln ld p l ls ra ra' s2 fk ts du (duN ts s0 du sm) dv vs sm H5 := Gs.same ⟨st4, f4 _ _ (sA _ _ en) nln, f4 _ _ (sA _ _ ed) nld, ud.mono fun a xs h => f4 _ _ (sA _ _ h) (st.ntup h), f4 _ _ (sA _ _ ep) (st.ntup ep), f4 _ _ ((cp.s.trans s3) _ _ el) (olx _ hl), ul.mono fun a xs h => f4 _ _ ((cp.s.trans s3) _ _ h) (st1.ntup h), ⟨dvs, f4 _ _ els (olx _ (same_none (s1.trans cp.s) hls)), dds.mono fun a xs h => f4 _ _ h (st3.ntup h)⟩, fun b o eb nb => f4 _ _ (sA _ _ eb) nb⟩ s5
    have rn3 : ∀ b ∈ lx :: rb, H3 b ≠ none := fun b hb => by
      rcases List.mem_cons.mp hb with rfl | m
      · rw [s3 _ _ r2.ex]; intro z; cases z
      · obtain ⟨j, hj⟩ := List.mem_iff_getElem?.mp m
        obtain ⟨ws, ew, _⟩ := r2.rw j b hj
        rw [s3 _ _ ew]; intro z; cases z
    have r5 : RAt H5 lx rb s0.cs := r2.mono (fun b o hb e => s5 _ _ (f4 _ _ (s3 _ _ e) (olx _ (same_none s1 (rn b hb))))) fun a xs h => s5 _ _ (f4 _ _ (s3 _ _ h) (st2.ntup h))
    have sep5 : ∀ b ∈ lx :: rb, H b = none ∧ ¬ own sd lh lc ra' b ∧ b ≠ l ∧ b ≠ ls := fun b hb => ⟨same_none s1 (rn b hb), o3 (rn3 b hb) (same_none s1 (rn b hb)) g4, (fun z => by rw [← z, rn b hb] at el; cases el), fun z => by
      rcases List.mem_cons.mp hb with y | m
      · rw [← z, y, r2.ex] at hls; cases hls
      · obtain ⟨j, hj⟩ := List.mem_iff_getElem?.mp m
        obtain ⟨ws, ew, _⟩ := r2.rw j b hj
        rw [← z, ew] at hls; cases hls⟩
    have nl' : ¬ own sd lh lc ra' l := o3 (by rw [(cp.s.trans s3) _ _ el]; intro z; cases z) hl g4
    have gr' : Grow H ra ra' := by
      obtain ⟨more, e, hm⟩ := g4
      exact ⟨more, e, fun a ha => same_none sA (hm a ha)⟩
    have hcs := stp.ln
    clear f4 st4 g4 s5 rn3 o3 r2 rn st3 st2 st1
    have sepG : ∀ {G : Hp} {b : Addr} {us xs : List V}, Gs H sd lh lc lf ln ld p l ls ra ra' s2 fk ts du (duN ts s0 du sm) dv vs sm G → G b = some (.lst us) → (H b = none ∧ ¬ own sd lh lc ra' b ∧ b ≠ l ∧ b ≠ ls) → Gs H sd lh lc lf ln ld p l ls ra ra' s2 fk ts du (duN ts s0 du sm) dv vs sm (upd G b (.lst xs)) := fun {G b us xs} g eb h => g.put eb h.2.1 (fun z => by rw [z, en] at h; cases h.1) (fun z => by rw [z, ed] at h; cases h.1) h.2.2.1 h.2.2.2 h.1
    refine seq_mid (fun σ' H' => ∃ rb, Gs H sd lh lc lf ln ld p l ls ra ra' s2 fk ts du (duN ts s0 du sm) dv vs sm H' ∧ RAt H' lx rb (midN s0 sm) ∧ (∀ b ∈ lx :: rb, H b = none ∧ ¬ own sd lh lc ra' b ∧ b ≠ l ∧ b ≠ ls) ∧ σ' = [some (V.ref sd), some (V.ref ln), some (V.ref ld), some (V.ref p), some (V.ref l), some (V.ref lx), some (V.ref ls), none, none, none]) (fun R hR => ?_) ?_
    · by_cases y : sm.word = Str.ofString "make"
      · obtain ⟨a, m, rfl⟩ := Sm.is_make y
        have ep5 := gs.ep
        simp only [Sm.vs] at ep5
        simp only [tNext, tDrop, tIfS, tTest, tOp, tCons, tNil, tC, cVar, tLst, eqv, cIx, Int.reduceNeg, Int.reducePow, Int.reduceAdd, decide_true, cEqA, cRep, cAppend, cBM, atI_0, atI_2, List.length_cons, List.length_nil, List.getElem?_cons_zero, List.getElem?_cons_succ, V.int.injEq, V.bl.injEq, V.str.injEq, V.ref.injEq, V.ty.injEq, List.cons.injEq, Option.some.injEq, true_and, exists_eq_left', ite_true, Nat.reduceAdd, sz1, ep5, r5.ex]
        obtain ⟨_, m0, m8⟩ := fit
        intro p1 hp1
        have a1 := Same.upd (o := .lst [V.non]) hp1
        rw [a1 _ _ ep5]
        dsimp only [List.getElem?_cons_succ, List.getElem?_cons_zero]
        rw [upd_same]
        dsimp only
        refine ⟨by omega, by omega, Nat.le_trans (show 1 * m.toNat ≤ 8 by omega) (by decide), fun p2 hp2 => ?_⟩
        have fl : (List.replicate m.toNat [V.non]).flatten = List.replicate m.toNat V.non := by
          induction m.toNat with
          | zero => rfl
          | succ m ih => rw [List.replicate_succ, List.flatten_cons, ih]; rfl
        rw [fl]
        have a2 := Same.upd (o := .lst (List.replicate m.toNat V.non)) hp2
        have a12 := a1.trans a2
        have g6 := gs.same a12
        have r6 : RAt _ lx rb s0.cs := r5.mono (fun b o _ e => a12 _ _ e) fun a xs h => a12 _ _ h
        have ep2 : upd (upd H5 p1 (.lst [V.non])) p2 (.lst (List.replicate m.toNat V.non)) p2 = some (.lst (List.replicate m.toNat V.non)) := upd_same
        generalize upd (upd H5 p1 (.lst [V.non])) p2 (.lst (List.replicate m.toNat V.non)) = G at *
        rw [r6.ex]
        dsimp only
        have hp5 : H5 p2 = none := same_none a1 hp2
        have no2 : ¬ own sd lh lc ra' p2 := fun ho => gs.st.osome ho hp5
        have hH2 : H p2 = none := by
          cases e : H p2 with
          | none => rfl
          | some o =>
            by_cases ho : own sd lh lc ra p2
            · refine absurd ?_ no2
              obtain ⟨more, rfl, _⟩ := gr'
              rcases ho with y | y | y | y
              · exact .inl y
              · exact .inr (.inl y)
              · exact .inr (.inr (.inl y))
              · exact .inr (.inr (.inr (List.mem_append_left _ y)))
            · rw [gs.fr _ _ e ho] at hp5; cases hp5
        have nx2 : p2 ∉ lx :: rb := fun m => by
          rcases List.mem_cons.mp m with y | y
          · rw [y, r5.ex] at hp5; cases hp5
          · obtain ⟨j, hj⟩ := List.mem_iff_getElem?.mp y
            obtain ⟨ws, ew, _⟩ := r5.rw j p2 hj
            rw [ew] at hp5; cases hp5
        refine ⟨Nat.lt_of_le_of_lt (show _ ≤ 90 by rw [List.length_map, r5.rl]; exact hcl) (by decide), hR _ _ ⟨rb ++ [p2], sepG g6 r6.ex (sep5 lx List.mem_cons_self), r6.add ep2 nx2, fun b hb => ?_, rfl⟩⟩
        rcases List.mem_cons.mp hb with y | y
        · rw [y]; exact sep5 lx List.mem_cons_self
        · rcases List.mem_append.mp y with y | y
          · exact sep5 b (List.mem_cons_of_mem _ y)
          · rw [List.mem_singleton] at y
            subst y
            refine ⟨hH2, no2, (fun z => by rw [z, gs.el] at hp5; cases hp5), fun z => ?_⟩
            obtain ⟨ws, e, _⟩ := gs.ds
            rw [z, e] at hp5; cases hp5
      · simp only [tNext, tDrop, tIfS, tTest, tOp, tCons, tNil, tC, cVar, tLst, eqv, cIx, Int.reduceNeg, Int.reducePow, Int.reduceAdd, cEqA, cRep, cAppend, cBM, atI_0, atI_2, List.length_cons, List.length_nil, List.getElem?_cons_zero, List.getElem?_cons_succ, V.int.injEq, V.bl.injEq, V.str.injEq, V.ref.injEq, V.ty.injEq, List.cons.injEq, Option.some.injEq, true_and, exists_eq_left', decide_eq_true_eq, Nat.reduceAdd, sz1, gs.ep, atI_0, Sm.vs0]
        rw [if_neg y]
        have em : midN s0 sm = s0.cs := by
          cases sm with
          | make a m => exact absurd rfl y
          | _ => rfl
        exact hR _ _ ⟨rb, gs, by rw [em]; exact r5, sep5, rfl⟩
    rintro _ H6 ⟨rb6, gs6, r6, sep6, rfl⟩
    refine seq_mid (fun σ' H' => H6 = H' ∧ σ' = [some (V.ref sd), some (V.ref ln), some (V.ref ld), some (V.ref p), some (V.ref l), some (V.ref lx), some (V.ref ls), none, none, none]) (fun R hR => ?_) ?_
    · simp only [tRet, tNext, tIfS, tTest, tOp, tCB, tCons, tNil, tC, cVar, eqv, cLen, Bool.not_eq_true', cNeA, cDGet, keyV, decide_eq_false_iff_not, List.getElem?_cons_zero, List.getElem?_cons_succ, V.int.injEq, V.bl.injEq, V.str.injEq, V.ref.injEq, V.ty.injEq, List.cons.injEq, Option.some.injEq, exists_eq_left', cNeT, gs6.st.ob, sKV_c, gs6.st.cl, r6.ex]
      rw [if_neg (fun z => z (by rw [List.length_map, List.length_map, gs6.st.rl, hcs, csN_len, r6.rl]))]
      exact hR _ _ ⟨rfl, rfl⟩
    rintro _ _ ⟨rfl, rfl⟩
    refine seq_mid (fun σ' H' => H6 = H' ∧ σ' = [some (V.ref sd), some (V.ref ln), some (V.ref ld), some (V.ref p), some (V.ref l), some (V.ref lx), some (V.ref ls), some (V.int (ts.idxOf sm.name)), none, none]) (fun R hR => ?_) ?_
    · simp only [tOp, tCons, tNil, tC, cVar, tAsg, gName, cIx, cBM, atI_1, List.getElem?_cons_zero, List.getElem?_cons_succ, List.set_cons_zero, List.set_cons_succ, cIndexS, gs6.ep, gs6.en, Sm.vs1]
      exact ⟨ts, rfl, fit.name, hR _ _ ⟨rfl, rfl⟩⟩
    rintro _ _ ⟨rfl, rfl⟩
    refine seq_mid (fun σ' H' => Same H6 H' ∧ σ' = [some (V.ref sd), some (V.ref ln), some (V.ref ld), some (V.ref p), some (V.ref l), some (V.ref lx), some (V.ref ls), some (V.int (ts.idxOf sm.name)), none, none]) (fun R hR => ?_) ?_
    · by_cases y : sm.word = Str.ofString "tell"
      · obtain ⟨a, rfl⟩ := Sm.is_tell y
        have ep6 := gs6.ep
        simp only [Sm.vs] at ep6
        obtain ⟨dv6, ed6, dd6⟩ := gs6.ds
        have dd6' : DVs H6 (([.dr 1, .dr 2] ++ loadD ts a 1) ++ [.rd 1]) dv6 := by rw [List.append_assoc]; exact dd6
        obtain ⟨a6, ea6, ha6⟩ := dd6'.last
        simp only [De.vs] at ha6
        simp only [tRet, tNext, tIfS, tTest, tOp, tUn, tOr, tCons, tNil, tC, cVar, tTup, eqv, cNeg, cIx, Int.reduceNeg, Int.reduceAdd, Bool.not_eq_true', upd_same, decide_true, cEqA, cNeA, cNeL, cDGet, keyV, atI_0, List.length_cons, List.length_nil, List.getElem?_cons_zero, List.getElem?_cons_succ, V.int.injEq, V.bl.injEq, V.str.injEq, V.ref.injEq, V.ty.injEq, List.cons.injEq, Option.some.injEq, true_and, exists_eq_left', ite_true, Nat.reduceAdd, sz2, cNeT, ep6, ed6, ea6, -cNeT]
        intro p1 hp1
        have a1 := Same.upd (o := .tup [V.str (Str.ofString "read"), V.int 1]) hp1
        have g7 := gs6.same a1
        have k1 := a1 _ _ ha6
        have k2 : upd H6 p1 (.tup [V.str (Str.ofString "read"), V.int 1]) p1 = some (.tup [V.str (Str.ofString "read"), V.int 1]) := upd_same
        generalize upd H6 p1 (.tup [V.str (Str.ofString "read"), V.int 1]) = G at *
        rw [k1]
        dsimp only
        refine ⟨rfl, ?_⟩
        rw [show allO (List.zipWith (deq G 2) [V.str (Str.ofString "read"), V.int 1] [V.str (Str.ofString "read"), V.int 1]) = some true by simp [deq, flatV, eqV, allO]]
        dsimp only
        rw [if_neg (fun z => Bool.noConfusion z), g7.st.ob]
        dsimp only
        rw [sKV_h]
        dsimp only
        obtain ⟨hv, eh, uh⟩ := g7.st.hd
        obtain ⟨v, hv1, av⟩ := uh.get (j := 1) (by rw [g7.st.h3]; decide)
        rw [stp.tl a rfl] at av
        have ia : ts.idxOf a < du.length := by rw [fr.dl, ← hn]; exact List.idxOf_lt_length_iff.mpr fit
        obtain ⟨w', hw, aw⟩ := g7.ud.get ia
        rw [eh]
        dsimp only
        rw [show atI hv 1 = some v from (atI_cast (j := 1)).trans hv1]
        dsimp only
        rw [g7.ed]
        dsimp only
        rw [show atI dv ((ts.idxOf (Sm.tell a).name : Nat) : Int) = some w' by rw [atI_cast]; exact hw]
        dsimp only
        refine ne_U av aw ⟨false, rfl, ?_⟩
        rw [if_neg Bool.false_ne_true]
        exact hR _ _ ⟨a1, rfl⟩
      · simp only [tRet, tNext, tIfS, tTest, tOp, tUn, tOr, tCons, tNil, tC, cVar, tTup, eqv, cNeg, cIx, Int.reduceNeg, Int.reduceAdd, Bool.not_eq_true', cEqA, cNeA, cNeL, cDGet, keyV, atI_0, List.length_cons, List.length_nil, List.getElem?_cons_zero, List.getElem?_cons_succ, V.int.injEq, V.bl.injEq, V.str.injEq, V.ref.injEq, V.ty.injEq, List.cons.injEq, Option.some.injEq, true_and, exists_eq_left', ite_true, decide_eq_true_eq, Nat.reduceAdd, sz2, cNeT, gs6.ep, atI_0, Sm.vs0]
        rw [if_neg y]
        exact hR _ _ ⟨Same.refl _, rfl⟩
    rintro _ H7 ⟨s7, rfl⟩
    have gs7 := gs6.same s7
    have r7 : RAt H7 lx rb6 (midN s0 sm) := r6.mono (fun b o _ e => s7 _ _ e) fun a xs h => s7 _ _ h
    refine seq_mid (fun σ' H' => ∃ v8, Gs H sd lh lc lf ln ld p l ls ra ra' s2 fk ts du (duN ts s0 du sm) dv vs sm H' ∧ RAt H' lx rb6 (csN ts s0 du sm) ∧ σ' = [some (V.ref sd), some (V.ref ln), some (V.ref ld), some (V.ref p), some (V.ref l), some (V.ref lx), some (V.ref ls), some (V.int (ts.idxOf sm.name)), v8, none]) (fun R hR => ?_) ?_
    · by_cases y : sm.word = Str.ofString "set"
      · obtain ⟨a, k, b, rfl⟩ := Sm.is_set y
        have ep7 := gs7.ep
        simp only [Sm.vs] at ep7
        obtain ⟨fa, fb, k0, j, hj, hk⟩ := fit
        have ia : ts.idxOf a < du.length := by rw [fr.dl, ← hn]; exact List.idxOf_lt_length_iff.mpr fa
        have ib : ts.idxOf b < du.length := by rw [fr.dl, ← hn]; exact List.idxOf_lt_length_iff.mpr fb
        obtain ⟨v, hv, av⟩ := gs7.ud.get ia
        obtain ⟨w', hw, aw⟩ := gs7.ud.get ib
        rw [hj] at av
        obtain ⟨t, rfl, et⟩ := av
        have hjl := (ow.du _ j hj).2
        have hjr : j < rb6.length := by rw [r7.rl]; exact hjl
        obtain ⟨rs, er, ur⟩ := r7.rw j _ (List.getElem?_eq_getElem hjr)
        have aj : atI (rb6.map V.ref) (j : Int) = some (.ref rb6[j]) := by rw [atI_cast, List.getElem?_map, List.getElem?_eq_getElem hjr]; rfl
        have ava : atI dv ((ts.idxOf (Sm.set a k b).name : Nat) : Int) = some (.ref t) := by rw [atI_cast]; exact hv
        have ixk : ixN rs.length k = some k.toNat := ixN_in k0 (by rw [ur.len]; show k < (((midN s0 (.set a k b)).getD j []).length : Int); show k < ((s0.cs.getD j []).length : Int); omega)
        simp only [tNext, tSeq, tIfS, tTest, tOp, tCons, tNil, tC, cVar, tAsg, gName, eqv, cIx, decide_true, cEqA, cSetL, cBM, gSub, atI_0, atI_1, atI_2, atI_3, List.getElem?_cons_zero, List.getElem?_cons_succ, List.set_cons_zero, List.set_cons_succ, V.int.injEq, V.bl.injEq, V.str.injEq, V.ref.injEq, V.ty.injEq, List.cons.injEq, Option.some.injEq, exists_eq_left', ite_true, cIndexS, ep7, gs7.en, gs7.ed, ava, et, r7.ex, aj, er, ixk]
        refine ⟨ts, rfl, fb, ?_⟩
        rw [atI_cast, hw]
        have ec : csN ts s0 du (.set a k b) = s0.cs.set j ((s0.cs.getD j []).set k.toNat (du.getD (ts.idxOf b) .n)) := by unfold csN; dsimp only; rw [hj]
        refine hR _ _ ⟨_, sepG gs7 er (sep6 _ (List.mem_cons_of_mem _ (List.getElem_mem hjr))), ?_, rfl⟩
        rw [ec]
        exact r7.row (List.getElem?_eq_getElem hjr) er ur aw
      · simp only [tNext, tSeq, tIfS, tTest, tOp, tCons, tNil, tC, cVar, tAsg, gName, eqv, cIx, cEqA, cSetL, cBM, gSub, atI_0, atI_2, atI_3, List.getElem?_cons_zero, List.getElem?_cons_succ, List.set_cons_zero, List.set_cons_succ, V.int.injEq, V.bl.injEq, V.str.injEq, V.ref.injEq, V.ty.injEq, List.cons.injEq, Option.some.injEq, exists_eq_left', decide_eq_true_eq, cIndexS, gs7.ep, atI_0, Sm.vs0]
        rw [if_neg y]
        have em : csN ts s0 du sm = midN s0 sm := by
          cases sm with
          | set a k b => exact absurd rfl y
          | _ => rfl
        exact hR _ _ ⟨none, gs7, by rw [em]; exact r7, rfl⟩
    rintro _ H8 ⟨v8, gs8, r8, rfl⟩
    refine seq_mid (fun σ' H' => H8 = H' ∧ ∃ v9, σ' = [some (V.ref sd), some (V.ref ln), some (V.ref ld), some (V.ref p), some (V.ref l), some (V.ref lx), some (V.ref ls), some (V.int (ts.idxOf sm.name)), v8, v9]) (fun R hR => ?_) ?_
    · simp only [tCB, tCons, tNil, cVar, cLen, Int.reduceNeg, Int.reducePow, tFor_eq, iRng1, List.getElem?_cons_zero, List.getElem?_cons_succ, V.int.injEq, V.bl.injEq, V.str.injEq, V.ref.injEq, V.ty.injEq, List.cons.injEq, Option.some.injEq, and_true, exists_eq_left', r8.ex]
      have hrb : rb6.length ≤ 91 := by have := r8.rl; have := midN_len (s := s0) (sm := sm); rw [r8.rl, csN_len]; omega
      refine ⟨by rw [List.length_map]; omega, by rw [List.length_map]; omega, ?_⟩
      refine LoopW.range (fun _ σ' H' => H8 = H' ∧ ∃ v9, σ' = [some (V.ref sd), some (V.ref ln), some (V.ref ld), some (V.ref p), some (V.ref l), some (V.ref lx), some (V.ref ls), some (V.int (ts.idxOf sm.name)), v8, v9]) ⟨rfl, _, rfl⟩ ?_ ?_
      · rintro i σ' _ hi ⟨rfl, v9, rfl⟩
        have hi' : i < rb6.length := by rw [List.length_map, Int.toNat_natCast] at hi; exact hi
        have hra : i < ra'.length := by rw [gs8.st.rl, hcs, ← r8.rl]; exact hi'
        have a1 : atI (ra'.map V.ref) (i : Int) = some (.ref ra'[i]) := by rw [atI_cast, List.getElem?_map, List.getElem?_eq_getElem hra]; rfl
        have a2 : atI (rb6.map V.ref) (i : Int) = some (.ref rb6[i]) := by rw [atI_cast, List.getElem?_map, List.getElem?_eq_getElem hi']; rfl
        rw [show (0 + (i : Int)) = (i : Int) by omega]
        simp only [tRet, tNext, tIfS, tTest, tOp, tAnd, tC, cVar, gName, eqv, cIx, Bool.not_eq_true', cNeA, cNeL, cDGet, keyV, decide_eq_false_iff_not, cNotInD, List.getElem?_cons_zero, List.getElem?_cons_succ, List.set_cons_zero, List.set_cons_succ, V.int.injEq, V.bl.injEq, V.str.injEq, V.ref.injEq, V.ty.injEq, List.cons.injEq, Option.some.injEq, and_true, true_and, exists_eq_left', ite_true, ite_false, Bool.false_eq_true, cNeT, gs8.st.ob, sKV_f, sKV_c, gs8.st.fr, gs8.st.cl, r8.ex, a1, a2, valV_fk, -cNeT]
        have hm : ((i : Int) ∈ fk) ↔ i < F := by
          rw [hfk, List.mem_map]
          exact ⟨fun ⟨k, h1, h2⟩ => by rw [List.mem_range] at h1; omega, fun h => ⟨i, List.mem_range.mpr h, rfl⟩⟩
        by_cases y : i < F
        · rw [if_neg (by simp [hm, y])]
          exact ⟨_, rfl⟩
        · rw [if_pos (by simp [hm, y])]
          obtain ⟨vs1, e1, u1⟩ := gs8.st.rw i _ (List.getElem?_eq_getElem hra)
          obtain ⟨vs2, e2, u2⟩ := r8.rw i _ (List.getElem?_eq_getElem hi')
          rw [stp.cs i (by omega)] at u1
          rw [e1, e2]
          dsimp only
          rw [if_pos (by rw [u1.len, u2.len]), deq_Us 1 u1 u2]
          exact ⟨_, rfl⟩
      · rintro σ' _ ⟨rfl, v9, rfl⟩
        exact hR _ _ ⟨rfl, _, rfl⟩
    rintro _ _ ⟨rfl, v9, rfl⟩
    simp only [tRet, cVar, List.getElem?_cons_zero, List.getElem?_cons_succ]
    exact q l _ ra' s2 vs stp gs8.st hl gs8.el gs8.ul nl' gs8.fr gr'
theorem moreD_ok : ∀ {k : Nat}, ∀ d ∈ moreD k, d.ok
  | 0, d, h => by cases h
  | k + 1, d, h => by
    rcases List.mem_append.mp (show d ∈ moreD k ++ [.sh 1 0, .mk 0 8, .pt 0 7 1, .dr 1] from h) with m | m
    · exact moreD_ok d m
    · simp only [List.mem_cons, List.not_mem_nil, or_false] at m
      rcases m with rfl | rfl | rfl | rfl
      · exact ⟨by omega, by omega, by omega, by omega⟩
      · exact ⟨by omega, by omega, by omega, by omega⟩
      · exact ⟨by omega, by omega, by omega, by omega, by omega⟩
      · exact ⟨by omega, by omega⟩
theorem moreD_len : ∀ {k : Nat}, (moreD k).length = 4 * k
  | 0 => rfl
  | k + 1 => by show (moreD k ++ _).length = _; rw [List.length_append, moreD_len]; show 4 * k + 4 = _; omega
theorem begunD_ok {n : Nat} : ∀ d ∈ begunD n, d.ok := fun d h => by
  unfold begunD at h
  split at h
  · cases h
  · rcases List.mem_cons.mp h with rfl | m
    · exact ⟨by omega, by omega, by omega, by omega⟩
    · exact moreD_ok d m
theorem begunD_len {n : Nat} (h : n ≤ 50) : (begunD n).length ≤ 100 := by
  unfold begunD
  split
  · exact Nat.zero_le _
  · rw [List.length_cons, moreD_len]; omega
/-- all that stands in the law -/
structure Lw (H0 : Hp) (sd lh lc lf l0 ln ld : Addr) (ra : List Addr) (s : Hc) (ts : List Str) (n F : Nat) (du : List U) (dv : List V) (H : Hp) : Prop where
  st : SAt H sd lh lc lf ra s ((List.range F).map fun k : Nat => (k : Int))
  fr : Fr n F s du
  ow : Ow F s du
  e0 : H l0 = some (.lst (ts.map V.str))
  en : H ln = some (.lst (ts.map V.str))
  ed : H ld = some (.lst dv)
  ud : UVs H du dv
  n0 : ¬ own sd lh lc ra l0
  nn : ¬ own sd lh lc ra ln
  nd : ¬ own sd lh lc ra ld
  sm : Same H0 H
  on : ∀ b, own sd lh lc ra b → H0 b = none
section
variable {H0 H H' : Hp} {sd lh lc lf l0 ln ld : Addr} {ra : List Addr} {s : Hc} {ts : List Str} {n F : Nat} {du : List U} {dv : List V}
theorem own_lh {lh' : Addr} {b : Addr} (hlh : lh' = lh ∨ H lh' = none) (nb : ¬ own sd lh lc ra b) {o : HO} (eb : H b = some o) : ¬ own sd lh' lc ra b := fun ho => by
  rcases ho with y | y | y | y
  · exact nb (.inl y)
  · rcases hlh with e | e
    · exact nb (.inr (.inl (y.trans e)))
    · rw [y, e] at eb; cases eb
  · exact nb (.inr (.inr (.inl y)))
  · exact nb (.inr (.inr (.inr y)))
theorem own_gr {ra' : List Addr} {b : Addr} (g : Grow H ra ra') (nb : ¬ own sd lh lc ra b) {o : HO} (eb : H b = some o) : ¬ own sd lh lc ra' b := fun ho => by
  obtain ⟨more, rfl, hm⟩ := g
  rcases ho with y | y | y | y
  · exact nb (.inl y)
  · exact nb (.inr (.inl y))
  · exact nb (.inr (.inr (.inl y)))
  · rcases List.mem_append.mp y with y | y
    · exact nb (.inr (.inr (.inr y)))
    · rw [hm _ y] at eb; cases eb
theorem Lw.stands (g : Lw H0 sd lh lc lf l0 ln ld ra s ts n F du dv H) {lh' : Addr} (st : SAt H' sd lh' lc lf ra s ((List.range F).map fun k : Nat => (k : Int))) (hlh : lh' = lh ∨ H lh' = none) (f : ∀ b o, H b = some o → ¬ own sd lh lc ra b → H' b = some o) : Lw H0 sd lh' lc lf l0 ln ld ra s ts n F du dv H' where
  st := st
  fr := g.fr
  ow := g.ow
  e0 := f _ _ g.e0 g.n0
  en := f _ _ g.en g.nn
  ed := f _ _ g.ed g.nd
  ud := g.ud.mono fun a xs h => f _ _ h (g.st.ntup h)
  n0 := own_lh hlh g.n0 g.e0
  nn := own_lh hlh g.nn g.en
  nd := own_lh hlh g.nd g.ed
  sm := fun b o eb => f _ _ (g.sm _ _ eb) fun ho => by rw [g.on b ho] at eb; cases eb
  on := fun b ho => by
    rcases ho with y | y | y | y
    · exact g.on b (.inl y)
    · rcases hlh with e | e
      · exact g.on b (.inr (.inl (y.trans e)))
      · rw [y]; exact same_none g.sm e
    · exact g.on b (.inr (.inr (.inl y)))
    · exact g.on b (.inr (.inr (.inr y)))
theorem Lw.step (g : Lw H0 sd lh lc lf l0 ln ld ra s ts n F du dv H) {l : Addr} {ra' : List Addr} {s2 : Hc} {vs : List V} {sm : Sm} (fit : sm.fit ts s du) (stp : Stp n F ts s du sm s2) (st : SAt H' sd lh lc lf ra' s2 ((List.range F).map fun k : Nat => (k : Int))) (el : H' l = some (.lst vs)) (ul : UVs H' (duN ts s du sm) vs) (nl : ¬ own sd lh lc ra' l) (f : ∀ b o, H b = some o → ¬ own sd lh lc ra b → H' b = some o) (gr : Grow H ra ra') : Lw H0 sd lh lc lf l0 ln l ra' s2 ts n F (duN ts s du sm) vs H' where
  st := st
  fr := stp.fr
  ow := stp.ow g.fr g.ow fit
  e0 := f _ _ g.e0 g.n0
  en := f _ _ g.en g.nn
  ed := el
  ud := ul
  n0 := own_gr gr g.n0 g.e0
  nn := own_gr gr g.nn g.en
  nd := nl
  sm := fun b o eb => f _ _ (g.sm _ _ eb) fun ho => by rw [g.on b ho] at eb; cases eb
  on := fun b ho => by
    obtain ⟨more, rfl, hm⟩ := gr
    rcases ho with y | y | y | y
    · exact g.on b (.inl y)
    · exact g.on b (.inr (.inl y))
    · exact g.on b (.inr (.inr (.inl y)))
    · rcases List.mem_append.mp y with y | y
      · exact g.on b (.inr (.inr (.inr y)))
      · exact same_none g.sm (hm _ y)
theorem Lw.same (g : Lw H0 sd lh lc lf l0 ln ld ra s ts n F du dv H) (k : Same H H') : Lw H0 sd lh lc lf l0 ln ld ra s ts n F du dv H' :=
  g.stands (g.st.same k) (.inl rfl) fun b o eb _ => k _ _ eb
end
theorem merge_s {lh lc lf : Addr} : mergeK [] [((Sum.inr (Str.ofString "hands") : Key), V.ref lh), (Sum.inr (Str.ofString "cells"), V.ref lc), (Sum.inr (Str.ofString "frames"), V.ref lf)] = sKV lh lc lf := by
  have e1 : putK ([] : List (Key × V)) (Sum.inr (Str.ofString "hands")) (V.ref lh) = [(Sum.inr (Str.ofString "hands"), V.ref lh)] := putK_new _ valV_nil
  have e2 : putK [((Sum.inr (Str.ofString "hands") : Key), V.ref lh)] (Sum.inr (Str.ofString "cells")) (V.ref lc) = [(Sum.inr (Str.ofString "hands"), V.ref lh), (Sum.inr (Str.ofString "cells"), V.ref lc)] := putK_new _ (by rw [valV_neg n_hc]; exact valV_nil)
  have e3 : putK [((Sum.inr (Str.ofString "hands") : Key), V.ref lh), (Sum.inr (Str.ofString "cells"), V.ref lc)] (Sum.inr (Str.ofString "frames")) (V.ref lf) = sKV lh lc lf := putK_new _ (by rw [valV_neg n_hf, valV_neg n_cf]; exact valV_nil)
  simp only [mergeK, e1, e2, e3, List.foldl_cons, List.foldl_nil]
theorem SAt.frame {H : Hp} {sd lh lc lf : Addr} {ra : List Addr} {s : Hc} {fk fk' : List Int} (st : SAt H sd lh lc lf ra s fk) : SAt (upd H lf (.dK (fk'.map fun k => (Sum.inl k, V.bl true)))) sd lh lc lf ra s fk' := by
  have nf : sd ≠ lf := fun z => by
    have h1 := st.fr; have h2 := st.ob; rw [z, h1] at h2
    injection h2 with h2
    injection h2 with h2
    cases fk with
    | nil => cases h2
    | cons k r => injection h2 with h2; injection h2 with h2; cases h2
  have nl : ∀ {b : Addr} {xs : List V}, H b = some (.lst xs) → b ≠ lf := fun {b xs} e z => by rw [z, st.fr] at e; cases e
  have tp : ∀ a xs, H a = some (.tup xs) → upd H lf (.dK (fk'.map fun k => (Sum.inl k, V.bl true))) a = some (.tup xs) := fun a xs e => by rw [upd_ne (fun z => by rw [z, st.fr] at e; cases e)]; exact e
  exact {
    ob := by rw [upd_ne nf]; exact st.ob
    hd := let ⟨vs, e, u⟩ := st.hd; ⟨vs, by rw [upd_ne (nl e)]; exact e, u.mono tp⟩
    cl := by rw [upd_ne (nl st.cl)]; exact st.cl
    rl := st.rl
    rw := fun j a hj => let ⟨vs, e, u⟩ := st.rw j a hj; ⟨vs, by rw [upd_ne (nl e)]; exact e, u.mono tp⟩
    fr := upd_same
    nd := st.nd
    h3 := st.h3 }
theorem cut_is {ns : List Int} {i j : Option Int} : ∃ is : List Int, cutV (ns.map V.int) i j = is.map V.int ∧ is.length ≤ ns.length := by
  unfold cutV
  refine ⟨_, by rw [← List.map_drop, ← List.map_take], ?_⟩
  rw [List.length_take, List.length_drop]; omega
theorem deq_strs {H : Hp} (xs : List Str) : allO (List.zipWith (deq H 2) (xs.map V.str) (xs.map V.str)) = some true := by
  induction xs with
  | nil => rfl
  | cons x r ih =>
    rw [List.map_cons, List.zipWith_cons_cons, show deq H 2 (V.str x) (V.str x) = some true by simp [deq, flatV, eqV]]
    show (allO _).map _ = _
    rw [ih]; rfl
theorem Lw.hand {H0 H : Hp} {sd lh lc lf l0 ln ld : Addr} {ra : List Addr} {s : Hc} {ts : List Str} {n F : Nat} {du : List U} {dv : List V} (g : Lw H0 sd lh lc lf l0 ln ld ra s ts n F du dv H) {hv : List V} (eh : H lh = some (.lst hv)) (uh : UVs H s.hs hv) {u : U} {v : V} (au : u.at H v) : Lw H0 sd lh lc lf l0 ln ld ra ⟨s.hs.set 1 u, s.cs⟩ ts n F du dv (upd H lh (.lst (hv.set 1 v))) where
  st := g.st.hand eh uh au
  fr := g.fr.mono (by rw [List.length_set]; exact g.st.h3) (getD_set_other (by decide)) g.fr.cl fun _ _ => rfl
  ow := ⟨g.ow.du, g.ow.cs⟩
  e0 := by rw [upd_ne (fun z => g.n0 (.inr (.inl z)))]; exact g.e0
  en := by rw [upd_ne (fun z => g.nn (.inr (.inl z)))]; exact g.en
  ed := by rw [upd_ne (fun z => g.nd (.inr (.inl z)))]; exact g.ed
  ud := g.ud.mono (tup_upd eh)
  n0 := g.n0
  nn := g.nn
  nd := g.nd
  sm := g.sm.put (g.on lh (.inr (.inl rfl)))
  on := g.on
def sp_law (K : PySem.W.Frag) : Sp := fun vs H Q _ => ∃ (a : Addr) (ns : List Int), vs = [.ref a] ∧ SqL K H a (ns.map V.int) ∧ ns.length ≤ 63 ∧ ∀ H', Q (.bl true) H'
theorem sc_law : FnScope ["_law_script", "_law_names_here", "_law_handed", "_law_s", "_law_k", "_law_due_here", "_law_cell", "_law_seed", "_law_one", "_law_place", "_law_own"] ["_law_script"] (defScope s_law) := ⟨rfl, rfl, rfl, by decide +kernel, rfl, by decide +kernel, by decide +kernel⟩
theorem ok_law (T : Txt K mg A) : FnOk P w K mg base (CXE P w) true 7 A.f_law A.d_law ["_law_script"] (sp_law K) := by
  refine T.fn_law.okE sc_law (fun vs H Q E h => ?_) (fun cdv A' outer s H vs Q E hr hx h => ?_)
  · obtain ⟨a, ns, rfl, hS, hL, h⟩ := h
    rfl
  · obtain ⟨a, ns, rfl, hS, hL, h⟩ := h
    refine ⟨_, JSs.run (j_pss_cons (j_ps_set (i := 1) sc_law.nd rfl (by first | exact Or.inl rfl | exact Or.inr rfl) (j_pe_callF ((ok__law_names T).mono (by decide)) hr rfl T.g__law_names T.fn__law_names.kp T.b__law_names hx (j_pa_c (j_cv 0) j_pa_nil)))
      (j_pss_cons (j_ps_set (i := 2) sc_law.nd rfl (by first | exact Or.inl rfl | exact Or.inr rfl) (j_pe_callTyF j_c_list (by rfl) T.n_list PyProof.Rows.Boot.«list» (j_pa_c (j_cv 1) j_pa_nil)))
      (j_pss_cons (j_ps_set (i := 3) sc_law.nd rfl (by first | exact Or.inl rfl | exact Or.inr rfl) (j_pe_disp (j_pps_cons j_pe_str (j_pe_lst (j_pa_c j_pe_non (j_pa_c j_pe_non (j_pa_c j_pe_non j_pa_nil)))) (j_pps_cons j_pe_str (j_pe_lst j_pa_nil) (j_pps_cons j_pe_str j_pe_dnewK j_pps_nil)))))
      (j_pss_cons (j_ps_if (j_pt_not (j_pt_truth (j_pe_callF ((ok__law_all T).mono (by decide)) hr rfl T.g__law_all T.fn__law_all.kp T.b__law_all hx (j_pa_c (j_cv 3) (j_pa_c (j_pe_callF ((ok_begun T).mono (by decide)) hr rfl T.g_begun T.fn_begun.kp T.b_begun hx (j_pa_c (j_cv 2) j_pa_nil)) j_pa_nil))) (fun _ => rfl))) (j_pss_one (j_ps_ret j_pe_bl)) j_pss_nil)
      (j_pss_cons (j_ps_if (j_pt_cmpR (j_c_neT (hu8 hr)) (j_pe_slice j_c_sl (j_c_dget (by exact hu_of hr) (j_cv 3) j_pe_str (fun _ _ => rfl)) (j_c_part j_pe_int) j_po_none) (j_pe_lst (j_pa_c j_pe_non (j_pa_c j_pe_non j_pa_nil))) (nomark _)) (j_pss_one (j_ps_ret j_pe_bl)) j_pss_nil)
      (j_pss_cons (j_ps_if (j_pt_cmpR (j_c_neT (hu8 hr)) (j_pe_callF ((ok_begun T).mono (by decide)) hr rfl T.g_begun T.fn_begun.kp T.b_begun hx (j_pa_c (j_pe_lst j_pa_nil) j_pa_nil)) (j_pe_lst j_pa_nil) (nomark _)) (j_pss_one (j_ps_ret j_pe_bl)) j_pss_nil)
      (j_pss_cons (j_ps_for hx.own rfl (j_pi_range1 rfl T.n_range (j_pa_c (j_pe_callBF j_c_len (by rfl) T.n_len PyProof.Rows.Boot.«len» (j_pa_c (j_c_dget (by exact hu_of hr) (j_cv 3) j_pe_str (fun _ _ => rfl)) j_pa_nil)) j_pa_nil)) (j_pg_name (i := 4) sc_law.nd rfl (by first | exact Or.inl rfl | exact Or.inr rfl))
        (j_pss_one (j_c_dput (hu_of hr) (j_c_dget (by exact hu_of hr) (j_cv 3) j_pe_str (fun _ _ => rfl)) (j_cv 4) j_pe_bl rfl)))
      (j_pss_cons (j_ps_set (i := 5) sc_law.nd rfl (by first | exact Or.inl rfl | exact Or.inr rfl) (j_pe_op j_c_rep (j_pe_lst (j_pa_c j_pe_non j_pa_nil)) (j_pe_callBF j_c_len (by rfl) T.n_len PyProof.Rows.Boot.«len» (j_pa_c (j_cv 1) j_pa_nil))))
      (j_pss_cons (j_ps_if (j_pt_not (j_pt_truth (j_pe_callF ((ok__law_stands T).mono (by decide)) hr rfl T.g__law_stands T.fn__law_stands.kp T.b__law_stands hx (j_pa_c (j_cv 3) (j_pa_c (j_cv 2) (j_pa_c (j_cv 5) j_pa_nil)))) (fun _ => rfl))) (j_pss_one (j_ps_ret j_pe_bl)) j_pss_nil)
      (j_pss_cons (j_ps_for hx.own rfl (j_pi_list (j_pe_slice j_c_slS (j_cv 0) (j_c_part j_pe_int) (j_c_part j_pe_int))) (j_pg_name (i := 6) sc_law.nd rfl (by first | exact Or.inl rfl | exact Or.inr rfl))
        (j_pss_cons (j_ps_set (i := 7) sc_law.nd rfl (by first | exact Or.inl rfl | exact Or.inr rfl) (j_pe_callF ((ok__law_next T).mono (by decide)) hr rfl T.g__law_next T.fn__law_next.kp T.b__law_next hx (j_pa_c (j_cv 6) j_pa_nil)))
      (j_pss_cons (j_ps_set (i := 8) sc_law.nd rfl (by first | exact Or.inl rfl | exact Or.inr rfl) (j_pe_callF ((ok__law_statement T).mono (by decide)) hr rfl T.g__law_statement T.fn__law_statement.kp T.b__law_statement hx (j_pa_c (j_cv 3) (j_pa_c (j_cv 1) (j_pa_c (j_cv 5) (j_pa_c (j_cv 7) j_pa_nil))))))
      (j_pss_cons (j_ps_set (i := 5) sc_law.nd rfl (by first | exact Or.inl rfl | exact Or.inr rfl) (j_pe_callF ((ok__law_stepped T).mono (by decide)) hr rfl T.g__law_stepped T.fn__law_stepped.kp T.b__law_stepped hx (j_pa_c (j_cv 3) (j_pa_c (j_cv 2) (j_pa_c (j_cv 5) (j_pa_c (j_cv 8) j_pa_nil))))))
      (j_pss_cons (j_ps_if (j_PW_pt (j_pw_or (j_pt_cmpR j_c_is (j_cv 5) j_pe_non (nomark _)) (j_pw_or1 (j_pt_not (j_pt_truth (j_pe_callF ((ok__law_stands T).mono (by decide)) hr rfl T.g__law_stands T.fn__law_stands.kp T.b__law_stands hx (j_pa_c (j_cv 3) (j_pa_c (j_cv 2) (j_pa_c (j_cv 5) j_pa_nil)))) (fun _ => rfl)))))) (j_pss_one (j_ps_ret j_pe_bl)) j_pss_nil)
      (j_pss_one (j_ps_if (j_pt_cmpR (j_c_neT (hu8 hr)) (j_cv 2) (j_cv 1) (nomark _)) (j_pss_one (j_ps_ret j_pe_bl)) j_pss_nil)))))))
      (j_pss_cons (j_ps_set (i := 9) sc_law.nd rfl (by first | exact Or.inl rfl | exact Or.inr rfl) (j_pe_op j_c_mod (j_pe_callF ((ok__law_cell_at T).mono (by decide)) hr rfl T.g__law_cell_at T.fn__law_cell_at.kp T.b__law_cell_at hx (j_pa_c (j_cv 0) (j_pa_c j_pe_int j_pa_nil))) (j_pe_callBF j_c_len (by rfl) T.n_len PyProof.Rows.Boot.«len» (j_pa_c (j_cv 1) j_pa_nil))))
      (j_pss_cons (j_ps_asg (j_pe_op j_c_mod (j_pe_op j_c_fdiv (j_pe_callF ((ok__law_cell_at T).mono (by decide)) hr rfl T.g__law_cell_at T.fn__law_cell_at.kp T.b__law_cell_at hx (j_pa_c (j_cv 0) (j_pa_c j_pe_int j_pa_nil))) j_pe_int) j_pe_int) (j_pg_sub (j_c_dget (by exact hu_of hr) (j_cv 3) j_pe_str (fun _ _ => rfl)) j_pe_int j_c_set))
      (j_pss_cons (j_ps_setcomp (i := 10) (fsc := defScope s_law) (N2 := ["_law_s"]) (js := [3]) sc_law.nd rfl (by first | exact Or.inl rfl | exact Or.inr rfl) ⟨rfl, rfl, by decide +kernel, by decide +kernel, by decide +kernel, by decide +kernel, by decide +kernel, by decide +kernel, by decide +kernel⟩ rfl rfl (by rfl) (j_pi_range1 rfl T.n_range (j_pa_c (j_pe_callBF j_c_len (by rfl) T.n_len PyProof.Rows.Boot.«len» (j_pa_c (j_c_dget (by exact hu_of hr) (j_cv 3) j_pe_str (fun _ _ => rfl)) j_pa_nil)) j_pa_nil)) (fun _ _ _ _ => (j_pifs_one (j_pt_cmpR (j_c_notInD (hu_of hr)) (j_cv 0) (j_c_dget (by exact hu_of hr) (j_cv 1) j_pe_str (fun _ _ => rfl)) (by with_unfolding_all rfl)))) (fun _ _ _ _ => (j_cv 0)))
      (j_pss_cons (j_ps_if (j_PW_pt (j_pw_and (j_pt_cmpR (j_c_eqA (hu8 hr)) (j_pe_op j_c_mod (j_pe_op j_c_fdiv (j_pe_callF ((ok__law_cell_at T).mono (by decide)) hr rfl T.g__law_cell_at T.fn__law_cell_at.kp T.b__law_cell_at hx (j_pa_c (j_cv 0) (j_pa_c j_pe_int j_pa_nil))) j_pe_int) j_pe_int) j_pe_int (nomark _)) (j_pw_and1 (j_pt_cmpR (j_c_neT (hu8 hr)) (j_cv 10) (j_pe_lst j_pa_nil) (nomark _))))) (j_pss_one (j_ps_asg (j_pe_tup (j_pa_c j_pe_str (j_pa_c (j_pe_ix j_c_ix (j_cv 10) (j_pe_op j_c_mod (j_pe_op j_c_fdiv (j_pe_callF ((ok__law_cell_at T).mono (by decide)) hr rfl T.g__law_cell_at T.fn__law_cell_at.kp T.b__law_cell_at hx (j_pa_c (j_cv 0) (j_pa_c j_pe_int j_pa_nil))) j_pe_int) (j_pe_callBF j_c_len (by rfl) T.n_len PyProof.Rows.Boot.«len» (j_pa_c (j_cv 10) j_pa_nil))) (fun _ _ => rfl)) j_pa_nil))) (j_pg_sub (j_c_dget (by exact hu_of hr) (j_cv 3) j_pe_str (fun _ _ => rfl)) j_pe_int j_c_set))) j_pss_nil)
      (j_pss_cons (j_ps_asg (j_pe_ix j_c_ix (j_c_dget (by exact hu_of hr) (j_cv 3) j_pe_str (fun _ _ => rfl)) j_pe_int (fun _ _ => rfl)) (j_pg_sub (j_cv 5) (j_cv 9) j_c_set))
      (j_pss_cons (j_ps_if (j_PW_pt (j_pw_or (j_pt_not (j_pt_truth (j_pe_callF ((ok__law_all T).mono (by decide)) hr rfl T.g__law_all T.fn__law_all.kp T.b__law_all hx (j_pa_c (j_cv 3) (j_pa_c (j_pe_callF ((ok_stored T).mono (by decide)) hr rfl T.g_stored T.fn_stored.kp T.b_stored hx (j_pa_c (j_cv 2) (j_pa_c (j_pe_ix j_c_ix (j_cv 1) (j_cv 9) (fun _ _ => rfl)) j_pa_nil))) j_pa_nil))) (fun _ => rfl))) (j_pw_or1 (j_pt_cmpR (j_c_neT (hu8 hr)) (j_pe_ix j_c_ix (j_c_dget (by exact hu_of hr) (j_cv 3) j_pe_str (fun _ _ => rfl)) j_pe_int (fun _ _ => rfl)) (j_pe_ix j_c_ix (j_cv 5) (j_cv 9) (fun _ _ => rfl)) (nomark _))))) (j_pss_one (j_ps_ret j_pe_bl)) j_pss_nil)
      (j_pss_one (j_ps_ret (j_pe_and (j_pe_callF ((ok__law_stands T).mono (by decide)) hr rfl T.g__law_stands T.fn__law_stands.kp T.b__law_stands hx (j_pa_c (j_cv 3) (j_pa_c (j_cv 2) (j_pa_c (j_cv 5) j_pa_nil)))) (j_pe_one (j_pe_cmpR (j_c_eqA (hu8 hr)) (j_cv 2) (j_cv 1) (nomark _)))))))))))))))))))))), ?_⟩
    show tSeq _ _ _ [some (V.ref a), none, none, none, none, none, none, none, none, none, none] H
    refine seq_mid (fun σ' H' => ∃ l0, ∃ ts : List Str, Same H H' ∧ H l0 = none ∧ H' l0 = some (.lst (ts.map V.str)) ∧ ts.Nodup ∧ 1 ≤ ts.length ∧ ts.length ≤ 42 ∧ σ' = [some (V.ref a), some (V.ref l0), none, none, none, none, none, none, none, none, none]) (fun R hR => ?_) ?_
    · simp only [tCons, tNil, cVar, tAsg, gName, tCallE, List.getElem?_cons_zero, List.set_cons_zero, List.set_cons_succ, V.int.injEq, V.bl.injEq, V.str.injEq, V.ref.injEq, V.ty.injEq, List.cons.injEq, Option.some.injEq, and_true, exists_eq_left', exists_and_left, sp__law_names]
      exact ⟨ns, hS, fun l0 H' ts s1 h0 e0 nd n1 n42 => hR _ _ ⟨l0, ts, s1, h0, e0, nd, n1, n42, rfl⟩⟩
    rintro _ H1 ⟨l0, ts, s1, h0, e0, nd, n1, n42, rfl⟩
    refine seq_mid (fun σ' H' => ∃ ln, Same H1 H' ∧ H1 ln = none ∧ H' ln = some (.lst (ts.map V.str)) ∧ σ' = [some (V.ref a), some (V.ref l0), some (V.ref ln), none, none, none, none, none, none, none, none]) (fun R hR => ?_) ?_
    · simp only [tCB, tCons, tNil, cVar, tAsg, gName, cList, List.getElem?_cons_zero, List.getElem?_cons_succ, List.set_cons_zero, List.set_cons_succ, e0]
      exact fun ln hln => hR _ _ ⟨ln, Same.upd hln, hln, upd_same, rfl⟩
    rintro _ H2 ⟨ln, s2, hln, en, rfl⟩
    refine seq_mid (fun σ' H' => ∃ sd lh lc lf, Same H2 H' ∧ SAt H' sd lh lc lf [] ⟨[.n, .n, .n], []⟩ [] ∧ (∀ b, own sd lh lc [] b → H2 b = none) ∧ H2 lf = none ∧ σ' = [some (V.ref a), some (V.ref l0), some (V.ref ln), some (V.ref sd), none, none, none, none, none, none, none]) (fun R hR => ?_) ?_
    · simp only [tCons, tNil, tC, tLst, tAsg, gName, tDNewK, Int.reduceAdd, List.length_cons, List.length_nil, List.set_cons_zero, List.set_cons_succ, true_and, Nat.reduceAdd, sz0, sz3, tDisp, tPairs]
      intro p hp p1 hp1 p2 hp2 p3 hp3
      have a0 := Same.upd (o := .dK []) hp
      have a1 := Same.upd (o := .lst [V.non, V.non, V.non]) hp1
      have a2 := Same.upd (o := .lst []) hp2
      have a3 := Same.upd (o := .dK []) hp3
      have g0 := (a1.trans (a2.trans a3)) _ _ upd_same
      have g1 := (a2.trans a3) _ _ upd_same
      have g2 := a3 _ _ upd_same
      have g3 : upd (upd (upd (upd H2 p (HO.dK [])) p1 (HO.lst [V.non, V.non, V.non])) p2 (HO.lst [])) p3 (HO.dK []) p3 = some (.dK []) := upd_same
      have np3 : p3 ≠ p := fun z => by rw [z, (a1.trans a2) _ _ upd_same] at hp3; cases hp3
      have sAll := a0.trans (a1.trans (a2.trans a3))
      have m1 := same_none a0 hp1
      have m2 := same_none (a0.trans a1) hp2
      have m3 := same_none (a0.trans (a1.trans a2)) hp3
      generalize upd (upd (upd (upd H2 p (HO.dK [])) p1 (HO.lst [V.non, V.non, V.non])) p2 (HO.lst [])) p3 (HO.dK []) = G at *
      refine ⟨g0, [(Sum.inr (Str.ofString "hands"), V.ref p1), (Sum.inr (Str.ofString "cells"), V.ref p2), (Sum.inr (Str.ofString "frames"), V.ref p3)], rfl, (show 3 ≤ 15 by decide), hR _ _ ⟨p, p1, p2, p3, sAll.put hp, ?_, ?_, m3, rfl⟩⟩
      · rw [merge_s]
        have k1 : p1 ≠ p := fun z => by rw [z, g0] at g1; cases g1
        have k2 : p2 ≠ p := fun z => by rw [z, g0] at g2; cases g2
        have k12 : p1 ≠ p2 := fun z => by rw [z, g2] at g1; cases g1
        exact {
          ob := upd_same
          hd := ⟨[V.non, V.non, V.non], by rw [upd_ne k1]; exact g1, ⟨rfl, rfl, rfl, True.intro⟩⟩
          cl := by rw [upd_ne k2]; exact g2
          rl := rfl
          rw := fun j a hj => by simp at hj
          fr := by rw [upd_ne np3]; exact g3
          nd := by simp [k12]
          h3 := rfl }
      · rintro b (y | y | y | y)
        · rw [y]; exact hp
        · rw [y]; exact m1
        · rw [y]; exact m2
        · cases y
    rintro _ H3 ⟨sd, lh, lc, lf, s3, st3, on3, nf3, rfl⟩
    have sA := s1.trans (s2.trans s3)
    obtain ⟨F, hF⟩ : ∃ F, F = (ts.length - 1) / 7 + 1 := ⟨_, rfl⟩
    have oH : ∀ b, own sd lh lc [] b → H b = none := fun b ho => same_none (s1.trans s2) (on3 b ho)
    have on' : ∀ {b o}, H2 b = some o → ¬ own sd lh lc [] b := fun {b o} eb ho => by rw [on3 b ho] at eb; cases eb
    refine seq_mid (fun σ' H' => ∃ ra, SAt H' sd lh lc lf ra ⟨[.c ((ts.length - 1) / 7), .n, .n], frs F⟩ [] ∧ (∀ b o, H2 b = some o → H' b = some o) ∧ (∀ b, own sd lh lc ra b → H2 b = none) ∧ σ' = [some (V.ref a), some (V.ref l0), some (V.ref ln), some (V.ref sd), none, none, none, none, none, none, none]) (fun R hR => ?_) ?_
    · simp only [tRet, tNext, tIfS, tNot, tCons, tNil, tC, cVar, tCallE, TruV, and_assoc, Bool.not_eq_true', Bool.true_eq_false, List.getElem?_cons_zero, List.getElem?_cons_succ, V.int.injEq, V.bl.injEq, V.str.injEq, V.ref.injEq, V.ty.injEq, List.cons.injEq, Option.some.injEq, and_true, exists_eq_left', exists_and_left, exists_eq_left, ite_false, sp_begun, sp__law_all]
      refine ⟨ts, s3 _ _ en, by omega, fun l H4 s4 hl d4 => ?_⟩
      have hl2 : ¬ own sd lh lc [] l := fun ho => st3.osome ho hl
      refine ⟨lh, lc, lf, [], _, [], st3.same s4, _, d4, hl2, begunD_ok, _, begun_ex n1, by have := begunD_len (n := ts.length) (by omega); show 0 + _ ≤ 500; omega, fun H5 ra st5 f5 g5 => ?_⟩
      refine hR _ _ ⟨ra, by rw [hF]; exact st5, fun b o eb => f5 _ _ (s4 _ _ (s3 _ _ eb)) (on' eb), fun b ho => ?_, rfl⟩
      obtain ⟨more, e, hm⟩ := g5
      rw [List.nil_append] at e
      subst e
      rcases ho with y | y | y | y
      · exact on3 b (.inl y)
      · exact on3 b (.inr (.inl y))
      · exact on3 b (.inr (.inr (.inl y)))
      · exact same_none (s3.trans s4) (hm b y)
    rintro _ H4 ⟨ra, st4, f4, on4, rfl⟩
    refine seq_mid (fun σ' H' => Same H4 H' ∧ σ' = [some (V.ref a), some (V.ref l0), some (V.ref ln), some (V.ref sd), none, none, none, none, none, none, none]) (fun R hR => ?_) ?_
    · obtain ⟨hv, eh, uh⟩ := st4.hd
      match hv, uh with
      | [x0, x1, x2], ⟨_, e1, e2, _⟩ =>
        cases e1
        cases e2
        simp only [tRet, tNext, tIfS, tTest, tOp, tCons, tNil, tC, cVar, tLst, eqv, Int.reduceAdd, Bool.not_eq_true', upd_same, cNeA, cNeL, cSl, cPart, tNoPart, tSl, cDGet, keyV, List.length_cons, List.length_nil, List.getElem?_cons_zero, List.getElem?_cons_succ, V.int.injEq, V.bl.injEq, V.str.injEq, V.ref.injEq, V.ty.injEq, List.cons.injEq, Option.some.injEq, true_and, exists_eq_left', ite_true, Nat.reduceAdd, sz2, cNeT, st4.ob, sKV_h, eh]
        rw [show cutV [x0, V.non, V.non] (some 1) none = [V.non, V.non] from rfl]
        intro p hp p1 hp1
        have a1 := Same.upd (o := .lst [V.non, V.non]) hp
        have a2 := Same.upd (o := .lst [V.non, V.non]) hp1
        rw [a2 _ _ upd_same]
        exact hR _ _ ⟨a1.trans a2, rfl⟩
    rintro _ H5 ⟨s5, rfl⟩
    refine seq_mid (fun σ' H' => Same H5 H' ∧ σ' = [some (V.ref a), some (V.ref l0), some (V.ref ln), some (V.ref sd), none, none, none, none, none, none, none]) (fun R hR => ?_) ?_
    · simp only [tRet, tNext, tIfS, tTest, tOp, tCons, tNil, tC, tLst, tCallE, eqv, Bool.not_eq_true', upd_same, cNeA, cNeL, List.length_nil, V.int.injEq, V.bl.injEq, V.str.injEq, V.ref.injEq, V.ty.injEq, List.cons.injEq, Option.some.injEq, and_true, true_and, exists_eq_left', exists_and_left, ite_true, sz0, cNeT, sp_begun]
      intro p hp
      refine ⟨[], rfl, by decide, fun l H' s' hl d p2 hp2 => ?_⟩
      obtain ⟨vs, e, dv⟩ := d
      have hv : vs = [] := List.length_eq_zero_iff.mp dv.len
      subst hv
      have a1 := Same.upd (o := .lst []) hp
      have a2 := Same.upd (o := .lst []) hp2
      rw [a2 _ _ e]
      exact hR _ _ ⟨a1.trans (s'.trans a2), rfl⟩
    rintro _ H6 ⟨s6, rfl⟩
    have st6 := (st4.same s5).same s6
    have hFl : F = (frs F).length := frs_len.symm
    refine seq_mid (fun σ' H' => ∃ v4, SAt H' sd lh lc lf ra ⟨[.c ((ts.length - 1) / 7), .n, .n], frs F⟩ ((List.range F).map fun k : Nat => (k : Int)) ∧ (∀ b o, H2 b = some o → H' b = some o) ∧ σ' = [some (V.ref a), some (V.ref l0), some (V.ref ln), some (V.ref sd), v4, none, none, none, none, none, none]) (fun R hR => ?_) ?_
    · have hra : ra.length = F := by rw [st6.rl]; exact frs_len
      simp only [tCB, tCons, tNil, tC, cVar, cLen, Int.reduceNeg, Int.reducePow, tFor_eq, iRng1, cDGet, keyV, List.getElem?_cons_zero, List.getElem?_cons_succ, V.int.injEq, V.bl.injEq, V.str.injEq, V.ref.injEq, V.ty.injEq, List.cons.injEq, Option.some.injEq, and_true, exists_eq_left', st6.ob, sKV_c, st6.cl]
      rw [List.length_map, hra]
      refine ⟨by omega, by omega, LoopW.range (fun t σ' H' => ∃ v4, SAt H' sd lh lc lf ra ⟨[.c ((ts.length - 1) / 7), .n, .n], frs F⟩ ((List.range t).map fun k : Nat => (k : Int)) ∧ (∀ b o, H2 b = some o → H' b = some o) ∧ σ' = [some (V.ref a), some (V.ref l0), some (V.ref ln), some (V.ref sd), v4, none, none, none, none, none, none]) ⟨_, st6, fun b o eb => s6 _ _ (s5 _ _ (f4 _ _ eb)), rfl⟩ ?_ ?_⟩
      · rintro t σ' H7 ht ⟨v4, st7, f7, rfl⟩
        have hv : (valV (((List.range t).map fun k : Nat => (k : Int)).map fun k => ((Sum.inl k : Key), V.bl true)) (Sum.inl ((0 : Int) + t))) = none := by
          have := valV_fk (x := (0 : Int) + t) (fk := (List.range t).map fun k : Nat => (k : Int))
          rw [decide_eq_false (fun m => by obtain ⟨k, hk, e⟩ := List.mem_map.mp m; rw [List.mem_range] at hk; omega)] at this
          exact Option.isNone_iff_eq_none.mp (by rw [← Option.not_isSome, this]; rfl)
        have ep := putK_new (V.bl true) hv
        simp only [tC, cVar, gName, cDGet, cDPut, keyV, List.getElem?_cons_zero, List.getElem?_cons_succ, List.set_cons_zero, List.set_cons_succ, V.int.injEq, V.bl.injEq, V.str.injEq, V.ref.injEq, V.ty.injEq, List.cons.injEq, Option.some.injEq, and_true, true_and, exists_and_left, st7.ob, sKV_f, st7.fr, ep]
        have e2 : ((List.range t).map fun k : Nat => (k : Int)).map (fun k => ((Sum.inl k : Key), V.bl true)) ++ [((Sum.inl ((0 : Int) + t) : Key), V.bl true)] = ((List.range (t + 1)).map fun k : Nat => (k : Int)).map (fun k => ((Sum.inl k : Key), V.bl true)) := by
          rw [List.range_succ, List.map_append, List.map_append, show ((0 : Int) + t) = (t : Int) by omega]; rfl
        rw [e2]
        refine ⟨Nat.lt_of_le_of_lt (show _ ≤ 50 by rw [List.length_map, List.length_map, List.length_range]; omega) (by decide), st7.frame, fun b o eb => ?_, _, rfl⟩
        rw [upd_ne (fun z => by rw [z, nf3] at eb; cases eb)]
        exact f7 _ _ eb
      · rintro σ' H7 ⟨v4, st7, f7, rfl⟩
        exact hR _ _ ⟨v4, st7, f7, rfl⟩
    rintro _ H7 ⟨v4, st7, f7, rfl⟩
    refine seq_mid (fun σ' H' => ∃ ld, Lw H sd lh lc lf l0 ln ld ra ⟨[.c ((ts.length - 1) / 7), .n, .n], frs F⟩ ts ts.length F (List.replicate ts.length .n) (List.replicate ts.length .non) H' ∧ σ' = [some (V.ref a), some (V.ref l0), some (V.ref ln), some (V.ref sd), v4, some (V.ref ld), none, none, none, none, none]) (fun R hR => ?_) ?_
    · simp only [tOp, tCB, tCons, tNil, tC, cVar, tLst, tAsg, gName, cLen, Int.reduceNeg, Int.reducePow, Int.reduceAdd, upd_same, cRep, List.length_cons, List.length_nil, List.getElem?_cons_zero, List.getElem?_cons_succ, List.set_cons_zero, List.set_cons_succ, true_and, Nat.reduceAdd, sz1, f7 _ _ (s2 _ _ e0)]
      intro p hp
      have a1 := Same.upd (o := .lst [V.non]) hp
      rw [a1 _ _ (f7 _ _ (s2 _ _ e0))]
      dsimp only
      rw [List.length_map]
      refine ⟨by omega, by omega, Nat.le_trans (show _ ≤ 42 by omega) (by decide), fun ld hld => hR _ _ ⟨ld, ?_, rfl⟩⟩
      rw [Int.toNat_natCast]
      have fl : (List.replicate ts.length [V.non]).flatten = List.replicate ts.length V.non := by
        induction ts.length with
        | zero => rfl
        | succ m ih => rw [List.replicate_succ, List.flatten_cons, ih]; rfl
      rw [fl]
      have a2 := Same.upd (o := .lst (List.replicate ts.length V.non)) hld
      have a12 := a1.trans a2
      have rn : ∀ k, (List.replicate ts.length U.n).getD k .n = .n := fun k => by rw [List.getD_eq_getElem?_getD, List.getElem?_replicate]; split <;> rfl
      have n2 : ∀ {b o}, H2 b = some o → ¬ own sd lh lc ra b := fun {b o} eb ho => by rw [on4 b ho] at eb; cases eb
      exact {
        st := st7.same a12
        fr := by rw [hF]; exact Fr.begun n1
        ow := ⟨fun k j e => (by rw [rn] at e; cases e), fun c hc k j e => by
          rw [show (Hc.mk [.c ((ts.length - 1) / 7), .n, .n] (frs F)).cs.getD c [] = [] by
            show (frs F).getD c [] = []
            rw [List.getD_eq_getElem?_getD, List.getElem?_eq_none (by rw [frs_len]; exact hc)]; rfl] at e
          cases e⟩
        e0 := a12 _ _ (f7 _ _ (s2 _ _ e0))
        en := a12 _ _ (f7 _ _ en)
        ed := upd_same
        ud := UVs.nones
        n0 := n2 (s2 _ _ e0)
        nn := n2 en
        nd := fun ho => st7.osome ho (same_none a1 hld)
        sm := fun b o eb => a12 _ _ (f7 _ _ ((s1.trans s2) _ _ eb))
        on := fun b ho => same_none (s1.trans s2) (on4 b ho) }
    rintro _ H8 ⟨ld, g8, rfl⟩
    refine seq_mid (fun σ' H' => ∃ lh, Lw H sd lh lc lf l0 ln ld ra ⟨[.c ((ts.length - 1) / 7), .n, .n], frs F⟩ ts ts.length F (List.replicate ts.length .n) (List.replicate ts.length .non) H' ∧ σ' = [some (V.ref a), some (V.ref l0), some (V.ref ln), some (V.ref sd), v4, some (V.ref ld), none, none, none, none, none]) (fun R hR => ?_) ?_
    · simp only [tRet, tNext, tIfS, tNot, tCons, tNil, tC, cVar, tCallE, TruV, and_assoc, Bool.not_eq_true', Bool.true_eq_false, List.getElem?_cons_zero, List.getElem?_cons_succ, V.int.injEq, V.bl.injEq, V.str.injEq, V.ref.injEq, V.ty.injEq, List.cons.injEq, Option.some.injEq, and_true, exists_eq_left', exists_and_left, exists_eq_left, ite_false, sp__law_stands]
      refine ⟨lh, lc, lf, ra, _, _, g8.st, ts, _, F, _, g8.fr, g8.en, rfl, nd, by omega, _, g8.ed, g8.ud, g8.nn, g8.nd, by show (frs F).length ≤ 100; rw [frs_len]; omega, fun H' lh' st' hlh f' => hR _ _ ⟨lh', g8.stands st' hlh f', rfl⟩⟩
    rintro _ H9 ⟨lh9, g9, rfl⟩
    have hc9 : (Hc.mk [.c ((ts.length - 1) / 7), .n, .n] (frs F)).cs.length ≤ 7 := by show (frs F).length ≤ 7; rw [frs_len]; omega
    generalize Hc.mk [.c ((ts.length - 1) / 7), .n, .n] (frs F) = sB at *
    refine seq_mid (fun σ' H' => ∃ v4 v6 v7 v8 lh ld ra s du dv, Lw H sd lh lc lf l0 ln ld ra s ts ts.length F du dv H' ∧ s.cs.length ≤ 80 ∧ σ' = [some (V.ref a), some (V.ref l0), some (V.ref ln), some (V.ref sd), v4, some (V.ref ld), v6, v7, v8, none, none]) (fun R hR => ?_) ?_
    · obtain ⟨is, ei, hil⟩ := cut_is (ns := ns) (i := some 3) (j := some 15)
      simp only [tCons, tNil, tC, cVar, tCallE, cxOf_K, TruV, tFor_eq, iList, cSlS, cPart, tSl, List.getElem?_cons_zero, V.int.injEq, V.bl.injEq, V.str.injEq, V.ref.injEq, V.ty.injEq, List.cons.injEq, Option.some.injEq, exists_eq_left']
      refine ⟨_, g9.sm.seq hS, fun p hp => ⟨⟨_, SqL.of upd_same⟩, ?_⟩⟩
      rw [ei]
      have a1 := Same.upd (o := .lst (is.map V.int)) hp
      refine LoopW.list (xs := is.map V.int) (fun t σ' H' => ∃ v4 v6 v7 v8 lh ld ra s du dv, Lw H sd lh lc lf l0 ln ld ra s ts ts.length F du dv H' ∧ s.cs.length ≤ 7 + t ∧ t ≤ is.length ∧ H' p = some (.lst (is.map V.int)) ∧ ¬ own sd lh lc ra p ∧ σ' = [some (V.ref a), some (V.ref l0), some (V.ref ln), some (V.ref sd), v4, some (V.ref ld), v6, v7, v8, none, none]) ⟨_, _, _, _, lh9, ld, ra, sB, _, _, g9.same a1, by omega, Nat.zero_le _, upd_same, fun ho => g9.st.osome ho hp, rfl⟩ ?_ ?_ ?_
      · rintro t σ' H' _ ⟨v4, v6, v7, v8, lhB, ldB, raB, sC, duB, dvB, _, _, _, ep, _, _⟩
        exact SqL.of ep
      · rintro t x σ' HB hx ⟨v4, v6, v7, v8, lhB, ldB, raB, sC, duB, dvB, gB, hcB, htB, ep, np, rfl⟩
        have ht : t < is.length := by have := (List.getElem?_eq_some_iff.mp hx).1; rw [List.length_map] at this; exact this
        obtain ⟨c, _, rfl⟩ := List.mem_map.mp (List.mem_of_getElem? hx)
        show tSeq _ _ _ [some (V.ref a), some (V.ref l0), some (V.ref ln), some (V.ref sd), v4, some (V.ref ldB), some (V.int c), v7, v8, none, none] HB
        refine seq_mid (fun σ' H' => HB = H' ∧ ∃ y : Int, 0 ≤ y ∧ σ' = [some (V.ref a), some (V.ref l0), some (V.ref ln), some (V.ref sd), v4, some (V.ref ldB), some (V.int c), some (V.int y), v8, none, none]) (fun R hR => ?_) ?_
        · simp only [tCons, tNil, cVar, tAsg, gName, tCallE, List.getElem?_cons_zero, List.getElem?_cons_succ, List.set_cons_zero, List.set_cons_succ, V.int.injEq, V.bl.injEq, V.str.injEq, V.ref.injEq, V.ty.injEq, List.cons.injEq, Option.some.injEq, and_true, exists_eq_left', sp__law_next]
          exact fun y y0 => hR _ _ ⟨rfl, y, y0, rfl⟩
        rintro _ _ ⟨rfl, y, y0, rfl⟩
        refine seq_mid (fun σ' H' => ∃ q, ∃ sm : Sm, Same HB H' ∧ H' q = some (.tup sm.vs) ∧ sm.fit ts sC duB ∧ σ' = [some (V.ref a), some (V.ref l0), some (V.ref ln), some (V.ref sd), v4, some (V.ref ldB), some (V.int c), some (V.int y), some (V.ref q), none, none]) (fun R hR => ?_) ?_
        · simp only [tCons, tNil, cVar, tAsg, gName, tCallE, and_assoc, List.getElem?_cons_zero, List.getElem?_cons_succ, List.set_cons_zero, List.set_cons_succ, V.int.injEq, V.bl.injEq, V.str.injEq, V.ref.injEq, V.ty.injEq, List.cons.injEq, Option.some.injEq, and_true, exists_eq_left', exists_and_left, sp__law_statement]
          exact ⟨lhB, lc, lf, raB, sC, _, gB.st, ts, gB.e0, duB, gB.fr.dl.symm, by rw [gB.fr.dl]; exact n1, by rw [gB.fr.dl]; omega, nd, dvB, gB.ed, gB.ud, F, gB.ow.du, y0, fun q H' sm s' eq fit => hR _ _ ⟨q, sm, s', eq, fit, rfl⟩⟩
        rintro _ HC ⟨q, sm, sC', eq, fit, rfl⟩
        have gC := gB.same sC'
        have epC := sC' _ _ ep
        refine seq_mid (fun σ' H' => ∃ l2 ra2 s2 vs2, Lw H sd lhB lc lf l0 ln l2 ra2 s2 ts ts.length F (duN ts sC duB sm) vs2 H' ∧ s2.cs.length ≤ sC.cs.length + 1 ∧ H' p = some (.lst (is.map V.int)) ∧ ¬ own sd lhB lc ra2 p ∧ σ' = [some (V.ref a), some (V.ref l0), some (V.ref ln), some (V.ref sd), v4, some (V.ref l2), some (V.int c), some (V.int y), some (V.ref q), none, none]) (fun R hR => ?_) ?_
        · simp only [tCons, tNil, cVar, tAsg, gName, tCallE, and_assoc, List.getElem?_cons_zero, List.getElem?_cons_succ, List.set_cons_zero, List.set_cons_succ, V.int.injEq, V.bl.injEq, V.str.injEq, V.ref.injEq, V.ty.injEq, List.cons.injEq, Option.some.injEq, and_true, exists_eq_left', exists_and_left, sp__law_stepped]
          refine ⟨lhB, lc, lf, raB, sC, _, gC.st, ts, _, F, duB, gC.fr, gC.ow, rfl, gC.en, rfl, by omega, dvB, gC.ed, gC.ud, gC.nn, gC.nd, sm, eq, fit, by omega, fun l2 H' ra2 s2 vs2 stp st' hl el ul nl f' gr => hR _ _ ⟨l2, ra2, s2, vs2, gC.step fit stp st' el ul nl f' gr, ?_, f' _ _ epC np, own_gr gr np epC, rfl⟩⟩
          rw [stp.ln, csN_len]; exact midN_len
        rintro _ HD ⟨l2, ra2, s2, vs2, gD, hcD, epD, npD, rfl⟩
        refine seq_mid (fun σ' H' => ∃ lh2, Lw H sd lh2 lc lf l0 ln l2 ra2 s2 ts ts.length F (duN ts sC duB sm) vs2 H' ∧ H' p = some (.lst (is.map V.int)) ∧ ¬ own sd lh2 lc ra2 p ∧ σ' = [some (V.ref a), some (V.ref l0), some (V.ref ln), some (V.ref sd), v4, some (V.ref l2), some (V.int c), some (V.int y), some (V.ref q), none, none]) (fun R hR => ?_) ?_
        · simp only [tRet, tNext, tIfS, tTest, tOp, tOr, tNot, tC, cVar, cIs, isNon, and_assoc, Bool.not_eq_true', Bool.true_eq_false, List.getElem?_cons_zero, List.getElem?_cons_succ, V.int.injEq, V.bl.injEq, V.str.injEq, V.ref.injEq, V.ty.injEq, List.cons.injEq, Option.some.injEq, and_true, exists_eq_left', exists_and_left, exists_eq_left, ite_true, ite_false, Bool.false_eq_true, sp__law_stands]
          refine ⟨lhB, lc, lf, ra2, s2, _, gD.st, ts, _, F, _, gD.fr, gD.en, rfl, nd, by omega, _, gD.ed, gD.ud, gD.nn, gD.nd, by omega, fun H' lh' st' hlh f' => hR _ _ ⟨lh', gD.stands st' hlh f', f' _ _ epD npD, own_lh hlh npD epD, rfl⟩⟩
        rintro _ HE ⟨lh2, gE, epE, npE, rfl⟩
        simp only [tRet, tNext, tIfS, tTest, tOp, tC, cVar, eqv, Bool.not_true, cNeA, cNeL, List.getElem?_cons_zero, List.getElem?_cons_succ, V.int.injEq, V.bl.injEq, V.str.injEq, V.ref.injEq, V.ty.injEq, List.cons.injEq, Option.some.injEq, and_true, true_and, exists_eq_left', ite_true, ite_false, Bool.false_eq_true, cNeT, gE.e0, gE.en, deq_strs]
        exact ⟨_, _, _, _, lh2, l2, ra2, s2, _, vs2, gE, by omega, by omega, epE, npE, rfl, rfl, rfl, rfl, rfl⟩
      · rintro σ' H' ⟨v4, v6, v7, v8, lhB, ldB, raB, sC, duB, dvB, gB, hcB, _, _, _, rfl⟩
        rw [List.length_map] at hcB
        exact hR _ _ ⟨v4, v6, v7, v8, lhB, ldB, raB, sC, duB, dvB, gB, by omega, rfl⟩
    rintro _ HA ⟨v4, v6, v7, v8, lhA, ldA, raA, sA', duA, dvA, gA, hcA, rfl⟩
    refine seq_mid (fun σ' H' => HA = H' ∧ ∃ pl : Nat, pl < ts.length ∧ σ' = [some (V.ref a), some (V.ref l0), some (V.ref ln), some (V.ref sd), v4, some (V.ref ldA), v6, v7, v8, some (V.int pl), none]) (fun R hR => ?_) ?_
    · simp only [tOp, tCB, tCons, tNil, tC, cVar, tAsg, gName, tCallE, cMod, cLen, and_assoc, Int.reduceLE, List.getElem?_cons_zero, List.getElem?_cons_succ, List.set_cons_zero, List.set_cons_succ, V.int.injEq, V.bl.injEq, V.str.injEq, V.ref.injEq, V.ty.injEq, List.cons.injEq, Option.some.injEq, and_true, true_and, exists_eq_left', exists_and_left, sp__law_cell_at, gA.e0]
      rw [List.length_map]
      refine ⟨ns, gA.sm.seq hS, by omega, hR _ _ ⟨rfl, (cat ns 2 % (ts.length : Int)).toNat, ?_, by rw [Int.toNat_of_nonneg (Int.emod_nonneg _ (by omega))]⟩⟩
      have := Int.emod_lt_of_pos (cat ns 2) (show (0 : Int) < ts.length by omega)
      have := Int.emod_nonneg (cat ns 2) (show (ts.length : Int) ≠ 0 by omega)
      omega
    rintro _ _ ⟨rfl, pl, hpl, rfl⟩
    refine seq_mid (fun σ' H' => ∃ x : Int, Lw H sd lhA lc lf l0 ln ldA raA ⟨sA'.hs.set 1 (.i x), sA'.cs⟩ ts ts.length F duA dvA H' ∧ σ' = [some (V.ref a), some (V.ref l0), some (V.ref ln), some (V.ref sd), v4, some (V.ref ldA), v6, v7, v8, some (V.int pl), none]) (fun R hR => ?_) ?_
    · obtain ⟨hv, eh, uh⟩ := gA.st.hd
      have hvl : hv.length = 3 := by rw [uh.len]; exact gA.st.h3
      have ix : ixN hv.length 1 = some 1 := by rw [hvl]; rfl
      simp only [tOp, tCons, tNil, tC, cVar, tAsg, tCallE, cFdiv, cMod, and_assoc, CDiv, Int.reduceLT, Nat.reduceLT, Int.reduceLE, cSetL, cDGet, keyV, gSub, List.getElem?_cons_zero, List.getElem?_cons_succ, V.int.injEq, V.bl.injEq, V.str.injEq, V.ref.injEq, V.ty.injEq, List.cons.injEq, Option.some.injEq, and_true, true_and, exists_eq_left', exists_and_left, sp__law_cell_at, gA.st.ob, sKV_h, eh, ix]
      exact ⟨ns, gA.sm.seq hS, hR _ _ ⟨_, gA.hand eh uh rfl, rfl⟩⟩
    rintro _ HB ⟨x, gB, rfl⟩
    refine seq_mid (fun σ' H' => ∃ lo, ∃ ks : List Nat, Same HB H' ∧ H' lo = some (.lst (ks.map fun k : Nat => V.int k)) ∧ (∀ k ∈ ks, F ≤ k ∧ k < sA'.cs.length) ∧ σ' = [some (V.ref a), some (V.ref l0), some (V.ref ln), some (V.ref sd), v4, some (V.ref ldA), v6, v7, v8, some (V.int pl), some (V.ref lo)]) (fun R hR => ?_) ?_
    · have hrl : raA.length = sA'.cs.length := gB.st.rl
      simp only [tCB, tCons, tNil, tC, cVar, tAsg, gName, cLen, Int.reduceNeg, Int.reducePow, tComp, capt, iRng1, cDGet, keyV, List.map_cons, List.map_nil, List.getElem?_cons_zero, List.getElem?_cons_succ, List.set_cons_zero, List.set_cons_succ, V.int.injEq, V.bl.injEq, V.str.injEq, V.ref.injEq, V.ty.injEq, List.cons.injEq, Option.some.injEq, and_true, exists_eq_left', gB.st.ob, sKV_c, gB.st.cl]
      rw [List.length_map, Int.toNat_natCast]
      refine ⟨by omega, by omega, compW_rangeG (fun i ys H' => HB = H' ∧ ∃ ks : List Nat, ys = ks.map (fun k : Nat => V.int k) ∧ ks.length ≤ i ∧ ∀ k ∈ ks, F ≤ k ∧ k < sA'.cs.length) ⟨rfl, [], rfl, Nat.le_refl _, fun k hk => by simp at hk⟩ (Nat.le_trans (show _ ≤ 100 by omega) (by decide)) (fun i ys H' ⟨_, ks, e, hl, _⟩ => by rw [e, List.length_map]; exact hl) ?_ ?_⟩
      · rintro i ys _ hi ⟨rfl, ks, rfl, hl, hk⟩ K1 hK
        rw [show (0 + (i : Int)) = (i : Int) by omega]
        simp only [tTest, tOp, tC, cVar, Bool.not_eq_true', cDGet, keyV, decide_eq_false_iff_not, cNotInD, List.getElem?_cons_zero, List.getElem?_cons_succ, V.int.injEq, V.bl.injEq, V.str.injEq, V.ref.injEq, V.ty.injEq, List.cons.injEq, Option.some.injEq, exists_eq_left', Option.join_some, gB.st.ob, sKV_f, gB.st.fr, valV_fk]
        have hm : ((i : Int) ∈ (List.range F).map fun k : Nat => (k : Int)) ↔ i < F := by
          rw [List.mem_map]
          exact ⟨fun ⟨k, h1, h2⟩ => by rw [List.mem_range] at h1; omega, fun h => ⟨i, List.mem_range.mpr h, rfl⟩⟩
        by_cases y : i < F
        · rw [if_neg (by simp [hm, y])]
          exact hK _ _ ⟨rfl, ks, rfl, by omega, hk⟩
        · rw [if_pos (by simp [hm, y])]
          refine hK _ _ ⟨rfl, ks ++ [i], by rw [List.map_append]; rfl, by rw [List.length_append]; show ks.length + 1 ≤ _; omega, fun k hk' => ?_⟩
          rcases List.mem_append.mp hk' with m | m
          · exact hk k m
          · rw [List.mem_singleton] at m
            subst m
            exact ⟨by omega, by omega⟩
      · rintro ys _ ⟨rfl, ks, rfl, hl, hk⟩ l hl'
        exact hR _ _ ⟨l, ks, Same.upd hl', upd_same, hk, rfl⟩
    rintro _ HC ⟨lo, ks, sC, elo, hks, rfl⟩
    have gC := gB.same sC
    refine seq_mid (fun σ' H' => ∃ u, Un F sA'.cs.length u ∧ Lw H sd lhA lc lf l0 ln ldA raA ⟨sA'.hs.set 1 u, sA'.cs⟩ ts ts.length F duA dvA H' ∧ σ' = [some (V.ref a), some (V.ref l0), some (V.ref ln), some (V.ref sd), v4, some (V.ref ldA), v6, v7, v8, some (V.int pl), some (V.ref lo)]) (fun R hR => ?_) ?_
    · obtain ⟨hv, eh, uh⟩ := gC.st.hd
      have hvl : hv.length = 3 := by rw [uh.len]; exact gC.st.h3
      have ix : ixN hv.length 1 = some 1 := by rw [hvl]; rfl
      have ux : Un F sA'.cs.length (.i x) := fun j e => by cases e
      simp only [tNext, tIfS, tTest, tOp, tAnd, tCB, tCons, tNil, tC, cVar, tLst, tTup, tAsg, tCallE, cFdiv, cMod, eqv, cIx, cLen, and_assoc, CDiv, Int.reduceLT, Nat.reduceLT, Int.reduceLE, Int.reduceAdd, Bool.not_eq_true', upd_same, cEqA, cNeA, cNeL, cSetL, cDGet, keyV, gSub, List.length_cons, List.length_nil, List.getElem?_cons_zero, List.getElem?_cons_succ, V.int.injEq, V.bl.injEq, V.str.injEq, V.ref.injEq, V.ty.injEq, List.cons.injEq, Option.some.injEq, and_true, true_and, exists_eq_left', exists_and_left, ite_true, ite_false, Bool.false_eq_true, decide_eq_true_eq, Nat.reduceAdd, sz0, sz2, cNeT, sp__law_cell_at, elo]
      refine ⟨ns, gC.sm.seq hS, ?_⟩
      by_cases c : cat ns 2 / 42 % 2 = 1
      · rw [if_pos c]
        intro p hp
        have a1 := Same.upd (o := .lst []) hp
        have gP := gC.same a1
        have elP := a1 _ _ elo
        have ehP := a1 _ _ eh
        have uhP := uh.mono fun a xs h => a1 _ _ h
        generalize upd HC p (HO.lst []) = G at *
        rw [elP]
        dsimp only
        by_cases ke : ks = []
        · subst ke
          exact hR _ _ ⟨.i x, ux, gP, rfl⟩
        · rw [if_neg (fun z => ke (List.length_eq_zero_iff.mp (by rw [List.length_map] at z; exact z)))]
          have kl : 0 < ks.length := List.length_pos_iff.mpr ke
          refine ⟨ns, gP.sm.seq hS, ?_⟩
          rw [List.length_map]
          refine ⟨by omega, ?_⟩
          obtain ⟨i, hi⟩ : ∃ i : Nat, (i : Int) = cat ns 2 / 84 % (ks.length : Int) := ⟨(cat ns 2 / 84 % (ks.length : Int)).toNat, Int.toNat_of_nonneg (Int.emod_nonneg _ (by omega))⟩
          have hil : i < ks.length := by have := Int.emod_lt_of_pos (cat ns 2 / 84) (show (0 : Int) < ks.length by omega); omega
          rw [← hi, atI_cast, List.getElem?_map, List.getElem?_eq_getElem hil]
          dsimp only [Option.map_some]
          intro p1 hp1
          have a2 := Same.upd (o := .tup [V.str (Str.ofString "cell"), V.int (ks[i] : Nat)]) hp1
          have gQ := gP.same a2
          rw [a2 _ _ gP.st.ob]
          dsimp only
          rw [sKV_h]
          dsimp only
          rw [a2 _ _ ehP]
          dsimp only
          rw [ix]
          have gR := gQ.hand (a2 _ _ ehP) (uhP.mono fun a xs h => a2 _ _ h) (u := .c ks[i]) (v := .ref p1) ⟨p1, rfl, upd_same⟩
          dsimp only at gR
          rw [List.set_set] at gR
          exact hR _ _ ⟨.c ks[i], fun j e => by cases e; exact hks _ (List.getElem_mem hil), gR, rfl⟩
      · rw [if_neg c]
        exact hR _ _ ⟨.i x, ux, gC, rfl⟩
    rintro _ HD ⟨u, hu, gD, rfl⟩
    have hz : ts.getD pl default ∈ ts := by rw [List.getD_eq_getElem?_getD, List.getElem?_eq_getElem hpl]; exact List.getElem_mem hpl
    have ixz : ts.idxOf (ts.getD pl default) = pl := by rw [List.getD_eq_getElem?_getD, List.getElem?_eq_getElem hpl]; exact List.Nodup.idxOf_getElem nd pl hpl
    have nmz : atI (ts.map V.str) (pl : Int) = some (V.str (ts.getD pl default)) := by rw [atI_cast, List.getElem?_map, List.getD_eq_getElem?_getD, List.getElem?_eq_getElem hpl]; rfl
    have hpd : pl < duA.length := by rw [gD.fr.dl]; exact hpl
    refine seq_mid (fun σ' H' => ∃ dv, SAt H' sd lhA lc lf raA ⟨sA'.hs.set 1 u, sA'.cs⟩ ((List.range F).map fun k : Nat => (k : Int)) ∧ H' l0 = some (.lst (ts.map V.str)) ∧ H' ln = some (.lst (ts.map V.str)) ∧ H' ldA = some (.lst dv) ∧ UVs H' (duA.set pl u) dv ∧ σ' = [some (V.ref a), some (V.ref l0), some (V.ref ln), some (V.ref sd), v4, some (V.ref ldA), v6, v7, v8, some (V.int pl), some (V.ref lo)]) (fun R hR => ?_) ?_
    · obtain ⟨hv, eh, uh⟩ := gD.st.hd
      obtain ⟨v, hv1, av⟩ := uh.get (j := 1) (by rw [gD.st.h3]; decide)
      have a1 : atI hv 1 = some v := (atI_cast (j := 1)).trans hv1
      have ix : ixN dvA.length (pl : Int) = some pl := ixN_cast (by rw [gD.ud.len]; exact hpd)
      simp only [tOp, tC, cVar, tAsg, cIx, cSetL, cDGet, keyV, gSub, List.getElem?_cons_zero, List.getElem?_cons_succ, gD.st.ob, sKV_h, eh, a1, gD.ed, ix]
      rw [show (Hc.mk (sA'.hs.set 1 u) sA'.cs).hs.getD 1 .n = u from getD_set_self (by have := gD.st.h3; rw [show (Hc.mk (sA'.hs.set 1 u) sA'.cs).hs = sA'.hs.set 1 u from rfl, List.length_set] at this; omega)] at av
      have nst : ∀ {b}, HD b = some (.lst (ts.map V.str)) → b ≠ ldA := fun {b} eb z => by
        rw [z, gD.ed] at eb
        injection eb with eb
        injection eb with eb
        obtain ⟨v0, h0, av0⟩ := gD.ud.get (j := 0) (by omega)
        rw [eb, List.getElem?_map, List.getElem?_eq_getElem (by omega)] at h0
        cases h0
        cases hq : duA.getD 0 .n with
        | n => rw [hq] at av0; cases av0
        | i x => rw [hq] at av0; cases av0
        | c k => rw [hq] at av0; obtain ⟨_, e, _⟩ := av0; cases e
      exact hR _ _ ⟨dvA.set pl v, gD.st.off gD.ed gD.nd, by rw [upd_ne (nst gD.e0)]; exact gD.e0, by rw [upd_ne (nst gD.en)]; exact gD.en, upd_same, (gD.ud.set av).mono (tup_upd gD.ed), rfl⟩
    rintro _ HE ⟨dvE, stE, e0E, enE, edE, udE, rfl⟩
    refine seq_mid (fun σ' H' => ∃ s2 ra2, SAt H' sd lhA lc lf ra2 s2 ((List.range F).map fun k : Nat => (k : Int)) ∧ Fr ts.length F s2 (duA.set pl u) ∧ s2.cs.length ≤ 90 ∧ H' l0 = some (.lst (ts.map V.str)) ∧ H' ln = some (.lst (ts.map V.str)) ∧ H' ldA = some (.lst dvE) ∧ UVs H' (duA.set pl u) dvE ∧ ¬ own sd lhA lc ra2 l0 ∧ ¬ own sd lhA lc ra2 ln ∧ ¬ own sd lhA lc ra2 ldA ∧ σ' = [some (V.ref a), some (V.ref l0), some (V.ref ln), some (V.ref sd), v4, some (V.ref ldA), v6, v7, v8, some (V.int pl), some (V.ref lo)]) (fun R hR => ?_) ?_
    · obtain ⟨s2, e2, fr2, h2, cs2, cl2⟩ := gD.fr.stored rfl hz
      rw [ixz, show (Hc.mk (sA'.hs.set 1 u) sA'.cs).hs.getD 1 .n = u from getD_set_self (by have := gD.st.h3; rw [show (Hc.mk (sA'.hs.set 1 u) sA'.cs).hs = sA'.hs.set 1 u from rfl, List.length_set] at this; omega)] at fr2
      rw [show (Hc.mk (sA'.hs.set 1 u) sA'.cs).hs.getD 1 .n = u from getD_set_self (by have := gD.st.h3; rw [show (Hc.mk (sA'.hs.set 1 u) sA'.cs).hs = sA'.hs.set 1 u from rfl, List.length_set] at this; omega)] at h2
      have hc2 : s2.cs.length = sA'.cs.length := cl2
      simp only [tRet, tNext, tIfS, tTest, tOp, tOr, tNot, tCons, tNil, tC, cVar, tCallE, cIx, TruV, and_assoc, Bool.not_eq_true', Bool.true_eq_false, cDGet, keyV, List.getElem?_cons_zero, List.getElem?_cons_succ, V.int.injEq, V.bl.injEq, V.str.injEq, V.ref.injEq, V.ty.injEq, List.cons.injEq, Option.some.injEq, and_true, exists_eq_left', exists_and_left, exists_eq_left, ite_true, ite_false, sp_stored, sp__law_all, e0E, nmz, -cNeT]
      refine ⟨ts, enE, hz, by omega, fun l H' s' hl d => ⟨lhA, lc, lf, raA, _, _, stE.same s', _, d, fun ho => stE.osome ho hl, storeD_ok, s2, e2, by have := storeD_len (z := ts.getD pl default) (ts := ts) (by omega); show sA'.cs.length + _ ≤ 500; omega, fun H2 ra2 st2 f2 g2 => ?_⟩⟩
      have er := st2.keep stE.rl cl2 g2
      rw [er] at st2
      obtain ⟨hv, eh, uh⟩ := st2.hd
      obtain ⟨v, hv1, av⟩ := uh.get (j := 1) (by rw [st2.h3]; decide)
      rw [h2] at av
      have tp : ∀ a xs, HE a = some (.tup xs) → H2 a = some (.tup xs) := fun a xs ha => f2 _ _ (s' _ _ ha) (stE.ntup ha)
      have ud2 := udE.mono tp
      obtain ⟨w', hw, aw⟩ := ud2.get (j := pl) (by rw [List.length_set]; exact hpd)
      rw [getD_set_self hpd] at aw
      have ed2 := f2 _ _ (s' _ _ edE) gD.nd
      rw [st2.ob]
      dsimp only
      rw [sKV_h]
      dsimp only
      rw [eh]
      dsimp only
      rw [show atI hv 1 = some v from (atI_cast (j := 1)).trans hv1]
      dsimp only
      rw [ed2]
      dsimp only
      rw [atI_cast, hw]
      dsimp only
      refine ne_U av aw ⟨false, rfl, ?_⟩
      rw [if_neg Bool.false_ne_true]
      exact hR _ _ ⟨s2, raA, st2, fr2, by omega, f2 _ _ (s' _ _ e0E) gD.n0, f2 _ _ (s' _ _ enE) gD.nn, ed2, ud2, gD.n0, gD.nn, gD.nd, rfl⟩
    rintro _ HF ⟨s2, ra2, stF, frF, hcF, e0F, enF, edF, udF, n0F, nnF, ndF, rfl⟩
    simp only [tRet, tOp, tAndV, tCons, tNil, cVar, tCallE, eqv, and_assoc, cEqA, cEqL, List.getElem?_cons_zero, List.getElem?_cons_succ, V.int.injEq, V.bl.injEq, V.str.injEq, V.ref.injEq, V.ty.injEq, List.cons.injEq, Option.some.injEq, and_true, exists_eq_left', exists_and_left, ite_true, sp__law_stands]
    refine ⟨lhA, lc, lf, ra2, s2, _, stF, ts, _, F, _, frF, enF, rfl, nd, by omega, _, edF, udF, nnF, ndF, by omega, fun H' lh' st' hlh f' => ?_⟩
    rw [f' _ _ enF nnF, f' _ _ e0F n0F]
    dsimp only
    rw [if_pos rfl, deq_strs]
    exact h _

theorem all_mk {l : PySem.W.OpenLaw} {w : World} {K : PySem.W.Frag} {h : Heap} {mg : Str → Option Value} {fa f_begun f_holder f_frame_of f_slot_of f__law_cell_at f__law_next f__law_is_hand f__law_cells f__law_due f_walked f__law_names f__law_slots f__law_statement f_loaded f_stored f__law_deed f_deeds_behind f__law_all f_deeds_of f__law_stands f__law_stepped f_law : Addr} {oc_begun kV_begun dc_begun pm_begun cd_begun ct_begun oc_holder kV_holder dc_holder pm_holder cd_holder ct_holder oc_frame_of kV_frame_of dc_frame_of pm_frame_of cd_frame_of ct_frame_of oc_slot_of kV_slot_of dc_slot_of pm_slot_of cd_slot_of ct_slot_of oc__law_cell_at kV__law_cell_at dc__law_cell_at pm__law_cell_at cd__law_cell_at ct__law_cell_at oc__law_next kV__law_next dc__law_next pm__law_next cd__law_next ct__law_next oc__law_is_hand kV__law_is_hand dc__law_is_hand pm__law_is_hand cd__law_is_hand ct__law_is_hand oc__law_cells kV__law_cells dc__law_cells pm__law_cells cd__law_cells ct__law_cells oc__law_due kV__law_due dc__law_due pm__law_due cd__law_due ct__law_due oc_walked kV_walked dc_walked pm_walked cd_walked ct_walked oc__law_names kV__law_names dc__law_names pm__law_names cd__law_names ct__law_names oc__law_slots kV__law_slots dc__law_slots pm__law_slots cd__law_slots ct__law_slots oc__law_statement kV__law_statement dc__law_statement pm__law_statement cd__law_statement ct__law_statement oc_loaded kV_loaded dc_loaded pm_loaded cd_loaded ct_loaded oc_stored kV_stored dc_stored pm_stored cd_stored ct_stored oc__law_deed kV__law_deed dc__law_deed pm__law_deed cd__law_deed ct__law_deed oc_deeds_behind kV_deeds_behind dc_deeds_behind pm_deeds_behind cd_deeds_behind ct_deeds_behind oc__law_all kV__law_all dc__law_all pm__law_all cd__law_all ct__law_all oc_deeds_of kV_deeds_of dc_deeds_of pm_deeds_of cd_deeds_of ct_deeds_of oc__law_stands kV__law_stands dc__law_stands pm__law_stands cd__law_stands ct__law_stands oc__law_stepped kV__law_stepped dc__law_stepped pm__law_stepped cd__law_stepped ct__law_stepped oc_law kV_law dc_law pm_law cd_law ct_law : Value} {od_begun an_begun : Option Addr} {sl_begun : Array (Option Value)} {od_holder an_holder : Option Addr} {sl_holder : Array (Option Value)} {od_frame_of an_frame_of : Option Addr} {sl_frame_of : Array (Option Value)} {od_slot_of an_slot_of : Option Addr} {sl_slot_of : Array (Option Value)} {od__law_cell_at an__law_cell_at : Option Addr} {sl__law_cell_at : Array (Option Value)} {od__law_next an__law_next : Option Addr} {sl__law_next : Array (Option Value)} {od__law_is_hand an__law_is_hand : Option Addr} {sl__law_is_hand : Array (Option Value)} {od__law_cells an__law_cells : Option Addr} {sl__law_cells : Array (Option Value)} {od__law_due an__law_due : Option Addr} {sl__law_due : Array (Option Value)} {od_walked an_walked : Option Addr} {sl_walked : Array (Option Value)} {od__law_names an__law_names : Option Addr} {sl__law_names : Array (Option Value)} {od__law_slots an__law_slots : Option Addr} {sl__law_slots : Array (Option Value)} {od__law_statement an__law_statement : Option Addr} {sl__law_statement : Array (Option Value)} {od_loaded an_loaded : Option Addr} {sl_loaded : Array (Option Value)} {od_stored an_stored : Option Addr} {sl_stored : Array (Option Value)} {od__law_deed an__law_deed : Option Addr} {sl__law_deed : Array (Option Value)} {od_deeds_behind an_deeds_behind : Option Addr} {sl_deeds_behind : Array (Option Value)} {od__law_all an__law_all : Option Addr} {sl__law_all : Array (Option Value)} {od_deeds_of an_deeds_of : Option Addr} {sl_deeds_of : Array (Option Value)} {od__law_stands an__law_stands : Option Addr} {sl__law_stands : Array (Option Value)} {od__law_stepped an__law_stepped : Option Addr} {sl__law_stepped : Array (Option Value)} {od_law an_law : Option Addr} {sl_law : Array (Option Value)} {t_MOST_SLOTS : Tok} {t_NAMES_IN_FRAME : Tok} {t_NEXT_SLOT : Tok}
    (X : K.In h) (G : h.Ns mainGlobals mg) (hfa : mg "law" = some (.ref fa))
    (g_begun : PySem.W.nsIn K mainGlobals "begun" = some (some (.ref f_begun)))
    (l_begun : K.lookup f_begun = some ⟨oc_begun, od_begun, .func (PySem.W.fnOf "begun" "begun" (defArgs s_begun) (defBody s_begun) (defScope s_begun) .none kV_begun dc_begun pm_begun an_begun cd_begun ct_begun), sl_begun⟩)
    (d_begun : PySem.W.codeIn K cd_begun "begun" = true)
    (k_begun : PySem.W.keepIn K (.ref f_begun) = true)
    (g_holder : PySem.W.nsIn K mainGlobals "holder" = some (some (.ref f_holder)))
    (l_holder : K.lookup f_holder = some ⟨oc_holder, od_holder, .func (PySem.W.fnOf "holder" "holder" (defArgs s_holder) (defBody s_holder) (defScope s_holder) .none kV_holder dc_holder pm_holder an_holder cd_holder ct_holder), sl_holder⟩)
    (d_holder : PySem.W.codeIn K cd_holder "holder" = true)
    (k_holder : PySem.W.keepIn K (.ref f_holder) = true)
    (g_frame_of : PySem.W.nsIn K mainGlobals "frame_of" = some (some (.ref f_frame_of)))
    (l_frame_of : K.lookup f_frame_of = some ⟨oc_frame_of, od_frame_of, .func (PySem.W.fnOf "frame_of" "frame_of" (defArgs s_frame_of) (defBody s_frame_of) (defScope s_frame_of) .none kV_frame_of dc_frame_of pm_frame_of an_frame_of cd_frame_of ct_frame_of), sl_frame_of⟩)
    (d_frame_of : PySem.W.codeIn K cd_frame_of "frame_of" = true)
    (k_frame_of : PySem.W.keepIn K (.ref f_frame_of) = true)
    (g_slot_of : PySem.W.nsIn K mainGlobals "slot_of" = some (some (.ref f_slot_of)))
    (l_slot_of : K.lookup f_slot_of = some ⟨oc_slot_of, od_slot_of, .func (PySem.W.fnOf "slot_of" "slot_of" (defArgs s_slot_of) (defBody s_slot_of) (defScope s_slot_of) .none kV_slot_of dc_slot_of pm_slot_of an_slot_of cd_slot_of ct_slot_of), sl_slot_of⟩)
    (d_slot_of : PySem.W.codeIn K cd_slot_of "slot_of" = true)
    (k_slot_of : PySem.W.keepIn K (.ref f_slot_of) = true)
    (g__law_cell_at : PySem.W.nsIn K mainGlobals "_law_cell_at" = some (some (.ref f__law_cell_at)))
    (l__law_cell_at : K.lookup f__law_cell_at = some ⟨oc__law_cell_at, od__law_cell_at, .func (PySem.W.fnOf "_law_cell_at" "_law_cell_at" (defArgs s__law_cell_at) (defBody s__law_cell_at) (defScope s__law_cell_at) .none kV__law_cell_at dc__law_cell_at pm__law_cell_at an__law_cell_at cd__law_cell_at ct__law_cell_at), sl__law_cell_at⟩)
    (d__law_cell_at : PySem.W.codeIn K cd__law_cell_at "_law_cell_at" = true)
    (k__law_cell_at : PySem.W.keepIn K (.ref f__law_cell_at) = true)
    (g__law_next : PySem.W.nsIn K mainGlobals "_law_next" = some (some (.ref f__law_next)))
    (l__law_next : K.lookup f__law_next = some ⟨oc__law_next, od__law_next, .func (PySem.W.fnOf "_law_next" "_law_next" (defArgs s__law_next) (defBody s__law_next) (defScope s__law_next) .none kV__law_next dc__law_next pm__law_next an__law_next cd__law_next ct__law_next), sl__law_next⟩)
    (d__law_next : PySem.W.codeIn K cd__law_next "_law_next" = true)
    (k__law_next : PySem.W.keepIn K (.ref f__law_next) = true)
    (g__law_is_hand : PySem.W.nsIn K mainGlobals "_law_is_hand" = some (some (.ref f__law_is_hand)))
    (l__law_is_hand : K.lookup f__law_is_hand = some ⟨oc__law_is_hand, od__law_is_hand, .func (PySem.W.fnOf "_law_is_hand" "_law_is_hand" (defArgs s__law_is_hand) (defBody s__law_is_hand) (defScope s__law_is_hand) .none kV__law_is_hand dc__law_is_hand pm__law_is_hand an__law_is_hand cd__law_is_hand ct__law_is_hand), sl__law_is_hand⟩)
    (d__law_is_hand : PySem.W.codeIn K cd__law_is_hand "_law_is_hand" = true)
    (k__law_is_hand : PySem.W.keepIn K (.ref f__law_is_hand) = true)
    (g__law_cells : PySem.W.nsIn K mainGlobals "_law_cells" = some (some (.ref f__law_cells)))
    (l__law_cells : K.lookup f__law_cells = some ⟨oc__law_cells, od__law_cells, .func (PySem.W.fnOf "_law_cells" "_law_cells" (defArgs s__law_cells) (defBody s__law_cells) (defScope s__law_cells) .none kV__law_cells dc__law_cells pm__law_cells an__law_cells cd__law_cells ct__law_cells), sl__law_cells⟩)
    (d__law_cells : PySem.W.codeIn K cd__law_cells "_law_cells" = true)
    (k__law_cells : PySem.W.keepIn K (.ref f__law_cells) = true)
    (g__law_due : PySem.W.nsIn K mainGlobals "_law_due" = some (some (.ref f__law_due)))
    (l__law_due : K.lookup f__law_due = some ⟨oc__law_due, od__law_due, .func (PySem.W.fnOf "_law_due" "_law_due" (defArgs s__law_due) (defBody s__law_due) (defScope s__law_due) .none kV__law_due dc__law_due pm__law_due an__law_due cd__law_due ct__law_due), sl__law_due⟩)
    (d__law_due : PySem.W.codeIn K cd__law_due "_law_due" = true)
    (k__law_due : PySem.W.keepIn K (.ref f__law_due) = true)
    (g_walked : PySem.W.nsIn K mainGlobals "walked" = some (some (.ref f_walked)))
    (l_walked : K.lookup f_walked = some ⟨oc_walked, od_walked, .func (PySem.W.fnOf "walked" "walked" (defArgs s_walked) (defBody s_walked) (defScope s_walked) .none kV_walked dc_walked pm_walked an_walked cd_walked ct_walked), sl_walked⟩)
    (d_walked : PySem.W.codeIn K cd_walked "walked" = true)
    (k_walked : PySem.W.keepIn K (.ref f_walked) = true)
    (g__law_names : PySem.W.nsIn K mainGlobals "_law_names" = some (some (.ref f__law_names)))
    (l__law_names : K.lookup f__law_names = some ⟨oc__law_names, od__law_names, .func (PySem.W.fnOf "_law_names" "_law_names" (defArgs s__law_names) (defBody s__law_names) (defScope s__law_names) .none kV__law_names dc__law_names pm__law_names an__law_names cd__law_names ct__law_names), sl__law_names⟩)
    (d__law_names : PySem.W.codeIn K cd__law_names "_law_names" = true)
    (k__law_names : PySem.W.keepIn K (.ref f__law_names) = true)
    (g__law_slots : PySem.W.nsIn K mainGlobals "_law_slots" = some (some (.ref f__law_slots)))
    (l__law_slots : K.lookup f__law_slots = some ⟨oc__law_slots, od__law_slots, .func (PySem.W.fnOf "_law_slots" "_law_slots" (defArgs s__law_slots) (defBody s__law_slots) (defScope s__law_slots) .none kV__law_slots dc__law_slots pm__law_slots an__law_slots cd__law_slots ct__law_slots), sl__law_slots⟩)
    (d__law_slots : PySem.W.codeIn K cd__law_slots "_law_slots" = true)
    (k__law_slots : PySem.W.keepIn K (.ref f__law_slots) = true)
    (g__law_statement : PySem.W.nsIn K mainGlobals "_law_statement" = some (some (.ref f__law_statement)))
    (l__law_statement : K.lookup f__law_statement = some ⟨oc__law_statement, od__law_statement, .func (PySem.W.fnOf "_law_statement" "_law_statement" (defArgs s__law_statement) (defBody s__law_statement) (defScope s__law_statement) .none kV__law_statement dc__law_statement pm__law_statement an__law_statement cd__law_statement ct__law_statement), sl__law_statement⟩)
    (d__law_statement : PySem.W.codeIn K cd__law_statement "_law_statement" = true)
    (k__law_statement : PySem.W.keepIn K (.ref f__law_statement) = true)
    (g_loaded : PySem.W.nsIn K mainGlobals "loaded" = some (some (.ref f_loaded)))
    (l_loaded : K.lookup f_loaded = some ⟨oc_loaded, od_loaded, .func (PySem.W.fnOf "loaded" "loaded" (defArgs s_loaded) (defBody s_loaded) (defScope s_loaded) .none kV_loaded dc_loaded pm_loaded an_loaded cd_loaded ct_loaded), sl_loaded⟩)
    (d_loaded : PySem.W.codeIn K cd_loaded "loaded" = true)
    (k_loaded : PySem.W.keepIn K (.ref f_loaded) = true)
    (g_stored : PySem.W.nsIn K mainGlobals "stored" = some (some (.ref f_stored)))
    (l_stored : K.lookup f_stored = some ⟨oc_stored, od_stored, .func (PySem.W.fnOf "stored" "stored" (defArgs s_stored) (defBody s_stored) (defScope s_stored) .none kV_stored dc_stored pm_stored an_stored cd_stored ct_stored), sl_stored⟩)
    (d_stored : PySem.W.codeIn K cd_stored "stored" = true)
    (k_stored : PySem.W.keepIn K (.ref f_stored) = true)
    (g__law_deed : PySem.W.nsIn K mainGlobals "_law_deed" = some (some (.ref f__law_deed)))
    (l__law_deed : K.lookup f__law_deed = some ⟨oc__law_deed, od__law_deed, .func (PySem.W.fnOf "_law_deed" "_law_deed" (defArgs s__law_deed) (defBody s__law_deed) (defScope s__law_deed) .none kV__law_deed dc__law_deed pm__law_deed an__law_deed cd__law_deed ct__law_deed), sl__law_deed⟩)
    (d__law_deed : PySem.W.codeIn K cd__law_deed "_law_deed" = true)
    (k__law_deed : PySem.W.keepIn K (.ref f__law_deed) = true)
    (g_deeds_behind : PySem.W.nsIn K mainGlobals "deeds_behind" = some (some (.ref f_deeds_behind)))
    (l_deeds_behind : K.lookup f_deeds_behind = some ⟨oc_deeds_behind, od_deeds_behind, .func (PySem.W.fnOf "deeds_behind" "deeds_behind" (defArgs s_deeds_behind) (defBody s_deeds_behind) (defScope s_deeds_behind) .none kV_deeds_behind dc_deeds_behind pm_deeds_behind an_deeds_behind cd_deeds_behind ct_deeds_behind), sl_deeds_behind⟩)
    (d_deeds_behind : PySem.W.codeIn K cd_deeds_behind "deeds_behind" = true)
    (k_deeds_behind : PySem.W.keepIn K (.ref f_deeds_behind) = true)
    (g__law_all : PySem.W.nsIn K mainGlobals "_law_all" = some (some (.ref f__law_all)))
    (l__law_all : K.lookup f__law_all = some ⟨oc__law_all, od__law_all, .func (PySem.W.fnOf "_law_all" "_law_all" (defArgs s__law_all) (defBody s__law_all) (defScope s__law_all) .none kV__law_all dc__law_all pm__law_all an__law_all cd__law_all ct__law_all), sl__law_all⟩)
    (d__law_all : PySem.W.codeIn K cd__law_all "_law_all" = true)
    (k__law_all : PySem.W.keepIn K (.ref f__law_all) = true)
    (g_deeds_of : PySem.W.nsIn K mainGlobals "deeds_of" = some (some (.ref f_deeds_of)))
    (l_deeds_of : K.lookup f_deeds_of = some ⟨oc_deeds_of, od_deeds_of, .func (PySem.W.fnOf "deeds_of" "deeds_of" (defArgs s_deeds_of) (defBody s_deeds_of) (defScope s_deeds_of) .none kV_deeds_of dc_deeds_of pm_deeds_of an_deeds_of cd_deeds_of ct_deeds_of), sl_deeds_of⟩)
    (d_deeds_of : PySem.W.codeIn K cd_deeds_of "deeds_of" = true)
    (k_deeds_of : PySem.W.keepIn K (.ref f_deeds_of) = true)
    (g__law_stands : PySem.W.nsIn K mainGlobals "_law_stands" = some (some (.ref f__law_stands)))
    (l__law_stands : K.lookup f__law_stands = some ⟨oc__law_stands, od__law_stands, .func (PySem.W.fnOf "_law_stands" "_law_stands" (defArgs s__law_stands) (defBody s__law_stands) (defScope s__law_stands) .none kV__law_stands dc__law_stands pm__law_stands an__law_stands cd__law_stands ct__law_stands), sl__law_stands⟩)
    (d__law_stands : PySem.W.codeIn K cd__law_stands "_law_stands" = true)
    (k__law_stands : PySem.W.keepIn K (.ref f__law_stands) = true)
    (g__law_stepped : PySem.W.nsIn K mainGlobals "_law_stepped" = some (some (.ref f__law_stepped)))
    (l__law_stepped : K.lookup f__law_stepped = some ⟨oc__law_stepped, od__law_stepped, .func (PySem.W.fnOf "_law_stepped" "_law_stepped" (defArgs s__law_stepped) (defBody s__law_stepped) (defScope s__law_stepped) .none kV__law_stepped dc__law_stepped pm__law_stepped an__law_stepped cd__law_stepped ct__law_stepped), sl__law_stepped⟩)
    (d__law_stepped : PySem.W.codeIn K cd__law_stepped "_law_stepped" = true)
    (k__law_stepped : PySem.W.keepIn K (.ref f__law_stepped) = true)
    (g_law : PySem.W.nsIn K mainGlobals "law" = some (some (.ref f_law)))
    (l_law : K.lookup f_law = some ⟨oc_law, od_law, .func (PySem.W.fnOf "law" "law" (defArgs s_law) (defBody s_law) (defScope s_law) .none kV_law dc_law pm_law an_law cd_law ct_law), sl_law⟩)
    (d_law : PySem.W.codeIn K cd_law "law" = true)
    (k_law : PySem.W.keepIn K (.ref f_law) = true)
    (v_MOST_SLOTS : PySem.W.nsIn K mainGlobals "MOST_SLOTS" = some (some (.int (8) t_MOST_SLOTS)))
    (v_NAMES_IN_FRAME : PySem.W.nsIn K mainGlobals "NAMES_IN_FRAME" = some (some (.int (7) t_NAMES_IN_FRAME)))
    (v_NEXT_SLOT : PySem.W.nsIn K mainGlobals "NEXT_SLOT" = some (some (.int (7) t_NEXT_SLOT)))
    (kihn : PySem.W.specialIn K (.builtin "object.__class__") "__get__" = some (some (.builtin "getset_descriptor.__get__")))
    (kitk : PySem.W.takesIn K (.builtin "object.__class__") = some true)
    (kt_NoneType_int : PySem.W.kitOne K (.type "NoneType") (.type "int") = some false)
    (kt_NoneType_bool : PySem.W.kitOne K (.type "NoneType") (.type "bool") = some false)
    (kt_NoneType_list : PySem.W.kitOne K (.type "NoneType") (.type "list") = some false)
    (kt_NoneType_tuple : PySem.W.kitOne K (.type "NoneType") (.type "tuple") = some false)
    (kt_bool_int : PySem.W.kitOne K (.type "bool") (.type "int") = some true)
    (kt_bool_bool : PySem.W.kitOne K (.type "bool") (.type "bool") = some true)
    (kt_bool_list : PySem.W.kitOne K (.type "bool") (.type "list") = some false)
    (kt_bool_tuple : PySem.W.kitOne K (.type "bool") (.type "tuple") = some false)
    (kt_int_int : PySem.W.kitOne K (.type "int") (.type "int") = some true)
    (kt_int_bool : PySem.W.kitOne K (.type "int") (.type "bool") = some false)
    (kt_int_list : PySem.W.kitOne K (.type "int") (.type "list") = some false)
    (kt_int_tuple : PySem.W.kitOne K (.type "int") (.type "tuple") = some false)
    (kt_str_int : PySem.W.kitOne K (.type "str") (.type "int") = some false)
    (kt_str_bool : PySem.W.kitOne K (.type "str") (.type "bool") = some false)
    (kt_str_list : PySem.W.kitOne K (.type "str") (.type "list") = some false)
    (kt_str_tuple : PySem.W.kitOne K (.type "str") (.type "tuple") = some false)
    (kt_list_int : PySem.W.kitOne K (.type "list") (.type "int") = some false)
    (kt_list_bool : PySem.W.kitOne K (.type "list") (.type "bool") = some false)
    (kt_list_list : PySem.W.kitOne K (.type "list") (.type "list") = some true)
    (kt_list_tuple : PySem.W.kitOne K (.type "list") (.type "tuple") = some false)
    (kt_tuple_int : PySem.W.kitOne K (.type "tuple") (.type "int") = some false)
    (kt_tuple_bool : PySem.W.kitOne K (.type "tuple") (.type "bool") = some false)
    (kt_tuple_list : PySem.W.kitOne K (.type "tuple") (.type "list") = some false)
    (kt_tuple_tuple : PySem.W.kitOne K (.type "tuple") (.type "tuple") = some true)
    (kt_dict_int : PySem.W.kitOne K (.type "dict") (.type "int") = some false)
    (kt_dict_bool : PySem.W.kitOne K (.type "dict") (.type "bool") = some false)
    (kt_dict_list : PySem.W.kitOne K (.type "dict") (.type "list") = some false)
    (kt_dict_tuple : PySem.W.kitOne K (.type "dict") (.type "tuple") = some false)
    (n_bool : PySem.W.nsIn K mainGlobals "bool" = some none)
    (n_enumerate : PySem.W.nsIn K mainGlobals "enumerate" = some none)
    (n_int : PySem.W.nsIn K mainGlobals "int" = some none)
    (n_isinstance : PySem.W.nsIn K mainGlobals "isinstance" = some none)
    (n_len : PySem.W.nsIn K mainGlobals "len" = some none)
    (n_list : PySem.W.nsIn K mainGlobals "list" = some none)
    (n_min : PySem.W.nsIn K mainGlobals "min" = some none)
    (n_range : PySem.W.nsIn K mainGlobals "range" = some none)
    (n_tuple : PySem.W.nsIn K mainGlobals "tuple" = some none)
    : ∃ fd : FuncData, (∀ (s : Shared) (v : Value), BindsTo s fd ⟨[v], []⟩ [("_law_script", v)]) ∧ ∀ base : Heap, K.In base → base.Ns mainGlobals mg → FnOk l.prog w K mg base (CXE l.prog w) true 7 fa fd ["_law_script"] (sp_law K) := by
  have e := hfa.symm.trans (PySem.W.mg_of X G g_law)
  cases e
  let A : Ad := ⟨f_begun, (PySem.W.fnOf "begun" "begun" (defArgs s_begun) (defBody s_begun) (defScope s_begun) .none kV_begun dc_begun pm_begun an_begun cd_begun ct_begun), f_holder, (PySem.W.fnOf "holder" "holder" (defArgs s_holder) (defBody s_holder) (defScope s_holder) .none kV_holder dc_holder pm_holder an_holder cd_holder ct_holder), f_frame_of, (PySem.W.fnOf "frame_of" "frame_of" (defArgs s_frame_of) (defBody s_frame_of) (defScope s_frame_of) .none kV_frame_of dc_frame_of pm_frame_of an_frame_of cd_frame_of ct_frame_of), f_slot_of, (PySem.W.fnOf "slot_of" "slot_of" (defArgs s_slot_of) (defBody s_slot_of) (defScope s_slot_of) .none kV_slot_of dc_slot_of pm_slot_of an_slot_of cd_slot_of ct_slot_of), f__law_cell_at, (PySem.W.fnOf "_law_cell_at" "_law_cell_at" (defArgs s__law_cell_at) (defBody s__law_cell_at) (defScope s__law_cell_at) .none kV__law_cell_at dc__law_cell_at pm__law_cell_at an__law_cell_at cd__law_cell_at ct__law_cell_at), f__law_next, (PySem.W.fnOf "_law_next" "_law_next" (defArgs s__law_next) (defBody s__law_next) (defScope s__law_next) .none kV__law_next dc__law_next pm__law_next an__law_next cd__law_next ct__law_next), f__law_is_hand, (PySem.W.fnOf "_law_is_hand" "_law_is_hand" (defArgs s__law_is_hand) (defBody s__law_is_hand) (defScope s__law_is_hand) .none kV__law_is_hand dc__law_is_hand pm__law_is_hand an__law_is_hand cd__law_is_hand ct__law_is_hand), f__law_cells, (PySem.W.fnOf "_law_cells" "_law_cells" (defArgs s__law_cells) (defBody s__law_cells) (defScope s__law_cells) .none kV__law_cells dc__law_cells pm__law_cells an__law_cells cd__law_cells ct__law_cells), f__law_due, (PySem.W.fnOf "_law_due" "_law_due" (defArgs s__law_due) (defBody s__law_due) (defScope s__law_due) .none kV__law_due dc__law_due pm__law_due an__law_due cd__law_due ct__law_due), f_walked, (PySem.W.fnOf "walked" "walked" (defArgs s_walked) (defBody s_walked) (defScope s_walked) .none kV_walked dc_walked pm_walked an_walked cd_walked ct_walked), f__law_names, (PySem.W.fnOf "_law_names" "_law_names" (defArgs s__law_names) (defBody s__law_names) (defScope s__law_names) .none kV__law_names dc__law_names pm__law_names an__law_names cd__law_names ct__law_names), f__law_slots, (PySem.W.fnOf "_law_slots" "_law_slots" (defArgs s__law_slots) (defBody s__law_slots) (defScope s__law_slots) .none kV__law_slots dc__law_slots pm__law_slots an__law_slots cd__law_slots ct__law_slots), f__law_statement, (PySem.W.fnOf "_law_statement" "_law_statement" (defArgs s__law_statement) (defBody s__law_statement) (defScope s__law_statement) .none kV__law_statement dc__law_statement pm__law_statement an__law_statement cd__law_statement ct__law_statement), f_loaded, (PySem.W.fnOf "loaded" "loaded" (defArgs s_loaded) (defBody s_loaded) (defScope s_loaded) .none kV_loaded dc_loaded pm_loaded an_loaded cd_loaded ct_loaded), f_stored, (PySem.W.fnOf "stored" "stored" (defArgs s_stored) (defBody s_stored) (defScope s_stored) .none kV_stored dc_stored pm_stored an_stored cd_stored ct_stored), f__law_deed, (PySem.W.fnOf "_law_deed" "_law_deed" (defArgs s__law_deed) (defBody s__law_deed) (defScope s__law_deed) .none kV__law_deed dc__law_deed pm__law_deed an__law_deed cd__law_deed ct__law_deed), f_deeds_behind, (PySem.W.fnOf "deeds_behind" "deeds_behind" (defArgs s_deeds_behind) (defBody s_deeds_behind) (defScope s_deeds_behind) .none kV_deeds_behind dc_deeds_behind pm_deeds_behind an_deeds_behind cd_deeds_behind ct_deeds_behind), f__law_all, (PySem.W.fnOf "_law_all" "_law_all" (defArgs s__law_all) (defBody s__law_all) (defScope s__law_all) .none kV__law_all dc__law_all pm__law_all an__law_all cd__law_all ct__law_all), f_deeds_of, (PySem.W.fnOf "deeds_of" "deeds_of" (defArgs s_deeds_of) (defBody s_deeds_of) (defScope s_deeds_of) .none kV_deeds_of dc_deeds_of pm_deeds_of an_deeds_of cd_deeds_of ct_deeds_of), f__law_stands, (PySem.W.fnOf "_law_stands" "_law_stands" (defArgs s__law_stands) (defBody s__law_stands) (defScope s__law_stands) .none kV__law_stands dc__law_stands pm__law_stands an__law_stands cd__law_stands ct__law_stands), f__law_stepped, (PySem.W.fnOf "_law_stepped" "_law_stepped" (defArgs s__law_stepped) (defBody s__law_stepped) (defScope s__law_stepped) .none kV__law_stepped dc__law_stepped pm__law_stepped an__law_stepped cd__law_stepped ct__law_stepped), fa, (PySem.W.fnOf "law" "law" (defArgs s_law) (defBody s_law) (defScope s_law) .none kV_law dc_law pm_law an_law cd_law ct_law)⟩
  have T : Txt K mg A := {
    g_begun := PySem.W.mg_of X G g_begun,
    fn_begun := fun_mk (st := s_begun) l_begun d_begun k_begun,
    b_begun := (fun_mk (st := s_begun) l_begun d_begun k_begun).binds (ps := ["names"]) fun _ _ _ _ _ _ us hl => match us, hl with | [_], _ => rfl,
    g_holder := PySem.W.mg_of X G g_holder,
    fn_holder := fun_mk (st := s_holder) l_holder d_holder k_holder,
    b_holder := (fun_mk (st := s_holder) l_holder d_holder k_holder).binds (ps := ["frame", "hand"]) fun _ _ _ _ _ _ us hl => match us, hl with | [_, _], _ => rfl,
    g_frame_of := PySem.W.mg_of X G g_frame_of,
    fn_frame_of := fun_mk (st := s_frame_of) l_frame_of d_frame_of k_frame_of,
    b_frame_of := (fun_mk (st := s_frame_of) l_frame_of d_frame_of k_frame_of).binds (ps := ["names", "name"]) fun _ _ _ _ _ _ us hl => match us, hl with | [_, _], _ => rfl,
    g_slot_of := PySem.W.mg_of X G g_slot_of,
    fn_slot_of := fun_mk (st := s_slot_of) l_slot_of d_slot_of k_slot_of,
    b_slot_of := (fun_mk (st := s_slot_of) l_slot_of d_slot_of k_slot_of).binds (ps := ["names", "name"]) fun _ _ _ _ _ _ us hl => match us, hl with | [_, _], _ => rfl,
    g__law_cell_at := PySem.W.mg_of X G g__law_cell_at,
    fn__law_cell_at := fun_mk (st := s__law_cell_at) l__law_cell_at d__law_cell_at k__law_cell_at,
    b__law_cell_at := (fun_mk (st := s__law_cell_at) l__law_cell_at d__law_cell_at k__law_cell_at).binds (ps := ["_law_script", "_law_k"]) fun _ _ _ _ _ _ us hl => match us, hl with | [_, _], _ => rfl,
    g__law_next := PySem.W.mg_of X G g__law_next,
    fn__law_next := fun_mk (st := s__law_next) l__law_next d__law_next k__law_next,
    b__law_next := (fun_mk (st := s__law_next) l__law_next d__law_next k__law_next).binds (ps := ["_law_seed"]) fun _ _ _ _ _ _ us hl => match us, hl with | [_], _ => rfl,
    g__law_is_hand := PySem.W.mg_of X G g__law_is_hand,
    fn__law_is_hand := fun_mk (st := s__law_is_hand) l__law_is_hand d__law_is_hand k__law_is_hand,
    b__law_is_hand := (fun_mk (st := s__law_is_hand) l__law_is_hand d__law_is_hand k__law_is_hand).binds (ps := ["_law_thing"]) fun _ _ _ _ _ _ us hl => match us, hl with | [_], _ => rfl,
    g__law_cells := PySem.W.mg_of X G g__law_cells,
    fn__law_cells := fun_mk (st := s__law_cells) l__law_cells d__law_cells k__law_cells,
    b__law_cells := (fun_mk (st := s__law_cells) l__law_cells d__law_cells k__law_cells).binds (ps := ["_law_s", "_law_due_here"]) fun _ _ _ _ _ _ us hl => match us, hl with | [_, _], _ => rfl,
    g__law_due := PySem.W.mg_of X G g__law_due,
    fn__law_due := fun_mk (st := s__law_due) l__law_due d__law_due k__law_due,
    b__law_due := (fun_mk (st := s__law_due) l__law_due d__law_due k__law_due).binds (ps := ["_law_s", "_law_names_here", "_law_due_here", "_law_statement_here"]) fun _ _ _ _ _ _ us hl => match us, hl with | [_, _, _, _], _ => rfl,
    g_walked := PySem.W.mg_of X G g_walked,
    fn_walked := fun_mk (st := s_walked) l_walked d_walked k_walked,
    b_walked := (fun_mk (st := s_walked) l_walked d_walked k_walked).binds (ps := ["frame", "hand"]) fun _ _ _ _ _ _ us hl => match us, hl with | [_, _], _ => rfl,
    g__law_names := PySem.W.mg_of X G g__law_names,
    fn__law_names := fun_mk (st := s__law_names) l__law_names d__law_names k__law_names,
    b__law_names := (fun_mk (st := s__law_names) l__law_names d__law_names k__law_names).binds (ps := ["_law_script"]) fun _ _ _ _ _ _ us hl => match us, hl with | [_], _ => rfl,
    g__law_slots := PySem.W.mg_of X G g__law_slots,
    fn__law_slots := fun_mk (st := s__law_slots) l__law_slots d__law_slots k__law_slots,
    b__law_slots := (fun_mk (st := s__law_slots) l__law_slots d__law_slots k__law_slots).binds (ps := ["_law_s", "_law_hand", "_law_slot"]) fun _ _ _ _ _ _ us hl => match us, hl with | [_, _, _], _ => rfl,
    g__law_statement := PySem.W.mg_of X G g__law_statement,
    fn__law_statement := fun_mk (st := s__law_statement) l__law_statement d__law_statement k__law_statement,
    b__law_statement := (fun_mk (st := s__law_statement) l__law_statement d__law_statement k__law_statement).binds (ps := ["_law_s", "_law_names_here", "_law_due_here", "_law_seed"]) fun _ _ _ _ _ _ us hl => match us, hl with | [_, _, _, _], _ => rfl,
    g_loaded := PySem.W.mg_of X G g_loaded,
    fn_loaded := fun_mk (st := s_loaded) l_loaded d_loaded k_loaded,
    b_loaded := (fun_mk (st := s_loaded) l_loaded d_loaded k_loaded).binds (ps := ["names", "name", "hand"]) fun _ _ _ _ _ _ us hl => match us, hl with | [_, _, _], _ => rfl,
    g_stored := PySem.W.mg_of X G g_stored,
    fn_stored := fun_mk (st := s_stored) l_stored d_stored k_stored,
    b_stored := (fun_mk (st := s_stored) l_stored d_stored k_stored).binds (ps := ["names", "name"]) fun _ _ _ _ _ _ us hl => match us, hl with | [_, _], _ => rfl,
    g__law_deed := PySem.W.mg_of X G g__law_deed,
    fn__law_deed := fun_mk (st := s__law_deed) l__law_deed d__law_deed k__law_deed,
    b__law_deed := (fun_mk (st := s__law_deed) l__law_deed d__law_deed k__law_deed).binds (ps := ["_law_s", "_law_deed_here"]) fun _ _ _ _ _ _ us hl => match us, hl with | [_, _], _ => rfl,
    g_deeds_behind := PySem.W.mg_of X G g_deeds_behind,
    fn_deeds_behind := fun_mk (st := s_deeds_behind) l_deeds_behind d_deeds_behind k_deeds_behind,
    b_deeds_behind := (fun_mk (st := s_deeds_behind) l_deeds_behind d_deeds_behind k_deeds_behind).binds (ps := ["names", "statement"]) fun _ _ _ _ _ _ us hl => match us, hl with | [_, _], _ => rfl,
    g__law_all := PySem.W.mg_of X G g__law_all,
    fn__law_all := fun_mk (st := s__law_all) l__law_all d__law_all k__law_all,
    b__law_all := (fun_mk (st := s__law_all) l__law_all d__law_all k__law_all).binds (ps := ["_law_s", "_law_deeds"]) fun _ _ _ _ _ _ us hl => match us, hl with | [_, _], _ => rfl,
    g_deeds_of := PySem.W.mg_of X G g_deeds_of,
    fn_deeds_of := fun_mk (st := s_deeds_of) l_deeds_of d_deeds_of k_deeds_of,
    b_deeds_of := (fun_mk (st := s_deeds_of) l_deeds_of d_deeds_of k_deeds_of).binds (ps := ["names", "statement"]) fun _ _ _ _ _ _ us hl => match us, hl with | [_, _], _ => rfl,
    g__law_stands := PySem.W.mg_of X G g__law_stands,
    fn__law_stands := fun_mk (st := s__law_stands) l__law_stands d__law_stands k__law_stands,
    b__law_stands := (fun_mk (st := s__law_stands) l__law_stands d__law_stands k__law_stands).binds (ps := ["_law_s", "_law_names_here", "_law_due_here"]) fun _ _ _ _ _ _ us hl => match us, hl with | [_, _, _], _ => rfl,
    g__law_stepped := PySem.W.mg_of X G g__law_stepped,
    fn__law_stepped := fun_mk (st := s__law_stepped) l__law_stepped d__law_stepped k__law_stepped,
    b__law_stepped := (fun_mk (st := s__law_stepped) l__law_stepped d__law_stepped k__law_stepped).binds (ps := ["_law_s", "_law_names_here", "_law_due_here", "_law_statement_here"]) fun _ _ _ _ _ _ us hl => match us, hl with | [_, _, _, _], _ => rfl,
    g_law := PySem.W.mg_of X G g_law,
    fn_law := fun_mk (st := s_law) l_law d_law k_law,
    b_law := (fun_mk (st := s_law) l_law d_law k_law).binds (ps := ["_law_script"]) fun _ _ _ _ _ _ us hl => match us, hl with | [_], _ => rfl,
    v_MOST_SLOTS := ⟨_, PySem.W.mg_of X G v_MOST_SLOTS, ⟨_, rfl⟩⟩,
    v_NAMES_IN_FRAME := ⟨_, PySem.W.mg_of X G v_NAMES_IN_FRAME, ⟨_, rfl⟩⟩,
    v_NEXT_SLOT := ⟨_, PySem.W.mg_of X G v_NEXT_SLOT, ⟨_, rfl⟩⟩,
    kt_NoneType_int := kt_NoneType_int,
    kt_NoneType_bool := kt_NoneType_bool,
    kt_NoneType_list := kt_NoneType_list,
    kt_NoneType_tuple := kt_NoneType_tuple,
    kt_bool_int := kt_bool_int,
    kt_bool_bool := kt_bool_bool,
    kt_bool_list := kt_bool_list,
    kt_bool_tuple := kt_bool_tuple,
    kt_int_int := kt_int_int,
    kt_int_bool := kt_int_bool,
    kt_int_list := kt_int_list,
    kt_int_tuple := kt_int_tuple,
    kt_str_int := kt_str_int,
    kt_str_bool := kt_str_bool,
    kt_str_list := kt_str_list,
    kt_str_tuple := kt_str_tuple,
    kt_list_int := kt_list_int,
    kt_list_bool := kt_list_bool,
    kt_list_list := kt_list_list,
    kt_list_tuple := kt_list_tuple,
    kt_tuple_int := kt_tuple_int,
    kt_tuple_bool := kt_tuple_bool,
    kt_tuple_list := kt_tuple_list,
    kt_tuple_tuple := kt_tuple_tuple,
    kt_dict_int := kt_dict_int,
    kt_dict_bool := kt_dict_bool,
    kt_dict_list := kt_dict_list,
    kt_dict_tuple := kt_dict_tuple,
    n_bool := PySem.W.mg_none_of X G n_bool,
    n_enumerate := PySem.W.mg_none_of X G n_enumerate,
    n_int := PySem.W.mg_none_of X G n_int,
    n_isinstance := PySem.W.mg_none_of X G n_isinstance,
    n_len := PySem.W.mg_none_of X G n_len,
    n_list := PySem.W.mg_none_of X G n_list,
    n_min := PySem.W.mg_none_of X G n_min,
    n_range := PySem.W.mg_none_of X G n_range,
    n_tuple := PySem.W.mg_none_of X G n_tuple }
  exact ⟨_, fun s v => .of_eq rfl, fun base _ _ => ok_law T⟩
theorem walk {l : PySem.W.OpenLaw} {q : Program} {loose : List Str} {XP : (Str → Option Value) → Heap → Prop} {YP : World → Heap → Prop} {d : DefRec} {K : Params → PySem.W.Frag} (hn : l.most = some 63) (hdf : d.params.defaults = [])
    (hY : ∀ (w : World) (h : Heap), YP w h → (K w.params).In h)
    (F : ∀ (w : World) (mg : Str → Option Value) (fa : Addr) (h : Heap), (K w.params).In h → h.Ns mainGlobals mg → mg d.name = some (.ref fa) →
      ∃ fd : FuncData, (∀ (s : Shared) (u : Value), BindsTo s fd ⟨[u], []⟩ [("_law_script", u)]) ∧ ∀ base : Heap, (K w.params).In base → base.Ns mainGlobals mg → FnOk l.prog w (K w.params) mg base (CXE l.prog w) true 7 fa fd ["_law_script"] (sp_law (K w.params))) :
    PySem.W.WalkO q loose XP YP l.row.toRowW d [] (fun f vs => PySem.call f vs) :=
  L2.walk_of (n := 63) (k := 7) (x := "_law_script") (ca := true) (CX := fun w => CXE l.prog w) (sp := fun w => sp_law (K w.params)) hn (by decide) hdf ⟨fun _ => rfl, by decide, by decide⟩ hY F (fun _ _ a ns hl _ hS => ⟨a, ns, rfl, hS, hl, fun _ => rfl⟩)
    fun _ _ _ _ _ ⟨_, _, _, _, _, _, _, _, _, _, _, _, z⟩ => z
theorem walkZ {l : PySem.W.OpenLaw} {q : Program} {loose : List Str} {XP : (Str → Option Value) → Heap → Prop} {d : DefRec} {K : Params → PySem.W.Frag} (hn : l.most = some 63) (hdf : d.params.defaults = [])
    (F : ∀ (w : World) (mg : Str → Option Value) (fa : Addr) (h : Heap), (K w.params).In h → h.Ns mainGlobals mg → mg d.name = some (.ref fa) →
      ∃ fd : FuncData, (∀ (s : Shared) (u : Value), BindsTo s fd ⟨[u], []⟩ [("_law_script", u)]) ∧ ∀ base : Heap, (K w.params).In base → base.Ns mainGlobals mg → FnOk l.prog w (K w.params) mg base (CXE l.prog w) true 7 fa fd ["_law_script"] (sp_law (K w.params))) :
    PySem.W.WalkO q loose XP (PySem.W.InK K) l.row.toRowW d [] (fun f vs => PySem.call f vs) := walk hn hdf (fun _ _ Y => Y) F
end
end K29
def PySem.W.Fast.tw14529267764400293602 : Unit := ()
def PySem.W.Fast.tw18401002687776047411 : Unit := ()
def PySem.W.Fast.tw7195622541216927705 : Unit := ()
def PySem.W.Fast.tw3824098255153318218 : Unit := ()
def PySem.W.Fast.tw15555181865392513957 : Unit := ()
def PySem.W.Fast.tw13669557483353542407 : Unit := ()
open PySem PySem.W PySem.W.X PySem.W.ZRun PyProof.Rows
set_option maxRecDepth 100000 in
set_option maxHeartbeats 0 in
theorem PySem.Challenge.cw_cellkeep_k29_frames_holds : PySem.Challenge.rw_cellkeep_k29_frames.Holds := by
  w_on; o_law; z_head; (case hw => w_witness2)
  k_fill
  intro w s₀ s₁ mg mb G y fa o pm cd doc dV kV ho hd hcd hD hmg hg args vals as L hpre hlay hrd hwl hlo
  z_open y L KX ZH ZN ZT
  refine K29.walkZ (l := PySem.Challenge.rw_cellkeep_k29_frames) rfl rfl ?F w s₀ s₁ mg mb G KX fa o pm cd doc dV kV ho hd hcd hD hmg hg args vals as hpre hlay hrd hwl hlo
  case F =>
    intro w mg fa h KX G hmg
    refine' K29.all_mk KX G hmg ?g_begun ?l_begun ?d_begun ?k_begun ?g_holder ?l_holder ?d_holder ?k_holder ?g_frame_of ?l_frame_of ?d_frame_of ?k_frame_of ?g_slot_of ?l_slot_of ?d_slot_of ?k_slot_of ?g__law_cell_at ?l__law_cell_at ?d__law_cell_at ?k__law_cell_at ?g__law_next ?l__law_next ?d__law_next ?k__law_next ?g__law_is_hand ?l__law_is_hand ?d__law_is_hand ?k__law_is_hand ?g__law_cells ?l__law_cells ?d__law_cells ?k__law_cells ?g__law_due ?l__law_due ?d__law_due ?k__law_due ?g_walked ?l_walked ?d_walked ?k_walked ?g__law_names ?l__law_names ?d__law_names ?k__law_names ?g__law_slots ?l__law_slots ?d__law_slots ?k__law_slots ?g__law_statement ?l__law_statement ?d__law_statement ?k__law_statement ?g_loaded ?l_loaded ?d_loaded ?k_loaded ?g_stored ?l_stored ?d_stored ?k_stored ?g__law_deed ?l__law_deed ?d__law_deed ?k__law_deed ?g_deeds_behind ?l_deeds_behind ?d_deeds_behind ?k_deeds_behind ?g__law_all ?l__law_all ?d__law_all ?k__law_all ?g_deeds_of ?l_deeds_of ?d_deeds_of ?k_deeds_of ?g__law_stands ?l__law_stands ?d__law_stands ?k__law_stands ?g__law_stepped ?l__law_stepped ?d__law_stepped ?k__law_stepped ?g_law ?l_law ?d_law ?k_law ?v_MOST_SLOTS ?v_NAMES_IN_FRAME ?v_NEXT_SLOT ?kihn ?kitk ?kt_NoneType_int ?kt_NoneType_bool ?kt_NoneType_list ?kt_NoneType_tuple ?kt_bool_int ?kt_bool_bool ?kt_bool_list ?kt_bool_tuple ?kt_int_int ?kt_int_bool ?kt_int_list ?kt_int_tuple ?kt_str_int ?kt_str_bool ?kt_str_list ?kt_str_tuple ?kt_list_int ?kt_list_bool ?kt_list_list ?kt_list_tuple ?kt_tuple_int ?kt_tuple_bool ?kt_tuple_list ?kt_tuple_tuple ?kt_dict_int ?kt_dict_bool ?kt_dict_list ?kt_dict_tuple ?n_bool ?n_enumerate ?n_int ?n_isinstance ?n_len ?n_list ?n_min ?n_range ?n_tuple
    (case g_begun => k_is)
    (case l_begun => k_is)
    (case d_begun => k_is)
    (case k_begun => k_is)
    (case g_holder => k_is)
    (case l_holder => k_is)
    (case d_holder => k_is)
    (case k_holder => k_is)
    (case g_frame_of => k_is)
    (case l_frame_of => k_is)
    (case d_frame_of => k_is)
    (case k_frame_of => k_is)
    (case g_slot_of => k_is)
    (case l_slot_of => k_is)
    (case d_slot_of => k_is)
    (case k_slot_of => k_is)
    (case g__law_cell_at => k_is)
    (case l__law_cell_at => k_is)
    (case d__law_cell_at => k_is)
    (case k__law_cell_at => k_is)
    (case g__law_next => k_is)
    (case l__law_next => k_is)
    (case d__law_next => k_is)
    (case k__law_next => k_is)
    (case g__law_is_hand => k_is)
    (case l__law_is_hand => k_is)
    (case d__law_is_hand => k_is)
    (case k__law_is_hand => k_is)
    (case g__law_cells => k_is)
    (case l__law_cells => k_is)
    (case d__law_cells => k_is)
    (case k__law_cells => k_is)
    (case g__law_due => k_is)
    (case l__law_due => k_is)
    (case d__law_due => k_is)
    (case k__law_due => k_is)
    (case g_walked => k_is)
    (case l_walked => k_is)
    (case d_walked => k_is)
    (case k_walked => k_is)
    (case g__law_names => k_is)
    (case l__law_names => k_is)
    (case d__law_names => k_is)
    (case k__law_names => k_is)
    (case g__law_slots => k_is)
    (case l__law_slots => k_is)
    (case d__law_slots => k_is)
    (case k__law_slots => k_is)
    (case g__law_statement => k_is)
    (case l__law_statement => k_is)
    (case d__law_statement => k_is)
    (case k__law_statement => k_is)
    (case g_loaded => k_is)
    (case l_loaded => k_is)
    (case d_loaded => k_is)
    (case k_loaded => k_is)
    (case g_stored => k_is)
    (case l_stored => k_is)
    (case d_stored => k_is)
    (case k_stored => k_is)
    (case g__law_deed => k_is)
    (case l__law_deed => k_is)
    (case d__law_deed => k_is)
    (case k__law_deed => k_is)
    (case g_deeds_behind => k_is)
    (case l_deeds_behind => k_is)
    (case d_deeds_behind => k_is)
    (case k_deeds_behind => k_is)
    (case g__law_all => k_is)
    (case l__law_all => k_is)
    (case d__law_all => k_is)
    (case k__law_all => k_is)
    (case g_deeds_of => k_is)
    (case l_deeds_of => k_is)
    (case d_deeds_of => k_is)
    (case k_deeds_of => k_is)
    (case g__law_stands => k_is)
    (case l__law_stands => k_is)
    (case d__law_stands => k_is)
    (case k__law_stands => k_is)
    (case g__law_stepped => k_is)
    (case l__law_stepped => k_is)
    (case d__law_stepped => k_is)
    (case k__law_stepped => k_is)
    (case g_law => k_is)
    (case l_law => k_is)
    (case d_law => k_is)
    (case k_law => k_is)
    (case v_MOST_SLOTS => k_is)
    (case v_NAMES_IN_FRAME => k_is)
    (case v_NEXT_SLOT => k_is)
    (case kihn => k_is)
    (case kitk => k_is)
    (case kt_NoneType_int => kit_is)
    (case kt_NoneType_bool => kit_is)
    (case kt_NoneType_list => kit_is)
    (case kt_NoneType_tuple => kit_is)
    (case kt_bool_int => kit_is)
    (case kt_bool_bool => kit_is)
    (case kt_bool_list => kit_is)
    (case kt_bool_tuple => kit_is)
    (case kt_int_int => kit_is)
    (case kt_int_bool => kit_is)
    (case kt_int_list => kit_is)
    (case kt_int_tuple => kit_is)
    (case kt_str_int => kit_is)
    (case kt_str_bool => kit_is)
    (case kt_str_list => kit_is)
    (case kt_str_tuple => kit_is)
    (case kt_list_int => kit_is)
    (case kt_list_bool => kit_is)
    (case kt_list_list => kit_is)
    (case kt_list_tuple => kit_is)
    (case kt_tuple_int => kit_is)
    (case kt_tuple_bool => kit_is)
    (case kt_tuple_list => kit_is)
    (case kt_tuple_tuple => kit_is)
    (case kt_dict_int => kit_is)
    (case kt_dict_bool => kit_is)
    (case kt_dict_list => kit_is)
    (case kt_dict_tuple => kit_is)
    (case n_bool => k_is)
    (case n_enumerate => k_is)
    (case n_int => k_is)
    (case n_isinstance => k_is)
    (case n_len => k_is)
    (case n_list => k_is)
    (case n_min => k_is)
    (case n_range => k_is)
    (case n_tuple => k_is)


