import PyProof.Rows.All
import Wide.All
import OpenK.AllK
import Wide.FinOn
import Lean
import PyProof.EqAt
import PyProof.EqKinds
import PyProof.TupleCall
import PySem.Challenge.RW_cellkeep_k22_notes
set_option Elab.async false
set_option linter.all false
set_option maxRecDepth 100000
set_option maxHeartbeats 4000000
/-! THE HAND LAYER, for ints, bools, texts, own classes, LISTS and tuples (index, slices, in, append, pop ..), calls, loops. Paste it whole ahead of your own text; what your proof does not reach may be deleted. -/
namespace L2
open PySem PySem.Spec PyProof.Rows

/-- a key: an int or a str -/
abbrev Key := Sum Int Str
def keyIs : Key → Value → Bool
  | .inl k, v => Value.isInt k v
  | .inr x, v => Value.isStrOf x v
def keyH (w : World) : Key → Int
  | .inl k => hashInt k
  | .inr x => hashStr w x
theorem keyIs_shape : ∀ {k : Key} {v : Value}, keyIs k v = true → (∃ i t, k = Sum.inl i ∧ v = Value.int i t) ∨ (∃ x t, k = Sum.inr x ∧ v = Value.str x t)
  | .inl i, v, h => by
    obtain ⟨t, e⟩ := Value.isInt_shape (k := i) (v := v) h
    exact .inl ⟨i, t, rfl, e⟩
  | .inr x, v, h => by
    obtain ⟨t, e⟩ := Value.isStrOf_shape (x := x) (v := v) h
    exact .inr ⟨x, t, rfl, e⟩
theorem key_ll (a b : Int) : decide ((Sum.inl a : Key) = Sum.inl b) = (a == b) := by
  by_cases e : a = b
  · subst e; simp
  · have h : ¬ (Sum.inl a : Key) = Sum.inl b := fun q => e (Sum.inl.inj q)
    rw [decide_eq_false h]
    exact (beq_eq_false_iff_ne.mpr e).symm
theorem key_rr (a b : Str) : decide ((Sum.inr a : Key) = Sum.inr b) = decide (a = b) := by
  by_cases e : a = b
  · subst e; simp
  · have h : ¬ (Sum.inr a : Key) = Sum.inr b := fun q => e (Sum.inr.inj q)
    rw [decide_eq_false h, decide_eq_false e]
theorem key_lr (a : Int) (b : Str) : decide ((Sum.inl a : Key) = Sum.inr b) = false := decide_eq_false (fun q => nomatch q)
theorem key_rl (a : Str) (b : Int) : decide ((Sum.inr a : Key) = Sum.inl b) = false := decide_eq_false (fun q => nomatch q)

def mixKind (prog : Program) (w : World) : PySem.KeyKind prog w Key where
  is := keyIs
  hash := keyH w
  inj := fun v a b ha hb => by
    rcases keyIs_shape ha with ⟨i, t, rfl, rfl⟩ | ⟨x, t, rfl, rfl⟩
    · rcases keyIs_shape hb with ⟨j, u, rfl, e⟩ | ⟨y, u, rfl, e⟩
      · injection e with e1 _; rw [e1]
      · exact nomatch e
    · rcases keyIs_shape hb with ⟨j, u, rfl, e⟩ | ⟨y, u, rfl, e⟩
      · exact nomatch e
      · injection e with e1 _; rw [e1]
  byValue := fun k v h => by
    rcases keyIs_shape h with ⟨i, t, rfl, rfl⟩ | ⟨x, t, rfl, rfl⟩ <;> rfl
  pyHash := fun hv h => by
    rcases keyIs_shape hv with ⟨i, t, rfl, rfl⟩ | ⟨x, t, rfl, rfl⟩
    · exact wpAny_pyHash_int h
    · exact wpAny_pyHash_str h
  eqBool := fun hu hv h => by
    rcases keyIs_shape hu with ⟨i, t, rfl, rfl⟩ | ⟨x, t, rfl, rfl⟩
    · rcases keyIs_shape hv with ⟨j, u, rfl, rfl⟩ | ⟨y, u, rfl, rfl⟩
      · rw [key_ll] at h; exact wpAny_eqBool_int h
      · rw [key_lr] at h; exact SeqAt.EqAt.int_str i t y u _ _ _ _ h
    · rcases keyIs_shape hv with ⟨j, u, rfl, rfl⟩ | ⟨y, u, rfl, rfl⟩
      · rw [key_rl] at h; exact SeqAt.EqAt.str_int x t j u _ _ _ _ h
      · rw [key_rr] at h; exact wpAny_eqBool_str h
  «strs» := fun k x t v h => by
    rcases keyIs_shape h with ⟨i, u, rfl, e⟩ | ⟨y, u, rfl, e⟩
    · exact nomatch e
    · injection e with e1 _
      subst e1
      cases v <;> rfl

end L2

namespace L2
open PySem PySem.Spec PyProof.Rows

/-- a value, without the heap -/
inductive V where
  | non | bl (b : Bool) | int (i : Int) | str (x : Str) | byt (b : Array UInt8) | flt (b : UInt64) | ref (a : Addr) | ty (n : String)
  deriving DecidableEq

def RelV : V → Value → Prop
  | .non, u => u = Value.none
  | .bl b, u => u = Value.bool b
  | .int i, u => ∃ t, u = Value.int i t
  | .str x, u => ∃ t, u = Value.str x t
  | .byt b, u => ∃ t, u = Value.bytes b t
  | .flt b, u => ∃ t, u = Value.float b t
  | .ref a, u => u = Value.ref a
  | .ty n, u => u = Value.type n

abbrev Vals : List V → List Value → Prop := Paired RelV
theorem Vals.length {xs : List V} {us : List Value} (r : Vals xs us) : xs.length = us.length := Paired.length r
theorem Vals.get : ∀ {xs : List V} {us : List Value} {i : Nat} {x : V}, Vals xs us → xs[i]? = some x → ∃ u, us[i]? = some u ∧ RelV x u
  | _, _, _, _, .nil, e => by simp at e
  | _, _, 0, _, .cons r _, e => by simp at e; subst e; exact ⟨_, rfl, r⟩
  | _, _, i + 1, x, .cons _ t, e => by
    obtain ⟨u, h1, h2⟩ := Vals.get (i := i) (x := x) t (by simpa using e)
    exact ⟨u, by simpa using h1, h2⟩
theorem Vals.set {x : V} {u : Value} (r : RelV x u) : ∀ {xs : List V} {us : List Value} (i : Nat), Vals xs us → Vals (xs.set i x) (us.set i u)
  | _, _, _, .nil => .nil
  | _, _, 0, .cons _ t => .cons r t
  | _, _, i + 1, .cons q t => .cons q (Vals.set r i t)
theorem Vals.append : ∀ {xs ys : List V} {us ws : List Value}, Vals xs us → Vals ys ws → Vals (xs ++ ys) (us ++ ws)
  | _, _, _, _, .nil, s => s
  | _, _, _, _, .cons r t, s => .cons r (Vals.append t s)
theorem Vals.take : ∀ {xs : List V} {us : List Value} (n : Nat), Vals xs us → Vals (xs.take n) (us.take n)
  | _, _, 0, _ => .nil
  | _, _, _ + 1, .nil => .nil
  | _, _, n + 1, .cons r t => .cons r (Vals.take n t)
theorem Vals.drop : ∀ {xs : List V} {us : List Value} (n : Nat), Vals xs us → Vals (xs.drop n) (us.drop n)
  | _, _, 0, r => r
  | _, _, _ + 1, .nil => .nil
  | _, _, n + 1, .cons _ t => Vals.drop n t
theorem Vals.none_of : ∀ {xs : List V} {us : List Value} {i : Nat}, Vals xs us → xs[i]? = none → us[i]? = none := fun {xs us i} r e => by
  have h1 := r.length
  have h2 : xs.length ≤ i := List.getElem?_eq_none_iff.mp e
  exact List.getElem?_eq_none_iff.mpr (by omega)

def RelO : Option V → Option Value → Prop
  | some v, some u => RelV v u
  | none, none => True
  | _, _ => False
def KV {κ : Type} : List (κ × V) → List (κ × Value) → Prop := Paired fun (p : κ × V) (q : κ × Value) => p.1 = q.1 ∧ RelV p.2 q.2

/-- a key of a dict (00_mix): an int or a text -/
def kV : Key → V
  | .inl i => .int i
  | .inr x => .str x

/-- what stands at a tracked address -/
inductive HO where
  /-- a list -/
  | lst (xs : List V)
  /-- a tuple (never changes) -/
  | tup (xs : List V)
  /-- a dict whose keys are ints and texts; one whose keys are tuples of ints and texts (the empty one is both) -/
  | dK (kvs : List (Key × V)) | dT (kvs : List (List Key × V))
  /-- a set of ints: its members, its size -/
  | set (S : Int → Bool) (n : Nat)
  /-- an instance of the class at C, its dict at dx, its attributes -/
  | ins (C dx : Addr) (fs : List (Str × V))
  /-- the dict of the instance at x -/
  | own (x : Addr)
  /-- the dict of an exception -/
  | xd (fs : List (Str × V))
  /-- a bound method, f of x -/
  | met (f x : Addr)
  /-- a range object lo, lo + 1, .. below hi -/
  | rng (lo hi : Int)
  /-- a thing that is known to the object (the script; a dict while a loop walks it): read, never written while it is so -/
  | frz (o : Obj) (u : HO)
  /-- a code object's table -/
  | tbl (ps : Array Value)
  /-- any other thing, by what is true of its one object (a def of one's own: SetO a S n := HO.ext fun h => ..) -/
  | ext (φ : Heap → Prop)
  /-- an exception that was caught, by its class -/
  | exc (cls : Value)

abbrev Hp := Addr → Option HO
def upd (H : Hp) (a : Addr) (o : HO) : Hp := fun b => if b = a then some o else H b
theorem upd_same {H : Hp} {a : Addr} {o : HO} : upd H a o a = some o := by unfold upd; rw [if_pos rfl]
theorem upd_ne {H : Hp} {a b : Addr} {o : HO} (h : b ≠ a) : upd H a o b = H b := by unfold upd; rw [if_neg h]
theorem ne_of_none {H : Hp} {a b : Addr} {o : HO} (h : H a = some o) (h' : H b = none) : a ≠ b := by
  intro e; subst e; rw [h] at h'; cases h'

section
variable (P : Program) (w : World)
def ObjOk (H : Hp) (h : Heap) (a : Addr) : HO → Prop
  | .lst xs => xs.length ≤ sizeLine ∧ ∃ (its : List Value) (n : Nat), Vals xs its ∧ h.get? a = some { cls := .type "list", data := .seq its.toArray n }
  | .tup xs => xs.length ≤ sizeLine ∧ ∃ its : List Value, Vals xs its ∧ IsTup h a its.toArray
  | .dK kvs => kvs.length ≤ sizeLine ∧ (a == sysModules) = false ∧ ∃ vs, KV kvs vs ∧ h.DictOf (mixKind P w) a vs
  | .dT kvs => kvs.length ≤ sizeLine ∧ (a == sysModules) = false ∧ ∃ xs : List (List Key × Addr × Value),
      Paired (fun (p : List Key × V) (q : List Key × Addr × Value) => p.1 = q.1 ∧ H q.2.1 = some (.tup (p.1.map kV)) ∧ RelV p.2 q.2.2) kvs xs ∧
      ∃ o es ep, h.get? a = some o ∧ o.ExactDict ∧ o.data = .dict es ep ∧ es.toList = xs.map (entryOfKey (tupleKind (mixKind P w))) ∧ (xs.map (·.1)).Nodup
  | .set S n => h.SetOf (intKind P w) a S n
  | .ins C dx fs => H dx = some (.own a) ∧ fs.length ≤ 1000 ∧ dx ≠ a ∧ h.get? a = some (PySem.W.instObj C dx) ∧
      ∃ mA, h.Ns1 dx mA ∧ (∀ f, RelO (fs.lookup f) (mA f)) ∧ PySem.Within mA (fs.map (·.1))
  | .own _ => ∃ o, h.get? a = some o
  | .xd fs => ∃ mA, h.Ns1 a mA ∧ ∀ f, RelO (fs.lookup f) (mA f)
  | .rng lo hi => ∃ t u v, h.get? a = some { cls := .type "range", data := .fields #[.int lo t, .int hi u, .int 1 v] }
  | .frz o u => h.get? a = some o ∧ ObjOk H h a u
  | .tbl ps => h.get? a = some { cls := .none, data := .fields ps }
  | .met f x => h.get? a = some (PySem.W.methodObj (.ref f) (.ref x))
  | .exc cls => ∃ o vs, h.get? a = some o ∧ o.cls = cls ∧ o.data = .fields vs
  | .ext φ => φ h ∧ (∃ o, h.get? a = some o) ∧ ∀ h1 h2 : Heap, φ h1 → (∀ o, h1.get? a = some o → h2.get? a = some o) → φ h2
/-- the abstract heap is held -/
def HOk (H : Hp) (h : Heap) : Prop := ∀ a o, H a = some o → ObjOk P w H h a o
end

section
variable {P : Program} {w : World} {H H' : Hp} {h h' : Heap} {a : Addr} {o : HO}
theorem ObjOk.lt (x : ObjOk P w H h a o) : a < h.objs.size := by
  cases o with
  | lst xs => obtain ⟨_, _, _, _, e⟩ := x; exact Heap.lt_size e
  | tup xs => obtain ⟨_, _, _, p⟩ := x; exact p.lt
  | dK kvs => obtain ⟨_, _, _, _, o, _, _, e, _⟩ := x; exact Heap.lt_size e
  | dT kvs => obtain ⟨_, _, _, _, o, _, _, e, _⟩ := x; exact Heap.lt_size e
  | set S n => obtain ⟨o, _, _, _, e, _⟩ := x; exact Heap.lt_size e
  | ins C dx fs => obtain ⟨_, _, _, e, _⟩ := x; exact Heap.lt_size e
  | own y => obtain ⟨_, e⟩ := x; exact Heap.lt_size e
  | xd fs => obtain ⟨_, ⟨_, _, _, e, _⟩, _⟩ := x; exact Heap.lt_size e
  | rng lo hi => obtain ⟨_, _, _, e⟩ := x; exact Heap.lt_size e
  | frz ob u => obtain ⟨e, _⟩ := x; exact Heap.lt_size e
  | tbl ps => exact Heap.lt_size (show h.get? a = some _ from x)
  | met f y => exact Heap.lt_size (show h.get? a = some _ from x)
  | ext φ => obtain ⟨_, ⟨_, e⟩, _⟩ := x; exact Heap.lt_size e
  | exc cls => obtain ⟨_, _, e, _⟩ := x; exact Heap.lt_size e
theorem Paired.mapP {α β : Type} {F G : α → β → Prop} : ∀ {l₁ : List α} {l₂ : List β}, Paired F l₁ l₂ → (∀ a b, F a b → G a b) → Paired G l₁ l₂
  | _, _, .nil, _ => .nil
  | _, _, .cons r t, f => .cons (f _ _ r) (Paired.mapP t f)
/-- what an object's description leans on: its own object, its own dict, the tuples -/
theorem ObjOk.stay (x : ObjOk P w H h a o) (k : ∀ b u, (b = a ∨ H b = some (.own a)) → h.get? b = some u → h'.get? b = some u)
    (ho : ∀ b, H b = some (.own a) → H' b = some (.own a)) (ht : ∀ b xs, H b = some (.tup xs) → H' b = some (.tup xs)) : ObjOk P w H' h' a o := by
  induction o with
  | lst xs => obtain ⟨z, its, n, r, e⟩ := x; exact ⟨z, its, n, r, k _ _ (.inl rfl) e⟩
  | tup xs => obtain ⟨z, its, r, ob, e, c⟩ := x; exact ⟨z, its, r, ob, k _ _ (.inl rfl) e, c⟩
  | dK kvs => obtain ⟨z, y, vs, r, ob, es, ep, e, c⟩ := x; exact ⟨z, y, vs, r, ob, es, ep, k _ _ (.inl rfl) e, c⟩
  | dT kvs =>
    obtain ⟨z, y, xs, r, ob, es, ep, e, c⟩ := x
    exact ⟨z, y, xs, Paired.mapP r fun p q z => ⟨z.1, ht _ _ z.2.1, z.2.2⟩, ob, es, ep, k _ _ (.inl rfl) e, c⟩
  | set S n => obtain ⟨ob, es, ep, t, e, c⟩ := x; exact ⟨ob, es, ep, t, k _ _ (.inl rfl) e, c⟩
  | ins C dx fs =>
    obtain ⟨d, z, ne, e, mA, ⟨od, es, ep, e2, c⟩, r⟩ := x
    exact ⟨ho _ d, z, ne, k _ _ (.inl rfl) e, mA, ⟨od, es, ep, k _ _ (.inr d) e2, c⟩, r⟩
  | own y => obtain ⟨ob, e⟩ := x; exact ⟨ob, k _ _ (.inl rfl) e⟩
  | xd fs => obtain ⟨mA, ⟨od, es, ep, e, c⟩, r⟩ := x; exact ⟨mA, ⟨od, es, ep, k _ _ (.inl rfl) e, c⟩, r⟩
  | rng lo hi => obtain ⟨t, u, v, e⟩ := x; exact ⟨t, u, v, k _ _ (.inl rfl) e⟩
  | frz ob u ih => obtain ⟨e, q⟩ := x; exact ⟨k _ _ (.inl rfl) e, ih q⟩
  | tbl ps =>
    have e : h.get? a = some { cls := .none, data := .fields ps } := x
    show h'.get? a = some { cls := .none, data := .fields ps }
    exact k a _ (.inl rfl) e
  | met f y =>
    have e : h.get? a = some (PySem.W.methodObj (.ref f) (.ref y)) := x
    show h'.get? a = some (PySem.W.methodObj (.ref f) (.ref y))
    exact k a _ (.inl rfl) e
  | exc cls => obtain ⟨o, vs, e, c⟩ := x; exact ⟨o, vs, k _ _ (.inl rfl) e, c⟩
  | ext φ => obtain ⟨p, ⟨o, e⟩, st⟩ := x; exact ⟨st _ _ p fun o q => k _ _ (.inl rfl) q, ⟨o, k _ _ (.inl rfl) e⟩, st⟩
theorem HOk.lt (x : HOk P w H h) (e : H a = some o) : a < h.objs.size := (x a o e).lt
theorem HOk.fresh (x : HOk P w H h) (e : h.objs.size ≤ a) : H a = none := by
  cases q : H a with
  | none => rfl
  | some u => exact absurd (Nat.lt_of_lt_of_le (x.lt q) e) (Nat.lt_irrefl _)
/-- every object of the heap is kept -/
theorem HOk.kept (x : HOk P w H h) (k : ∀ b u, h.get? b = some u → h'.get? b = some u) : HOk P w H h' := fun a o e =>
  (x a o e).stay (fun b u _ q => k b u q) (fun _ q => q) fun _ _ q => q
/-- a new object is laid and tracked -/
theorem HOk.laid (x : HOk P w H h) (k : ∀ b u, h.get? b = some u → h'.get? b = some u) (hp : h.objs.size ≤ a) (new : ObjOk P w (upd H a o) h' a o) : HOk P w (upd H a o) h' := fun b u e => by
  have hn := x.fresh hp
  by_cases hb : b = a
  · subst hb; rw [upd_same] at e; cases e; exact new
  · rw [upd_ne hb] at e
    exact (x b u e).stay (fun c v _ q => k c v q) (fun c q => by rw [upd_ne (ne_of_none q hn)]; exact q) fun c xs q => by rw [upd_ne (ne_of_none q hn)]; exact q
end

/-- what may be read as u: it is u, or a known u -/
def Rd (H : Hp) (a : Addr) (u : HO) : Prop := H a = some u ∨ ∃ o, H a = some (.frz o u)
theorem Rd.of {H : Hp} {a : Addr} {u : HO} (h : H a = some u) : Rd H a u := .inl h
theorem Rd.ok {P : Program} {w : World} {H : Hp} {h : Heap} {a : Addr} {u : HO} (r : Rd H a u) (x : HOk P w H h) : ObjOk P w H h a u := by
  rcases r with r | ⟨o, r⟩
  · exact x a u r
  · obtain ⟨_, q⟩ := x a _ r
    exact q
/-- what may be written -/
def Mut : Option HO → Prop
  | some (.lst _) => True
  | some (.dK _) => True
  | some (.dT _) => True
  | some (.set _ _) => True
  | some (.ins _ _ _) => True
  | some (.ext _) => True
  | _ => False
section
variable {P : Program} {w : World} {H : Hp} {h h' : Heap} {x e : Addr} {o' : HO}
/-- the object at e is changed: x itself, or the dict of the instance x -/
theorem HOk.write (ok : HOk P w H h) (mu : Mut (H x)) (he : e = x ∨ H e = some (.own x)) (k : ∀ b u, b ≠ e → h.get? b = some u → h'.get? b = some u) (heo : ∃ u, h'.get? e = some u)
    (new : ObjOk P w (upd H x o') h' x o') : HOk P w (upd H x o') h' := fun b u q => by
  have nown : ∀ c y, H c = some (.own y) → c ≠ x := fun c y r z => by subst z; rw [r] at mu; exact mu
  have ntup : ∀ c xs, H c = some (.tup xs) → c ≠ x := fun c xs r z => by subst z; rw [r] at mu; exact mu
  by_cases hb : b = x
  · subst hb; rw [upd_same] at q; cases q; exact new
  · rw [upd_ne hb] at q
    by_cases hbe : b = e
    · have q' : H b = some (.own x) := by
        rcases he with z | z
        · exact absurd (hbe.trans z) hb
        · rw [hbe]; exact z
      rw [q] at q'; cases q'
      obtain ⟨v, hv⟩ := heo
      exact ⟨v, by rw [hbe]; exact hv⟩
    · refine (ok b u q).stay (fun c v hc r => k c v ?_ r) (fun c r => by rw [upd_ne (nown c b r)]; exact r) fun c xs r => by rw [upd_ne (ntup c xs r)]; exact r
      rcases hc with rfl | hc
      · exact hbe
      · rintro rfl
        rcases he with z | z
        · exact nown c b hc z
        · rw [hc] at z; cases z; exact hb rfl
end

/-! ### kept unless tracked; of the frames at fs (the callers') the slots may change (an exception that passes writes there); of the records at ex (iterators) nothing is said -/
structure Un (fs ex : List Addr) (H H' : Hp) (h h' : Heap) : Prop where
  keep : ∀ b o, h.get? b = some o → H b = none → b ∉ fs → b ∉ ex → h'.get? b = some o
  slot : ∀ b o, h.get? b = some o → H b = none → b ∈ fs → b ∉ ex → ∃ sl, h'.get? b = some { o with slots := sl }
  free : ∀ b o, h.get? b = some o → H b = none → b ∉ ex → H' b = none
  there : ∀ b o, h.get? b = some o → b ∉ ex → ∃ o', h'.get? b = some o'
  tups : ∀ b xs, H b = some (.tup xs) → H' b = some (.tup xs)
  frzs : ∀ b o u, H b = some (.frz o u) → H' b = some (.frz o u)
  tbls : ∀ b ps, H b = some (.tbl ps) → ∃ more, H' b = some (.tbl (ps ++ more))
section
variable {fs fs' ex ex' : List Addr} {H H1 H2 : Hp} {h h1 h2 h' : Heap} {a x e : Addr} {o : HO}
theorem Un.any (u : Un fs ex H H1 h h1) {b : Addr} {ob : Obj} (q : h.get? b = some ob) (n : H b = none) (hx : b ∉ ex) : ∃ sl, h1.get? b = some { ob with slots := sl } := by
  by_cases hb : b ∈ fs
  · exact u.slot b ob q n hb hx
  · exact ⟨ob.slots, u.keep b ob q n hb hx⟩
theorem Un.trans (a : Un fs ex H H1 h h1) (b : Un fs ex H1 H2 h1 h2) : Un fs ex H H2 h h2 where
  keep := fun c ob q n hc hx => b.keep c ob (a.keep c ob q n hc hx) (a.free c ob q n hx) hc hx
  slot := fun c ob q n hc hx => by
    obtain ⟨sl, e1⟩ := a.slot c ob q n hc hx
    obtain ⟨sl', e2⟩ := b.slot c _ e1 (a.free c ob q n hx) hc hx
    exact ⟨sl', e2⟩
  free := fun c ob q n hx => by
    obtain ⟨o', e1⟩ := a.there c ob q hx
    exact b.free c o' e1 (a.free c ob q n hx) hx
  there := fun c ob q hx => by
    obtain ⟨o', e1⟩ := a.there c ob q hx
    exact b.there c o' e1 hx
  tups := fun c xs q => b.tups c xs (a.tups c xs q)
  frzs := fun c ob xs q => b.frzs c ob xs (a.frzs c ob xs q)
  tbls := fun c ps q => by
    obtain ⟨m1, e1⟩ := a.tbls c ps q
    obtain ⟨m2, e2⟩ := b.tbls c _ e1
    exact ⟨m1 ++ m2, by rw [e2, Array.append_assoc]⟩
theorem Un.kept (k : ∀ b u, h.get? b = some u → h'.get? b = some u) : Un fs ex H H h h' :=
  ⟨fun b ob q _ _ _ => k b ob q, fun b ob q _ _ _ => ⟨ob.slots, k b ob q⟩, fun _ _ _ n _ => n, fun b ob q _ => ⟨ob, k b ob q⟩, fun _ _ q => q, fun _ _ _ q => q, fun _ ps q => ⟨#[], by rw [q]; simp⟩⟩
theorem Un.refl : Un fs ex H H h h := Un.kept fun _ _ q => q
theorem Un.laid (k : ∀ b u, h.get? b = some u → h'.get? b = some u) (hp : h.objs.size ≤ a) (hn : H a = none) : Un fs ex H (upd H a o) h h' where
  keep := fun b u q _ _ _ => k b u q
  slot := fun b u q _ _ _ => ⟨u.slots, k b u q⟩
  free := fun b u q n _ => by rw [upd_ne (Nat.ne_of_lt (Nat.lt_of_lt_of_le (Heap.lt_size q) hp))]; exact n
  there := fun b u q _ => ⟨u, k b u q⟩
  tups := fun b xs q => by rw [upd_ne (ne_of_none q hn)]; exact q
  frzs := fun b u xs q => by rw [upd_ne (ne_of_none q hn)]; exact q
  tbls := fun b ps q => ⟨#[], by rw [upd_ne (ne_of_none q hn), q]; simp⟩
theorem Un.write (mu : Mut (H x)) (he : e = x ∨ H e = some (.own x)) (k : ∀ b u, b ≠ e → h.get? b = some u → h'.get? b = some u) (heo : ∃ u, h'.get? e = some u) : Un fs ex H (upd H x o) h h' := by
  have hx : ∀ b, H b = none → b ≠ x := fun b n z => by subst z; rw [n] at mu; exact mu
  have hb : ∀ b, H b = none → b ≠ e := fun b n z => by
    subst z
    rcases he with r | r
    · exact hx b n r
    · rw [n] at r; cases r
  have hm : ∀ b u, H b = some u → ¬ Mut (some u) → b ≠ x := fun b u q nm z => by subst z; rw [q] at mu; exact nm mu
  refine ⟨fun b u q n _ _ => k b u (hb b n) q, fun b u q n _ _ => ⟨u.slots, k b u (hb b n) q⟩, fun b u q n _ => by rw [upd_ne (hx b n)]; exact n, fun b u q _ => ?_,
    fun b xs q => by rw [upd_ne (hm b _ q fun z => z)]; exact q, fun b u xs q => by rw [upd_ne (hm b _ q fun z => z)]; exact q, fun b ps q => ⟨#[], by rw [upd_ne (hm b _ q fun z => z), q]; simp⟩⟩
  by_cases hbe : b = e
  · subst hbe; exact heo
  · exact ⟨u, k b u hbe q⟩
theorem Un.mono (u : Un fs ex H H1 h h1) (hs : ∀ b ∈ fs, b ∈ fs') (hx : ∀ b ∈ ex, b ∈ ex') : Un fs' ex' H H1 h h1 :=
  ⟨fun b ob q n hb he => u.keep b ob q n (fun z => hb (hs b z)) fun z => he (hx b z), fun _ _ q n _ he => u.any q n fun z => he (hx _ z), fun b ob q n he => u.free b ob q n fun z => he (hx b z), fun b ob q he => u.there b ob q fun z => he (hx b z), u.tups, u.frzs, u.tbls⟩
end

/-! ### the heap without what is tracked -/
def trk (h : Heap) (H : Hp) : List Addr := (List.range h.objs.size).filter fun a => (H a).isSome
def hidT (h : Heap) (H : Hp) : Heap := PySem.W.hideAll h (trk h H)
theorem hidT_size (h : Heap) (H : Hp) : (hidT h H).objs.size = h.objs.size := PySem.W.hideAll_size _ _
theorem hidT_get {h : Heap} {H : Hp} {b : Addr} {o : Obj} (e : h.get? b = some o) (n : H b = none) : (hidT h H).get? b = some o :=
  PySem.W.hideAll_get _ e fun hm => by
    have q : (H b).isSome = true := (List.mem_filter.mp hm).2
    rw [n] at q; simp at q
theorem of_hidT {h : Heap} {H : Hp} {b : Addr} {o : Obj} (e : (hidT h H).get? b = some o) : h.get? b = some o ∧ H b = none := by
  have e' : h.get? b = some o := PySem.W.of_hideAll (trk h H) e
  refine ⟨e', ?_⟩
  cases q : H b with
  | none => rfl
  | some x =>
    have hm : b ∈ trk h H := List.mem_filter.mpr ⟨List.mem_range.mpr (Heap.lt_size e'), by simp [q]⟩
    have z : (hidT h H).get? b = none := PySem.W.hideAll_none (trk h H) hm
    rw [z] at e; cases e

/-! ### OpenK's ledger, filled with every new object but one -/
def allNews (g h : Heap) (L : Addr) : List (Addr × Obj) := (List.range h.objs.size).filterMap fun a => if a = L ∨ (g.get? a).isSome = true then none else (h.get? a).map fun o => (a, o)
def rest (g h : Heap) (L d : Addr) : List (Addr × Obj) := (allNews g h L).filter fun p => decide (p.1 ≠ d)
end L2

namespace L2
open PySem PySem.Spec PyProof.Rows

/-- the module's facts, over the base: the heap at the law's entry without what is tracked there -/
structure Mod (K : PySem.W.Frag) (mg : Str → Option Value) (base : Heap) : Prop where
  kin : K.In base
  glob : base.Ns mainGlobals mg
  blt : ∃ mb, base.Ns builtinsNs mb ∧ ∀ x : Str, x ≠ "__name__" → mb x = bootBuiltins x
  nolimit : base.NoLimit

/-- the context: a def's body (or a comprehension's block) running. base: fixed through the whole law; s₀, H₀: the entry; outer: the frames whose slots others may change (a def's callers); stack: all frames that run;
   ex: iterators that were made ahead of the entry and are walked here (a comprehension's); fn: the names whose cells were made at the entry (a def: all; a comprehension's block: its own); calm: not within an except suite; pn: pins that every state bears; xe: what is wanted of an exception that leaves the code -/
structure Cx where
  prog : Program
  w : World
  K : PySem.W.Frag
  mg : Str → Option Value
  base : Heap
  A : Around
  N : List Str
  s₀ : Shared
  H₀ : Hp
  env : Env
  outer : List Env
  stack : List Env
  ex : List Addr
  fn : Str → Bool
  calm : Bool
  pn : List (Addr × Obj)
  xe : Value → Shared → Prop
/-- the callers' frames -/
def frs (l : List Env) : List Addr := l.filterMap (·.frame)
abbrev Cx.fs (X : Cx) : List Addr := frs X.outer

def Vis (sc : Scope) (x : Str) : Prop := sc.names.lookup x = some .local ∨ sc.names.lookup x = some .cell ∨ sc.names.lookup x = some .free
def Loc (sc : Scope) (x : Str) : Prop := sc.names.lookup x = some .local ∨ sc.names.lookup x = some .cell
def Look (env : Env) (h : Heap) (m : Str → Option Value) (x : Str) (u : Value) : Prop :=
  (env.kindOf x = some .local ∧ m x = some u) ∨ ((env.kindOf x = some .cell ∨ env.kindOf x = some .free) ∧ ∃ c, env.cells.lookup x = some c ∧ h.IsCell c (some u))

structure Cx.Ok (X : Cx) : Prop where
  mod : Mod X.K X.mg X.base
  kind : X.env.scope.kind = .function
  glob : X.env.globals = mainGlobals
  blt : X.env.builtins = builtinsNs
  above : X.s₀.heap.objs.size ≤ X.env.locals
  inj : ∀ x y c, X.env.cells.lookup x = some c → X.env.cells.lookup y = some c → x = y
  has : ∀ x, (X.env.kindOf x = some .cell ∨ X.env.kindOf x = some .free) → ∃ c, X.env.cells.lookup x = some c
  cab : ∀ x c, X.fn x = true → X.env.cells.lookup x = some c → X.s₀.heap.objs.size ≤ c
  hd : X.calm = true → X.A.handled = none
  frames : X.A.frames = some X.stack
  stk : X.stack = X.outer ∨ (X.stack = X.env :: X.outer ∧ X.env.frame = some X.env.locals)
  exf : ∀ b ∈ X.ex, b ≠ X.env.locals ∧ ∀ x c, X.env.cells.lookup x = some c → c ≠ b
  bs : ∀ b o, X.base.get? b = some o → X.s₀.heap.get? b = some o ∧ X.H₀ b = none
  bsz : X.base.objs.size ≤ X.s₀.heap.objs.size
  noex : ∀ b o, X.base.get? b = some o → b ∉ X.ex
  exfs : ∀ b ∈ X.ex, b ∉ X.fs
  funs : X.s₀.heap.FunFrames X.base X.outer
  frf : ∀ b ∈ X.fs, X.H₀ b = none

structure Inv (X : Cx) (pins : List (Addr × Obj)) (σ : List (Option V)) (H : Hp) (s : Shared) : Prop where
  ok : X.Ok
  os : s.os = X.s₀.os
  bare : AllBare s.gens
  base : Un X.fs X.ex X.H₀ H X.s₀.heap s.heap
  loc : ∃ m, s.heap.Ns X.env.locals m ∧ ∀ (i : Nat) (x : Str) (v : V), X.N[i]? = some x → σ[i]? = some (some v) → Vis X.env.scope x → ∃ u, RelV v u ∧ Look X.env s.heap m x u
  cell : ∀ x c, X.env.cells.lookup x = some c → ∃ v, s.heap.IsCell c v
  free : H X.env.locals = none
  freeC : ∀ x c, X.env.cells.lookup x = some c → H c = none
  pin : ∀ p ∈ X.pn ++ pins, s.heap.get? p.1 = some p.2 ∧ H p.1 = none ∧ p.1 ≠ X.env.locals ∧ p.1 ∉ X.fs ∧ ∀ v, p.2.data ≠ .cell v
  hok : HOk X.prog X.w H s.heap
  len : σ.length = X.N.length

section
variable {X : Cx} {pins : List (Addr × Obj)} {σ : List (Option V)} {H H' : Hp} {s : Shared} {h' : Heap}

theorem Cx.Ok.nofr (ok : X.Ok) {b : Addr} {o : Obj} (e : X.base.get? b = some o) : b ∉ X.fs := fun hb => by
  have := (ok.funs.mem hb).1
  rw [e] at this; cases this
theorem Inv.bs (I : Inv X pins σ H s) : ∀ b o, X.base.get? b = some o → s.heap.get? b = some o ∧ H b = none := fun b o e =>
  ⟨I.base.keep b o (I.ok.bs b o e).1 (I.ok.bs b o e).2 (I.ok.nofr e) (I.ok.noex b o e), I.base.free b o (I.ok.bs b o e).1 (I.ok.bs b o e).2 (I.ok.noex b o e)⟩
theorem Inv.bk (I : Inv X pins σ H s) : ∀ b o, X.base.get? b = some o → s.heap.get? b = some o := fun b o e => (I.bs b o e).1
theorem Inv.mod (I : Inv X pins σ H s) : Mod X.K X.mg X.base := I.ok.mod
theorem Inv.kIn (I : Inv X pins σ H s) : X.K.In s.heap := I.ok.mod.kin.keeps I.bk
theorem Inv.nolimit (I : Inv X pins σ H s) : s.heap.NoLimit := I.ok.mod.nolimit.keeps I.bk
/-- the frame over the base: for OpenK's rules (K.In X.base is I.mod.kin) -/
theorem Inv.fr (I : Inv X pins σ H s) : ∃ m, Fr X.base X.env.locals s.heap m :=
  let ⟨m, hn, _⟩ := I.loc
  ⟨m, hn, I.bk, Nat.le_trans I.ok.bsz I.ok.above⟩
theorem Inv.lt (I : Inv X pins σ H s) : X.env.locals < s.heap.objs.size := let ⟨_, hn, _⟩ := I.loc; hn.lt
theorem Inv.sz (I : Inv X pins σ H s) : X.s₀.heap.objs.size ≤ s.heap.objs.size := Nat.le_trans I.ok.above (Nat.le_of_lt I.lt)
theorem Inv.nofs (I : Inv X pins σ H s) {a : Addr} (h : s.heap.objs.size ≤ a) : a ∉ X.fs := fun hb => by
  obtain ⟨_, o, ho, _⟩ := I.ok.funs.mem hb
  exact absurd (Nat.lt_of_lt_of_le (Heap.lt_size ho) (Nat.le_trans I.sz h)) (Nat.lt_irrefl _)
theorem Inv.cne (I : Inv X pins σ H s) : ∀ x c, X.env.cells.lookup x = some c → c ≠ X.env.locals := fun x c e z => by
  obtain ⟨v, o, ho, hd⟩ := I.cell x c e
  obtain ⟨m, ⟨o', es, ep, ho', hd', _⟩, _⟩ := I.loc
  rw [z, ho'] at ho; cases ho; rw [hd'] at hd; cases hd
theorem Inv.funs (I : Inv X pins σ H s) : s.heap.FunFrames X.base X.outer := by
  have all : ∀ (l : List Env), (∀ b ∈ frs l, b ∈ X.fs) → X.s₀.heap.FunFrames X.base l → s.heap.FunFrames X.base l := by
    intro l
    induction l with
    | nil => intro _ _; trivial
    | cons env r ih =>
      intro hs hl
      obtain ⟨hk, ⟨L, o, hf, hn, ho, hd⟩, hr⟩ := hl
      have hL : L ∈ X.fs := hs L (by unfold frs; rw [List.filterMap_cons, hf]; exact List.mem_cons_self)
      obtain ⟨sl, e⟩ := I.base.slot L o ho (I.ok.frf L hL) hL fun z => I.ok.exfs L z hL
      exact ⟨hk, ⟨L, _, hf, hn, e, hd⟩, ih (fun b hb => hs b (by unfold frs; rw [List.filterMap_cons, hf]; exact List.mem_cons_of_mem _ hb)) hr⟩
  exact all X.outer (fun _ hb => hb) I.ok.funs

/-- the frames that run, for a call -/
theorem Inv.stack (I : Inv X pins σ H s) : s.heap.FunFrames X.base X.stack := by
  rcases I.ok.stk with e | ⟨e, hf⟩
  · rw [e]; exact I.funs
  · rw [e]
    obtain ⟨m, hn, _⟩ := I.loc
    refine .cons (by rw [I.ok.kind]; decide) hf hn ?_ I.funs
    exact Heap.get?_none_of_le (Nat.le_trans I.ok.bsz I.ok.above)
theorem Inv.stkSub (I : Inv X pins σ H s) : ∀ b ∈ frs X.stack, b ∈ X.env.locals :: X.fs := fun b hb => by
  rcases I.ok.stk with e | ⟨e, hf⟩
  · rw [e] at hb; exact List.mem_cons_of_mem _ hb
  · rw [e] at hb
    unfold frs at hb
    rw [List.filterMap_cons, hf] at hb
    exact hb
theorem Inv.stkFree (I : Inv X pins σ H s) : ∀ b ∈ frs X.stack, H b = none := fun b hb => by
  rcases List.mem_cons.mp (I.stkSub b hb) with e | hb
  · rw [e]; exact I.free
  · obtain ⟨_, o, ho, _⟩ := I.ok.funs.mem hb
    exact I.base.free b o ho (I.ok.frf b hb) fun z => I.ok.exfs b z hb

/-- THE STEP: the untracked objects but the frame and the records at ch are kept (the callers' frames up to slots), the frame's map is kept, the new abstract heap is held -/
theorem Inv.step {g' : Array GenState} {t' : Nat} {d' : Drawn} {ch : List Addr} (I : Inv X pins σ H s)
    (hch : ∀ b ∈ ch, (b ∈ X.ex ∨ X.s₀.heap.objs.size ≤ b) ∧ b ≠ X.env.locals ∧ (∀ x c, X.env.cells.lookup x = some c → c ≠ b) ∧ ∀ p ∈ X.pn ++ pins, p.1 ≠ b)
    (keep : ∀ b o, b ≠ X.env.locals → b ∉ X.fs → b ∉ ch → s.heap.get? b = some o → H b = none → h'.get? b = some o)
    (slot : ∀ b o, b ≠ X.env.locals → b ∈ X.fs → b ∉ ch → s.heap.get? b = some o → H b = none → ∃ sl, h'.get? b = some { o with slots := sl }) (free : ∀ b o, b ∉ ch → s.heap.get? b = some o → H b = none → H' b = none)
    (there : ∀ b o, b ∉ ch → s.heap.get? b = some o → ∃ o', h'.get? b = some o')
    (tups : ∀ b xs, H b = some (.tup xs) → H' b = some (.tup xs)) (frzs : ∀ b o u, H b = some (.frz o u) → H' b = some (.frz o u)) (tbls : ∀ b ps, H b = some (.tbl ps) → ∃ more, H' b = some (.tbl (ps ++ more)))
    (ns : ∀ m, s.heap.Ns X.env.locals m → h'.Ns X.env.locals m) (hok : HOk X.prog X.w H' h') (hg : AllBare g') :
    Inv X pins σ H' { s with heap := h', gens := g', drawn := d', toks := t' } := by
  have neL : ∀ b o, X.s₀.heap.get? b = some o → b ≠ X.env.locals := fun b o e => Nat.ne_of_lt (Nat.lt_of_lt_of_le (Heap.lt_size e) I.ok.above)
  have neC : ∀ b o, X.s₀.heap.get? b = some o → b ∉ X.ex → b ∉ ch := fun b o e hx hb => by
    rcases (hch b hb).1 with z | z
    · exact hx z
    · exact absurd (Nat.lt_of_lt_of_le (Heap.lt_size e) z) (Nat.lt_irrefl _)
  have cellK : ∀ x c, X.env.cells.lookup x = some c → ∀ v, s.heap.IsCell c v → h'.IsCell c v := fun x c e v ⟨o, ho, hd⟩ => by
    have nch : c ∉ ch := fun z => (hch c z).2.2.1 x c e rfl
    by_cases hc : c ∈ X.fs
    · obtain ⟨sl, q⟩ := slot c o (I.cne x c e) hc nch ho (I.freeC x c e)
      exact ⟨_, q, hd⟩
    · exact ⟨o, keep c o (I.cne x c e) hc nch ho (I.freeC x c e), hd⟩
  refine ⟨I.ok, I.os, hg, ⟨fun b o e n hb hx => ?_, fun b o e n hb hx => ?_, fun b o e n hx => ?_, fun b o e hx => ?_, fun b xs e => tups b xs (I.base.tups b xs e), fun b o xs e => frzs b o xs (I.base.frzs b o xs e), fun b ps e => ?_⟩, ?_, fun x c e => ?_, ?_, fun x c e => ?_, fun p hp => ?_, hok, I.len⟩
  · exact keep b o (neL b o e) hb (neC b o e hx) (I.base.keep b o e n hb hx) (I.base.free b o e n hx)
  · obtain ⟨sl, e1⟩ := I.base.slot b o e n hb hx
    obtain ⟨sl', e2⟩ := slot b _ (neL b o e) hb (neC b o e hx) e1 (I.base.free b o e n hx)
    exact ⟨sl', e2⟩
  · obtain ⟨o', e1⟩ := I.base.there b o e hx
    exact free b o' (neC b o e hx) e1 (I.base.free b o e n hx)
  · obtain ⟨o', e1⟩ := I.base.there b o e hx
    exact there b o' (neC b o e hx) e1
  · obtain ⟨m1, e1⟩ := I.base.tbls b ps e
    obtain ⟨m2, e2⟩ := tbls b _ e1
    exact ⟨m1 ++ m2, by rw [e2, Array.append_assoc]⟩
  · obtain ⟨m, hn, hl⟩ := I.loc
    refine ⟨m, ns m hn, fun i x v e1 e2 e3 => ?_⟩
    obtain ⟨u, r, l⟩ := hl i x v e1 e2 e3
    refine ⟨u, r, ?_⟩
    rcases l with l | ⟨k, c, e, z⟩
    · exact .inl l
    · exact .inr ⟨k, c, e, cellK x c e _ z⟩
  · obtain ⟨v, z⟩ := I.cell x c e
    exact ⟨v, cellK x c e v z⟩
  · obtain ⟨m, ⟨o, _, _, ho, _⟩, _⟩ := I.loc
    exact free _ o (fun z => (hch _ z).2.1 rfl) ho I.free
  · obtain ⟨v, o, ho, hd⟩ := I.cell x c e
    exact free c o (fun z => (hch c z).2.2.1 x c e rfl) ho (I.freeC x c e)
  · obtain ⟨e, n, ne, nf, d⟩ := I.pin p hp
    have nch : p.1 ∉ ch := fun z => (hch p.1 z).2.2.2 p hp rfl
    exact ⟨keep p.1 p.2 ne nf nch e n, free p.1 p.2 nch e n, ne, nf, d⟩
/-- .. where the frame's own object is kept too -/
theorem Inv.un {t' : Nat} (I : Inv X pins σ H s) (u : Un X.fs [] H H' s.heap h') (hok : HOk X.prog X.w H' h') : Inv X pins σ H' { s with heap := h', toks := t' } := by
  obtain ⟨m, ⟨o, es, ep, ho, r⟩, _⟩ := id I.loc
  obtain ⟨sl, hL⟩ := u.any ho I.free (by simp)
  exact I.step (g' := s.gens) (d' := s.drawn) (ch := []) (fun _ z => nomatch z) (fun b o _ hb _ e n => u.keep b o e n hb (by simp)) (fun b o _ hb _ e n => u.slot b o e n hb (by simp)) (fun b o _ e n => u.free b o e n (by simp)) (fun b o _ e => u.there b o e (by simp)) u.tups u.frzs u.tbls (fun m' hm => by
    obtain ⟨o', es', ep', ho', r'⟩ := hm
    rw [ho] at ho'; cases ho'
    exact ⟨_, es', ep', hL, r'⟩) hok I.bare
/-- behind a call (or a comprehension's block): the slots of this frame may have changed too, the records at ch may have turned -/
theorem Inv.call {g' : Array GenState} {t' : Nat} {d' : Drawn} {ch : List Addr} (I : Inv X pins σ H s) (u : Un (frs X.stack) ch H H' s.heap h') (hok : HOk X.prog X.w H' h') (hg : AllBare g')
    (hch : ∀ b ∈ ch, (b ∈ X.ex ∨ X.s₀.heap.objs.size ≤ b) ∧ b ≠ X.env.locals ∧ (∀ x c, X.env.cells.lookup x = some c → c ≠ b) ∧ ∀ p ∈ X.pn ++ pins, p.1 ≠ b) :
    Inv X pins σ H' { s with heap := h', gens := g', drawn := d', toks := t' } := by
  obtain ⟨m, ⟨o, es, ep, ho, r⟩, _⟩ := id I.loc
  obtain ⟨sl, hL⟩ := u.any ho I.free fun z => (hch _ z).2.1 rfl
  exact I.step (ch := ch) hch (fun b o hL hb hc e n => u.keep b o e n (fun z => (List.mem_cons.mp (I.stkSub b z)).elim hL hb) hc) (fun b o _ _ hc e n => u.any e n hc) (fun b o hc e n => u.free b o e n hc) (fun b o hc e => u.there b o e hc) u.tups u.frzs u.tbls (fun m' hm => by
    obtain ⟨o', es', ep', ho', r'⟩ := hm
    rw [ho] at ho'; cases ho'
    exact ⟨_, es', ep', hL, r'⟩) hok hg
/-- an untracked record of ours (an iterator) has turned -/
theorem Inv.turned {t' : Nat} {it : Addr} (I : Inv X pins σ H s) (k : ∀ b o, b ≠ it → s.heap.get? b = some o → h'.get? b = some o) (hn : H it = none) (hL : it ≠ X.env.locals)
    (h1 : it ∈ X.ex ∨ X.s₀.heap.objs.size ≤ it) (h2 : ∀ x c, X.env.cells.lookup x = some c → c ≠ it) (h3 : ∀ p ∈ X.pn ++ pins, p.1 ≠ it) : Inv X pins σ H { s with heap := h', toks := t' } := by
  have nit : ∀ b u, H b = some u → b ≠ it := fun b u e z => by rw [z, hn] at e; cases e
  refine I.step (g' := s.gens) (d' := s.drawn) (ch := [it]) (fun b hb => ?_) (fun b o _ _ hc e _ => k b o (fun z => hc (by simp [z])) e) (fun b o _ _ hc e _ => ⟨o.slots, k b o (fun z => hc (by simp [z])) e⟩) (fun _ _ _ _ n => n)
    (fun b o hc e => ⟨o, k b o (fun z => hc (by simp [z])) e⟩) (fun _ _ e => e) (fun _ _ _ e => e) (fun b ps e => ⟨#[], by rw [e]; simp⟩) (fun m hm => ?_) (fun b u e => ?_) I.bare
  · have e : b = it := by simpa using hb
    subst e
    exact ⟨h1, hL, h2, h3⟩
  · obtain ⟨o, es, ep, ho, r⟩ := hm
    exact ⟨o, es, ep, k _ o (Ne.symm hL) ho, r⟩
  · refine (I.hok b u e).stay (fun c v hc q => k c v ?_ q) (fun _ q => q) fun _ _ q => q
    rcases hc with z | z
    · rw [z]; exact nit b u e
    · exact nit c _ z
theorem Inv.tok (I : Inv X pins σ H s) (t : Nat) : Inv X pins σ H { s with toks := t } := I.un (h' := s.heap) (t' := t) Un.refl I.hok
/-- all objects kept -/
theorem Inv.kept {t' : Nat} (I : Inv X pins σ H s) (k : ∀ b u, s.heap.get? b = some u → h'.get? b = some u) : Inv X pins σ H { s with heap := h', toks := t' } := I.un (Un.kept k) (I.hok.kept k)
/-- a new object laid and tracked -/
theorem Inv.laid {a : Addr} {o : HO} {t' : Nat} (I : Inv X pins σ H s) (k : ∀ b u, s.heap.get? b = some u → h'.get? b = some u) (hp : s.heap.objs.size ≤ a) (new : ObjOk X.prog X.w (upd H a o) h' a o) :
    Inv X pins σ (upd H a o) { s with heap := h', toks := t' } := I.un (Un.laid k hp (I.hok.fresh hp)) (I.hok.laid k hp new)
/-- an object written -/
theorem Inv.write {x e : Addr} {o : HO} {t' : Nat} (I : Inv X pins σ H s) (mu : Mut (H x)) (he : e = x ∨ H e = some (.own x)) (k : ∀ b u, b ≠ e → s.heap.get? b = some u → h'.get? b = some u) (heo : ∃ u, h'.get? e = some u)
    (new : ObjOk X.prog X.w (upd H x o) h' x o) : Inv X pins σ (upd H x o) { s with heap := h', toks := t' } := I.un (Un.write mu he k heo) (I.hok.write mu he k heo new)
theorem Inv.pins_of {pins' : List (Addr × Obj)} (I : Inv X pins σ H s) (h : ∀ p ∈ pins', s.heap.get? p.1 = some p.2 ∧ H p.1 = none ∧ p.1 ≠ X.env.locals ∧ p.1 ∉ X.fs ∧ ∀ v, p.2.data ≠ .cell v) : Inv X pins' σ H s :=
  ⟨I.ok, I.os, I.bare, I.base, I.loc, I.cell, I.free, I.freeC, fun p hp => (List.mem_append.mp hp).elim (fun z => I.pin p (List.mem_append_left _ z)) (h p), I.hok, I.len⟩

theorem nodup_ix {N : List Str} (hN : N.Nodup) {i j : Nat} {x : Str} (a : N[i]? = some x) (b : N[j]? = some x) : i = j := by
  obtain ⟨h1, e1⟩ := List.getElem?_eq_some_iff.mp a
  obtain ⟨h2, e2⟩ := List.getElem?_eq_some_iff.mp b
  exact (List.getElem_inj hN).mp (e1.trans e2.symm)

/-- a name is stored; what changed -/
theorem store_ok2 {M : Model} {A : Around} {E : Value → Shared → Prop} {i : Nat} {x : Str} {v : V} {u : Value} {Q : Unit → Shared → Prop} (I : Inv X pins σ H s) (hN : X.N.Nodup) (hi : X.N[i]? = some x) (hx : Loc X.env.scope x) (r : RelV v u)
    (h : ∀ s', Inv X pins (σ.set i (some v)) H s' → (∃ a, Heap.SameBut a s.heap s'.heap ∧ (a = X.env.locals ∨ X.env.cells.lookup x = some a)) → Q () s') (hf : X.fn x = true ∨ X.env.scope.names.lookup x = some .local := by first | exact .inl rfl | exact .inr rfl | assumption) : wpAny M A (storeName X.env x u) Q E s := by
  obtain ⟨m, hn, hl⟩ := id I.loc
  have hcls : (X.env.scope.kind == .class || (X.env.scope.kind == .module && X.env.locals != X.env.globals)) = false := by rw [I.ok.kind]; rfl
  have hiσ : i < σ.length := by rw [I.len]; exact (List.getElem?_eq_some_iff.mp hi).1
  have cne := I.cne
  have tracked : ∀ {a : Addr} {h' : Heap}, (∃ o, s.heap.get? a = some o ∧ H a = none) → Heap.SameBut a s.heap h' → HOk X.prog X.w H h' := fun {a h'} ha hs b ob e => by
    obtain ⟨_, _, hfree⟩ := ha
    refine (I.hok b ob e).stay (fun c w' hc q => (hs.2 c ?_).trans q) (fun _ q => q) fun _ _ q => q
    rintro rfl
    rcases hc with rfl | hc
    · rw [hfree] at e; cases e
    · rw [hfree] at hc; cases hc
  rcases hx with hk | hk
  · refine wpAny_storeName_local hk hn (fun h' hn' hs => ?_) hcls
    obtain ⟨oL, _, _, hoL, _⟩ := id hn
    refine h _ ⟨I.ok, I.os, I.bare, ⟨fun b o e n hb hx => ?_, fun b o e n hb hx => ?_, I.base.free, fun b o e hx => ?_, I.base.tups, I.base.frzs, I.base.tbls⟩, ⟨_, hn', fun j y v' e1 e2 e3 => ?_⟩, fun y c e => ?_, I.free, I.freeC, fun p hp => ?_, tracked ⟨oL, hoL, I.free⟩ hs, by simpa using I.len⟩ ⟨_, hs, .inl rfl⟩
    · exact (hs.2 b (Nat.ne_of_lt (Nat.lt_of_lt_of_le (Heap.lt_size e) I.ok.above))).trans (I.base.keep b o e n hb hx)
    · obtain ⟨sl, e1⟩ := I.base.slot b o e n hb hx
      exact ⟨sl, (hs.2 b (Nat.ne_of_lt (Nat.lt_of_lt_of_le (Heap.lt_size e) I.ok.above))).trans e1⟩
    · obtain ⟨o', e1⟩ := I.base.there b o e hx
      exact ⟨o', (hs.2 b (Nat.ne_of_lt (Nat.lt_of_lt_of_le (Heap.lt_size e) I.ok.above))).trans e1⟩
    · by_cases hj : j = i
      · subst hj
        rw [hi] at e1; cases e1
        rw [List.getElem?_set_self hiσ] at e2
        cases e2
        exact ⟨u, r, .inl ⟨hk, by simp⟩⟩
      · rw [List.getElem?_set_ne (Ne.symm hj)] at e2
        obtain ⟨u', r', q⟩ := hl j y v' e1 e2 e3
        refine ⟨u', r', ?_⟩
        rcases q with ⟨k, e⟩ | ⟨k, c, e, z⟩
        · refine .inl ⟨k, ?_⟩
          have : y ≠ x := fun e => hj (nodup_ix hN e1 (e ▸ hi))
          simp [this, e]
        · exact .inr ⟨k, c, e, z.sameBut hs (cne y c e)⟩
    · obtain ⟨w', z⟩ := I.cell y c e
      exact ⟨w', z.sameBut hs (cne y c e)⟩
    · obtain ⟨e, n, ne, nf, d⟩ := I.pin p hp
      exact ⟨(hs.2 p.1 ne).trans e, n, ne, nf, d⟩
  · have hfn : X.fn x = true := by
      rcases hf with z | z
      · exact z
      · rw [z] at hk; cases hk
    obtain ⟨c, hc⟩ := I.ok.has x (.inl hk)
    obtain ⟨w', z⟩ := I.cell x c hc
    refine wpAny_storeName_cell I.ok.kind hk hc z (fun h' hc' hs => ?_)
    obtain ⟨oc, hoc, hocd⟩ := id z
    refine h { s with heap := h' } ⟨I.ok, I.os, I.bare, ⟨fun b o e n hb hx => ?_, fun b o e n hb hx => ?_, I.base.free, fun b o e hx => ?_, I.base.tups, I.base.frzs, I.base.tbls⟩, ⟨m, hn.sameBut hs (Ne.symm (cne x c hc)), fun j y v' e1 e2 e3 => ?_⟩, fun y c' e => ?_, I.free, I.freeC, fun p hp => ?_, tracked ⟨oc, hoc, I.freeC x c hc⟩ hs, by simpa using I.len⟩ ⟨c, hs, .inr hc⟩
    · exact (hs.2 b (Nat.ne_of_lt (Nat.lt_of_lt_of_le (Heap.lt_size e) (I.ok.cab x c hfn hc)))).trans (I.base.keep b o e n hb hx)
    · obtain ⟨sl, e1⟩ := I.base.slot b o e n hb hx
      exact ⟨sl, (hs.2 b (Nat.ne_of_lt (Nat.lt_of_lt_of_le (Heap.lt_size e) (I.ok.cab x c hfn hc)))).trans e1⟩
    · obtain ⟨o', e1⟩ := I.base.there b o e hx
      exact ⟨o', (hs.2 b (Nat.ne_of_lt (Nat.lt_of_lt_of_le (Heap.lt_size e) (I.ok.cab x c hfn hc)))).trans e1⟩
    · by_cases hj : j = i
      · subst hj
        rw [hi] at e1; cases e1
        rw [List.getElem?_set_self hiσ] at e2
        cases e2
        exact ⟨u, r, .inr ⟨.inl hk, c, hc, hc'⟩⟩
      · rw [List.getElem?_set_ne (Ne.symm hj)] at e2
        obtain ⟨u', r', q⟩ := hl j y v' e1 e2 e3
        refine ⟨u', r', ?_⟩
        rcases q with q | ⟨k, c', e, z'⟩
        · exact .inl q
        · refine .inr ⟨k, c', e, z'.sameBut hs ?_⟩
          rintro rfl
          exact hj (nodup_ix hN e1 (I.ok.inj _ _ _ e hc ▸ hi))
    · by_cases hcc : c' = c
      · subst hcc; exact ⟨_, hc'⟩
      · obtain ⟨w2, z2⟩ := I.cell y c' e
        exact ⟨w2, z2.sameBut hs hcc⟩
    · obtain ⟨e, n, ne, nf, d⟩ := I.pin p hp
      refine ⟨(hs.2 p.1 ?_).trans e, n, ne, nf, d⟩
      intro q
      rw [q, hoc] at e
      have q' : oc = p.2 := Option.some.inj e
      exact d w' (by rw [← q']; exact hocd)
theorem store_ok {M : Model} {A : Around} {E : Value → Shared → Prop} {i : Nat} {x : Str} {v : V} {u : Value} {Q : Unit → Shared → Prop} (I : Inv X pins σ H s) (hN : X.N.Nodup) (hi : X.N[i]? = some x) (hx : Loc X.env.scope x) (r : RelV v u)
    (h : ∀ s', Inv X pins (σ.set i (some v)) H s' → Q () s') (hf : X.fn x = true ∨ X.env.scope.names.lookup x = some .local := by first | exact .inl rfl | exact .inr rfl | assumption) : wpAny M A (storeName X.env x u) Q E s :=
  store_ok2 I hN hi hx r (fun s' I' _ => h s' I') hf
/-- behind a call or a block, the state as it is -/
theorem Inv.call' {s' : Shared} {ch : List Addr} (I : Inv X pins σ H s) (ho : s'.os = s.os) (u : Un (frs X.stack) ch H H' s.heap s'.heap) (hok : HOk X.prog X.w H' s'.heap) (hg : AllBare s'.gens)
    (hch : ∀ b ∈ ch, (b ∈ X.ex ∨ X.s₀.heap.objs.size ≤ b) ∧ b ≠ X.env.locals ∧ (∀ x c, X.env.cells.lookup x = some c → c ≠ b) ∧ ∀ p ∈ X.pn ++ pins, p.1 ≠ b) : Inv X pins σ H' s' := by
  obtain ⟨h', g', d', t', o'⟩ := s'
  have e : o' = s.os := ho
  subst e
  exact I.call (g' := g') (t' := t') (d' := d') u hok hg hch
end

/-! ### the judgements -/
/-- an exception: its class, its own dict's address (where it has one), the abstract heap behind it -/
abbrev XK := Value → Option Addr → Hp → Prop
abbrev St := List (Option V)
abbrev VK := V → Hp → Prop
/-- an expression's reading; a test's; an argument list's -/
abbrev TE := St → Hp → VK → Prop
abbrev TT := St → Hp → (Bool → Hp → Prop) → Prop
abbrev TA := St → Hp → (List V → Hp → Prop) → Prop
/-- what is wanted behind a statement -/
structure Ends where
  nx : St → Hp → Prop
  rt : VK
  bk : St → Hp → Prop := fun _ _ => False
  ct : St → Hp → Prop := fun _ _ => False
abbrev TS := Ends → St → Hp → Prop

def EP (X : Cx) (pins : List (Addr × Obj)) (σ : St) (Q : VK) (u : Value) (s' : Shared) : Prop := ∃ v H', Inv X pins σ H' s' ∧ RelV v u ∧ Q v H'
def TP (X : Cx) (pins : List (Addr × Obj)) (σ : St) (Q : Bool → Hp → Prop) (b : Bool) (s' : Shared) : Prop := ∃ H', Inv X pins σ H' s' ∧ Q b H'
def AP (X : Cx) (pins : List (Addr × Obj)) (σ : St) (Q : List V → Hp → Prop) (us : List Value) (s' : Shared) : Prop := ∃ vs H', Inv X pins σ H' s' ∧ Vals vs us ∧ Q vs H'
def SP (X : Cx) (pins : List (Addr × Obj)) (D : Ends) (f : Flow) (s' : Shared) : Prop :=
  match f with
  | .next => ∃ σ' H', Inv X pins σ' H' s' ∧ D.nx σ' H'
  | .brk => ∃ σ' H', Inv X pins σ' H' s' ∧ D.bk σ' H'
  | .cont => ∃ σ' H', Inv X pins σ' H' s' ∧ D.ct σ' H'
  | .ret u => ∃ v σ' H', Inv X pins σ' H' s' ∧ RelV v u ∧ D.rt v H'

def PE (X : Cx) (e : Expr) (t : TE) : Prop :=
  ∀ (pins : List (Addr × Obj)) (s : Shared) (σ : St) (H : Hp) (Q : VK), Inv X pins σ H s → t σ H Q → wpAny (model X.prog X.w) X.A (eval e X.env) (EP X pins σ Q) X.xe s
def PT (X : Cx) (e : Expr) (t : TT) : Prop :=
  ∀ (pins : List (Addr × Obj)) (s : Shared) (σ : St) (H : Hp) (Q : Bool → Hp → Prop), Inv X pins σ H s → t σ H Q → wpAny (model X.prog X.w) X.A (isTrue e X.env (eval e X.env)) (TP X pins σ Q) X.xe s
/-- a test whatever its 'whole' is (and, or) -/
def PW (X : Cx) (e : Expr) (t : TT) : Prop :=
  ∀ (whole : Sem Value) (pins : List (Addr × Obj)) (s : Shared) (σ : St) (H : Hp) (Q : Bool → Hp → Prop), Inv X pins σ H s → t σ H Q → wpAny (model X.prog X.w) X.A (isTrue e X.env whole) (TP X pins σ Q) X.xe s
theorem PW.pt {X : Cx} {e : Expr} {t : TT} (h : PW X e t) : PT X e t := h _
/-- an argument list (no star), from the left -/
def PA (X : Cx) (es : List Expr) (t : TA) : Prop :=
  ∀ (pos : Pos) (pins : List (Addr × Obj)) (s : Shared) (σ : St) (H : Hp) (Q : List V → Hp → Prop), Inv X pins σ H s → t σ H Q → wpAny (model X.prog X.w) X.A (spliced (backTo pos (starEach es X.env))) (AP X pins σ Q) X.xe s
def PS (X : Cx) (st : Stmt) (t : TS) : Prop :=
  ∀ (pins : List (Addr × Obj)) (s : Shared) (σ : St) (H : Hp) (D : Ends), Inv X pins σ H s → t D σ H → wpAny (model X.prog X.w) X.A (exec st X.env) (SP X pins D) X.xe s
def PSs (X : Cx) (st : List Stmt) (t : TS) : Prop :=
  ∀ (pins : List (Addr × Obj)) (s : Shared) (σ : St) (H : Hp) (D : Ends), Inv X pins σ H s → t D σ H → wpAny (model X.prog X.w) X.A (execs st X.env) (SP X pins D) X.xe s
/-- weaken the end -/
theorem thn {α : Type} {t : Sem α} {Q Q' : α → Shared → Prop} {M : Model} {A : Around} {E : Value → Shared → Prop} {s : Shared} (h : wpAny M A t Q E s) (hQ : ∀ a s, Q a s → Q' a s) : wpAny M A t Q' E s := wpAny_mono h hQ fun _ _ x => x
end L2

namespace L2
open PySem PySem.Spec PyProof.Rows
section
variable {X : Cx}

/-! ### names and constants -/
def tVar (i : Nat) : TE := fun σ H Q => ∃ v, σ[i]? = some (some v) ∧ Q v H
def tC (v : V) : TE := fun _ H Q => Q v H
theorem pe_var {i : Nat} {x : Str} {pos : Pos} (hN : X.N[i]? = some x) (hv : Vis X.env.scope x) (hd : (x == ("__debug__" : Str)) = false := by decide) (hcd : (x == ("__classdict__" : Str)) = false := by decide) : PE X (.Name x pos) (tVar i) := by
  intro pins s σ H Q I h
  obtain ⟨v, e, h⟩ := h
  obtain ⟨m, hn, hl⟩ := I.loc
  obtain ⟨u, r, l⟩ := hl i x v hN e hv
  have fin : EP X pins σ Q u s := ⟨v, H, I, r, h⟩
  rcases l with ⟨hk, hm⟩ | ⟨hk, c, hc, hcell⟩
  · exact wpAny_Name (wpAny_loadName_local I.ok.kind hk hn hm fin) hd
  · rcases hk with hk | hk
    · exact wpAny_Name (wpAny_loadName_cell I.ok.kind hk hc hcell fin) hd
    · exact wpAny_Name (wpAny_loadName_free I.ok.kind hk hc hcell fin hcd) hd
theorem pe_int {i j pos} : PE X (.Constant (.int i) j pos) (tC (.int i)) := fun _ _ _ H _ I h => wpAny_Constant_int ⟨.int i, H, I.tok _, ⟨_, rfl⟩, h⟩
theorem pe_bl {b j pos} : PE X (.Constant (.bool b) j pos) (tC (.bl b)) := fun _ _ _ H _ I h => Constant_bool ⟨.bl b, H, I, rfl, h⟩
theorem pe_non {j pos} : PE X (.Constant .none j pos) (tC .non) := fun _ _ _ H _ I h => Constant_none ⟨.non, H, I, rfl, h⟩
theorem pe_str {x j pos} : PE X (.Constant (.str x) j pos) (tC (.str x)) := fun _ _ _ H _ I h => Calls.Constant_str ⟨.str x, H, I.tok _, ⟨_, rfl⟩, h⟩

/-- a global name of the def -/
def Gl (X : Cx) (x : Str) : Prop := X.env.kindOf x = some .globalImplicit
theorem ld_glob {E : Value → Shared → Prop} {pins : List (Addr × Obj)} {s : Shared} {σ : St} {H : Hp} {x : Str} {u : Value} {pos : Pos} {Q : Value → Shared → Prop} (I : Inv X pins σ H s) (hg : Gl X x) (hm : X.mg x = some u) (h : Q u s)
    (hd : (x == ("__debug__" : Str)) = false := by decide) : wpAny (model X.prog X.w) X.A (eval (.Name x pos) X.env) Q E s :=
  Calls.Name_function_global I.ok.kind hg (Calls.loadGlobal_global (by rw [I.ok.glob]; exact I.mod.glob.keeps I.bk) hm h) hd
theorem ld_blt {E : Value → Shared → Prop} {pins : List (Addr × Obj)} {s : Shared} {σ : St} {H : Hp} {x : Str} {u : Value} {pos : Pos} {Q : Value → Shared → Prop} (I : Inv X pins σ H s) (hg : Gl X x) (hm : X.mg x = none) (hv : bootBuiltins x = some u) (h : Q u s)
    (hn : x ≠ "__name__" := by decide) (hd : (x == ("__debug__" : Str)) = false := by decide) : wpAny (model X.prog X.w) X.A (eval (.Name x pos) X.env) Q E s := by
  obtain ⟨mb, h1, h2⟩ := I.mod.blt
  exact Calls.Name_function_global I.ok.kind hg (Calls.loadGlobal_builtin (by rw [I.ok.glob]; exact I.mod.glob.keeps I.bk) hm (by rw [I.ok.blt]; exact h1.keeps I.bk) ((h2 x hn).trans hv) h) hd
/-- a module's constant, a class, a function, as a value -/
theorem pe_glob {x : Str} {v : V} {u : Value} {pos : Pos} (hg : Gl X x) (hm : X.mg x = some u) (r : RelV v u) (hd : (x == ("__debug__" : Str)) = false := by decide) : PE X (.Name x pos) (tC v) :=
  fun _ _ _ H _ I h => ld_glob I hg hm ⟨v, H, I, r, h⟩ hd
theorem pe_bltn {x : Str} {v : V} {u : Value} {pos : Pos} (hg : Gl X x) (hm : X.mg x = none) (hv : bootBuiltins x = some u) (r : RelV v u) (hn : x ≠ "__name__" := by decide) (hd : (x == ("__debug__" : Str)) = false := by decide) : PE X (.Name x pos) (tC v) :=
  fun _ _ _ H _ I h => ld_blt I hg hm hv ⟨v, H, I, r, h⟩ hn hd

/-! ### arithmetic -/
variable {a b : Expr} {ta tb : TE} {pos : Pos}
/-! ### comparisons -/
/-! ### and, or, not -/
variable {tA tB' : TT} {rest : List Expr}
def tAnd (t u : TT) : TT := fun σ H Q => t σ H fun c H1 => if c = true then u σ H1 Q else Q false H1
def tOr (t u : TT) : TT := fun σ H Q => t σ H fun c H1 => if c = true then Q true H1 else u σ H1 Q
def tNot (t : TT) : TT := fun σ H Q => t σ H fun c H1 => Q (!c) H1
theorem pw_and1 (ha : PT X a tA) : PW X (.BoolOp .And [a] pos) tA := by
  intro wh pins s σ H Q I h
  refine isTrue_and (thn (ha pins s σ H Q I h) fun c s1 e => ?_)
  cases c with
  | true => exact isTrue_and_nil e
  | false => exact e
theorem pw_or1 (ha : PT X a tA) : PW X (.BoolOp .Or [a] pos) tA := by
  intro wh pins s σ H Q I h
  refine isTrue_or (thn (ha pins s σ H Q I h) fun c s1 e => ?_)
  cases c with
  | false => exact isTrue_or_nil e
  | true => exact e
theorem pw_and (ha : PT X a tA) (hb : PW X (.BoolOp .And (b :: rest) pos) tB') : PW X (.BoolOp .And (a :: b :: rest) pos) (tAnd tA tB') := by
  intro wh pins s σ H Q I h
  refine isTrue_and (thn (ha pins s σ H _ I h) fun c s1 ⟨H1, I1, q1⟩ => ?_)
  cases c with
  | true => exact hb wh pins s1 σ H1 Q I1 q1
  | false => exact ⟨H1, I1, q1⟩
theorem pw_or (ha : PT X a tA) (hb : PW X (.BoolOp .Or (b :: rest) pos) tB') : PW X (.BoolOp .Or (a :: b :: rest) pos) (tOr tA tB') := by
  intro wh pins s σ H Q I h
  refine isTrue_or (thn (ha pins s σ H _ I h) fun c s1 ⟨H1, I1, q1⟩ => ?_)
  cases c with
  | true => exact ⟨H1, I1, q1⟩
  | false => exact hb wh pins s1 σ H1 Q I1 q1
theorem pt_not (ha : PT X a tA) : PT X (.UnaryOp .Not a pos) (tNot tA) := by
  intro pins s σ H Q I h
  exact isTrue_not (ha pins s σ H (fun c H1 => Q (!c) H1) I h)
/-- .. as values (bools) -/
def tAndV (ta tb : TE) : TE := fun σ H Q => ta σ H fun x H1 => ∃ c, x = .bl c ∧ if c = true then tb σ H1 Q else Q (.bl false) H1
def tNotV (ta : TE) : TE := fun σ H Q => ta σ H fun x H1 => ∃ c, x = .bl c ∧ Q (.bl (!c)) H1
theorem pe_one {op} {t : TE} (h : PE X a t) : PE X (.BoolOp op [a] pos) t := fun pins s σ H Q I hw => BoolOp_one (h pins s σ H Q I hw)
theorem pe_and (ha : PE X a ta) (hb : PE X (.BoolOp .And (b :: rest) pos) tb) : PE X (.BoolOp .And (a :: b :: rest) pos) (tAndV ta tb) := by
  intro pins s σ H Q I h
  refine BoolOp_and (thn (ha pins s σ H _ I h) fun v s1 ⟨x, H1, I1, r1, q1⟩ => ?_)
  obtain ⟨c, rfl, q1⟩ := q1
  cases r1
  refine wpAny_truthy_bool ?_
  cases c with
  | true => exact hb pins s1 σ H1 Q I1 q1
  | false => exact ⟨.bl false, H1, I1, rfl, q1⟩
theorem pe_not (ha : PE X a ta) : PE X (.UnaryOp .Not a pos) (tNotV ta) := by
  intro pins s σ H Q I h
  refine UnaryOp_ (thn (ha pins s σ H _ I h) fun v s1 ⟨x, H1, I1, r1, q1⟩ => ?_)
  obtain ⟨c, rfl, q1⟩ := q1
  cases r1
  exact not_of (wpAny_truthy_bool ⟨.bl (!c), H1, I1, rfl, q1⟩)
/-- a if t else b -/
def tIf (t : TT) (ta tb : TE) : TE := fun σ H Q => t σ H fun c H1 => if c = true then ta σ H1 Q else tb σ H1 Q
theorem pe_ifExp {c : Expr} (hc : PT X c tA) (ha : PE X a ta) (hb : PE X b tb) : PE X (.IfExp c a b pos) (tIf tA ta tb) := by
  intro pins s σ H Q I h
  refine wpAny_IfExp (thn (hc pins s σ H _ I h) fun d s1 ⟨H1, I1, q1⟩ => ?_)
  cases d with
  | true => exact ha pins s1 σ H1 Q I1 q1
  | false => exact hb pins s1 σ H1 Q I1 q1
end
end L2

namespace L2
open PySem PySem.Spec PyProof.Rows

/-! ### a list, a tuple that is read: tracked, frozen, or an object of the module -/
def SqL (K : PySem.W.Frag) (H : Hp) (a : Addr) (xs : List V) : Prop :=
  Rd H a (.lst xs) ∨
    ∃ (o : Obj) (its : Array Value) (n : Nat), K.lookup a = some o ∧ o.cls = .type "list" ∧ o.dict = none ∧ o.data = .seq its n ∧ its.size ≤ sizeLine ∧ Vals xs its.toList
def SqT (K : PySem.W.Frag) (H : Hp) (a : Addr) (xs : List V) : Prop :=
  Rd H a (.tup xs) ∨
    ∃ (o : Obj) (its : Array Value) (n : Nat), K.lookup a = some o ∧ o.cls = .type "tuple" ∧ o.data = .seq its n ∧ its.size ≤ sizeLine ∧ Vals xs its.toList
def absV : Value → Option V
  | .none => some .non
  | .bool b => some (.bl b)
  | .int i _ => some (.int i)
  | .str x _ => some (.str x)
  | .bytes b _ => some (.byt b)
  | .float b _ => some (.flt b)
  | .ref a => some (.ref a)
  | .type n => some (.ty n)
  | _ => none
theorem RelV.abs {x : V} {u : Value} (r : RelV x u) : absV u = some x := by
  cases x with
  | non => cases r; rfl
  | bl _ => cases r; rfl
  | int _ => obtain ⟨t, rfl⟩ := r; rfl
  | str _ => obtain ⟨t, rfl⟩ := r; rfl
  | byt _ => obtain ⟨t, rfl⟩ := r; rfl
  | flt _ => obtain ⟨t, rfl⟩ := r; rfl
  | ref _ => cases r; rfl
  | ty _ => cases r; rfl
theorem RelV.inj {x y : V} {u : Value} (r : RelV x u) (q : RelV y u) : x = y := Option.some.inj (r.abs.symm.trans q.abs)
theorem Vals.inj : ∀ {xs ys : List V} {us : List Value}, Vals xs us → Vals ys us → xs = ys
  | _, _, _, .nil, .nil => rfl
  | _, _, _, .cons r t, .cons r' t' => by rw [r.inj r', Vals.inj t t']
section
variable {X : Cx} {pins : List (Addr × Obj)} {σ : St} {H : Hp} {s : Shared} {a : Addr} {xs ys : List V}
theorem SqL.of {K : PySem.W.Frag} (h : H a = some (.lst xs)) : SqL K H a xs := .inl (.inl h)
theorem SqT.of {K : PySem.W.Frag} (h : H a = some (.tup xs)) : SqT K H a xs := .inl (.inl h)
theorem Inv.list (I : Inv X pins σ H s) (h : SqL X.K H a xs) : ∃ its : List Value, Vals xs its ∧ PlainL s.heap a its.toArray ∧ xs.length ≤ sizeLine := by
  rcases h with h | ⟨o, its, n, hk, hc, hd, hs, hz, r⟩
  · obtain ⟨z, its, n, r, e⟩ := h.ok I.hok
    exact ⟨its, r, ⟨_, n, e, rfl, rfl, rfl⟩, z⟩
  · refine ⟨its.toList, r, ⟨o, n, I.kIn a o hk, hc, hd, by simpa using hs⟩, ?_⟩
    have e := r.length
    simp only [Array.length_toList] at e
    omega
theorem Inv.tuple (I : Inv X pins σ H s) (h : SqT X.K H a xs) : ∃ its : List Value, Vals xs its ∧ IsTup s.heap a its.toArray ∧ xs.length ≤ sizeLine := by
  rcases h with h | ⟨o, its, n, hk, hc, hs, hz, r⟩
  · obtain ⟨z, its, r, p⟩ := h.ok I.hok
    exact ⟨its, r, p, z⟩
  · refine ⟨its.toList, r, ⟨o, I.kIn a o hk, hc, n, by simpa using hs⟩, ?_⟩
    have e := r.length
    simp only [Array.length_toList] at e
    omega
theorem Inv.list_inj (I : Inv X pins σ H s) (h : SqL X.K H a xs) (h' : SqL X.K H a ys) : xs = ys := by
  obtain ⟨its, r, ⟨o, n, e, _, _, d⟩, _⟩ := I.list h
  obtain ⟨its', r', ⟨o', n', e', _, _, d'⟩, _⟩ := I.list h'
  rw [e] at e'; cases e'
  rw [d] at d'
  injection d' with d1 _
  have : its = its' := by simpa using congrArg Array.toList d1
  subst this
  exact r.inj r'
theorem Inv.tuple_inj (I : Inv X pins σ H s) (h : SqT X.K H a xs) (h' : SqT X.K H a ys) : xs = ys := by
  obtain ⟨its, r, ⟨o, e, _, n, d⟩, _⟩ := I.tuple h
  obtain ⟨its', r', ⟨o', e', _, n', d'⟩, _⟩ := I.tuple h'
  rw [e] at e'; cases e'
  rw [d] at d'
  injection d' with d1 _
  have : its = its' := by simpa using congrArg Array.toList d1
  subst this
  exact r.inj r'
end

/-! ### another wish about exceptions -/
abbrev Cx.wish (X : Cx) (E : Value → Shared → Prop) : Cx := { X with xe := E }
/-- no exception leaves -/
abbrev Cx.nox (X : Cx) : Cx := X.wish fun _ _ => False
theorem Cx.Ok.wish {X : Cx} (ok : X.Ok) (E : Value → Shared → Prop) : (X.wish E).Ok :=
  ⟨ok.mod, ok.kind, ok.glob, ok.blt, ok.above, ok.inj, ok.has, ok.cab, ok.hd, ok.frames, ok.stk, ok.exf, ok.bs, ok.bsz, ok.noex, ok.exfs, ok.funs, ok.frf⟩
theorem Cx.Ok.unwish {X : Cx} {E : Value → Shared → Prop} (ok : (X.wish E).Ok) : X.Ok :=
  ⟨ok.mod, ok.kind, ok.glob, ok.blt, ok.above, ok.inj, ok.has, ok.cab, ok.hd, ok.frames, ok.stk, ok.exf, ok.bs, ok.bsz, ok.noex, ok.exfs, ok.funs, ok.frf⟩
section
variable {X : Cx} {pins : List (Addr × Obj)} {σ : St} {H : Hp} {s : Shared} {E : Value → Shared → Prop}
theorem Inv.wish (I : Inv X pins σ H s) (E : Value → Shared → Prop) : Inv (X.wish E) pins σ H s := ⟨I.ok.wish E, I.os, I.bare, I.base, I.loc, I.cell, I.free, I.freeC, I.pin, I.hok, I.len⟩
theorem Inv.unwish (I : Inv (X.wish E) pins σ H s) : Inv X pins σ H s := ⟨I.ok.unwish, I.os, I.bare, I.base, I.loc, I.cell, I.free, I.freeC, I.pin, I.hok, I.len⟩
theorem SP.unwish {D : Ends} {f : Flow} {s' : Shared} (h : SP (X.wish E) pins D f s') : SP X pins D f s' := by
  cases f with
  | next => obtain ⟨σ', H', I, q⟩ := h; exact ⟨σ', H', I.unwish, q⟩
  | brk => obtain ⟨σ', H', I, q⟩ := h; exact ⟨σ', H', I.unwish, q⟩
  | cont => obtain ⟨σ', H', I, q⟩ := h; exact ⟨σ', H', I.unwish, q⟩
  | ret u => obtain ⟨v, σ', H', I, r, q⟩ := h; exact ⟨v, σ', H', I.unwish, r, q⟩
theorem PE.nox {e : Expr} {t : TE} (h : PE X.nox e t) : PE X e t := fun pins s σ H Q I hw =>
  wpAny_mono (h pins s σ H Q (I.wish _) hw) (fun _ _ ⟨v, H', I', r, q⟩ => ⟨v, H', I'.unwish, r, q⟩) fun _ _ z => False.elim z
theorem PT.nox {e : Expr} {t : TT} (h : PT X.nox e t) : PT X e t := fun pins s σ H Q I hw =>
  wpAny_mono (h pins s σ H Q (I.wish _) hw) (fun _ _ ⟨H', I', q⟩ => ⟨H', I'.unwish, q⟩) fun _ _ z => False.elim z
theorem PSs.nox {st : List Stmt} {t : TS} (h : PSs X.nox st t) : PSs X st t := fun pins s σ H D I hw =>
  wpAny_mono (h pins s σ H D (I.wish _) hw) (fun _ _ q => q.unwish) fun _ _ z => False.elim z
end

/-! ### blocks and small statements -/
section
variable {X : Cx} {st : Stmt} {rest : List Stmt} {t u : TS} {e : Expr} {te : TE} {pos : Pos}
def tNext : TS := fun D σ H => D.nx σ H
def tSeq (t u : TS) : TS := fun D σ H => t { D with nx := u D } σ H
theorem pss_nil : PSs X [] tNext := fun _ _ σ H _ I h => wpAny_execs_nil ⟨σ, H, I, h⟩
theorem pss_cons (h1 : PS X st t) (h2 : PSs X rest u) : PSs X (st :: rest) (tSeq t u) := by
  intro pins s σ H D I h
  refine wpAny_execs_cons (thn (h1 pins s σ H { D with nx := u D } I h) fun f s1 q => ?_)
  cases f with
  | next =>
    obtain ⟨σ', H', I', q⟩ := q
    exact h2 pins s1 σ' H' D I' q
  | ret v => exact q
  | brk => exact q
  | cont => exact q
theorem pss_one (h1 : PS X st t) : PSs X [st] t := by
  intro pins s σ H D I h
  refine wpAny_execs_cons (thn (h1 pins s σ H D I h) fun f s1 q => ?_)
  cases f with
  | next => exact wpAny_execs_nil q
  | ret v => exact q
  | brk => exact q
  | cont => exact q
/-- in a def's body nothing is shown -/
theorem Inv.quiet {pins : List (Addr × Obj)} {σ : St} {H : Hp} {s : Shared} (I : Inv X pins σ H s) : interactive X.env = false := by simp [interactive, I.ok.kind]
/-- an expression whose value is dropped -/
def tDrop (te : TE) : TS := fun D σ H => te σ H fun _ H1 => D.nx σ H1
theorem ps_expr (he : PE X e te) (hs : swapsWith e none pos.line X.env = pure false := by rfl) : PS X (.Expr e pos) (tDrop te) := by
  intro pins s σ H D I h
  exact wpAny_Expr_any (thn (he pins s σ H _ I h) fun v s1 ⟨x, H1, I1, r1, q1⟩ => ⟨σ, H1, I1, q1⟩) I.quiet hs
def tRet (te : TE) : TS := fun D σ H => te σ H D.rt
theorem ps_ret (he : PE X e te) : PS X (.Return (some e) pos) (tRet te) := by
  intro pins s σ H D I h
  exact wpAny_Return_some (thn (he pins s σ H _ I h) fun v s1 ⟨x, H1, I1, r1, q1⟩ => ⟨x, σ, H1, I1, r1, q1⟩)
def tIfS (c : TT) (t u : TS) : TS := fun D σ H => c σ H fun b H1 => if b = true then t D σ H1 else u D σ H1
theorem ps_if {c : Expr} {a b : List Stmt} {tc : TT} (hc : PT X c tc) (ha : PSs X a t) (hb : PSs X b u) : PS X (.If c a b pos) (tIfS tc t u) := by
  intro pins s σ H D I h
  refine wpAny_If (thn (hc pins s σ H _ I h) fun d s1 ⟨H1, I1, q1⟩ => ?_)
  cases d with
  | true => exact ha pins s1 σ H1 D I1 q1
  | false => exact hb pins s1 σ H1 D I1 q1
end

/-! ### targets -/
abbrev TG := V → St → Hp → (St → Hp → Prop) → Prop
abbrev TGs := List V → St → Hp → (St → Hp → Prop) → Prop
def PG (X : Cx) (target : Expr) (t : TG) : Prop :=
  ∀ (pins : List (Addr × Obj)) (s : Shared) (σ : St) (H : Hp) (v : V) (u : Value) (Q : St → Hp → Prop), Inv X pins σ H s → RelV v u → t v σ H Q →
    wpAny (model X.prog X.w) X.A (assign target X.env u) (fun _ s' => ∃ σ' H', Inv X pins σ' H' s' ∧ Q σ' H') X.xe s
/-- several targets, one after another -/
def PGs (X : Cx) (ts : List Expr) (t : TGs) : Prop :=
  ∀ (pins : List (Addr × Obj)) (s : Shared) (σ : St) (H : Hp) (vs : List V) (us : List Value) (Q : St → Hp → Prop), Inv X pins σ H s → Vals vs us → t vs σ H Q →
    wpAny (model X.prog X.w) X.A (assignInOrder ((assignEach ts X.env).map (·.2)) us) (fun _ s' => ∃ σ' H', Inv X pins σ' H' s' ∧ Q σ' H') X.xe s
/-- o[i] = v, by values -/
abbrev TSet := V → V → V → Hp → (Hp → Prop) → Prop
def PSet (X : Cx) (t : TSet) : Prop :=
  ∀ (pins : List (Addr × Obj)) (s : Shared) (σ : St) (H : Hp) (o i v : V) (ov iv u : Value) (Q : Hp → Prop), Inv X pins σ H s → RelV o ov → RelV i iv → RelV v u → t o i v H Q →
    wpAny (model X.prog X.w) X.A (setItem ov iv u) (fun _ s' => ∃ H', Inv X pins σ H' s' ∧ Q H') X.xe s
section
variable {X : Cx} {pos : Pos}
def gName (i : Nat) : TG := fun v σ H Q => Q (σ.set i (some v)) H
theorem pg_name {i : Nat} {x : Str} (hN : X.N.Nodup) (hi : X.N[i]? = some x) (hx : Loc X.env.scope x) (hf : X.fn x = true ∨ X.env.scope.names.lookup x = some .local := by first | exact .inl rfl | exact .inr rfl | assumption) : PG X (.Name x pos) (gName i) := by
  intro pins s σ H v u Q I r h
  exact wpAny_assign_Name (store_ok I hN hi hx r (fun s' I' => ⟨_, H, I', h⟩) hf)
def gNil : TGs := fun vs σ H Q => vs = [] ∧ Q σ H
def gCons (t : TG) (u : TGs) : TGs := fun vs σ H Q => ∃ v r, vs = v :: r ∧ t v σ H fun σ' H' => u r σ' H' Q
theorem pgs_nil : PGs X [] gNil := by
  intro pins s σ H vs us Q I r h
  obtain ⟨e, h⟩ := h
  subst e
  cases r
  exact assignInOrder_nil ⟨σ, H, I, h⟩
theorem pgs_cons {e : Expr} {es : List Expr} {t : TG} {u : TGs} (h1 : PG X e t) (h2 : PGs X es u)
    (hs : (assignEach (e :: es) X.env).map (·.2) = assign e X.env :: (assignEach es X.env).map (·.2) := by rfl) : PGs X (e :: es) (gCons t u) := by
  intro pins s σ H vs us Q I r h
  obtain ⟨v, vr, e1, h⟩ := h
  subst e1
  cases r with
  | cons r rr =>
    rw [hs]
    refine assignInOrder_cons (thn (h1 pins s σ H _ _ _ I r h) fun _ s1 ⟨σ1, H1, I1, q1⟩ => ?_)
    exact h2 pins s1 σ1 H1 _ _ Q I1 rr q1
/-- (a, b, ..) = a tuple of that length -/
def gTup (K : PySem.W.Frag) (n : Nat) (t : TGs) : TG := fun v σ H Q => ∃ a xs, v = .ref a ∧ SqT K H a xs ∧ xs.length = n ∧ t xs σ H Q
theorem pg_tup {es : List Expr} {k : Nat} {t : TGs} {n : Nat} (hc : X.calm = true) (h : PGs X es t)
    (hn : (assignEach es X.env).length = n := by rfl) (hst : (assignEach es X.env).findIdx? (·.1) = none := by rfl) : PG X (.Tuple es k pos) (gTup X.K n t) := by
  intro pins s σ H v u Q I r hw
  obtain ⟨a, xs, e1, hq, hl, hw⟩ := hw
  subst e1
  cases r
  obtain ⟨its, rv, ht, hz⟩ := I.tuple hq
  refine assign_Tuple_tuple (I.ok.hd hc) ht (by simp [hn, ← hl, rv.length]) hst fun h' hx => ?_
  have I1 : Inv X pins σ H { s with heap := h' } := I.kept (t' := s.toks) fun b o e => hx b o (Nat.ne_of_lt (Heap.lt_size e)) e
  exact h pins _ σ H xs _ Q I1 (by simpa using rv) hw
/-- o[i] = .. -/
def gSub (to ti : TE) (t : TSet) : TG := fun v σ H Q => to σ H fun o H1 => ti σ H1 fun i H2 => t o i v H2 fun H3 => Q σ H3
theorem pg_sub {o i : Expr} {to ti : TE} {t : TSet} (ho : PE X o to) (hi : PE X i ti) (hs : PSet X t)
    (ha : ∀ v, assign (.Subscript o i pos) X.env v = (do
      let ov ← holding [v] (eval o X.env)
      let iv ← holding [v, ov] (eval i X.env)
      standAt pos
      holding [v, ov, iv] (setItem ov iv v)
      release [v, ov, iv] []) := by intro _; rfl) : PG X (.Subscript o i pos) (gSub to ti t) := by
  intro pins s σ H v u Q I r h
  rw [ha]
  refine wpAny_bind (wpAny_holding (thn (ho pins s σ H _ I h) fun ov s1 ⟨x, H1, I1, r1, q1⟩ => ?_))
  refine wpAny_bind (wpAny_holding (thn (hi pins s1 σ H1 _ I1 q1) fun iv s2 ⟨y, H2, I2, r2, q2⟩ => ?_))
  refine wpAny_bind (wpAny_standAt (wpAny_bind (wpAny_holding (thn (hs pins s2 σ H2 x y v ov iv u _ I2 r1 r2 r q2) fun _ s3 ⟨H3, I3, q3⟩ => ?_))))
  exact wpAny_release ⟨σ, H3, I3, q3⟩
/-- target = value -/
def tAsg (te : TE) (g : TG) : TS := fun D σ H => te σ H fun x H1 => g x σ H1 D.nx
theorem ps_asg {tg e : Expr} {te : TE} {g : TG} (he : PE X e te) (hg : PG X tg g) (hs : swapsWithSole [tg] e pos.line X.env = pure false := by rfl) (hw : swappedStores [tg] e X.env = pure none := by rfl)
    (h1 : (assignEach [tg] X.env).map (·.2) = [assign tg X.env] := by rfl) : PS X (.Assign [tg] e pos) (tAsg te g) := by
  intro pins s σ H D I h
  refine wpAny_Assign_stores (thn (he pins s σ H _ I h) fun v s1 ⟨x, H1, I1, r1, q1⟩ => ?_) hs hw
  rw [h1]
  exact thn (hg pins s1 σ H1 x v _ I1 r1 q1) fun _ s2 q => q
/-- name = value -/
theorem ps_set {i : Nat} {x : Str} {e : Expr} {te : TE} {pos' : Pos} (hN : X.N.Nodup) (hi : X.N[i]? = some x) (hx : Loc X.env.scope x) (he : PE X e te) (hs : swapsWith e (some (.Name x pos')) pos.line X.env = pure false := by rfl) (hf : X.fn x = true ∨ X.env.scope.names.lookup x = some .local := by first | exact .inl rfl | exact .inr rfl | assumption) :
    PS X (.Assign [.Name x pos'] e pos) (tAsg te (gName i)) := by
  intro pins s σ H D I h
  refine wpAny_Assign_Name (thn (he pins s σ H _ I h) fun v s1 ⟨y, H1, I1, r1, q1⟩ => ?_) hs
  exact store_ok I1 hN hi hx r1 (fun s2 I2 => ⟨_, H1, I2, q1⟩) hf
end

/-! ### while -/
section
variable {X : Cx} {pos : Pos}
/-- the invariant W with its measure -/
def tWhile (c : TT) (tb : TS) : TS := fun D σ H => ∃ W : Nat → St → Hp → Prop, (∃ m, W m σ H) ∧ ∀ m σ H, W m σ H →
  c σ H fun b H1 => if b = true then ∃ N : St → Hp → Prop, (∀ σ' H', N σ' H' → ∃ m', m' < m ∧ W m' σ' H') ∧ tb { D with nx := N, ct := N, bk := D.nx } σ H1 else D.nx σ H1
theorem ps_while {c : Expr} {body : List Stmt} {tc : TT} {tb : TS} (hp : PassesOwn (model X.prog X.w) X.A X.env X.xe) (hc : PT X c tc) (hb : PSs X body tb) : PS X (.While c body [] pos) (tWhile tc tb) := by
  intro pins s σ H D I h
  obtain ⟨W, ⟨m0, w0⟩, turn⟩ := h
  refine wpAny_While (codeAny_whileLoop (fun n s' => ∃ σ' H', Inv X pins σ' H' s' ∧ W n σ' H') ?_ m0 ⟨σ, H, I, w0⟩)
  rintro n s1 ⟨σ1, H1, I1, w1⟩
  refine wpAny_passesOwn hp (thn (hc pins s1 σ1 H1 _ I1 (turn n σ1 H1 w1)) fun b s2 ⟨H2, I2, q2⟩ => ?_)
  cases b with
  | true =>
    obtain ⟨N, hN, q2⟩ := q2
    rw [if_pos rfl]
    refine wpAny_passesOwn hp (thn (hb pins s2 σ1 H2 _ I2 q2) fun f s3 q3 => ?_)
    cases f with
    | next =>
      obtain ⟨σ3, H3, I3, n3⟩ := q3
      obtain ⟨m', hm, w3⟩ := hN σ3 H3 n3
      exact ⟨m', hm, σ3, H3, I3, w3⟩
    | cont =>
      obtain ⟨σ3, H3, I3, n3⟩ := q3
      obtain ⟨m', hm, w3⟩ := hN σ3 H3 n3
      exact ⟨m', hm, σ3, H3, I3, w3⟩
    | brk => exact q3
    | ret v => exact q3
  | false =>
    rw [if_neg Bool.false_ne_true]
    exact wpAny_execs_nil ⟨σ1, H2, I2, q2⟩
end

/-! ### what a loop or a comprehension walks -/
/-- at turn i: it yields x (the heap may grow), or it stops -/
structure It where
  go : Nat → Hp → Prop
  yld : Nat → Hp → V → Hp → Prop
  stop : Nat → Hp → Prop
/-- the iterator's own objects may turn: they are not the frame's, not pinned, younger than the entry (or a comprehension's own) -/
def FpOk (X : Cx) (pins : List (Addr × Obj)) (H : Hp) (b : Addr) : Prop :=
  H b = none ∧ b ≠ X.env.locals ∧ b ∉ X.fs ∧ (b ∈ X.ex ∨ X.s₀.heap.objs.size ≤ b) ∧ (∀ x c, X.env.cells.lookup x = some c → c ≠ b) ∧ ∀ p ∈ X.pn ++ pins, p.1 ≠ b
theorem Inv.fpOk {X : Cx} {pins : List (Addr × Obj)} {σ : St} {H H' : Hp} {s : Shared} {b : Addr} (I : Inv X pins σ H s) (hb : s.heap.objs.size ≤ b) (hn : H' b = none) : FpOk X pins H' b := by
  refine ⟨hn, Nat.ne_of_gt (Nat.lt_of_lt_of_le I.lt hb), I.nofs hb, .inr (Nat.le_trans I.sz hb), fun x c e z => ?_, fun p hp z => ?_⟩
  · obtain ⟨v, q⟩ := I.cell x c e
    exact absurd (Nat.lt_of_lt_of_le q.lt (by rw [z]; exact hb)) (Nat.lt_irrefl _)
  · exact absurd (Nat.lt_of_lt_of_le (Heap.lt_size (I.pin p hp).1) (by rw [z]; exact hb)) (Nat.lt_irrefl _)
structure Turn (P : Program) (w : World) (K : PySem.W.Frag) (tg : Expr) (J : It) (fp : List Addr) (it : Addr) (tn : Nat → Heap → Prop) : Prop where
  mem : it ∈ fp
  obj : ∀ i h, tn i h → ∀ b ∈ fp, ∃ o, h.get? b = some o ∧ ∀ v, o.data ≠ .cell v
  keep : ∀ i h h', tn i h → (∀ b ∈ fp, ∀ o, h.get? b = some o → h'.get? b = some o) → tn i h'
  item : ∀ (X : Cx), X.prog = P → X.w = w → X.K = K → X.calm = true → ∀ (i : Nat) (pins : List (Addr × Obj)) (s : Shared) (σ : St) (H : Hp) (E : Value → Shared → Prop), Inv X pins σ H s → (∀ b ∈ fp, FpOk X pins H b) → tn i s.heap → J.go i H →
    wpAny (model P w) X.A (pyNext (.ref it)) (fun r s1 => ∃ u, r = some u ∧
      wpAny (model P w) X.A (letOwnedTupleGo tg (.ref it) u) (fun _ s2 => ∃ x H', Inv X pins σ H' s2 ∧ RelV x u ∧ J.yld i H x H' ∧ tn (i + 1) s2.heap ∧ ∀ b ∈ fp, H' b = none) E s1) E s
  done : ∀ (X : Cx), X.prog = P → X.w = w → X.K = K → X.calm = true → ∀ (i : Nat) (pins : List (Addr × Obj)) (s : Shared) (σ : St) (H : Hp) (E : Value → Shared → Prop), Inv X pins σ H s → (∀ b ∈ fp, FpOk X pins H b) → tn i s.heap → J.stop i H →
    wpAny (model P w) X.A (pyNext (.ref it)) (fun r s1 => r = none ∧ Inv X pins σ H s1) E s
  self : ∀ (A : Around) (i : Nat) (s : Shared) (Q : Value → Shared → Prop) (E : Value → Shared → Prop), tn i s.heap → Q (.ref it) s → wpAny (model P w) A (pyIter (.ref it)) Q E s
abbrev TI := St → Hp → (It → Hp → Prop) → Prop
/-- an iterator has come -/
def PIE (X : Cx) (pins : List (Addr × Obj)) (σ : St) (tg : Expr) (R : It → Hp → Prop) (itv : Value) (s2 : Shared) : Prop :=
  ∃ (it : Addr) (fp : List Addr) (tn : Nat → Heap → Prop) (J : It) (H' : Hp), itv = .ref it ∧ Inv X pins σ H' s2 ∧ Turn X.prog X.w X.K tg J fp it tn ∧ tn 0 s2.heap ∧ (∀ b ∈ fp, FpOk X pins H' b) ∧ R J H'
def PI (X : Cx) (tg iter : Expr) (wi : TI) : Prop :=
  ∀ (pins : List (Addr × Obj)) (s : Shared) (σ : St) (H : Hp) (R : It → Hp → Prop), Inv X pins σ H s → wi σ H R →
    wpAny (model X.prog X.w) X.A (eval iter X.env) (fun v s1 => wpAny (model X.prog X.w) X.A (pyIter v) (PIE X pins σ tg R) X.xe s1) X.xe s

/-- the step ahead of the store is nothing for an iterator that keeps no tuple -/
theorem go_of {M : Model} {A : Around} {E : Value → Shared → Prop} {s : Shared} {tg : Expr} {it : Addr} {u : Value} {o : Obj} {n : String} {vs : Array Value} {Q : Unit → Shared → Prop} (ho : s.heap.get? it = some o) (hc : o.cls = .type n) (hd : o.data = .fields vs)
    (hn : ["enumerate", "zip", "dict_itemiterator", "dict_reverseitemiterator", "odict_iterator", "itertools.zip_longest", "itertools.pairwise"].contains n = false) (hQ : Q () s) : wpAny M A (letOwnedTupleGo tg (.ref it) u) Q E s := by
  unfold letOwnedTupleGo
  cases tg <;> first
    | exact wpAny_pure hQ
    | (cases u <;> first
        | exact wpAny_pure hQ
        | (refine wpAny_bind (wpAny_load ho ?_)
           rw [hc, hd]
           show wpAny M A (if (["enumerate", "zip", "dict_itemiterator", "dict_reverseitemiterator", "odict_iterator", "itertools.zip_longest", "itertools.pairwise"].contains n && vs[0]? == some (rawInt _)) = true then _ else _) Q E s
           rw [if_neg (by intro h; rw [hn, Bool.false_and] at h; cases h)]
           exact wpAny_pure hQ))

/-- the list at a, as it stands at each turn (a loop may append to it) -/
def Itl (K : PySem.W.Frag) (a : Addr) : It :=
  ⟨fun i H => ∃ xs x, SqL K H a xs ∧ xs[i]? = some x, fun i H x H' => H' = H ∧ ∀ xs, SqL K H a xs → xs[i]? = some x, fun i H => ∃ xs, SqL K H a xs ∧ xs.length ≤ i⟩
def Itt (K : PySem.W.Frag) (a : Addr) : It :=
  ⟨fun i H => ∃ xs x, SqT K H a xs ∧ xs[i]? = some x, fun i H x H' => H' = H ∧ ∀ xs, SqT K H a xs → xs[i]? = some x, fun i H => ∃ xs, SqT K H a xs ∧ xs.length ≤ i⟩
/-- lo, lo + 1, .. (n of them) -/
def Itr (lo : Int) (n : Nat) : It := ⟨fun i _ => i < n, fun i H x H' => H' = H ∧ x = .int (lo + i), fun i _ => n ≤ i⟩
theorem turn_list {P : Program} {w : World} {K : PySem.W.Frag} {tg : Expr} (a it : Addr) : Turn P w K tg (Itl K a) [it] it (fun i h => h.IsListIter it a i) where
  mem := by simp
  obj := fun i h st b hb => by
    have e : b = it := by simpa using hb
    subst e
    obtain ⟨o, e, c, d⟩ := st
    exact ⟨o, e, fun v z => by rw [d] at z; cases z⟩
  keep := fun i h h' st k => st.at fun o e => k it (by simp) o e
  item := by
    intro X hP hw hK hc i pins s σ H E I hf st hg
    subst hP hw hK
    obtain ⟨xs, x, hq, hx⟩ := hg
    obtain ⟨its, rv, p, hz⟩ := I.list hq
    obtain ⟨u, hu, ru⟩ := rv.get hx
    obtain ⟨f0, f1, f2, f3, f4, f5⟩ := hf it (by simp)
    refine wpAny_pyNext_list_item st p.isList (x := u) (by simpa using hu) fun h' st' sb => ?_
    have I1 : Inv X pins σ H { s with heap := h' } := I.turned (t' := s.toks) (fun b o hb e => (sb.2 b hb).trans e) f0 f1 f3 f4 f5
    obtain ⟨o, e, c, d⟩ := id st'
    exact ⟨u, rfl, go_of (s := { s with heap := h' }) e c d (by decide) ⟨x, H, I1, ru, ⟨rfl, fun ys hy => by rw [I.list_inj hy hq]; exact hx⟩, st', fun b hb => (hf b hb).1⟩⟩
  done := by
    intro X hP hw hK hc i pins s σ H E I hf st hg
    subst hP hw hK
    obtain ⟨xs, hq, hx⟩ := hg
    obtain ⟨its, rv, p, hz⟩ := I.list hq
    obtain ⟨f0, f1, f2, f3, f4, f5⟩ := hf it (by simp)
    have hl := rv.length
    exact wpAny_pyNext_list_end (I.ok.hd hc) st p.isList (by simp; omega) fun h' eb => ⟨rfl, I.turned (t' := s.toks) (fun b o hb e => eb b o hb e) f0 f1 f3 f4 f5⟩
  self := fun _ _ _ _ _ st h => wpAny_pyIter_listiter st h
theorem turn_tuple {P : Program} {w : World} {K : PySem.W.Frag} {tg : Expr} (a it : Addr) : Turn P w K tg (Itt K a) [it] it (fun i h => h.IsTupleIter it a i) where
  mem := by simp
  obj := fun i h st b hb => by
    have e : b = it := by simpa using hb
    subst e
    obtain ⟨o, e, c, d⟩ := st
    exact ⟨o, e, fun v z => by rw [d] at z; cases z⟩
  keep := fun i h h' st k => st.at fun o e => k it (by simp) o e
  item := by
    intro X hP hw hK hc i pins s σ H E I hf st hg
    subst hP hw hK
    obtain ⟨xs, x, hq, hx⟩ := hg
    obtain ⟨its, rv, p, hz⟩ := I.tuple hq
    obtain ⟨u, hu, ru⟩ := rv.get hx
    obtain ⟨f0, f1, f2, f3, f4, f5⟩ := hf it (by simp)
    refine wpAny_pyNext_tuple_item st (show s.heap.IsTuple a its.toArray from p) (x := u) (by simpa using hu) fun h' st' sb => ?_
    have I1 : Inv X pins σ H { s with heap := h' } := I.turned (t' := s.toks) (fun b o hb e => (sb.2 b hb).trans e) f0 f1 f3 f4 f5
    obtain ⟨o, e, c, d⟩ := id st'
    exact ⟨u, rfl, go_of (s := { s with heap := h' }) e c d (by decide) ⟨x, H, I1, ru, ⟨rfl, fun ys hy => by rw [I.tuple_inj hy hq]; exact hx⟩, st', fun b hb => (hf b hb).1⟩⟩
  done := by
    intro X hP hw hK hc i pins s σ H E I hf st hg
    subst hP hw hK
    obtain ⟨xs, hq, hx⟩ := hg
    obtain ⟨its, rv, p, hz⟩ := I.tuple hq
    obtain ⟨f0, f1, f2, f3, f4, f5⟩ := hf it (by simp)
    have hl := rv.length
    exact wpAny_pyNext_tuple_end (I.ok.hd hc) st (show s.heap.IsTuple a its.toArray from p) (by simp; omega) fun h' eb => ⟨rfl, I.turned (t' := s.toks) (fun b o hb e => eb b o hb e) f0 f1 f3 f4 f5⟩
  self := fun _ _ _ _ _ st h => wpAny_pyIter_tupleiter st h
theorem turn_range {P : Program} {w : World} {K : PySem.W.Frag} {tg : Expr} (it : Addr) (lo : Int) (n : Nat) : Turn P w K tg (Itr lo n) [it] it (fun i h => IsRangeIter h it (lo + (i : Nat) * 1) ((n : Int) - (i : Nat)) 1) where
  mem := by simp
  obj := fun i h st b hb => by
    have e : b = it := by simpa using hb
    subst e
    exact ⟨_, st, fun v z => by
      have z' : Data.fields _ = Data.cell v := z
      cases z'⟩
  keep := fun i h h' st k => k it (by simp) _ st
  item := by
    intro X hP hw hK hc i pins s σ H E I hf st hg
    subst hP hw hK
    obtain ⟨f0, f1, f2, f3, f4, f5⟩ := hf it (by simp)
    have W := Walks.range (prog := X.prog) (w := X.w) (I.ok.hd hc) it lo 1 n
    refine W.item i s _ _ hg st fun v h' tk hv st' kk => ?_
    obtain ⟨t, rfl⟩ := hv
    have I1 : Inv X pins σ H { s with heap := h', toks := tk } := I.turned (fun b o hb e => kk b o (by simpa using hb) e) f0 f1 f3 f4 f5
    refine ⟨_, rfl, go_of (s := { s with heap := h', toks := tk }) (n := "range_iterator") st' rfl rfl (by decide) ⟨.int (lo + i), H, I1, ⟨t, ?_⟩, ⟨rfl, rfl⟩, st', fun b hb => (hf b hb).1⟩⟩
    rw [Int.mul_one]
  done := by
    intro X hP hw hK hc i pins s σ H E I hf st hg
    subst hP hw hK
    obtain ⟨f0, f1, f2, f3, f4, f5⟩ := hf it (by simp)
    exact wpAny_pyNext_range_end (I.ok.hd hc) st (by have : n ≤ i := hg; omega) fun h' eb => ⟨rfl, I.turned (t' := s.toks) (fun b o hb e => eb b o hb e) f0 f1 f3 f4 f5⟩
  self := fun _ _ _ _ _ st h => wpAny_pyIter_rangeiter st h
end L2

namespace L2
open PySem PySem.Spec PyProof.Rows
section
variable {X : Cx} {tg : Expr}
def iList (K : PySem.W.Frag) (tl : TE) : TI := fun σ H R => tl σ H fun x H1 => ∃ a, x = .ref a ∧ (∃ xs, SqL K H1 a xs) ∧ R (Itl K a) H1
def iTup (K : PySem.W.Frag) (tl : TE) : TI := fun σ H R => tl σ H fun x H1 => ∃ a, x = .ref a ∧ (∃ xs, SqT K H1 a xs) ∧ R (Itt K a) H1
theorem pi_list {l : Expr} {tl : TE} (hl : PE X l tl) : PI X tg l (iList X.K tl) := by
  intro pins s σ H R I h
  refine thn (hl pins s σ H _ I h) fun v s1 ⟨x, H1, I1, r1, q1⟩ => ?_
  obtain ⟨a, e, ⟨xs, hq⟩, q⟩ := q1
  subst e
  cases r1
  obtain ⟨its, rv, p, hz⟩ := I1.list hq
  refine wpAny_pyIter_list p.isList ?_
  refine ⟨s1.heap.objs.size, [s1.heap.objs.size], _, _, H1, rfl, I1.kept (t' := s1.toks) fun b o e => Heap.get?_push_of_some _ e, turn_list a _, ⟨_, Heap.get?_push_size _ rfl, rfl, rfl⟩, fun b hb => ?_, q⟩
  have e : b = s1.heap.objs.size := by simpa using hb
  subst e
  exact I1.fpOk (Nat.le_refl _) (I1.hok.fresh (Nat.le_refl _))
theorem pi_tup {l : Expr} {tl : TE} (hl : PE X l tl) : PI X tg l (iTup X.K tl) := by
  intro pins s σ H R I h
  refine thn (hl pins s σ H _ I h) fun v s1 ⟨x, H1, I1, r1, q1⟩ => ?_
  obtain ⟨a, e, ⟨xs, hq⟩, q⟩ := q1
  subst e
  cases r1
  obtain ⟨its, rv, p, hz⟩ := I1.tuple hq
  refine wpAny_pyIter_tuple (show s1.heap.IsTuple a its.toArray from p) ?_
  refine ⟨s1.heap.objs.size, [s1.heap.objs.size], _, _, H1, rfl, I1.kept (t' := s1.toks) fun b o e => Heap.get?_push_of_some _ e, turn_tuple a _, ⟨_, Heap.get?_push_size _ rfl, rfl, rfl⟩, fun b hb => ?_, q⟩
  have e : b = s1.heap.objs.size := by simpa using hb
  subst e
  exact I1.fpOk (Nat.le_refl _) (I1.hok.fresh (Nat.le_refl _))
/-- a range object just made, walked -/
theorem range_it {pins : List (Addr × Obj)} {σ : St} {H : Hp} {s : Shared} {R : It → Hp → Prop} {E : Value → Shared → Prop} {lo hi : Int} {t u v : Tok} {tk : Nat} (I : Inv X pins σ H s) (h1 : -(2 ^ 62) ≤ lo) (h2 : lo < 2 ^ 62) (h3 : -(2 ^ 62) ≤ hi) (h4 : hi < 2 ^ 62)
    (q : R (Itr lo (hi - lo).toNat) H) : wpAny (model X.prog X.w) X.A (pyIter (.ref s.heap.objs.size)) (PIE X pins σ tg R) E { s with heap := s.heap.push { cls := .type "range", data := .fields #[.int lo t, .int hi u, .int 1 v] }, toks := tk } := by
  refine wpAny_pyIter_range (IsRange.new ..) (small_one h1 h2 h3 h4) ?_
  have I1 : Inv X pins σ H { s with heap := s.heap.push { cls := .type "range", data := .fields #[.int lo t, .int hi u, .int 1 v] }, toks := tk } := I.kept fun b o e => Heap.get?_push_of_some _ e
  refine ⟨(s.heap.push { cls := .type "range", data := .fields #[.int lo t, .int hi u, .int 1 v] }).objs.size, [(s.heap.push { cls := .type "range", data := .fields #[.int lo t, .int hi u, .int 1 v] }).objs.size], _, _, H, rfl,
    I1.kept (t' := tk) fun b o e => Heap.get?_push_of_some _ e, turn_range _ lo (hi - lo).toNat, ?_, fun b hb => ?_, q⟩
  · have e1 : lo + ((0 : Nat) : Int) * 1 = lo := by simp
    have e2 : (((hi - lo).toNat : Nat) : Int) - ((0 : Nat) : Int) = Builtin.Range.rangeSize lo hi 1 := by rw [rangeSize_one]; split <;> omega
    show IsRangeIter _ _ (lo + ((0 : Nat) : Int) * 1) ((((hi - lo).toNat : Nat) : Int) - ((0 : Nat) : Int)) 1
    rw [e1, e2]
    exact Heap.get?_push_size _ rfl
  · have e : b = (s.heap.push { cls := .type "range", data := .fields #[.int lo t, .int hi u, .int 1 v] }).objs.size := by simpa using hb
    subst e
    exact I1.fpOk (Nat.le_refl _) (I1.hok.fresh (Nat.le_refl _))
def iRng1 (ta : TA) : TI := fun σ H R => ta σ H fun vs H1 => ∃ j : Int, vs = [.int j] ∧ -(2 ^ 62) ≤ j ∧ j < 2 ^ 62 ∧ R (Itr 0 j.toNat) H1
theorem pi_range1 {a : Expr} {ta : TA} {p pos : Pos} (hg : Gl X "range") (hm : X.mg "range" = none) (ha : PA X [a] ta) (hs : starEach [a] X.env = [(false, eval a X.env)] := by rfl) : PI X tg (.Call (.Name "range" p) [a] [] pos) (iRng1 ta) := by
  intro pins s σ H R I h
  refine Call_ (ld_blt I hg hm boot_range (PyProof.Rows.callWith_type1 (thn (ha pos pins s σ H _ I h) fun us s1 ⟨vs, H1, I1, r1, q1⟩ => ?_) hs rfl))
  obtain ⟨j, e, q1, q2, q⟩ := q1
  subst e
  cases r1 with
  | cons r rr =>
    cases rr
    obtain ⟨t, rfl⟩ := r
    exact call_range_1 (range_it I1 (by omega) (by omega) q1 q2 (by simpa using q))
/-! ### for -/
/-- W: the invariant by the turn and a measure; N: what the body is to reach -/
def tFor (wi : TI) (g : TG) (tb : TS) : TS := fun D σ H => wi σ H fun J H1 => ∃ W : Nat → Nat → St → Hp → Prop, (∃ m, W 0 m σ H1) ∧ ∀ i m σ H, W i m σ H →
  (J.stop i H ∧ D.nx σ H) ∨ (J.go i H ∧ ∃ N : St → Hp → Prop, (∀ σ' H', N σ' H' → ∃ m', m' < m ∧ W (i + 1) m' σ' H') ∧ ∀ x H', J.yld i H x H' → g x σ H' fun σ2 H2 => tb { D with nx := N, ct := N, bk := D.nx } σ2 H2)
/-- the records at fp as they stand -/
def pinsAt (fp : List Addr) (h : Heap) : List (Addr × Obj) := fp.filterMap fun b => (h.get? b).map fun o => (b, o)
theorem mem_pinsAt {fp : List Addr} {h : Heap} {b : Addr} {o : Obj} (hb : b ∈ fp) (e : h.get? b = some o) : (b, o) ∈ pinsAt fp h := List.mem_filterMap.mpr ⟨b, hb, by rw [e]; rfl⟩
theorem of_pinsAt {fp : List Addr} {h : Heap} {p : Addr × Obj} (hp : p ∈ pinsAt fp h) : p.1 ∈ fp ∧ h.get? p.1 = some p.2 := by
  obtain ⟨b, hb, e⟩ := List.mem_filterMap.mp hp
  cases q : h.get? b with
  | none => rw [q] at e; cases e
  | some o =>
    rw [q] at e
    have e' : (b, o) = p := Option.some.inj e
    subst e'
    exact ⟨hb, q⟩
theorem Inv.pinned {pins : List (Addr × Obj)} {σ : St} {H : Hp} {s : Shared} {fp : List Addr} (I : Inv X pins σ H s) (hf : ∀ b ∈ fp, FpOk X pins H b) (ho : ∀ b ∈ fp, ∃ o, s.heap.get? b = some o ∧ ∀ v, o.data ≠ .cell v) : Inv X (pins ++ pinsAt fp s.heap) σ H s :=
  I.pins_of fun p hp => (List.mem_append.mp hp).elim (fun z => I.pin p (List.mem_append_right _ z)) fun z => by
    obtain ⟨hb, e⟩ := of_pinsAt z
    obtain ⟨f0, f1, f2, _⟩ := hf p.1 hb
    obtain ⟨o, e', d⟩ := ho p.1 hb
    rw [e] at e'; cases e'
    exact ⟨e, f0, f1, f2, d⟩
theorem Inv.unpinned {pins pl : List (Addr × Obj)} {σ : St} {H : Hp} {s : Shared} (I : Inv X (pins ++ pl) σ H s) : Inv X pins σ H s := I.pins_of fun p hp => I.pin p (List.mem_append_right _ (List.mem_append_left _ hp))
theorem ps_for {iter : Expr} {body : List Stmt} {wi : TI} {g : TG} {tb : TS} {pos : Pos} (hp : PassesOwn (model X.prog X.w) X.A X.env X.xe) (hc : X.calm = true) (hi : PI X tg iter wi) (hg : PG X tg g) (hb : PSs X body tb)
    (hs : ∀ x, foldedSetIterable iter X.env x = pure x := by intro _; rfl) : PS X (.For tg iter body [] pos) (tFor wi g tb) := by
  intro pins s σ H D I h
  refine wpAny_For (thn (hi pins s σ H _ I h) fun v s1 h1 => thn h1 fun itv s2 h2 => ?_) hs
  obtain ⟨it, fp, tn, J, H2, e, I2, T, st2, f2, W, ⟨m0, w0⟩, turn⟩ := h2
  subst e
  -- what stays true of the iterator's objects through the loop
  have stat : ∀ {H' : Hp}, (∀ b ∈ fp, H' b = none) → ∀ b ∈ fp, FpOk X pins H' b := fun hn b hb => ⟨hn b hb, (f2 b hb).2⟩
  refine codeAny_forLoop_any (fun n s' => ∃ i σ' H', Inv X pins σ' H' s' ∧ tn i s'.heap ∧ (∀ b ∈ fp, H' b = none) ∧ W i n σ' H') ?_ m0 ⟨0, σ, H2, I2, st2, fun b hb => (f2 b hb).1, w0⟩
  rintro n s3 ⟨i, σ3, H3, I3, st3, fr3, w3⟩
  rcases turn i n σ3 H3 w3 with ⟨stop, qn⟩ | ⟨go, N, hN, step⟩
  · refine wpAny_passesOwn hp (thn (T.done X rfl rfl rfl hc i pins s3 σ3 H3 X.xe I3 (stat fr3) st3 stop) fun r s4 ⟨hr, I4⟩ => ?_)
    subst hr
    exact wpAny_execs_nil ⟨σ3, H3, I4, qn⟩
  · refine wpAny_passesOwn hp (thn (T.item X rfl rfl rfl hc i pins s3 σ3 H3 X.xe I3 (stat fr3) st3 go) fun r s4 ⟨u, hr, h4⟩ => ?_)
    subst hr
    refine wpAny_passesOwn hp (thn h4 fun _ s5 ⟨x, H5, I5, r5, y5, st5, fr5⟩ => ?_)
    have I5' := I5.pinned (stat fr5) (T.obj _ _ st5)
    refine wpAny_passesOwn hp (thn (hg _ s5 σ3 H5 x u _ I5' r5 (step x H5 y5)) fun _ s6 ⟨σ6, H6, I6, q6⟩ => ?_)
    refine wpAny_passesOwn hp (thn (hb _ s6 σ6 H6 _ I6 q6) fun f s7 q7 => ?_)
    have again : ∀ {σ7 : St} {H7 : Hp}, Inv X (pins ++ pinsAt fp s5.heap) σ7 H7 s7 → N σ7 H7 → ∃ m, m < n ∧ ∃ i σ' H', Inv X pins σ' H' s7 ∧ tn i s7.heap ∧ (∀ b ∈ fp, H' b = none) ∧ W i m σ' H' := fun {σ7 H7} I7 n7 => by
      obtain ⟨m', hm, w7⟩ := hN σ7 H7 n7
      refine ⟨m', hm, i + 1, σ7, H7, I7.unpinned, T.keep _ _ _ st5 fun b hb o e => (I7.pin (b, o) (List.mem_append_right _ (List.mem_append_right _ (mem_pinsAt hb e)))).1, fun b hb => ?_, w7⟩
      obtain ⟨o, e, d⟩ := T.obj _ _ st5 b hb
      exact (I7.pin (b, o) (List.mem_append_right _ (List.mem_append_right _ (mem_pinsAt hb e)))).2.1
    cases f with
    | next => obtain ⟨σ7, H7, I7, n7⟩ := q7; exact again I7 n7
    | cont => obtain ⟨σ7, H7, I7, n7⟩ := q7; exact again I7 n7
    | brk => obtain ⟨σ7, H7, I7, q7⟩ := q7; exact ⟨σ7, H7, I7.unpinned, q7⟩
    | ret v => obtain ⟨x7, σ7, H7, I7, r7, q7⟩ := q7; exact ⟨x7, σ7, H7, I7.unpinned, r7, q7⟩
end

/-! ### the forms one uses -/
/-- over a list that the body leaves as it is -/
theorem for_list {K : PySem.W.Frag} {a : Addr} {xs : List V} {g : TG} {tb : TS} {D : Ends} {σ : St} {H : Hp} (Pv : Nat → St → Hp → Prop) (h0 : Pv 0 σ H) (hl : ∀ i σ H, i ≤ xs.length → Pv i σ H → SqL K H a xs)
    (hs : ∀ i x σ H, xs[i]? = some x → Pv i σ H → g x σ H fun σ2 H2 => tb { D with nx := Pv (i + 1), ct := Pv (i + 1), bk := D.nx } σ2 H2) (hd : ∀ σ H, Pv xs.length σ H → D.nx σ H) :
    ∃ W : Nat → Nat → St → Hp → Prop, (∃ m, W 0 m σ H) ∧ ∀ i m σ H, W i m σ H →
      ((Itl K a).stop i H ∧ D.nx σ H) ∨ ((Itl K a).go i H ∧ ∃ N : St → Hp → Prop, (∀ σ' H', N σ' H' → ∃ m', m' < m ∧ W (i + 1) m' σ' H') ∧ ∀ x H', (Itl K a).yld i H x H' → g x σ H' fun σ2 H2 => tb { D with nx := N, ct := N, bk := D.nx } σ2 H2) := by
  refine ⟨fun i m σ H => m = xs.length - i ∧ i ≤ xs.length ∧ Pv i σ H, ⟨xs.length, by simp, Nat.zero_le _, h0⟩, ?_⟩
  rintro i m σ H ⟨rfl, hi, p⟩
  have q := hl i σ H hi p
  by_cases hlt : i < xs.length
  · refine .inr ⟨⟨xs, xs[i], q, by simp [hlt]⟩, Pv (i + 1), fun σ' H' p' => ⟨xs.length - (i + 1), by omega, rfl, hlt, p'⟩, fun x H' y => ?_⟩
    obtain ⟨e, y⟩ := y
    subst e
    exact hs i x σ _ (y xs q) p
  · have e : i = xs.length := by omega
    subst e
    exact .inl ⟨⟨xs, q, Nat.le_refl _⟩, hd σ H p⟩
theorem for_tup {K : PySem.W.Frag} {a : Addr} {xs : List V} {g : TG} {tb : TS} {D : Ends} {σ : St} {H : Hp} (Pv : Nat → St → Hp → Prop) (h0 : Pv 0 σ H) (hl : ∀ i σ H, i ≤ xs.length → Pv i σ H → SqT K H a xs)
    (hs : ∀ i x σ H, xs[i]? = some x → Pv i σ H → g x σ H fun σ2 H2 => tb { D with nx := Pv (i + 1), ct := Pv (i + 1), bk := D.nx } σ2 H2) (hd : ∀ σ H, Pv xs.length σ H → D.nx σ H) :
    ∃ W : Nat → Nat → St → Hp → Prop, (∃ m, W 0 m σ H) ∧ ∀ i m σ H, W i m σ H →
      ((Itt K a).stop i H ∧ D.nx σ H) ∨ ((Itt K a).go i H ∧ ∃ N : St → Hp → Prop, (∀ σ' H', N σ' H' → ∃ m', m' < m ∧ W (i + 1) m' σ' H') ∧ ∀ x H', (Itt K a).yld i H x H' → g x σ H' fun σ2 H2 => tb { D with nx := N, ct := N, bk := D.nx } σ2 H2) := by
  refine ⟨fun i m σ H => m = xs.length - i ∧ i ≤ xs.length ∧ Pv i σ H, ⟨xs.length, by simp, Nat.zero_le _, h0⟩, ?_⟩
  rintro i m σ H ⟨rfl, hi, p⟩
  have q := hl i σ H hi p
  by_cases hlt : i < xs.length
  · refine .inr ⟨⟨xs, xs[i], q, by simp [hlt]⟩, Pv (i + 1), fun σ' H' p' => ⟨xs.length - (i + 1), by omega, rfl, hlt, p'⟩, fun x H' y => ?_⟩
    obtain ⟨e, y⟩ := y
    subst e
    exact hs i x σ _ (y xs q) p
  · have e : i = xs.length := by omega
    subst e
    exact .inl ⟨⟨xs, q, Nat.le_refl _⟩, hd σ H p⟩
theorem for_range {lo : Int} {n : Nat} {g : TG} {tb : TS} {D : Ends} {σ : St} {H : Hp} (Pv : Nat → St → Hp → Prop) (h0 : Pv 0 σ H)
    (hs : ∀ i σ H, i < n → Pv i σ H → g (.int (lo + i)) σ H fun σ2 H2 => tb { D with nx := Pv (i + 1), ct := Pv (i + 1), bk := D.nx } σ2 H2) (hd : ∀ σ H, Pv n σ H → D.nx σ H) :
    ∃ W : Nat → Nat → St → Hp → Prop, (∃ m, W 0 m σ H) ∧ ∀ i m σ H, W i m σ H →
      ((Itr lo n).stop i H ∧ D.nx σ H) ∨ ((Itr lo n).go i H ∧ ∃ N : St → Hp → Prop, (∀ σ' H', N σ' H' → ∃ m', m' < m ∧ W (i + 1) m' σ' H') ∧ ∀ x H', (Itr lo n).yld i H x H' → g x σ H' fun σ2 H2 => tb { D with nx := N, ct := N, bk := D.nx } σ2 H2) := by
  refine ⟨fun i m σ H => m = n - i ∧ i ≤ n ∧ Pv i σ H, ⟨n, by simp, Nat.zero_le _, h0⟩, ?_⟩
  rintro i m σ H ⟨rfl, hi, p⟩
  by_cases hlt : i < n
  · refine .inr ⟨hlt, Pv (i + 1), fun σ' H' p' => ⟨n - (i + 1), by omega, rfl, hlt, p'⟩, fun x H' y => ?_⟩
    obtain ⟨e, y⟩ := y
    subst e y
    exact hs i σ _ hlt p
  · have e : i = n := by omega
    subst e
    exact .inl ⟨Nat.le_refl _, hd σ H p⟩
end L2

namespace L2
open PySem PySem.Spec PyProof.Rows

abbrev R2 := V → V → Hp → VK → Prop
/-- a two-place operation on values: f is binaryOp op, inplaceOp op or compareOp op -/
def OpR (X : Cx) (f : Value → Value → Sem Value) (r : R2) : Prop :=
  ∀ (pins : List (Addr × Obj)) (s : Shared) (σ : St) (H : Hp) (x y : V) (v u : Value) (Q : VK), Inv X pins σ H s → RelV x v → RelV y u → r x y H Q →
    wpAny (model X.prog X.w) X.A (f v u) (EP X pins σ Q) X.xe s
/-- a one-place operation -/
def UnR (X : Cx) (f : Value → Sem Value) (r : V → Hp → VK → Prop) : Prop :=
  ∀ (pins : List (Addr × Obj)) (s : Shared) (σ : St) (H : Hp) (x : V) (v : Value) (Q : VK), Inv X pins σ H s → RelV x v → r x H Q →
    wpAny (model X.prog X.w) X.A (f v) (EP X pins σ Q) X.xe s
/-- a call of a value that is known (a builtin, a type) with values -/
def CallR (X : Cx) (f : Value) (r : List V → Hp → VK → Prop) : Prop :=
  ∀ (pins : List (Addr × Obj)) (s : Shared) (σ : St) (H : Hp) (xs : List V) (us : List Value) (Q : VK), Inv X pins σ H s → Vals xs us → r xs H Q →
    wpAny (model X.prog X.w) X.A (call f us) (EP X pins σ Q) X.xe s
/-- a value's truth -/
def TruR (X : Cx) (r : V → Hp → (Bool → Hp → Prop) → Prop) : Prop :=
  ∀ (pins : List (Addr × Obj)) (s : Shared) (σ : St) (H : Hp) (x : V) (v : Value) (Q : Bool → Hp → Prop), Inv X pins σ H s → RelV x v → r x H Q →
    wpAny (model X.prog X.w) X.A (truthy v) (TP X pins σ Q) X.xe s

def tOp (r : R2) (ta tb : TE) : TE := fun σ H Q => ta σ H fun x H1 => tb σ H1 fun y H2 => r x y H2 Q
def tUn (r : V → Hp → VK → Prop) (ta : TE) : TE := fun σ H Q => ta σ H fun x H1 => r x H1 Q
/-- ints in, under C, and a value out -/
def rI (C : Int → Int → Prop) (g : Int → Int → V) : R2 := fun x y H Q => ∃ i j, x = .int i ∧ y = .int j ∧ C i j ∧ Q (g i j) H
def rI0 (g : Int → Int → V) : R2 := fun x y H Q => ∃ i j, x = .int i ∧ y = .int j ∧ Q (g i j) H
def rU (g : Int → V) : V → Hp → VK → Prop := fun x H Q => ∃ i, x = .int i ∧ Q (g i) H

section
variable {X : Cx} {a b c : Expr} {ta tb tc : TE} {pos : Pos}

theorem binT (ha : PE X a ta) (hb : PE X b tb) {pins : List (Addr × Obj)} {s : Shared} {σ : St} {H : Hp} {R : V → V → Hp → Prop} (I : Inv X pins σ H s)
    (h : ta σ H fun x H1 => tb σ H1 fun y H2 => R x y H2) {Q : Value → Shared → Prop} {f : Value → Value → Sem Value}
    (hf : ∀ v u s2 x y H2, Inv X pins σ H2 s2 → RelV x v → RelV y u → R x y H2 → wpAny (model X.prog X.w) X.A (f v u) Q X.xe s2) :
    wpAny (model X.prog X.w) X.A (eval a X.env) (fun v s₁ => wpAny (model X.prog X.w) X.A (eval b X.env) (fun u s₂ => wpAny (model X.prog X.w) X.A (f v u) Q X.xe s₂) X.xe s₁) X.xe s := by
  refine thn (ha pins s σ H _ I h) fun v s1 ⟨x, H1, I1, r1, q1⟩ => ?_
  refine thn (hb pins s1 σ H1 _ I1 q1) fun u s2 ⟨y, H2, I2, r2, q2⟩ => ?_
  exact hf v u s2 x y H2 I2 r1 r2 q2

theorem pe_op {op : Operator} {r : R2} (ho : OpR X (binaryOp op) r) (ha : PE X a ta) (hb : PE X b tb) : PE X (.BinOp a op b pos) (tOp r ta tb) := by
  intro pins s σ H Q I h
  exact wpAny_BinOp (binT ha hb I h fun v u s2 x y H2 I2 rx ry q => ho pins s2 σ H2 x y v u Q I2 rx ry q)
theorem pe_un {op : UnaryOp} {r : V → Hp → VK → Prop} (ho : UnR X (unaryOp op) r) (ha : PE X a ta) : PE X (.UnaryOp op a pos) (tUn r ta) := by
  intro pins s σ H Q I h
  exact UnaryOp_ (thn (ha pins s σ H _ I h) fun v s1 ⟨x, H1, I1, r1, q1⟩ => ho pins s1 σ H1 x v Q I1 r1 q1)
/-! ### ints -/
theorem opI {f : Value → Value → Sem Value} {C : Int → Int → Prop} {g : Int → Int → Int}
    (rule : ∀ (i j : Int) (t u : Tok) (s : Shared) (Q : Value → Shared → Prop) (E : Value → Shared → Prop), C i j → Q (.int (g i j) s.toks) { s with toks := s.toks + 1 } → wpAny (model X.prog X.w) X.A (f (.int i t) (.int j u)) Q E s) :
    OpR X f (rI C fun i j => .int (g i j)) := by
  intro pins s σ H x y v u Q I rx ry h
  obtain ⟨i, j, rfl, rfl, hc, q⟩ := h
  obtain ⟨t, rfl⟩ := rx
  obtain ⟨t', rfl⟩ := ry
  exact rule i j t t' s _ _ hc ⟨.int (g i j), H, I.tok _, ⟨_, rfl⟩, q⟩
theorem opI0 {f : Value → Value → Sem Value} {g : Int → Int → Int}
    (rule : ∀ (i j : Int) (t u : Tok) (s : Shared) (Q : Value → Shared → Prop) (E : Value → Shared → Prop), Q (.int (g i j) s.toks) { s with toks := s.toks + 1 } → wpAny (model X.prog X.w) X.A (f (.int i t) (.int j u)) Q E s) :
    OpR X f (rI0 fun i j => .int (g i j)) := by
  intro pins s σ H x y v u Q I rx ry h
  obtain ⟨i, j, rfl, rfl, q⟩ := h
  obtain ⟨t, rfl⟩ := rx
  obtain ⟨t', rfl⟩ := ry
  exact rule i j t t' s _ _ ⟨.int (g i j), H, I.tok _, ⟨_, rfl⟩, q⟩
theorem opB0 {f : Value → Value → Sem Value} {g : Int → Int → Bool}
    (rule : ∀ (i j : Int) (t u : Tok) (s : Shared) (Q : Value → Shared → Prop) (E : Value → Shared → Prop), Q (.bool (g i j)) s → wpAny (model X.prog X.w) X.A (f (.int i t) (.int j u)) Q E s) :
    OpR X f (rI0 fun i j => .bl (g i j)) := by
  intro pins s σ H x y v u Q I rx ry h
  obtain ⟨i, j, rfl, rfl, q⟩ := h
  obtain ⟨t, rfl⟩ := rx
  obtain ⟨t', rfl⟩ := ry
  exact rule i j t t' s _ _ ⟨.bl (g i j), H, I, rfl, q⟩

def CDiv (i j : Int) : Prop := 0 < j ∧ j < 1073741824
def CPow (i j : Int) : Prop := 0 ≤ j ∧ j ≤ 1000000 ∧ i.natAbs < 2 ^ 64
def CMul (i j : Int) : Prop := (-(2 ^ 64) < i ∧ i < 2 ^ 64) ∨ (-(2 ^ 64) < j ∧ j < 2 ^ 64)
theorem CMul.ok {i j : Int} (h : CMul i j) : IntMulOk i j := by
  rcases h with ⟨h1, h2⟩ | ⟨h1, h2⟩
  · exact .of_left (intBits_le_64 h1 h2)
  · exact .of_right (intBits_le_64 h1 h2)
theorem op_add : OpR X (binaryOp .Add) (rI0 fun i j => .int (i + j)) := opI0 fun _ _ _ _ _ _ _ q => add_int q
theorem op_sub : OpR X (binaryOp .Sub) (rI0 fun i j => .int (i - j)) := opI0 fun _ _ _ _ _ _ _ q => sub_int q
theorem op_mul : OpR X (binaryOp .Mult) (rI CMul fun i j => .int (i * j)) := opI fun _ _ _ _ _ _ _ hc q => mul_int q hc.ok
/-- // by a positive divisor -/
theorem op_fdiv : OpR X (binaryOp .FloorDiv) (rI CDiv fun i j => .int (i / j)) := opI fun i j _ _ _ _ _ hc q => by
  have h1 : (0 : Int) < j := hc.1
  have h2 : j < 1073741824 := hc.2
  exact floordiv_int (by omega) (by rw [Int.fdiv_eq_ediv_of_nonneg i (by omega)]; exact q) (.inl (PyProof.noPylong_small (by omega)))
/-- % by a positive divisor of any size -/
theorem op_mod : OpR X (binaryOp .Mod) (rI (fun _ j => 0 < j) fun i j => .int (i % j)) := opI fun i j _ _ _ _ _ hc q => by
  have h1 : (0 : Int) < j := hc
  exact mod_int' (by omega) (by rw [Int.fmod_eq_emod_of_nonneg i (by omega)]; exact q)
theorem op_pow : OpR X (binaryOp .Pow) (rI CPow fun i j => .int (i ^ j.toNat)) := opI fun _ _ _ _ _ _ _ hc q => pow_int_small hc.1 hc.2.1 hc.2.2 q
theorem unI {f : Value → Sem Value} {g : Int → Int}
    (rule : ∀ (i : Int) (t : Tok) (s : Shared) (Q : Value → Shared → Prop) (E : Value → Shared → Prop), Q (.int (g i) s.toks) { s with toks := s.toks + 1 } → wpAny (model X.prog X.w) X.A (f (.int i t)) Q E s) :
    UnR X f (rU fun i => .int (g i)) := by
  intro pins s σ H x v Q I rx h
  obtain ⟨i, rfl, q⟩ := h
  obtain ⟨t, rfl⟩ := rx
  exact rule i t s _ _ ⟨.int (g i), H, I.tok _, ⟨_, rfl⟩, q⟩
theorem un_neg : UnR X (unaryOp .USub) (rU fun i => .int (-i)) := unI fun _ _ _ _ _ q => neg_int q
/-! ### bools among ints: n += (a < b) -/
end

/-! ### comparisons -/
/-- the scalars that == tells apart as data does -/
def scal : V → V → Bool
  | .non, .non => true | .non, .int _ => true | .int _, .non => true | .non, .bl _ => true | .bl _, .non => true | .non, .str _ => true | .str _, .non => true
  | .int _, .int _ => true | .bl _, .bl _ => true | .str _, .str _ => true | .byt _, .byt _ => true
  | .int _, .str _ => true | .str _, .int _ => true | .bl _, .str _ => true | .str _, .bl _ => true
  | _, _ => false
def rEq : R2 := fun x y H Q => scal x y = true ∧ Q (.bl (decide (x = y))) H
def rNe : R2 := fun x y H Q => scal x y = true ∧ Q (.bl (!decide (x = y))) H

theorem dec_int {i j : Int} : decide (V.int i = V.int j) = (i == j) := by
  rw [Bool.eq_iff_iff]
  simp
theorem dec_bl {i j : Bool} : decide (V.bl i = V.bl j) = (i == j) := by
  rw [Bool.eq_iff_iff]
  simp
theorem dec_str {i j : Str} : decide (V.str i = V.str j) = (i == j) := by
  rw [Bool.eq_iff_iff]
  simp
theorem dec_byt {i j : Array UInt8} : decide (V.byt i = V.byt j) = (i.toList == j.toList) := by
  rw [Bool.eq_iff_iff]
  cases i
  cases j
  simp

section
variable {X : Cx} {a b c : Expr} {ta tb tc : TE} {pos : Pos}
theorem fin_bl {pins : List (Addr × Obj)} {σ : St} {H : Hp} {s : Shared} {Q : VK} {k k' : Bool} (I : Inv X pins σ H s) (q : Q (.bl k) H) (e : k = k') : EP X pins σ Q (.bool k') s := by
  subst e
  exact ⟨.bl k, H, I, rfl, q⟩
theorem op_eq : OpR X (compareOp .Eq) rEq := by
  intro pins s σ H x y v u Q I rx ry h
  obtain ⟨hs, q⟩ := h
  cases x with
  | non =>
    cases rx
    cases y with
    | non => cases ry; exact PySem.EqNone.eq_none_none (fin_bl I q (by simp))
    | bl j => cases ry; exact PySem.EqNone.eq_none_bool (fin_bl I q (by simp))
    | int j => obtain ⟨t', rfl⟩ := ry; exact PySem.EqNone.eq_none_int (fin_bl I q (by simp))
    | str j => obtain ⟨t', rfl⟩ := ry; exact PySem.EqNone.eq_none_str (fin_bl I q (by simp))
    | _ => exact absurd (show false = true from hs) Bool.false_ne_true
  | bl i =>
    cases rx
    cases y with
    | non => cases ry; exact PySem.EqNone.eq_bool_none (fin_bl I q (by simp))
    | bl j => cases ry; exact eq_bool (fin_bl I q dec_bl)
    | str j => obtain ⟨t', rfl⟩ := ry; exact PySem.EqMixed.eq_bool_str (fin_bl I q (by simp))
    | _ => exact absurd (show false = true from hs) Bool.false_ne_true
  | int i =>
    obtain ⟨t, rfl⟩ := rx
    cases y with
    | non => cases ry; exact PySem.EqNone.eq_int_none (fin_bl I q (by simp))
    | int j => obtain ⟨t', rfl⟩ := ry; exact eq_int (fin_bl I q dec_int)
    | str j => obtain ⟨t', rfl⟩ := ry; exact PySem.EqMixed.eq_int_str (fin_bl I q (by simp))
    | _ => exact absurd (show false = true from hs) Bool.false_ne_true
  | str i =>
    obtain ⟨t, rfl⟩ := rx
    cases y with
    | non => cases ry; exact PySem.EqNone.eq_str_none (fin_bl I q (by simp))
    | bl j => cases ry; exact PySem.EqMixed.eq_str_bool (fin_bl I q (by simp))
    | int j => obtain ⟨t', rfl⟩ := ry; exact PySem.EqMixed.eq_str_int (fin_bl I q (by simp))
    | str j => obtain ⟨t', rfl⟩ := ry; exact eq_str (fin_bl I q dec_str)
    | _ => exact absurd (show false = true from hs) Bool.false_ne_true
  | byt i =>
    obtain ⟨t, rfl⟩ := rx
    cases y with
    | byt j => obtain ⟨t', rfl⟩ := ry; exact PySem.W.eq_bytes (fin_bl I q dec_byt)
    | _ => exact absurd (show false = true from hs) Bool.false_ne_true
  | _ => cases y <;> exact absurd (show false = true from hs) Bool.false_ne_true
theorem op_ne : OpR X (compareOp .NotEq) rNe := by
  intro pins s σ H x y v u Q I rx ry h
  obtain ⟨hs, q⟩ := h
  cases x with
  | non =>
    cases rx
    cases y with
    | non => cases ry; exact PySem.EqNone.ne_none_none (fin_bl I q (by simp))
    | bl j => cases ry; exact PySem.EqNone.ne_none_bool (fin_bl I q (by simp))
    | int j => obtain ⟨t', rfl⟩ := ry; exact PySem.EqNone.ne_none_int (fin_bl I q (by simp))
    | str j => obtain ⟨t', rfl⟩ := ry; exact PySem.EqNone.ne_none_str (fin_bl I q (by simp))
    | _ => exact absurd (show false = true from hs) Bool.false_ne_true
  | bl i =>
    cases rx
    cases y with
    | non => cases ry; exact PySem.EqNone.ne_bool_none (fin_bl I q (by simp))
    | bl j => cases ry; exact ne_bool (fin_bl I q (congrArg not dec_bl))
    | str j => obtain ⟨t', rfl⟩ := ry; exact PySem.EqMixed.ne_bool_str (fin_bl I q (by simp))
    | _ => exact absurd (show false = true from hs) Bool.false_ne_true
  | int i =>
    obtain ⟨t, rfl⟩ := rx
    cases y with
    | non => cases ry; exact PySem.EqNone.ne_int_none (fin_bl I q (by simp))
    | int j => obtain ⟨t', rfl⟩ := ry; exact ne_int (fin_bl I q (congrArg not dec_int))
    | str j => obtain ⟨t', rfl⟩ := ry; exact PySem.EqMixed.ne_int_str (fin_bl I q (by simp))
    | _ => exact absurd (show false = true from hs) Bool.false_ne_true
  | str i =>
    obtain ⟨t, rfl⟩ := rx
    cases y with
    | non => cases ry; exact PySem.EqNone.ne_str_none (fin_bl I q (by simp))
    | bl j => cases ry; exact PySem.EqMixed.ne_str_bool (fin_bl I q (by simp))
    | int j => obtain ⟨t', rfl⟩ := ry; exact PySem.EqMixed.ne_str_int (fin_bl I q (by simp))
    | str j => obtain ⟨t', rfl⟩ := ry; exact ne_str (fin_bl I q (congrArg not dec_str))
    | _ => exact absurd (show false = true from hs) Bool.false_ne_true
  | byt i =>
    obtain ⟨t, rfl⟩ := rx
    cases y with
    | byt j => obtain ⟨t', rfl⟩ := ry; exact PySem.W.ne_bytes (fin_bl I q (congrArg not dec_byt))
    | _ => exact absurd (show false = true from hs) Bool.false_ne_true
  | _ => cases y <;> exact absurd (show false = true from hs) Bool.false_ne_true

theorem op_lt : OpR X (compareOp .Lt) (rI0 fun i j => .bl (decide (i < j))) := opB0 fun _ _ _ _ _ _ _ q => lt_int q
theorem op_le : OpR X (compareOp .LtE) (rI0 fun i j => .bl (decide (i ≤ j))) := opB0 fun _ _ _ _ _ _ _ q => le_int q
theorem op_gt : OpR X (compareOp .Gt) (rI0 fun i j => .bl (decide (j < i))) := opB0 fun _ _ _ _ _ _ _ q => gt_int q
/-- the one string within the other -/
theorem op_in_str : OpR X (compareOp .In) (fun x y H Q => ∃ i j, x = .str i ∧ y = .str j ∧ Q (.bl (!(Builtin.Str.occurrences j i 0 j.length 1).isEmpty)) H) := by
  intro pins s σ H x y v u Q I rx ry h
  obtain ⟨i, j, rfl, rfl, q⟩ := h
  obtain ⟨t, rfl⟩ := rx
  obtain ⟨t', rfl⟩ := ry
  exact in_str (fin_bl I q rfl)

/-- is None, is not None: the right side a value none -/
theorem op_isN : OpR X (compareOp .Is) (fun x y H Q => y = .non ∧ Q (.bl (decide (x = .non))) H) := by
  intro pins s σ H x y v u Q I rx ry h
  obtain ⟨rfl, q⟩ := h
  cases ry
  refine is_none_gen (fin_bl I q ?_)
  cases x <;> first
    | (cases rx; rfl)
    | (obtain ⟨t, rfl⟩ := rx; rfl)
/-- two rules for one operation: by cases -/
theorem OpR.or {f : Value → Value → Sem Value} {r r' : R2} (h : OpR X f r) (h' : OpR X f r') : OpR X f (fun x y H Q => r x y H Q ∨ r' x y H Q) := by
  intro pins s σ H x y v u Q I rx ry q
  rcases q with q | q
  · exact h pins s σ H x y v u Q I rx ry q
  · exact h' pins s σ H x y v u Q I rx ry q

theorem nomark (b : Expr) {op : CmpOp} (h : op ≠ .In := by decide) (h2 : op ≠ .NotIn := by decide) : behindInMarks op b = false := by
  have e1 : (op == CmpOp.In) = false := by cases op <;> first | rfl | exact absurd rfl h
  have e2 : (op == CmpOp.NotIn) = false := by cases op <;> first | rfl | exact absurd rfl h2
  cases b <;> simp [behindInMarks, e1, e2]
/-- a comparison as a value; hm: nomark b, or (for in, not in) by with_unfolding_all rfl -/
theorem pe_cmpR {op : CmpOp} {r : R2} (ho : OpR X (compareOp op) r) (ha : PE X a ta) (hb : PE X b tb) (hm : behindInMarks op b = false) : PE X (.Compare a [op] [b] pos) (tOp r ta tb) := by
  intro pins s σ H Q I h
  exact wpAny_Compare1 (binT ha hb I h fun v u s2 x y H2 I2 rx ry q => ho pins s2 σ H2 x y v u Q I2 rx ry q) hm
/-- a reading of a value as a test -/
def tTest (t : TE) : TT := fun σ H Q => t σ H fun x H' => ∃ k, x = .bl k ∧ Q k H'
theorem pt_cmpR {op : CmpOp} {r : R2} (ho : OpR X (compareOp op) r) (ha : PE X a ta) (hb : PE X b tb) (hm : behindInMarks op b = false) : PT X (.Compare a [op] [b] pos) (tTest (tOp r ta tb)) := by
  intro pins s σ H Q I h
  refine wpAny_isTrue_Compare1 (thn (ha pins s σ H _ I h) fun v s1 ⟨x, H1, I1, r1, q1⟩ => thn (hb pins s1 σ H1 _ I1 q1) fun u s2 ⟨y, H2, I2, r2, q2⟩ =>
    thn (ho pins s2 σ H2 x y v u _ I2 r1 r2 q2) fun c s3 ⟨z, H3, I3, r3, k, e, q3⟩ => ?_) hm
  subst e
  cases r3
  exact wpAny_truthy_bool ⟨H3, I3, q3⟩
/-- a op1 b op2 c -/
def tChain (r r' : R2) (ta tb tc : TE) : TE := fun σ H Q => ta σ H fun x H1 => tb σ H1 fun y H2 => r x y H2 fun z H3 => ∃ k, z = .bl k ∧
  (if k = true then tc σ H3 fun w' H4 => r' y w' H4 Q else Q (.bl false) H3)
theorem pt_chain {op op' : CmpOp} {r r' : R2} (ho : OpR X (compareOp op) r) (ho' : OpR X (compareOp op') r') (ha : PE X a ta) (hb : PE X b tb) (hc : PE X c tc)
    (hm : lastMarks [op, op'] [b, c] = false := by with_unfolding_all rfl) : PT X (.Compare a [op, op'] [b, c] pos) (tTest (tChain r r' ta tb tc)) := by
  intro pins s σ H Q I h
  refine isTrue_chain (thn (ha pins s σ H _ I h) fun v s1 ⟨x, H1, I1, r1, q1⟩ => test_link (thn (hb pins s1 σ H1 _ I1 q1) fun u s2 ⟨y, H2, I2, r2, q2⟩ =>
    thn (ho pins s2 σ H2 x y v u _ I2 r1 r2 q2) fun d s3 ⟨z, H3, I3, r3, k, e, q3⟩ => ?_)) hm
  subst e
  cases r3
  refine wpAny_truthy_bool ?_
  cases k with
  | false =>
    obtain ⟨k', e', q'⟩ := q3
    cases e'
    exact ite_ff ⟨H3, I3, q'⟩
  | true =>
    refine ite_tt (test_last (thn (hc pins s3 σ H3 _ I3 q3) fun w' s4 ⟨z', H4, I4, r4, q4⟩ => thn (ho' pins s4 σ H4 y z' u w' _ I4 r2 r4 q4) fun d' s5 ⟨z2, H5, I5, r5, k2, e2, q5⟩ => ?_))
    subst e2
    cases r5
    exact wpAny_truthy_bool ⟨H5, I5, q5⟩

/-! ### truth -/
/-- a value's truth by the abstract heap -/
def TruV (K : PySem.W.Frag) (x : V) (H : Hp) (k : Bool) : Prop :=
  match x with
  | .non => k = false
  | .bl b => k = b
  | .int i => k = (i != 0)
  | .str y => y.length ≤ sizeLine ∧ k = ((y.length : Int) != 0)
  | .byt y => y.size ≤ sizeLine ∧ k = ((y.size : Int) != 0)
  | .ref p => (∃ xs, SqL K H p xs ∧ k = !xs.isEmpty) ∨ (∃ xs, SqT K H p xs ∧ k = !xs.isEmpty) ∨ ∃ kvs, H p = some (.dK kvs) ∧ k = !kvs.isEmpty
  | _ => False
theorem isEmpty_kv {κ : Type} {kvs : List (κ × V)} {vs : List (κ × Value)} (r : KV kvs vs) : (!vs.isEmpty) = !kvs.isEmpty := by
  cases r <;> rfl
theorem isEmpty_of {xs : List V} {its : List Value} (r : Vals xs its) : (!its.toArray.isEmpty) = !xs.isEmpty := by
  cases r <;> simp
theorem line63 : (sizeLine : Nat) < 2 ^ 63 := by rw [sizeLine_eq]; decide
theorem tru_ok : TruR X (fun x H Q => ∃ k, TruV X.K x H k ∧ Q k H) := by
  intro pins s σ H x v Q I rx h
  obtain ⟨k, e, q⟩ := h
  have hl := line63
  have hs : sizeLine = 16777216 := sizeLine_eq
  cases x with
  | non =>
    cases rx
    have e' : k = false := e
    subst e'
    exact truthy_none ⟨H, I, q⟩
  | bl b =>
    cases rx
    have e' : k = b := e
    subst e'
    exact wpAny_truthy_bool ⟨H, I, q⟩
  | int i =>
    obtain ⟨t, rfl⟩ := rx
    have e' : k = (i != 0) := e
    subst e'
    exact PySem.P.truthy_int ⟨H, I, q⟩
  | str y =>
    obtain ⟨t, rfl⟩ := rx
    obtain ⟨hy, e'⟩ : y.length ≤ sizeLine ∧ k = ((y.length : Int) != 0) := e
    subst e'
    exact PySem.P.truthy_str (by omega) ⟨H, I.tok _, q⟩
  | byt y =>
    obtain ⟨t, rfl⟩ := rx
    obtain ⟨hy, e'⟩ : y.size ≤ sizeLine ∧ k = ((y.size : Int) != 0) := e
    subst e'
    exact PySem.W.truthy_bytes (by omega) ⟨H, I.tok _, q⟩
  | ref p =>
    cases rx
    have e' : (∃ xs, SqL X.K H p xs ∧ k = !xs.isEmpty) ∨ (∃ xs, SqT X.K H p xs ∧ k = !xs.isEmpty) ∨ ∃ kvs, H p = some (.dK kvs) ∧ k = !kvs.isEmpty := e
    rcases e' with ⟨xs, hx, e'⟩ | ⟨xs, hx, e'⟩ | ⟨kvs, hx, e'⟩
    · subst e'
      obtain ⟨its, r, pl, hz⟩ := I.list hx
      have hlen := r.length
      exact wpAny_truthy_list pl.isList (by simp only [List.size_toArray]; omega) ⟨H, I.tok _, by rw [isEmpty_of r]; exact q⟩
    · subst e'
      obtain ⟨its, r, pl, hz⟩ := I.tuple hx
      have hlen := r.length
      exact truthy_tuple pl (by simp only [List.size_toArray]; omega) ⟨H, I.tok _, by rw [isEmpty_of r]; exact q⟩
    · subst e'
      obtain ⟨hz, hS, vs, r, m⟩ : kvs.length ≤ sizeLine ∧ (p == sysModules) = false ∧ ∃ vs, KV kvs vs ∧ s.heap.DictOf (mixKind X.prog X.w) p vs := I.hok p _ hx
      have hlen : kvs.length = vs.length := Paired.length r
      exact wpAny_truthy_dict hS m (by omega) ⟨H, I.tok _, by rw [isEmpty_kv r]; exact q⟩
  | _ => exact (show False from e).elim
/-- any expression whose test is its value's truth (a name, a call, a subscript, a field ..: he by fun _ => rfl) -/
theorem pt_truth (ha : PE X a ta) (he : ∀ whole, isTrue a X.env whole = (do let v ← whole; standAt a.pos; holding [v] (truthy v))) :
    PT X a (fun σ H Q => ta σ H fun x H' => ∃ k, TruV X.K x H' k ∧ Q k H') := by
  intro pins s σ H Q I h
  exact isTrue_plain (thn (ha pins s σ H _ I h) fun v s1 ⟨x, H1, I1, r1, q1⟩ => tru_ok pins s1 σ H1 x v Q I1 r1 q1) (he _)

/-! ### strs and bytes -/
theorem op_add_str : OpR X (binaryOp .Add) (fun x y H Q => ∃ i j, x = .str i ∧ y = .str j ∧ i.length + j.length ≤ sizeLine ∧ Q (.str (i ++ j)) H) := by
  intro pins s σ H x y v u Q I rx ry h
  obtain ⟨i, j, rfl, rfl, hz, q⟩ := h
  obtain ⟨t, rfl⟩ := rx
  obtain ⟨t', rfl⟩ := ry
  exact add_str (fun t' tk => ⟨.str (i ++ j), H, I.tok _, ⟨_, rfl⟩, q⟩) hz
/-! ### scalar builtins, by CallR -/
theorem vals1 {x : V} {us : List Value} (r : Vals [x] us) : ∃ u, us = [u] ∧ RelV x u := by
  cases r with
  | cons r1 r2 => cases r2; exact ⟨_, rfl, r1⟩
theorem vals2 {x y : V} {us : List Value} (r : Vals [x, y] us) : ∃ u w', us = [u, w'] ∧ RelV x u ∧ RelV y w' := by
  cases r with
  | cons r1 r2 =>
    cases r2 with
    | cons r3 r4 => cases r4; exact ⟨_, _, rfl, r1, r3⟩
theorem call_abs : CallR X (.builtin "abs") (fun xs H Q => ∃ i, xs = [.int i] ∧ Q (.int (if i < 0 then -i else i)) H) := by
  intro pins s σ H xs us Q I r h
  obtain ⟨i, rfl, q⟩ := h
  obtain ⟨u, rfl, t, rfl⟩ := vals1 r
  exact call_abs_int fun u tk => ⟨.int (if i < 0 then -i else i), H, I.tok _, ⟨_, rfl⟩, q⟩
theorem call_int1 : CallR X (.type "int") (fun xs H Q => (∃ i, xs = [.int i] ∧ Q (.int i) H) ∨ ∃ k, xs = [.bl k] ∧ Q (.int (if k then 1 else 0)) H) := by
  intro pins s σ H xs us Q I r h
  rcases h with ⟨i, rfl, q⟩ | ⟨k, rfl, q⟩
  · obtain ⟨u, rfl, t, rfl⟩ := vals1 r
    exact call_int_int ⟨.int i, H, I, ⟨_, rfl⟩, q⟩
  · obtain ⟨u, rfl, r1⟩ := vals1 r
    cases r1
    exact call_int_bool ⟨.int (if k then 1 else 0), H, I.tok _, ⟨_, rfl⟩, q⟩
theorem call_str_int : CallR X (.type "str") (fun xs H Q => ∃ i, xs = [.int i] ∧ i.natAbs.log2 < 1920 ∧ Q (.str (toString i)) H) := by
  intro pins s σ H xs us Q I r h
  obtain ⟨i, rfl, hz, q⟩ := h
  obtain ⟨u, rfl, t, rfl⟩ := vals1 r
  exact PySem.P.str_of_int hz ⟨.str _, H, I.tok _, ⟨_, rfl⟩, q⟩
end
end L2

namespace L2
open PySem PySem.Spec PyProof.Rows

/-! ### an instance, its attributes a map -/
structure ObjM (h : Heap) (x dx C : Addr) (mA : Str → Option Value) : Prop where
  obj : h.get? x = some (PySem.W.instObj C dx)
  ns : h.Ns1 dx mA
  ne : dx ≠ x

theorem lookIn_ns {h : Heap} {dx : Addr} {mA : Str → Option Value} (n : h.Ns1 dx mA) : ∃ od, h.get? dx = some od ∧ ∀ name, PySem.W.lookIn name od = some (mA name) := by
  obtain ⟨o, es, ep, ho, hd, hk, _, hm⟩ := n
  refine ⟨o, ho, fun name => ?_⟩
  have e := hm name
  unfold nsFind findBy at e
  rw [← Array.find?_toList] at e
  unfold PySem.W.lookIn
  rw [hd]
  dsimp only
  split
  · rename_i y q
    rw [q] at e
    exact congrArg some e
  · rename_i q
    rw [q] at e
    have a : es.toList.any (·.refKey) = false := by
      rw [List.any_eq_false]
      intro y hy
      obtain ⟨z, t, hkey⟩ := hk y (Array.mem_toList_iff.mp hy)
      simp [DictEntry.refKey, hkey]
    have a' : ¬ es.toList.any (·.refKey) = true := by rw [a]; exact Bool.false_ne_true
    rw [if_neg a']
    exact congrArg some e

theorem ObjM.look {h : Heap} {x dx C : Addr} {mA : Str → Option Value} (I : ObjM h x dx C mA) : ∃ od, PySem.W.InstAt h x (PySem.W.instObj C dx) C (some od) ∧ ∀ name, PySem.W.lookIn name od = some (mA name) :=
  let ⟨od, ho, hl⟩ := lookIn_ns I.ns
  ⟨od, ⟨I.obj, rfl, rfl, ho⟩, hl⟩

section
variable {prog : Program} {w : World} {A : Around} {E : Value → Shared → Prop} {s : Shared} {K : PySem.W.Frag} {x dx C f : Addr} {mA : Str → Option Value} {name : Str} {v : Value}

end

/-! ### the attributes as a list of pairs -/
theorem RelO.none_of {o : Option Value} (r : RelO none o) : o = none := by
  cases o with
  | none => rfl
  | some u => exact (show False from r).elim
section
variable {P : Program} {w : World} {H H' : Hp} {h h' : Heap} {a C dx : Addr} {fs fs' : List (Str × V)}
theorem ins_get (hok : HOk P w H h) (e : H a = some (.ins C dx fs)) : ∃ mA, ObjM h a dx C mA ∧ (∀ f, RelO (fs.lookup f) (mA f)) ∧ PySem.Within mA (fs.map (·.1)) ∧ fs.length ≤ 1000 ∧ H dx = some (.own a) := by
  obtain ⟨d, z, ne, ob, mA, n, r, q⟩ := (show ObjOk P w H h a (.ins C dx fs) from hok a _ e)
  exact ⟨mA, ⟨ob, n, ne⟩, r, q, z, d⟩
end

/-! ### what of the text a class must have -/
structure Cls (K : PySem.W.Frag) (C : Addr) : Prop where
  pg : PySem.W.plainGet K C Str.empty = true
  hd : PySem.W.hasDictIn K C = true
  po : PySem.W.plainOver K C = true
  sa : PySem.W.findIn K (.ref C) "__setattr__" = some (some (.builtin "object.__setattr__"))
theorem Cls.get {K : PySem.W.Frag} {C : Addr} (c : Cls K C) (f : Str) : PySem.W.plainGet K C f = true := c.pg
/-- a constant of the class -/
structure Con (K : PySem.W.Frag) (C : Addr) (f : Str) (v : V) (u : Value) : Prop where
  at_ : PySem.W.findIn K (.ref C) f = some (some u)
  rel : RelV v u
  get : PySem.W.specialIn K u "__get__" = some none
  cp : PySem.W.copiedNames.contains f = false
/-- a method: a plain def of the class or of one above it -/
structure Meth (K : PySem.W.Frag) (C : Addr) (m : Str) (f : Addr) : Prop where
  at_ : PySem.W.findIn K (.ref C) m = some (some (.ref f))
  fn : PySem.W.isFn K (.ref f) = true
  kp : PySem.W.keepIn K (.ref f) = true

section
variable {X : Cx} {pins : List (Addr × Obj)} {σ : St} {H : Hp} {s : Shared} {a C dx : Addr} {fs : List (Str × V)} {f : Str} {v : V} {A : Around} {E : Value → Shared → Prop}

/-- a new instance, tracked, without attributes -/
theorem Inv.made (I : Inv X pins σ H s) : Inv X pins σ (upd (upd H s.heap.objs.size (.own (s.heap.objs.size + 1))) (s.heap.objs.size + 1) (.ins C s.heap.objs.size []))
    { s with heap := (s.heap.push PySem.W.emptyDict).push (PySem.W.instObj C s.heap.objs.size) } := by
  have e1 : (s.heap.push PySem.W.emptyDict).get? s.heap.objs.size = some PySem.W.emptyDict := Heap.get?_push_size s.heap rfl
  have e2 : ((s.heap.push PySem.W.emptyDict).push (PySem.W.instObj C s.heap.objs.size)).get? (s.heap.objs.size + 1) = some (PySem.W.instObj C s.heap.objs.size) := by
    have := Heap.get?_push_size (s.heap.push PySem.W.emptyDict) (o := PySem.W.instObj C s.heap.objs.size) rfl
    rwa [Heap.size_push] at this
  have e3 : (s.heap.push PySem.W.emptyDict).Ns s.heap.objs.size (fun _ => none) := ⟨PySem.W.emptyDict, #[], _, e1, rfl, (fun e he => absurd he (by simp)), fun _ => rfl⟩
  have I1 := I.laid (a := s.heap.objs.size) (o := .own (s.heap.objs.size + 1)) (h' := s.heap.push PySem.W.emptyDict) (t' := s.toks) (fun b u q => Heap.get?_push_of_some _ q) (Nat.le_refl _) ⟨_, e1⟩
  refine I1.laid (a := s.heap.objs.size + 1) (o := .ins C s.heap.objs.size []) (t' := s.toks) (fun b u q => Heap.get?_push_of_some _ q) (Nat.le_of_eq (Heap.size_push _ _)) ?_
  have ne : s.heap.objs.size ≠ s.heap.objs.size + 1 := Nat.ne_of_lt (Nat.lt_succ_self _)
  refine ⟨by rw [upd_ne ne, upd_same], Nat.zero_le _, ne, e2, fun _ => none, (Heap.Ns1.of_empty e3).at fun o q => Heap.get?_push_of_some _ q, fun _ => True.intro, fun y hy => absurd rfl hy⟩

end

/-! ### readings and rules -/
section
variable {X : Cx} {o e value : Expr} {f : Str} {pos pos' tpos : Pos} {ta tv : TE}
end

/-! ### isinstance -/
section
variable {X : Cx} {pins : List (Addr × Obj)} {σ : St} {H : Hp} {s : Shared} {A : Around} {E : Value → Shared → Prop} {Q : Value → Shared → Prop} {c : Value} {b : Bool}
/-- the type of a value, as the fragment's deciders take it; for an instance its class -/
inductive TyOf (K : PySem.W.Frag) (H : Hp) : V → Value → Prop where
  | non : TyOf K H .non (.type "NoneType")
  | bl (x : Bool) : TyOf K H (.bl x) (.type "bool")
  | int (i : Int) : TyOf K H (.int i) (.type "int")
  | str (x : Str) : TyOf K H (.str x) (.type "str")
  | flt (x : UInt64) : TyOf K H (.flt x) (.type "float")
  | lst {a : Addr} {xs : List V} (e : H a = some (.lst xs)) : TyOf K H (.ref a) (.type "list")
  | frz {a : Addr} {o : Obj} {xs : List V} (e : H a = some (.frz o (.lst xs))) : TyOf K H (.ref a) (.type "list")
  | tup {a : Addr} {xs : List V} (e : H a = some (.tup xs)) : TyOf K H (.ref a) (.type "tuple")
  | dK {a : Addr} {kvs : List (Key × V)} (e : H a = some (.dK kvs)) : TyOf K H (.ref a) (.type "dict")
  | dT {a : Addr} {kvs : List (List Key × V)} (e : H a = some (.dT kvs)) : TyOf K H (.ref a) (.type "dict")
  | ins {a C dx : Addr} {fs : List (Str × V)} (e : H a = some (.ins C dx fs)) (cl : Cls K C) (ha : PySem.W.findIn K (.ref C) "__class__" = some (some (.builtin "object.__class__")))
      (hn : PySem.W.specialIn K (.builtin "object.__class__") "__get__" = some (some (.builtin "getset_descriptor.__get__"))) (htk : PySem.W.takesIn K (.builtin "object.__class__") = some true)
      (hm : PySem.W.mroIn K C (.type "object") = some true) : TyOf K H (.ref a) (.ref C)
/-- isinstance(x, c) for one class c, a built-in or an own one: kitOne's answer -/
theorem isinst_ok {x : V} {u t : Value} (I : Inv X pins σ H s) (rx : RelV x u) (ty : TyOf X.K H x t) (e : PySem.W.kitOne X.K t c = some b) (h : ∀ tk, Q (.bool b) { s with toks := tk }) :
    wpAny (model X.prog X.w) A (call (.builtin "isinstance") [u, c]) Q E s := by
  cases ty with
  | non => cases (show u = Value.none from rx); exact PySem.W.kia_one PySem.W.kitx_none I.kIn True.intro e (fun z => nomatch z) h
  | bl y => cases (show u = Value.bool y from rx); exact PySem.W.kia_one PySem.W.kitx_bool I.kIn True.intro e (fun z => nomatch z) h
  | int i => obtain ⟨t, q⟩ := (show ∃ t, u = Value.int i t from rx); cases q; exact PySem.W.kia_one PySem.W.kitx_int I.kIn True.intro e (fun z => nomatch z) h
  | str y => obtain ⟨t, q⟩ := (show ∃ t, u = Value.str y t from rx); cases q; exact PySem.W.kia_one PySem.W.kitx_str I.kIn True.intro e (fun z => nomatch z) h
  | flt y => obtain ⟨t, q⟩ := (show ∃ t, u = Value.float y t from rx); cases q; exact PySem.W.kia_one PySem.W.kitx_float I.kIn True.intro e (fun z => nomatch z) h
  | @lst a xs ea =>
    cases (show u = Value.ref a from rx)
    obtain ⟨_, _, n, _, h1⟩ := (show ObjOk X.prog X.w H s.heap a (.lst xs) from I.hok a _ ea)
    exact PySem.W.kia_one PySem.W.kitx_list I.kIn ⟨_, h1, rfl⟩ e (fun z => nomatch z) h
  | @frz a ob xs ea =>
    cases (show u = Value.ref a from rx)
    obtain ⟨_, _, _, n, _, h1⟩ := (show ObjOk X.prog X.w H s.heap a (.frz ob (.lst xs)) from I.hok a _ ea)
    exact PySem.W.kia_one PySem.W.kitx_list I.kIn ⟨_, h1, rfl⟩ e (fun z => nomatch z) h
  | @tup a xs ea =>
    cases (show u = Value.ref a from rx)
    obtain ⟨_, _, _, p⟩ := (show ObjOk X.prog X.w H s.heap a (.tup xs) from I.hok a _ ea)
    obtain ⟨o, h1, h2, _⟩ := p
    exact PySem.W.kia_one PySem.W.kitx_tuple I.kIn ⟨o, h1, h2⟩ e (fun z => nomatch z) h
  | @dK a kvs ea =>
    cases (show u = Value.ref a from rx)
    obtain ⟨_, _, vs, _, p⟩ := (show ObjOk X.prog X.w H s.heap a (.dK kvs) from I.hok a _ ea)
    obtain ⟨o, es, ep, h1, h2, _⟩ := p
    exact PySem.W.kia_one PySem.W.kitx_dict I.kIn ⟨o, h1, h2.1⟩ e (fun z => nomatch z) h
  | @dT a kvs ea =>
    cases (show u = Value.ref a from rx)
    obtain ⟨_, _, xs, _, o, es, ep, h1, h2, _⟩ := (show ObjOk X.prog X.w H s.heap a (.dT kvs) from I.hok a _ ea)
    exact PySem.W.kia_one PySem.W.kitx_dict I.kIn ⟨o, h1, h2.1⟩ e (fun z => nomatch z) h
  | @ins a C dx fs ea cl ha hn htk hm =>
    cases (show u = Value.ref a from rx)
    obtain ⟨mA, O, _⟩ := ins_get I.hok ea
    obtain ⟨od, J, _⟩ := O.look
    exact PySem.W.kia_one (PySem.W.kitx_own (cl.get _) cl.hd ha hn htk hm) I.kIn J e (fun z => nomatch z) h
end
end L2

namespace L2
open PySem PySem.Spec PyProof.Rows

/-! ### room -/
structure Room (ca : Bool) (k : Nat) (A : Around) : Prop where
  hd : ca = true → A.handled = none
  dp : A.depth + 3 * k + 5 < recursionLimit
  un : A.units + 16 * k + 200 < cLine
theorem Room.mono {ca : Bool} {j k : Nat} {A : Around} (r : Room ca k A) (h : j ≤ k) : Room ca j A := ⟨r.hd, by have := r.dp; omega, by have := r.un; omega⟩
theorem Room.deeper {ca : Bool} {k : Nat} {A : Around} (r : Room ca (k + 1) A) (env : Env) : Room ca k (A.deeper env) :=
  ⟨r.hd, by have := r.dp; show A.depth + 1 + 3 * k + 5 < _; omega, by have := r.un; show A.units + 3 + 16 * k + 200 < _; omega⟩
theorem Room.in1 {ca : Bool} {k : Nat} {A : Around} (r : Room ca (k + 1) A) : Room ca k A.in1 :=
  ⟨r.hd, by have := r.dp; show A.depth + 3 * k + 5 < _; omega, by have := r.un; show A.units + 1 + 16 * k + 200 < _; omega⟩
theorem make_depth {A : Around} {C : Addr} {us : List Value} {kw : List (Str × Value)} : (A.under (.builtin "type.__call__" ⟨.ref C :: us, kw⟩)).depth = A.depth + 1 := by
  first | rfl | simp [Around.under, Code.weight, Code.isCreation, Code.isGuard, Code.isCaller, Code.frames, Code.isFrame, guardIds]
theorem make_units {A : Around} {C : Addr} {us : List Value} {kw : List (Str × Value)} : (A.under (.builtin "type.__call__" ⟨.ref C :: us, kw⟩)).units = A.units + 1 := by
  first | rfl | simp [Around.under, Code.cUnits, Code.frames, Code.isFrame]
theorem Room.make {ca : Bool} {k : Nat} {A : Around} (r : Room ca (k + 1) A) (C : Addr) (us : List Value) (kw : List (Str × Value)) : Room ca k (A.under (.builtin "type.__call__" ⟨.ref C :: us, kw⟩)) :=
  ⟨r.hd, by have := r.dp; rw [make_depth]; omega, by have := r.un; rw [make_units]; omega⟩
theorem Room.depth {ca : Bool} {k : Nat} {A : Around} (r : Room ca k A) : A.depth < recursionLimit := by have := r.dp; omega
theorem Room.units {ca : Bool} {k : Nat} {A : Around} (r : Room ca k A) : A.units + 64 < cLine := by have := r.un; omega
/-! ### argument lists and displays -/
def tNil : TA := fun _ H Q => Q [] H
def tCons (ta : TE) (tr : TA) : TA := fun σ H Q => ta σ H fun x H1 => tr σ H1 fun xs H2 => Q (x :: xs) H2
section
variable {X : Cx} {e : Expr} {es : List Expr} {te : TE} {t : TA} {pos : Pos}
theorem pa_nil : PA X [] tNil := fun _ _ _ _ H Q I h => Calls.spliced_nil ⟨[], H, I, .nil, h⟩
theorem pa_cons (ha : PE X e te) (hr : PA X es t) (hs : starEach (e :: es) X.env = (false, eval e X.env) :: starEach es X.env := by rfl) : PA X (e :: es) (tCons te t) := by
  intro pos pins s σ H Q I h
  rw [hs]
  show wpAny _ _ (spliced ((false, eval e X.env) :: backTo pos (starEach es X.env))) _ _ s
  refine Calls.spliced_cons (thn (ha pins s σ H _ I h) fun u s1 ⟨x, H1, I1, r1, q1⟩ => ?_)
  exact thn (hr pos pins s1 σ H1 _ I1 q1) fun us s2 ⟨xs, H2, I2, r2, q2⟩ => ⟨x :: xs, H2, I2, .cons r1 r2, q2⟩

/-- a tuple, a list of written items -/
def tTup (t : TA) : TE := fun σ H Q => t σ H fun xs H1 => xs.length ≤ sizeLine ∧ ∀ p, H1 p = none → Q (.ref p) (upd H1 p (.tup xs))
def tLst (t : TA) : TE := fun σ H Q => t σ H fun xs H1 => xs.length ≤ sizeLine ∧ ∀ p, H1 p = none → Q (.ref p) (upd H1 p (.lst xs))
theorem pe_tup {x1} (h : PA X es t) : PE X (.Tuple es x1 pos) (tTup t) := by
  intro pins s σ H Q I hq
  refine wpAny_Tuple_spliced (thn (h pos pins s σ H _ I hq) fun us s1 ⟨xs, H1, I1, r, z, q⟩ => ⟨by rw [← r.length]; exact z, ?_⟩)
  have hf : H1 s1.heap.objs.size = none := I1.hok.fresh (Nat.le_refl _)
  refine ⟨.ref s1.heap.objs.size, upd H1 s1.heap.objs.size (.tup xs), I1.laid (t' := s1.toks) (fun b u e => Heap.get?_push_of_some _ e) (Nat.le_refl _) ?_, rfl, q _ hf⟩
  exact ⟨z, us, r, ⟨_, Heap.get?_push_size _ rfl, rfl, _, rfl⟩⟩
theorem pe_lst (h : PA X es t) : PE X (.List es pos) (tLst t) := by
  intro pins s σ H Q I hq
  refine wpAny_List_spliced (thn (h pos pins s σ H _ I hq) fun us s1 ⟨xs, H1, I1, r, z, q⟩ => ⟨by rw [← r.length]; exact z, ?_⟩)
  have hf : H1 s1.heap.objs.size = none := I1.hok.fresh (Nat.le_refl _)
  refine ⟨.ref s1.heap.objs.size, upd H1 s1.heap.objs.size (.lst xs), I1.laid (t' := s1.toks) (fun b u e => Heap.get?_push_of_some _ e) (Nat.le_refl _) ?_, rfl, q _ hf⟩
  exact ⟨z, us, 0, r, Heap.get?_push_size _ rfl⟩
end

/-! ### what a def promises -/
/-- a def's promise: the bound arguments in the parameters' order, the heap, the wanted end, the wanted exception -/
abbrev Sp := List V → Hp → VK → XK → Prop
/-- how an exception lies behind a call (file 08 gives it): the callers' frames, abstract heap and state ahead of the call, the wish, the exception, the state -/
abbrev CXT := List Env → Hp → Shared → XK → Value → Shared → Prop

/-- the state at a call -/
structure Env0 (P : Program) (w : World) (K : PySem.W.Frag) (mg : Str → Option Value) (base : Heap) (A : Around) (outer : List Env) (s : Shared) (H : Hp) : Prop where
  frames : A.frames = some outer
  mod : Mod K mg base
  bs : ∀ b o, base.get? b = some o → s.heap.get? b = some o ∧ H b = none
  bsz : base.objs.size ≤ s.heap.objs.size
  funs : s.heap.FunFrames base outer
  frf : ∀ b ∈ frs outer, H b = none
  hok : HOk P w H s.heap
  bare : AllBare s.gens
/-- a call's end -/
def CE (outer : List Env) (P : Program) (w : World) (H : Hp) (s : Shared) (Q : VK) (u : Value) (s' : Shared) : Prop :=
  ∃ v H', s'.os = s.os ∧ AllBare s'.gens ∧ Un (frs outer) [] H H' s.heap s'.heap ∧ HOk P w H' s'.heap ∧ RelV v u ∧ Q v H'
def CR (CX : CXT) (outer : List Env) (P : Program) (w : World) (H : Hp) (s : Shared) (Q : VK) (E : XK) (r : Result) (s' : Shared) : Prop :=
  match r with
  | .ok (.ret u) => CE outer P w H s Q u s'
  | .ok _ => False
  | .error e => CX outer H s E e s'
structure FnOk (P : Program) (w : World) (K : PySem.W.Frag) (mg : Str → Option Value) (base : Heap) (CX : CXT) (ca : Bool) (k : Nat) (f : Addr) (fd : FuncData) (ps : List Str) (sp : Sp) : Prop where
  len : ∀ vs H Q E, sp vs H Q E → vs.length = ps.length
  run : ∀ (A : Around) (outer : List Env) (s : Shared) (H : Hp) (args : Args) (us : List Value) (vs : List V) (Q : VK) (E : XK), Room ca k A → Env0 P w K mg base A outer s H → BindsTo s fd args (ps.zip us) → Vals vs us → sp vs H Q E →
    codeAny (model P w) A (.call (.ref f) args) (CR CX outer P w H s Q E) s
theorem FnOk.mono {P : Program} {w : World} {K : PySem.W.Frag} {mg : Str → Option Value} {base : Heap} {CX : CXT} {ca : Bool} {j k : Nat} {f : Addr} {fd : FuncData} {ps : List Str} {sp : Sp} (F : FnOk P w K mg base CX ca j f fd ps sp) (h : j ≤ k) :
    FnOk P w K mg base CX ca k f fd ps sp := ⟨F.len, fun A outer s H args us vs Q E hr => F.run A outer s H args us vs Q E (hr.mono h)⟩
/-- a weaker promise -/
theorem FnOk.imp {P : Program} {w : World} {K : PySem.W.Frag} {mg : Str → Option Value} {base : Heap} {CX : CXT} {ca : Bool} {k : Nat} {f : Addr} {fd : FuncData} {ps : List Str} {sp sp' : Sp} (F : FnOk P w K mg base CX ca k f fd ps sp)
    (h : ∀ vs H Q E, sp' vs H Q E → sp vs H Q E) : FnOk P w K mg base CX ca k f fd ps sp' :=
  ⟨fun vs H Q E q => F.len vs H Q E (h _ _ _ _ q), fun A outer s H args us vs Q E hr he hb hv hs => F.run A outer s H args us vs Q E hr he hb hv (h _ _ _ _ hs)⟩

theorem Env0.make {P : Program} {w : World} {K : PySem.W.Frag} {mg : Str → Option Value} {base : Heap} {A : Around} {outer : List Env} {s : Shared} {H : Hp} (e : Env0 P w K mg base A outer s H) (C : Addr) (us : List Value) (kw : List (Str × Value)) :
    Env0 P w K mg base (A.under (.builtin "type.__call__" ⟨.ref C :: us, kw⟩)) outer s H := ⟨by first | exact e.frames | (simpa [Around.under, Code.envs, Code.isFrame, pushEnvs] using e.frames), e.mod, e.bs, e.bsz, e.funs, e.frf, e.hok, e.bare⟩
theorem Env0.in1 {P : Program} {w : World} {K : PySem.W.Frag} {mg : Str → Option Value} {base : Heap} {A : Around} {outer : List Env} {s : Shared} {H : Hp} (e : Env0 P w K mg base A outer s H) :
    Env0 P w K mg base A.in1 outer s H := ⟨e.frames, e.mod, e.bs, e.bsz, e.funs, e.frf, e.hok, e.bare⟩

section
variable {X : Cx} {pins : List (Addr × Obj)} {σ : St} {H : Hp} {s s' : Shared}
/-- from a body: what a callee wants -/
theorem Inv.env0 (I : Inv X pins σ H s) : Env0 X.prog X.w X.K X.mg X.base X.A X.stack s H :=
  ⟨I.ok.frames, I.ok.mod, I.bs, Nat.le_trans I.ok.bsz I.sz, I.stack, I.stkFree, I.hok, I.bare⟩
/-- behind a call -/
theorem Inv.after {Q : VK} {u : Value} (I : Inv X pins σ H s) (h : CE X.stack X.prog X.w H s Q u s') : EP X pins σ Q u s' := by
  obtain ⟨v, H', os, bare, un, hok, r, q⟩ := h
  obtain ⟨hh, g, d, t, os'⟩ := s'
  obtain rfl : os' = s.os := os
  exact ⟨v, H', I.call (h' := hh) (g' := g) (d' := d) (t' := t) (ch := []) un hok bare (fun b z => absurd z (by simp)), r, q⟩
end

/-! ### calls -/
/-- how the parameters are bound: us the positional arguments, kw the keywords' values by name, ds the defaults that fill up -/
def Binds (K : PySem.W.Frag) (fd : FuncData) (ps : List Str) (ds : List Value) : Prop :=
  ∀ (s : Shared) (us : List Value), K.In s.heap → (us ++ ds).length = ps.length → BindsTo s fd ⟨us, []⟩ (ps.zip (us ++ ds))
/-- every parameter is given -/
theorem Binds.all {K : PySem.W.Frag} {fd : FuncData} {ps : List Str} (h : ∀ us : List Value, us.length = ps.length → bindArgs fd ⟨us, []⟩ = pure (ps.zip us)) : Binds K fd ps [] := fun s us _ hl => by
  rw [List.append_nil] at hl ⊢
  exact .of_eq (h us hl)

section
variable {X : Cx} {CX : CXT} {ca : Bool} {k : Nat} {f C : Addr} {fd : FuncData} {ps : List Str} {sp : Sp} {dvs : List V} {ds : List Value} {E : XK} {x m : Str} {p pos apos : Pos} {e o : Expr} {es : List Expr} {ta : TE} {t : TA}

/-- what a class must have to be made -/
structure Mk (K : PySem.W.Frag) (C f : Addr) : Prop where
  makes : PySem.W.makesIn K C = true
  init : PySem.W.findIn K (.ref C) "__init__" = some (some (.ref f))
  fn : PySem.W.isFn K (.ref f) = true
  kp : PySem.W.keepIn K (.ref C) = true

end

/-! ### keywords -/
section
variable {X : Cx} {CX : CXT} {ca : Bool} {k : Nat} {f C : Addr} {fd : FuncData} {ps ks : List Str} {sp : Sp} {E : XK} {x m : Str} {p pos apos kpos : Pos} {e o : Expr} {es : List Expr} {kws : List Keyword} {te ta : TE} {t tk : TA} {nm : Option Str}
/-- how a call with keywords binds: g puts the positional values us and the keywords' values ws (names ks) in the parameters' order, defaults among them -/
structure KBinds (K : PySem.W.Frag) (fd : FuncData) (ps ks : List Str) (g : List Value → List Value → List Value) (gV : List V → List V → List V) : Prop where
  to : ∀ (s : Shared) (us ws : List Value), K.In s.heap → (g us ws).length = ps.length → BindsTo s fd ⟨us, ks.zip ws⟩ (ps.zip (g us ws))
  rel : ∀ {vs : List V} {us : List Value} {zs : List V} {ws : List Value}, Vals vs us → Vals zs ws → Vals (gV vs zs) (g us ws)
variable {g : List Value → List Value → List Value} {gV : List V → List V → List V}
end

/-! ### a def's body keeps its promise -/
/-- names: the parameters first -/
structure FnScope (N P : List Str) (sc : Scope) : Prop where
  kind : sc.kind = .function
  co : sc.isCoroutine = false
  gen : sc.isGenerator = false
  nd : N.Nodup
  pre : N.take P.length = P
  par : ∀ x ∈ P, sc.names.lookup x = some .local ∨ sc.names.lookup x = some .cell
  nofree : ∀ y ∈ sc.names, y.2 ≠ .free

theorem bindL_out {kindOf : Str → Option NameKind} {x : Str} : ∀ {binds : List (Str × Value)} {m : Str → Option Value}, (∀ v, (x, v) ∉ binds) → bindL kindOf binds m x = m x
  | [], _, _ => rfl
  | (n, v) :: r, m, h => by
    unfold bindL
    rw [bindL_out fun w hw => h w (List.mem_cons_of_mem _ hw)]
    split
    · have : x ≠ n := by rintro rfl; exact h v List.mem_cons_self
      simp [this]
    · rfl
theorem bindC_out {kindOf : Str → Option NameKind} {x : Str} : ∀ {binds : List (Str × Value)} {m : Str → Option Value}, (∀ v, (x, v) ∉ binds) → bindC kindOf binds m x = m x
  | [], _, _ => rfl
  | (n, v) :: r, m, h => by
    unfold bindC
    rw [bindC_out fun w hw => h w (List.mem_cons_of_mem _ hw)]
    split
    · rfl
    · have : x ≠ n := by rintro rfl; exact h v List.mem_cons_self
      simp [this]
theorem bindL_get {kindOf : Str → Option NameKind} {x : Str} {v : Value} : ∀ {P : List Str} {vs : List Value} {i : Nat} {m : Str → Option Value}, P.Nodup → P[i]? = some x → vs[i]? = some v → kindOf x = some .local →
    bindL kindOf (P.zip vs) m x = some v
  | [], _, _, _, _, h, _, _ => by simp at h
  | _ :: _, [], _, _, _, _, h, _ => by simp at h
  | p :: P, w :: vs, 0, m, nd, h1, h2, hk => by
    simp at h1 h2; subst h1; subst h2
    show bindL kindOf ((p, w) :: P.zip vs) m p = _
    unfold bindL
    rw [bindL_out fun v hv => (List.nodup_cons.mp nd).1 (List.of_mem_zip hv).1, if_pos hk]
    simp
  | p :: P, w :: vs, i + 1, m, nd, h1, h2, hk => by
    show bindL kindOf ((p, w) :: P.zip vs) m x = _
    unfold bindL
    exact bindL_get (i := i) (List.nodup_cons.mp nd).2 (by simpa using h1) (by simpa using h2) hk
theorem bindC_get {kindOf : Str → Option NameKind} {x : Str} {v : Value} : ∀ {P : List Str} {vs : List Value} {i : Nat} {m : Str → Option Value}, P.Nodup → P[i]? = some x → vs[i]? = some v → kindOf x ≠ some .local →
    bindC kindOf (P.zip vs) m x = some v
  | [], _, _, _, _, h, _, _ => by simp at h
  | _ :: _, [], _, _, _, _, h, _ => by simp at h
  | p :: P, w :: vs, 0, m, nd, h1, h2, hk => by
    simp at h1 h2; subst h1; subst h2
    show bindC kindOf ((p, w) :: P.zip vs) m p = _
    unfold bindC
    rw [bindC_out fun v hv => (List.nodup_cons.mp nd).1 (List.of_mem_zip hv).1, if_neg hk]
    simp
  | p :: P, w :: vs, i + 1, m, nd, h1, h2, hk => by
    show bindC kindOf ((p, w) :: P.zip vs) m x = _
    unfold bindC
    exact bindC_get (i := i) (List.nodup_cons.mp nd).2 (by simpa using h1) (by simpa using h2) hk

/-- the names' values at the entry -/
def start (N : List Str) (vs : List V) : St := vs.map some ++ List.replicate (N.length - vs.length) none

/-- the context of a def's body, at its entry; an exception leaves the frame, then lies as CX says -/
def cxOf (CX : CXT) (ca : Bool) (P : Program) (w : World) (K : PySem.W.Frag) (mg : Str → Option Value) (base : Heap) (N : List Str) (qual : Str) (scope : Scope) (f : Addr) (cd : Value) (A : Around) (outer : List Env) (s : Shared) (H : Hp) (E : XK) : Cx where
  prog := P
  w := w
  K := K
  mg := mg
  base := base
  A := A.deeper (envOfC qual scope s.heap.objs.size f cd)
  N := N
  s₀ := s
  H₀ := H
  env := envOfC qual scope s.heap.objs.size f cd
  outer := outer
  stack := envOfC qual scope s.heap.objs.size f cd :: outer
  ex := []
  calm := ca
  fn := fun _ => true
  pn := []
  xe := fun e s' => wpAny (model P w) (A.deeper (envOfC qual scope s.heap.objs.size f cd)) (leaving (envOfC qual scope s.heap.objs.size f cd) e) (fun _ s'' => CX outer H s E e s'') (fun e' s'' => CX outer H s E e' s'') s'

theorem cell_has {sc : Scope} {n : Nat} {x : Str} (h : sc.names.lookup x = some .cell) : ∃ c, (cellsFrom n sc.names []).lookup x = some c := by
  have q := PySem.W.cellsFrom_some sc.names n [] (.inl h)
  exact Option.isSome_iff_exists.mp q

theorem inv_start {CX : CXT} {ca : Bool} {P : Program} {w : World} {K : PySem.W.Frag} {mg : Str → Option Value} {base : Heap} {N ps : List Str} {qual : Str} {scope : Scope} {f : Addr} {cd : Value} {A : Around} {outer : List Env} {s s1 : Shared} {H : Hp} {E : XK} {us : List Value} {vs : List V}
    (S : FnScope N ps scope) (hd : ca = true → A.handled = none) (e0 : Env0 P w K mg base A outer s H) (hl : vs.length = ps.length) (r : Vals vs us)
    (x : InCallC s s.heap.objs.size (bindL (envOfC qual scope s.heap.objs.size f cd).kindOf (ps.zip us) fun _ => none) (cellsFrom (s.heap.objs.size + 1) scope.names []) (bindC (envOfC qual scope s.heap.objs.size f cd).kindOf (ps.zip us) fun _ => none) s1) :
    Inv (cxOf CX ca P w K mg base N qual scope f cd A outer s H E) [] (start N vs) H s1 := by
  have hpl : ps.length ≤ N.length := by have := congrArg List.length S.pre; rw [List.length_take] at this; omega
  obtain ⟨h1, tk, rfl, hk⟩ := x.done
  have noA : ∀ b : Addr, b ∉ (cxOf CX ca P w K mg base N qual scope f cd A outer s H E).ex := fun b z => absurd (show b ∈ ([] : List Addr) from z) (by simp)
  refine ⟨⟨e0.mod, S.kind, rfl, rfl, Nat.le_refl _, fun y z c h1 h2 => ?_, fun y hy => ?_, fun y c _ h => ?_, fun z => hd z, Around.frames_deeper e0.frames, .inr ⟨rfl, rfl⟩, fun b z => absurd z (noA b), e0.bs, e0.bsz, fun b _ _ => noA b, fun b z => absurd z (noA b), e0.funs, e0.frf⟩,
    rfl, e0.bare, Un.kept hk, ⟨_, x.toInCall.ns, fun i y v h1 h2 h3 => ?_⟩, fun y c h => ⟨_, x.cell y c h⟩, e0.hok.fresh (Nat.le_refl _), fun y c h => ?_, fun p hp => absurd (show p ∈ ([] : List (Addr × Obj)) from hp) (by simp), e0.hok.kept hk, ?_⟩
  · exact name_of_addr x.apart (PySem.mem_of_lookup h1) (PySem.mem_of_lookup h2)
  · have hy : scope.names.lookup y = some .cell ∨ scope.names.lookup y = some .free := hy
    rcases hy with hy | hy
    · exact cell_has hy
    · exact absurd rfl (S.nofree _ (PySem.mem_of_lookup hy))
  · exact Nat.le_of_lt (x.above y c (PySem.mem_of_lookup h))
  · have hi : i < vs.length := by
      unfold start at h2
      by_cases hi : i < vs.length
      · exact hi
      · rw [List.getElem?_append_right (by simpa using hi)] at h2
        rw [List.getElem?_replicate] at h2
        split at h2 <;> cases h2
    have ha : vs[i]? = some v := by
      unfold start at h2
      rw [List.getElem?_append_left (by simpa using hi), List.getElem?_map] at h2
      cases e : vs[i]? with
      | none => rw [e] at h2; cases h2
      | some a => rw [e] at h2; cases h2; rfl
    obtain ⟨u, hu, rv⟩ := r.get ha
    have hp : ps[i]? = some y := by
      rw [← S.pre, List.getElem?_take_of_lt (by omega)]; exact h1
    have ndP : ps.Nodup := by rw [← S.pre]; exact S.nd.sublist (List.take_sublist _ _)
    refine ⟨u, rv, ?_⟩
    rcases S.par y (List.mem_of_getElem? hp) with k | k
    · exact .inl ⟨k, bindL_get ndP hp hu k⟩
    · obtain ⟨c, e⟩ := cell_has (n := s.heap.objs.size + 1) k
      refine .inr ⟨.inl k, c, e, ?_⟩
      have q := x.cell y c e
      rw [bindC_get ndP hp hu (by show scope.names.lookup y ≠ _; rw [k]; decide)] at q
      exact q
  · exact e0.hok.fresh (Nat.le_of_lt (x.above y c (PySem.mem_of_lookup h)))
  · unfold start
    show _ = N.length
    rw [List.length_append, List.length_map, List.length_replicate]
    omega

/-- THE RULE: a def (or a method) of the text, by its body. The body's reading t is chosen for each entry; it is run at the parameters' values -/
theorem fn_of {CX : CXT} {ca : Bool} {P : Program} {w : World} {K : PySem.W.Frag} {mg : Str → Option Value} {base : Heap} {k : Nat} {f : Addr} {name qual : Str} {params : Arguments} {body : List Stmt} {scope : Scope} {dV kV doc pm cdv ct oc : Value} {an od : Option Addr}
    {osl : Array (Option Value)} {N ps : List Str} {sp : Sp} (lk : K.lookup f = some ⟨oc, od, .func (PySem.W.fnOf name qual params body scope dV kV doc pm an cdv ct), osl⟩) (hcd : PySem.W.codeIn K cdv qual = true) (S : FnScope N ps scope)
    (len : ∀ vs H Q E, sp vs H Q E → vs.length = ps.length)
    (hbody : ∀ (A : Around) (outer : List Env) (s : Shared) (H : Hp) (vs : List V) (Q : VK) (E : XK), Room ca k (A.deeper (envOfC qual scope s.heap.objs.size f cdv)) → sp vs H Q E →
      ∃ t, PSs (cxOf CX ca P w K mg base N qual scope f cdv A outer s H E) body t ∧ t { nx := fun _ H' => Q .non H', rt := Q } (start N vs) H) :
    FnOk P w K mg base CX ca (k + 1) f (PySem.W.fnOf name qual params body scope dV kV doc pm an cdv ct) ps sp := by
  refine ⟨len, fun A outer s H args us vs Q E hr e0 hb r hsp => ?_⟩
  have hl := len _ _ _ _ hsp
  have KX : K.In s.heap := e0.mod.kin.keeps fun b o e => (e0.bs b o e).1
  have lim : s.heap.NoLimit := e0.mod.nolimit.keeps fun b o e => (e0.bs b o e).1
  have hkind : ∀ y ∈ ps.zip us, scope.names.lookup y.1 = some .local ∨ (scope.names.lookup y.1 = some .cell ∧ ((cellsFrom (s.heap.objs.size + 1) scope.names []).lookup y.1).isSome = true) := fun ⟨n, v⟩ hy => by
    rcases S.par n (List.of_mem_zip hy).1 with q | q
    · exact .inl q
    · exact .inr ⟨q, PySem.W.cellsFrom_some _ _ _ (.inl q)⟩
  refine codeAny_call_function hr.depth (KX _ _ lk) rfl S.co S.gen rfl (PySem.W.codeRec_of KX hcd) (hb _ _ _ _ ?_)
  refine wpAny_newFunctionEnv_cells S.kind hkind fun env he s1 x => ?_
  subst he
  refine ⟨lim.keeps x.toInCall.keep, codeAny_func ?_⟩
  obtain ⟨t, ht, hq⟩ := hbody A outer s H vs Q E (hr.deeper _) hsp
  have I : Inv (cxOf CX ca P w K mg base N qual scope f cdv A outer s H E) [] (start N vs) H s1 := inv_start S hr.hd e0 hl r x
  refine wpAny_mono (ht [] s1 (start N vs) H _ I hq) (fun fl s' hs => ?_) fun e s' hs => hs
  have fin : ∀ {σ' : St} {H' : Hp} {v : V} {u : Value}, Inv (cxOf CX ca P w K mg base N qual scope f cdv A outer s H E) [] σ' H' s' → RelV v u → Q v H' → CE outer P w H s Q u s' :=
    fun {σ' H' v u} J rv q => ⟨v, H', J.os, J.bare, J.base, J.hok, rv, q⟩
  cases fl with
  | ret u =>
    obtain ⟨v, σ', H', J, rv, q⟩ := hs
    exact fin J rv q
  | next =>
    obtain ⟨σ', H', J, q⟩ := hs
    exact fin (v := V.non) (u := Value.none) J rfl q
  | brk =>
    obtain ⟨_, _, _, q⟩ := hs
    exact False.elim q
  | cont =>
    obtain ⟨_, _, _, q⟩ := hs
    exact False.elim q
end L2

namespace L2
open PySem PySem.Spec PyProof.Rows
section
variable {X : Cx} {x : Str} {p pos : Pos} {e : Expr} {es : List Expr} {t : TA} {id T : String} {r : List V → Hp → VK → Prop}

def tCB (r : List V → Hp → VK → Prop) (t : TA) : TE := fun σ H Q => t σ H fun vs H1 => r vs H1 Q
/-- f(e, ..), f a built-in function -/
theorem pe_callB (hc : CallR X (.builtin id) r) (hg : Gl X x) (hm : X.mg x = none) (hv : bootBuiltins x = some (.builtin id)) (ha : PA X (e :: es) t) (hn : x ≠ "__name__" := by decide) (hdb : (x == ("__debug__" : Str)) = false := by decide)
    (he : starEach (e :: es) X.env = (false, eval e X.env) :: starEach es X.env := by rfl) (hpl : (backTo pos (starEach es X.env)).any (·.1) = false := by rfl) : PE X (.Call (.Name x p) (e :: es) [] pos) (tCB r t) := by
  intro pins s σ H Q I h
  refine wpAny_Call_Name_kw (ld_blt I hg hm hv ?_ hn hdb)
  exact PyProof.Rows.callWith_builtin1 (thn (ha pos pins s σ H _ I h) fun us s1 ⟨vs, H1, I1, r1, q1⟩ => hc pins s1 σ H1 vs us Q I1 r1 q1) he hpl
/-- T(e, ..), T a built-in type -/
theorem pe_callTy (hc : CallR X (.type T) r) (hg : Gl X x) (hm : X.mg x = none) (hv : bootBuiltins x = some (.type T)) (ha : PA X (e :: es) t) (hn : x ≠ "__name__" := by decide) (hdb : (x == ("__debug__" : Str)) = false := by decide)
    (he : starEach (e :: es) X.env = (false, eval e X.env) :: starEach es X.env := by rfl) (hpl : (backTo pos (starEach es X.env)).any (·.1) = false := by rfl) : PE X (.Call (.Name x p) (e :: es) [] pos) (tCB r t) := by
  intro pins s σ H Q I h
  refine wpAny_Call_Name_kw (ld_blt I hg hm hv ?_ hn hdb)
  exact PyProof.Rows.callWith_type1 (thn (ha pos pins s σ H _ I h) fun us s1 ⟨vs, H1, I1, r1, q1⟩ => hc pins s1 σ H1 vs us Q I1 r1 q1) he hpl
end
end L2

namespace HT
open PySem PyProof.Rows

section
open PySem.SeqAt
open PySem.AutoSeq1 (wpAny_loadPart')
open PySem.MeetsSeq PySem.MeetsSeq2 PySem.MeetsSeq3

end

section
variable {prog : Program} {w : World} {A : Around} {E : Value → Shared → Prop} {s : Shared}

/-! ### t[a:b], not the whole -/
/-- a slice's bound as a place among n (d where it is left out) -/
def sIx (n d : Nat) : Option Int → Nat
  | none => d
  | some v => if v < 0 then (v + (n : Int)).toNat else min v.toNat n
theorem sIx_le (n d : Nat) (hd : d ≤ n) (o : Option Int) : sIx n d o ≤ n := by
  cases o with
  | none => exact hd
  | some v =>
    show (if v < 0 then (v + (n : Int)).toNat else min v.toNat n) ≤ n
    by_cases hv : v < 0
    · rw [if_pos hv]; omega
    · rw [if_neg hv]; exact Nat.min_le_right _ _
theorem clip_eq (v : Int) (n d : Nat) : (if v < 0 then max (v + (n : Int)) 0 else min v (n : Int)) = ((sIx n d (some v) : Nat) : Int) := by
  show (if v < 0 then max (v + (n : Int)) 0 else min v (n : Int)) = (((if v < 0 then (v + (n : Int)).toNat else min v.toNat n) : Nat) : Int)
  by_cases hv : v < 0
  · simp only [if_pos hv]; omega
  · simp only [if_neg hv]; omega
theorem adjust_gen (lo hi : Option Int) (n : Nat) : Builtin.Slice.sliceAdjust lo hi 1 (n : Int) = (((sIx n 0 lo : Nat) : Int), ((sIx n n hi : Nat) : Int)) := by
  have h1 : ¬ ((1 : Int) < 0) := by omega
  unfold Builtin.Slice.sliceAdjust
  simp only [h1, if_false]
  refine Prod.ext ?_ ?_
  · cases lo with
    | none => rfl
    | some v => exact clip_eq v n 0
  · cases hi with
    | none => rfl
    | some v => exact clip_eq v n n
theorem places_gen (i j : Nat) : Builtin.Slice.slicePlaces (i : Int) (j : Int) 1 = j - i := by
  unfold Builtin.Slice.slicePlaces
  have h1 : (1 : Int) > 0 := by omega
  simp only [h1, if_true, Int.ediv_one]
  split <;> omega
theorem slicePart_ {v : Value} {o : Option Int} {Q : Option Int → Shared → Prop} (p : IsPart v o) (h : Q o s) : wpAny (model prog w) A (Builtin.Slice.slicePartIndex v) Q E s := by
  cases p with
  | none => exact slicePart_none h
  | int i t => exact slicePart_int h
theorem sliceApplied_gen {sl : Addr} {vl vu : Value} {lo hi : Option Int} {n : Nat} {Q : Int × Int × Nat → Shared → Prop} (hs : s.heap.IsSliceOf sl vl vu .none) (pl : IsPart vl lo) (pu : IsPart vu hi)
    (h : Q (((sIx n 0 lo : Nat) : Int), 1, sIx n n hi - sIx n 0 lo) s) : wpAny (model prog w) A (Builtin.Slice.sliceApplied (.ref sl) (pure (n : Int))) Q E s := by
  obtain ⟨os, hos, hcs, hds⟩ := id hs
  unfold Builtin.Slice.sliceApplied Builtin.Slice.sliceFields
  refine wpAny_bind (wpAny_bind (wpAny_field hos hds (x := vl) rfl (wpAny_bind (wpAny_field hos hds (x := vu) rfl (wpAny_bind (wpAny_field hos hds (x := .none) rfl (wpAny_pure ?_)))))))
  refine wpAny_bind (slicePart_none ?_)
  show wpAny _ _ (if ((1 : Int) == 0) = true then _ else _) _ _ s
  rw [if_neg (by decide)]
  refine wpAny_bind (slicePart_ pl (wpAny_bind (slicePart_ pu (wpAny_bind (wpAny_pure ?_)))))
  show wpAny _ _ (match Builtin.Slice.sliceAdjust lo hi 1 (n : Int) with | (lo, hi) => pure (lo, (1 : Int), Builtin.Slice.slicePlaces lo hi 1)) _ _ s
  rw [adjust_gen lo hi n]
  show wpAny _ _ (pure (((sIx n 0 lo : Nat) : Int), (1 : Int), Builtin.Slice.slicePlaces ((sIx n 0 lo : Nat) : Int) ((sIx n n hi : Nat) : Int) 1)) _ _ s
  rw [places_gen]
  exact wpAny_pure h
theorem pick_gen (xs : Array Value) (i k : Nat) : ((List.range k).filterMap fun (m : Nat) => xs[((i : Int) + (m : Int) * 1).toNat]?).toArray = ((xs.toList.drop i).take k).toArray := by
  have e : (fun (m : Nat) => xs[((i : Int) + (m : Int) * 1).toNat]?) = fun m => xs[i + m]? := by
    funext m
    have : ((i : Int) + (m : Int) * 1).toNat = i + m := by omega
    rw [this]
  rw [e]
  have := pick_run xs i k
  rw [List.filterMap_map] at this
  have e2 : ((fun x => xs[x]?) ∘ fun x => i + x) = fun m => xs[i + m]? := rfl
  rw [e2] at this
  rw [this]

theorem getItem_tuple_cut {t sl : Addr} {items : Array Value} {vl vu : Value} {lo hi : Option Int} {Q : Value → Shared → Prop} (ht : IsTup s.heap t items) (hs : s.heap.IsSliceOf sl vl vu .none) (pl : IsPart vl lo) (pu : IsPart vu hi)
    (hw : ¬ (sIx items.size 0 lo = 0 ∧ sIx items.size items.size hi = items.size))
    (h : Q (.ref s.heap.objs.size) { s with heap := s.heap.push { cls := .type "tuple", data := .seq ((items.toList.drop (sIx items.size 0 lo)).take (sIx items.size items.size hi - sIx items.size 0 lo)).toArray } })
    (hsz : items.size ≤ sizeLine) : wpAny (model prog w) A (getItem (.ref t) (.ref sl)) Q E s := by
  have htake : sizeOk (.seq ((items.toList.drop (sIx items.size 0 lo)).take (sIx items.size items.size hi - sIx items.size 0 lo)).toArray) := by
    show ((items.toList.drop (sIx items.size 0 lo)).take (sIx items.size items.size hi - sIx items.size 0 lo)).toArray.size ≤ sizeLine
    rw [List.size_toArray, List.length_take, List.length_drop, Array.length_toList]
    omega
  have hj : sIx items.size items.size hi ≤ items.size := sIx_le _ _ (Nat.le_refl _) hi
  obtain ⟨os, hos, hcs, hds⟩ := id hs
  have hTs : s.TypeIs (.ref sl) "slice" := ⟨os, hos, hcs⟩
  unfold getItem
  try with_reducible refine wpAny_holding ?_
  first | refine wpAny_bind (wpAny_pure ?_) | skip
  refine wpAny_bind (wpAny_sequenceKey ht.typeIs (by decide) ?_)
  refine wpAny_bind (wpAny_callSpecial?_slot (name := Str.ofString "__getitem__") ht.typeIs PyProof.Rows.slot_tuple_getitem
    (wpAny_call_entry PyProof.Rows.slot_tuple_getitem ht.typeIs entry_tuple_getitem ?_ (args_tuple_getitem _ _)))
  show wpAny _ _ (Builtin.Tuple.tupleItemsOf (.ref t) >>= _) _ _ s
  refine wpAny_bind (tupleItemsOf_ ht ?_)
  refine wpAny_bind (wpAny_typeOf hTs ?_)
  rw [if_pos (by decide)]
  refine wpAny_bind (sliceApplied_gen hs pl pu ?_)
  have hno : ¬ ((((sIx items.size 0 lo : Nat) : Int) == 0 && (1 : Int) == 1 && (sIx items.size items.size hi - sIx items.size 0 lo) == items.size) = true) := by
    intro q
    rw [Bool.and_eq_true, Bool.and_eq_true] at q
    have q1 : ((sIx items.size 0 lo : Nat) : Int) = 0 := eq_of_beq q.1.1
    have q2 : sIx items.size items.size hi - sIx items.size 0 lo = items.size := eq_of_beq q.2
    exact hw ⟨by omega, by omega⟩
  show wpAny _ _ (if (((sIx items.size 0 lo : Nat) : Int) == 0 && (1 : Int) == 1 && (sIx items.size items.size hi - sIx items.size 0 lo) == items.size) = true then _ else _) _ _ s
  rw [if_neg hno, pick_gen]
  first
    | exact wpAny_bind (m := Builtin.Tuple.tupleExact _) (wpAny_newObj_type (wpAny_pure ⟨_, rfl, wpAny_pure h⟩) htake)
    | exact wpAny_bind (m := Builtin.Tuple.tupleExact _) (wpAny_newObj_type (wpAny_bind (wpAny_pure (wpAny_pure ⟨_, rfl, wpAny_pure h⟩))) htake)
    | exact wpAny_bind (wpAny_bind (m := Builtin.Tuple.tupleExact _) (wpAny_newObj_type (wpAny_pure (wpAny_pure ⟨_, rfl, wpAny_pure h⟩)) htake))
    | exact wpAny_bind (wpAny_bind (m := Builtin.Tuple.tupleExact _) (wpAny_newObj_type (wpAny_pure ⟨_, rfl, wpAny_pure h⟩) htake))
end
end HT

namespace L2
open PySem PySem.Spec PyProof.Rows

/-! ### the parts of a slice -/
abbrev TO := St → Hp → (Option Int → Hp → Prop) → Prop
/-- a slice's part (left out, or an int) -/
def PO (X : Cx) (e : Option Expr) (t : TO) : Prop :=
  ∀ (pins : List (Addr × Obj)) (s : Shared) (σ : St) (H : Hp) (Q : Option Int → Hp → Prop), Inv X pins σ H s → t σ H Q →
    wpAny (model X.prog X.w) X.A (evalPart e X.env) (fun u s' => ∃ o H', Inv X pins σ H' s' ∧ IsPart u o ∧ Q o H') X.xe s
def tNoPart : TO := fun _ H Q => Q none H
section
variable {X : Cx} {e : Expr} {te : TE} {lo hi : Option Expr} {tl th : TO} {pos p2 : Pos}

theorem po_none : PO X none tNoPart := by
  intro pins s σ H Q I h
  rw [evalPart_none]
  exact wpAny_pure ⟨none, H, I, .none, h⟩
/-- what a slice of a value is, by values: the slice object stands at sl -/
def SlR (X : Cx) (r : V → Option Int → Option Int → Hp → VK → Prop) : Prop :=
  ∀ (pins : List (Addr × Obj)) (s : Shared) (σ : St) (H : Hp) (x : V) (v vl vu : Value) (lo hi : Option Int) (sl : Addr) (Q : VK), Inv X pins σ H s → RelV x v → s.heap.IsSliceOf sl vl vu .none → IsPart vl lo → IsPart vu hi → r x lo hi H Q →
    ∃ T id, typeLookup (.type T) "__getitem__" = pure (some (.builtin id)) ∧ s.TypeIs v T ∧ wpAny (model X.prog X.w) X.A (getItem v (.ref sl)) (EP X pins σ Q) X.xe s
theorem SlR.or {r r' : V → Option Int → Option Int → Hp → VK → Prop} (h : SlR X r) (h' : SlR X r') : SlR X (fun x lo hi H Q => r x lo hi H Q ∨ r' x lo hi H Q) := by
  intro pins s σ H x v vl vu lo hi sl Q I rx hs pl pu q
  rcases q with q | q
  · exact h pins s σ H x v vl vu lo hi sl Q I rx hs pl pu q
  · exact h' pins s σ H x v vl vu lo hi sl Q I rx hs pl pu q
def tSl (r : V → Option Int → Option Int → Hp → VK → Prop) (te : TE) (tl th : TO) : TE := fun σ H Q => te σ H fun x H1 => tl σ H1 fun l H2 => th σ H2 fun u H3 => r x l u H3 Q
/-- a[lo:hi], any a -/
theorem pe_slice {r : V → Option Int → Option Int → Hp → VK → Prop} (hr : SlR X r) (he : PE X e te) (hl : PO X lo tl) (hu : PO X hi th) : PE X (.Subscript e (.Slice lo hi none p2) pos) (tSl r te tl th) := by
  intro pins s σ H Q I h
  refine Subscript_ (thn (he pins s σ H _ I h) fun v s1 ⟨x, H1, I1, r1, q1⟩ => ?_)
  refine wpAny_Slice (thn (hl pins s1 σ H1 _ I1 q1) fun vl s2 ⟨l, H2, I2, pl, q2⟩ => thn (hu pins s2 σ H2 _ I2 q2) fun vu s3 ⟨u, H3, I3, pu, q3⟩ => ?_)
  rw [evalPart_none]
  refine wpAny_pure ?_
  have I4 : Inv X pins σ H3 { s3 with heap := s3.heap.push { cls := .type "slice", data := .fields #[vl, vu, .none] } } := I3.kept (t' := s3.toks) fun b ob q => Heap.get?_push_of_some _ q
  obtain ⟨T, id, hT, ht, hg⟩ := hr pins { s3 with heap := s3.heap.push { cls := .type "slice", data := .fields #[vl, vu, .none] } } σ H3 x v vl vu l u s3.heap.objs.size Q I4 r1 (Heap.IsSliceOf.new ..) pl pu q3
  show wpAny (model X.prog X.w) X.A (subscriptTail e (.Slice lo hi none p2) v (.ref s3.heap.objs.size)) (EP X pins σ Q) X.xe { s3 with heap := s3.heap.push { cls := .type "slice", data := .fields #[vl, vu, .none] } }
  exact tail_any (ops := [.ref s3.heap.objs.size, v]) ht hT hg (by with_unfolding_all rfl)

/-- the items of xs[lo:hi] -/
def cutV (xs : List V) (lo hi : Option Int) : List V := (xs.drop (HT.sIx xs.length 0 lo)).take (HT.sIx xs.length xs.length hi - HT.sIx xs.length 0 lo)
theorem cutV_length (xs : List V) (lo hi : Option Int) : (cutV xs lo hi).length ≤ xs.length := by
  unfold cutV
  rw [List.length_take, List.length_drop]
  omega
/-- t[lo:hi], not the whole of it (the whole would be t itself) -/
def rSlT (K : PySem.W.Frag) : V → Option Int → Option Int → Hp → VK → Prop := fun x lo hi H Q => ∃ a xs, x = .ref a ∧ SqT K H a xs ∧
  ¬ (HT.sIx xs.length 0 lo = 0 ∧ HT.sIx xs.length xs.length hi = xs.length) ∧ ∀ p, H p = none → Q (.ref p) (upd H p (.tup (cutV xs lo hi)))
theorem sl_tup : SlR X (rSlT X.K) := by
  intro pins s σ H x v vl vu lo hi sl Q I rx hs pl pu h
  obtain ⟨a, xs, rfl, hx, hw, q⟩ := h
  cases rx
  obtain ⟨its, r, ht, hz⟩ := I.tuple hx
  have hlen : its.toArray.size = xs.length := by rw [List.size_toArray]; exact r.length.symm
  refine ⟨"tuple", _, PyProof.Rows.slot_tuple_getitem.lookup, ht.typeIs, ?_⟩
  refine HT.getItem_tuple_cut ht hs pl pu (by rw [hlen]; exact hw) ?_ (by rw [hlen]; exact hz)
  rw [hlen]
  refine ⟨.ref s.heap.objs.size, _, I.laid (t' := s.toks) (o := .tup (cutV xs lo hi)) (fun b ob q => Heap.get?_push_of_some _ q) (Nat.le_refl _) ?_, rfl, q _ (I.hok.fresh (Nat.le_refl _))⟩
  exact ⟨Nat.le_trans (cutV_length xs lo hi) hz, _, (r.drop (HT.sIx xs.length 0 lo)).take (HT.sIx xs.length xs.length hi - HT.sIx xs.length 0 lo), IsTup.new _ _⟩

/-! ### t < u, t + u -/
end
end L2

namespace L2
open PySem PySem.Spec PyProof.Rows

/-! ### places -/
/-- the place that an index of any sign means -/
def ixN (n : Nat) (i : Int) : Option Nat := if 0 ≤ i then (if i < n then some i.toNat else none) else if -(n : Int) ≤ i then some (i + n).toNat else none
def atI {α : Type} (xs : List α) (i : Int) : Option α := (ixN xs.length i).bind fun j => xs[j]?
theorem ixN_seq {n : Nat} {i : Int} {j : Nat} (h : ixN n i = some j) : seqIndex? i n = some j ∧ j < n ∧ -(n : Int) ≤ i ∧ i < n := by
  unfold ixN at h
  by_cases h0 : 0 ≤ i
  · rw [if_pos h0] at h
    by_cases h1 : i < n
    · rw [if_pos h1] at h
      have e : i.toNat = j := Option.some.inj h
      exact ⟨by rw [seqIndex_of h0 h1, e], by omega, by omega, h1⟩
    · rw [if_neg h1] at h; cases h
  · rw [if_neg h0] at h
    by_cases h1 : -(n : Int) ≤ i
    · rw [if_pos h1] at h
      have e : (i + n).toNat = j := Option.some.inj h
      exact ⟨by rw [seqIndex_neg (by omega) h1, e], by omega, h1, by omega⟩
    · rw [if_neg h1] at h; cases h
theorem atI_get {α : Type} {xs : List α} {i : Int} {v : α} (h : atI xs i = some v) : ∃ j, seqIndex? i xs.length = some j ∧ xs[j]? = some v ∧ j < xs.length ∧ -(xs.length : Int) ≤ i ∧ i < xs.length := by
  unfold atI at h
  cases e : ixN xs.length i with
  | none => rw [e] at h; cases h
  | some j =>
    rw [e] at h
    obtain ⟨h1, h2, h3, h4⟩ := ixN_seq e
    exact ⟨j, h1, h, h2, h3, h4⟩
theorem atI_nat {α : Type} {xs : List α} {j : Nat} {v : α} (h : xs[j]? = some v) : atI xs (j : Int) = some v := by
  have hj : j < xs.length := (List.getElem?_eq_some_iff.mp h).1
  have e : ixN xs.length (j : Int) = some j := by
    unfold ixN
    rw [if_pos (by omega), if_pos (by omega)]; simp
  unfold atI; rw [e]; exact h
/-! ### what may be subscripted -/
/-- what stands as an index of a plain subscript -/
def PlainIx (b : Expr) : Prop := ∀ o i, subscripted b false o i = operate [o, i] (getItem o i)
/-- a subscript by values -/
def IxR (X : Cx) (r : R2) : Prop :=
  ∀ (value slice : Expr) (pins : List (Addr × Obj)) (s : Shared) (σ : St) (H : Hp) (x y : V) (v u : Value) (Q : VK), Inv X pins σ H s → RelV x v → RelV y u → r x y H Q →
    subscripted slice false v u = operate [v, u] (getItem v u) → wpAny (model X.prog X.w) X.A (subscriptTail value slice v u) (EP X pins σ Q) X.xe s
/-- a call of a builtin's method by values: the receiver, the arguments -/
def MtR (X : Cx) (id : String) (r : V → List V → Hp → VK → Prop) : Prop :=
  ∀ (pins : List (Addr × Obj)) (s : Shared) (σ : St) (H : Hp) (x : V) (xs : List V) (v : Value) (us : List Value) (Q : VK), Inv X pins σ H s → RelV x v → Vals xs us → r x xs H Q →
    wpAny (model X.prog X.w) X.A (call (.builtin id) (v :: us)) (EP X pins σ Q) X.xe s
section
variable {X : Cx} {a b : Expr} {ta tb : TE} {pos : Pos}
theorem IxR.or {r r' : R2} (h : IxR X r) (h' : IxR X r') : IxR X (fun x y H Q => r x y H Q ∨ r' x y H Q) := by
  intro value slice pins s σ H x y v u Q I rx ry q hs
  rcases q with q | q
  · exact h value slice pins s σ H x y v u Q I rx ry q hs
  · exact h' value slice pins s σ H x y v u Q I rx ry q hs
theorem MtR.or {id : String} {r r' : V → List V → Hp → VK → Prop} (h : MtR X id r) (h' : MtR X id r') : MtR X id (fun x xs H Q => r x xs H Q ∨ r' x xs H Q) := by
  intro pins s σ H x xs v us Q I rx rs q
  rcases q with q | q
  · exact h pins s σ H x xs v us Q I rx rs q
  · exact h' pins s σ H x xs v us Q I rx rs q
/-- a[b] -/
theorem pe_ix {r : R2} (hr : IxR X r) (ha : PE X a ta) (hb : PE X b tb) (hs : PlainIx b) : PE X (.Subscript a b pos) (tOp r ta tb) := by
  intro pins s σ H Q I h
  exact Subscript_ (binT ha hb I h fun v u s2 x y H2 I2 rx ry q => hr a b pins s2 σ H2 x y v u Q I2 rx ry q (hs _ _))

def rIxL (K : PySem.W.Frag) : R2 := fun x y H Q => ∃ p xs i v, x = .ref p ∧ y = .int i ∧ SqL K H p xs ∧ atI xs i = some v ∧ Q v H
def rIxT (K : PySem.W.Frag) : R2 := fun x y H Q => ∃ p xs i v, x = .ref p ∧ y = .int i ∧ SqT K H p xs ∧ atI xs i = some v ∧ Q v H
def rIxS : R2 := fun x y H Q => ∃ z i c, x = .str z ∧ y = .int i ∧ z.length ≤ sizeLine ∧ atI z.cps.toList i = some c ∧ Q (.str ⟨#[c]⟩) H
theorem ix_list : IxR X (rIxL X.K) := by
  intro value slice pins s σ H x y v u Q I rx ry h hs
  obtain ⟨p, xs, i, z, rfl, rfl, hq, he, q⟩ := h
  cases rx
  obtain ⟨t, rfl⟩ := ry
  obtain ⟨its, r, pl, hz⟩ := I.list hq
  obtain ⟨j, h1, h2, h3, h4, h5⟩ := atI_get he
  obtain ⟨w, ew, rw'⟩ := r.get h2
  have hl := r.length
  have hn := line63
  have fin : EP X pins σ Q w s := ⟨z, H, I, rw', q⟩
  by_cases h0 : 0 ≤ i
  · have hj : i.toNat = j := by
      rw [seqIndex_of h0 h5] at h1
      exact Option.some.inj h1
    exact item_listR pl.isList h0 (by omega) (by rw [hj]; simpa using ew) fin hs
  · have hj : (i + (its.toArray.size : Int)).toNat = j := by
      rw [seqIndex_neg (by omega) h4] at h1
      rw [List.size_toArray, ← hl]
      exact Option.some.inj h1
    exact subscriptTail_builtinR (x := w) pl.isList.typeIs slot_list_getitem.lookup
      (wpAny_getItem_list_neg (Q := fun r s' => r = w ∧ EP X pins σ Q r s') pl.isList (by omega) (by rw [List.size_toArray] <;> omega) (by omega) (by rw [hj]; simpa using ew) ⟨rfl, fin⟩) hs
theorem ix_tup : IxR X (rIxT X.K) := by
  intro value slice pins s σ H x y v u Q I rx ry h hs
  obtain ⟨p, xs, i, z, rfl, rfl, hq, he, q⟩ := h
  cases rx
  obtain ⟨t, rfl⟩ := ry
  obtain ⟨its, r, pl, hz⟩ := I.tuple hq
  obtain ⟨j, h1, h2, h3, h4, h5⟩ := atI_get he
  obtain ⟨w, ew, rw'⟩ := r.get h2
  have hl := r.length
  have hn := line63
  have fin : EP X pins σ Q w s := ⟨z, H, I, rw', q⟩
  exact subscriptTail_builtinR (x := w) pl.typeIs slot_tuple_getitem.lookup
    (getItem_tuple (j := j) (Q := fun r s' => r = w ∧ EP X pins σ Q r s') pl (by omega) (by omega) (by rw [List.size_toArray, ← hl]; exact h1) (by simpa using ew) ⟨rfl, fin⟩) hs
theorem ix_str : IxR X rIxS := by
  intro value slice pins s σ H x y v u Q I rx ry h hs
  obtain ⟨z, i, c, rfl, rfl, hz, he, q⟩ := h
  obtain ⟨t, rfl⟩ := rx
  obtain ⟨t', rfl⟩ := ry
  obtain ⟨j, h1, h2, h3, h4, h5⟩ := atI_get he
  have hl : z.cps.toList.length = z.length := by simp [Str.length]
  rw [hl] at h1 h4 h5
  have hn := line63
  exact tail_any (typeIs_str s z t) slot_str_getitem.lookup (getItem_str (c := c) (by
    have e1 : decide (i < -(2 ^ 63 : Int)) = false := decide_eq_false (by omega)
    have e2 : decide (i ≥ 2 ^ 63) = false := decide_eq_false (by omega)
    rw [e1, e2, Bool.or_false]) (by rw [h1]; simpa using h2) ⟨.str ⟨#[c]⟩, H, I.tok _, ⟨_, rfl⟩, q⟩) hs
/-! ### xs[i] = v, any sign -/
/-- the list's object behind a store -/
theorem mapSeq_set (its : List Value) (n j : Nat) (u : Value) : Obj.mapSeq (·.setIfInBounds j u) { cls := .type "list", data := .seq its.toArray n } = { cls := .type "list", data := .seq (its.set j u).toArray n } := by
  simp [Obj.mapSeq]
theorem Inv.lst {pins : List (Addr × Obj)} {σ : St} {H : Hp} {s : Shared} {p : Addr} {xs : List V} (I : Inv X pins σ H s) (h : H p = some (.lst xs)) :
    ∃ (its : List Value) (n : Nat), Vals xs its ∧ s.heap.get? p = some { cls := .type "list", data := .seq its.toArray n } ∧ xs.length ≤ sizeLine := by
  obtain ⟨z, its, n, r, e⟩ := I.hok p _ h
  exact ⟨its, n, r, e, z⟩
/-- the list at p is written by an update of its object -/
theorem Inv.lstUpd {pins : List (Addr × Obj)} {σ : St} {H : Hp} {s : Shared} {p : Addr} {xs ys : List V} {its its' : List Value} {n n' : Nat} {f : Obj → Obj} (I : Inv X pins σ H s) (h : H p = some (.lst xs))
    (ho : s.heap.get? p = some { cls := .type "list", data := .seq its.toArray n }) (hf : f { cls := .type "list", data := .seq its.toArray n } = { cls := .type "list", data := .seq its'.toArray n' }) (r : Vals ys its') (hz : ys.length ≤ sizeLine) (t : Nat) :
    Inv X pins σ (upd H p (.lst ys)) { s with heap := s.heap.update p f, toks := t } := by
  have e : (s.heap.update p f).get? p = some { cls := .type "list", data := .seq its'.toArray n' } := by
    rw [Heap.get?_update_self f ho (by rw [hf] <;> rfl), hf]
  refine I.write (x := p) (e := p) (by rw [h]; trivial) (.inl rfl) (fun b u hb q => (Heap.get?_update_other _ _ (Ne.symm hb)).trans q) ⟨_, e⟩ ?_
  exact ⟨hz, its', n', r, e⟩
def rSetL : V → V → V → Hp → (Hp → Prop) → Prop := fun o i v H Q => ∃ p xs k j, o = .ref p ∧ i = .int k ∧ H p = some (.lst xs) ∧ ixN xs.length k = some j ∧ Q (upd H p (.lst (xs.set j v)))
theorem set_list : PSet X rSetL := by
  intro pins s σ H o i v ov iv u Q I ro ri rv h
  obtain ⟨p, xs, k, j, rfl, rfl, hp, hj, q⟩ := h
  cases ro
  obtain ⟨t, rfl⟩ := ri
  obtain ⟨its, n, r, ho, hz⟩ := I.lst hp
  obtain ⟨h1, h2, h3, h4⟩ := ixN_seq hj
  have hl := r.length
  have hn := line63
  have I' : Inv X pins σ (upd H p (.lst (xs.set j v))) { s with heap := s.heap.update p (Obj.mapSeq (·.setIfInBounds j u)) } :=
    I.lstUpd hp ho (mapSeq_set its n j u) (r.set rv j) (by rw [List.length_set]; exact hz) s.toks
  by_cases h0 : 0 ≤ k
  · have hk : k.toNat = j := by
      rw [seqIndex_of h0 h4] at h1
      exact Option.some.inj h1
    exact PySem.W.ki_setAt ho h0 (by omega) (by rw [List.size_toArray, ← hl]; exact h4) (by rw [hk]; exact ⟨_, I', q⟩)
  · have hk : (k + (its.toArray.size : Int)).toNat = j := by
      rw [seqIndex_neg (by omega) h3] at h1
      rw [List.size_toArray, ← hl]
      exact Option.some.inj h1
    exact PySem.W.ki_setBack ho (by omega) (by rw [List.size_toArray, ← hl]; exact h3) (by omega) (by rw [hk]; exact ⟨_, I', q⟩)

/-! ### slices -/
theorem slice_bounds (lo hi : Option Int) (n : Nat) : (sliceBounds lo hi none n).1 = ((HT.sIx n 0 lo : Nat) : Int) ∧ (sliceBounds lo hi none n).2.1 = ((HT.sIx n n hi : Nat) : Int) ∧ (sliceBounds lo hi none n).2.2 = 1 := by
  refine ⟨?_, ?_, rfl⟩
  · cases lo with
    | none => simp [sliceBounds, HT.sIx]
    | some i =>
      simp only [sliceBounds, HT.sIx, Option.getD_none, show (1 : Int) > 0 by decide, if_true]
      by_cases h : i < 0
      · simp only [h, if_true] <;> omega
      · simp only [h, if_false] <;> omega
  · cases hi with
    | none => simp [sliceBounds, HT.sIx]
    | some i =>
      simp only [sliceBounds, HT.sIx, Option.getD_none, show (1 : Int) > 0 by decide, if_true]
      by_cases h : i < 0
      · simp only [h, if_true] <;> omega
      · simp only [h, if_false] <;> omega
theorem slicePick_cut (its : List Value) (lo hi : Option Int) : slicePick its.toArray lo hi none = ((its.drop (HT.sIx its.length 0 lo)).take (HT.sIx its.length its.length hi - HT.sIx its.length 0 lo)).toArray := by
  obtain ⟨h1, h2, h3⟩ := slice_bounds lo hi its.toArray.size
  unfold slicePick
  rw [h1, h2, h3]
  simp only [sliceRange_one, pick_run, List.size_toArray] <;> rfl
/-- xs[lo:hi] of a list: a new list -/
def rSlL (K : PySem.W.Frag) : V → Option Int → Option Int → Hp → VK → Prop := fun x lo hi H Q => ∃ a xs, x = .ref a ∧ SqL K H a xs ∧ ∀ p, H p = none → Q (.ref p) (upd H p (.lst (cutV xs lo hi)))
theorem sl_list : SlR X (rSlL X.K) := by
  intro pins s σ H x v vl vu lo hi sl Q I rx hs pl pu h
  obtain ⟨a, xs, rfl, hx, q⟩ := h
  cases rx
  obtain ⟨its, r, ht, hz⟩ := I.list hx
  have hlen := r.length
  refine ⟨"list", _, slot_list_getitem.lookup, ht.isList.typeIs, ?_⟩
  refine wpAny_getItem_list_slice ht.isList hs pl pu .none (by simp) ?_ (by rw [List.size_toArray] <;> omega)
  rw [slicePick_cut, ← hlen]
  refine ⟨.ref s.heap.objs.size, _, I.laid (t' := s.toks) (o := .lst (cutV xs lo hi)) (fun b ob q => Heap.get?_push_of_some _ q) (Nat.le_refl _) ?_, rfl, q _ (I.hok.fresh (Nat.le_refl _))⟩
  exact ⟨Nat.le_trans (cutV_length xs lo hi) hz, _, 0, (r.drop (HT.sIx xs.length 0 lo)).take (HT.sIx xs.length xs.length hi - HT.sIx xs.length 0 lo), Heap.get?_push_size _ rfl⟩

/-! ### in, not in: flat items -/
def flatV : V → Bool
  | .non => true
  | .bl _ => true
  | .int _ => true
  | .str _ => true
  | _ => false
/-- == of flat values -/
def eqV : V → V → Bool
  | .non, .non => true
  | .bl a, .bl b => a == b
  | .bl a, .int b => (if a then 1 else 0) == b
  | .int a, .bl b => a == (if b then 1 else 0)
  | .int a, .int b => a == b
  | .str a, .str b => a == b
  | _, _ => false
theorem eqAt_V {A : Around} {s : Shared} {y x : V} {u v : Value} (ry : RelV y u) (rx : RelV x v) (fy : flatV y = true) (fx : flatV x = true) : SeqAt.EqAt A s u v (eqV y x) := by
  cases y with
  | non =>
    cases ry
    cases x with
    | non => cases rx; exact SeqAt.EqAt.same _
    | bl b => cases rx; exact SeqAt.EqAt.none_bool b
    | int b => obtain ⟨t, rfl⟩ := rx; exact SeqAt.EqAt.none_int b t
    | str b => obtain ⟨t, rfl⟩ := rx; exact SeqAt.EqAt.none_str b t
    | _ => exact absurd (show false = true from fx) Bool.false_ne_true
  | bl a =>
    cases ry
    cases x with
    | non => cases rx; exact SeqAt.EqAt.bool_none a
    | bl b => cases rx; exact SeqAt.EqAt.bool_bool a b
    | int b => obtain ⟨t, rfl⟩ := rx; exact SeqAt.EqAt.bool_int a b t
    | str b => obtain ⟨t, rfl⟩ := rx; exact SeqAt.EqAt.bool_str a b t
    | _ => exact absurd (show false = true from fx) Bool.false_ne_true
  | int a =>
    obtain ⟨t', rfl⟩ := ry
    cases x with
    | non => cases rx; exact SeqAt.EqAt.int_none a t'
    | bl b => cases rx; exact SeqAt.EqAt.int_bool a t' b
    | int b => obtain ⟨t, rfl⟩ := rx; exact SeqAt.EqAt.int_int a t' b t
    | str b => obtain ⟨t, rfl⟩ := rx; exact SeqAt.EqAt.int_str a t' b t
    | _ => exact absurd (show false = true from fx) Bool.false_ne_true
  | str a =>
    obtain ⟨t', rfl⟩ := ry
    cases x with
    | non => cases rx; exact SeqAt.EqAt.str_none a t'
    | bl b => cases rx; exact SeqAt.EqAt.str_bool a t' b
    | int b => obtain ⟨t, rfl⟩ := rx; exact SeqAt.EqAt.str_int a t' b t
    | str b => obtain ⟨t, rfl⟩ := rx; exact SeqAt.EqAt.str_str a t' b t
    | _ => exact absurd (show false = true from fx) Bool.false_ne_true
  | _ => exact absurd (show false = true from fy) Bool.false_ne_true
/-- the items' answers, read off the values (a value's own answer does not lean on its token) -/
def eqU (x : V) (u : Value) : Bool := match u with
  | .none => eqV .non x
  | .bool b => eqV (.bl b) x
  | .int i _ => eqV (.int i) x
  | .str z _ => eqV (.str z) x
  | _ => false
theorem eqU_of {x y : V} {u : Value} (r : RelV y u) (f : flatV y = true) : eqU x u = eqV y x := by
  cases y with
  | non => cases r; rfl
  | bl b => cases r; rfl
  | int i => obtain ⟨t, rfl⟩ := r; rfl
  | str z => obtain ⟨t, rfl⟩ := r; rfl
  | _ => exact absurd (show false = true from f) Bool.false_ne_true
theorem any_eqU {x : V} : ∀ {xs : List V} {us : List Value}, Vals xs us → xs.all flatV = true → us.any (eqU x) = xs.any fun y => eqV y x
  | _, _, .nil, _ => rfl
  | y :: xs, u :: us, .cons r t, f => by
    rw [List.all_cons, Bool.and_eq_true] at f
    rw [List.any_cons, List.any_cons, eqU_of r f.1, any_eqU t f.2]
theorem mem_eqAt {A : Around} {s : Shared} {x : V} {v : Value} (rx : RelV x v) (fx : flatV x = true) : ∀ {xs : List V} {us : List Value}, Vals xs us → xs.all flatV = true → ∀ u ∈ us, SeqAt.EqAt A s u v (eqU x u)
  | _, _, .nil, _ => fun u hu => by cases hu
  | y :: xs, u :: us, .cons r t, f => fun u' hu => by
    rw [List.all_cons, Bool.and_eq_true] at f
    rcases List.mem_cons.mp hu with rfl | hu
    · rw [eqU_of r f.1]; exact eqAt_V r rx f.1 fx
    · exact mem_eqAt rx fx t f.2 u' hu
def inV (x : V) (xs : List V) : Bool := xs.any fun y => eqV y x
/-- x in a list or tuple of flat items -/
def rIn (K : PySem.W.Frag) (neg : Bool) : R2 := fun x y H Q => ∃ p xs, y = .ref p ∧ (SqL K H p xs ∨ SqT K H p xs) ∧ flatV x = true ∧ xs.all flatV = true ∧ Q (.bl (if neg then !inV x xs else inV x xs)) H
theorem op_in_seq : OpR X (compareOp .In) (rIn X.K false) := by
  intro pins s σ H x y v u Q I rx ry h
  obtain ⟨p, xs, rfl, hq, fx, fs, q⟩ := h
  cases ry
  rcases hq with hq | hq
  · obtain ⟨its, r, pl, hz⟩ := I.list hq
    refine SeqAt.in_listAt (eqU x) pl.isList (fun w hw => mem_eqAt rx fx r fs w (by simpa using hw)) ⟨.bl _, H, I, rfl, ?_⟩
    rw [show its.toArray.any (eqU x) = its.any (eqU x) by simp, any_eqU r fs]
    exact q
  · obtain ⟨its, r, pl, hz⟩ := I.tuple hq
    refine SeqAt.in_tupleAt (eqU x) pl (fun w hw => mem_eqAt rx fx r fs w (by simpa using hw)) ⟨.bl _, H, I, rfl, ?_⟩
    rw [show its.toArray.any (eqU x) = its.any (eqU x) by simp, any_eqU r fs]
    exact q
theorem op_notIn_seq : OpR X (compareOp .NotIn) (rIn X.K true) := by
  intro pins s σ H x y v u Q I rx ry h
  obtain ⟨p, xs, rfl, hq, fx, fs, q⟩ := h
  cases ry
  rcases hq with hq | hq
  · obtain ⟨its, r, pl, hz⟩ := I.list hq
    refine SeqAt.notIn_listAt (eqU x) pl.isList (fun w hw => mem_eqAt rx fx r fs w (by simpa using hw)) ⟨.bl _, H, I, rfl, ?_⟩
    rw [show its.toArray.any (eqU x) = its.any (eqU x) by simp, any_eqU r fs]
    exact q
  · obtain ⟨its, r, pl, hz⟩ := I.tuple hq
    refine SeqAt.notIn_tupleAt (eqU x) pl (fun w hw => mem_eqAt rx fx r fs w (by simpa using hw)) ⟨.bl _, H, I, rfl, ?_⟩
    rw [show its.toArray.any (eqU x) = its.any (eqU x) by simp, any_eqU r fs]
    exact q
/-! ### len, list(x), tuple(x) of any list or tuple that is read -/
theorem call_len_seq : CallR X (.builtin "len") (fun xs H Q => ∃ p ys, xs = [.ref p] ∧ (SqL X.K H p ys ∨ SqT X.K H p ys) ∧ Q (.int ys.length) H) := by
  intro pins s σ H xs us Q I r h
  obtain ⟨p, ys, rfl, hq, q⟩ := h
  obtain ⟨u, rfl, rx⟩ := vals1 r
  cases rx
  have hn := line63
  rcases hq with hq | hq
  · obtain ⟨its, r', pl, hz⟩ := I.list hq
    have hlen := r'.length
    exact Calls.call_len_list pl.isList (by simp only [List.size_toArray] <;> omega) ⟨.int ys.length, H, I.tok _, ⟨s.toks + 1, by rw [List.size_toArray, hlen]⟩, q⟩
  · obtain ⟨its, r', pl, hz⟩ := I.tuple hq
    have hlen := r'.length
    exact len_tuple pl (by simp only [List.size_toArray] <;> omega) ⟨.int ys.length, H, I.tok _, ⟨s.toks + 1, by rw [List.size_toArray, hlen]⟩, q⟩
theorem call_len_str : CallR X (.builtin "len") (fun xs H Q => ∃ z, xs = [.str z] ∧ z.length ≤ sizeLine ∧ Q (.int z.length) H) := by
  intro pins s σ H xs us Q I r h
  obtain ⟨z, rfl, hz, q⟩ := h
  obtain ⟨u, rfl, t, rfl⟩ := vals1 r
  have hn := line63
  exact len_str (by omega) ⟨.int z.length, H, I.tok _, ⟨_, rfl⟩, q⟩
theorem CallR.or {f : Value} {r r' : List V → Hp → VK → Prop} (h : CallR X f r) (h' : CallR X f r') : CallR X f (fun xs H Q => r xs H Q ∨ r' xs H Q) := by
  intro pins s σ H xs us Q I rs q
  rcases q with q | q
  · exact h pins s σ H xs us Q I rs q
  · exact h' pins s σ H xs us Q I rs q
theorem call_tuple_of : CallR X (.type "tuple") (fun xs H Q => ∃ p ys, xs = [.ref p] ∧ ((SqL X.K H p ys ∧ ∀ l, H l = none → Q (.ref l) (upd H l (.tup ys))) ∨ (SqT X.K H p ys ∧ Q (.ref p) H))) := by
  intro pins s σ H xs us Q I r h
  obtain ⟨p, ys, rfl, h⟩ := h
  obtain ⟨u, rfl, rx⟩ := vals1 r
  cases rx
  rcases h with ⟨hq, q⟩ | ⟨hq, q⟩
  · obtain ⟨its, r', pl, hz⟩ := I.list hq
    have hlen := r'.length
    refine call_tuple_list pl.isList (fun h' kp => ?_) (by simp only [List.size_toArray] <;> omega)
    have I1 : Inv X pins σ H { s with heap := h' } := I.kept (t' := s.toks) kp
    have I2 : Inv X pins σ (upd H h'.objs.size (.tup ys)) { s with heap := h'.push { cls := .type "tuple", data := .seq its.toArray } } :=
      I1.laid (t' := s.toks) (fun b o e => Heap.get?_push_of_some _ e) (Nat.le_refl _) (show ObjOk X.prog X.w _ _ _ (.tup ys) from ⟨hz, its, r', IsTup.new _ _⟩)
    exact ⟨.ref h'.objs.size, _, I2, rfl, q _ (I1.hok.fresh (Nat.le_refl _))⟩
  · obtain ⟨its, r', pl, hz⟩ := I.tuple hq
    exact call_tuple_same pl ⟨.ref p, H, I, rfl, q⟩

/-! ### the call of a builtin's method: o.m(..) -/
/-- the value is of that builtin type -/
def tyV (K : PySem.W.Frag) (T : String) (x : V) (H : Hp) : Prop := match x with
  | .str _ => T = "str"
  | .int _ => T = "int"
  | .ref p => (T = "list" ∧ ∃ xs, SqL K H p xs) ∨ (T = "tuple" ∧ ∃ o, K.lookup p = some o ∧ o.cls = .type "tuple" ∧ o.dict = none) ∨
      (T = "dict" ∧ ((∃ kvs, H p = some (.dK kvs)) ∨ ∃ kvs, H p = some (.dT kvs))) ∨ (T = "set" ∧ ∃ S n, H p = some (.set S n))
  | _ => False
theorem tyV_is {pins : List (Addr × Obj)} {σ : St} {H : Hp} {s : Shared} {T : String} {x : V} {v : Value} (I : Inv X pins σ H s) (r : RelV x v) (ty : tyV X.K T x H) :
    s.TypeIs v T ∧ ∀ a, v = .ref a → ∃ ob, s.heap.get? a = some ob ∧ ob.dict = none := by
  cases x with
  | str z =>
    obtain ⟨t, rfl⟩ := r
    cases (show T = "str" from ty)
    exact ⟨typeIs_str s z t, fun _ e => nomatch e⟩
  | int i =>
    obtain ⟨t, rfl⟩ := r
    cases (show T = "int" from ty)
    exact ⟨typeIs_int s i t, fun _ e => nomatch e⟩
  | ref p =>
    cases r
    rcases ty with ⟨rfl, xs, hq⟩ | ⟨rfl, o, hk, hc, hd⟩ | ⟨rfl, hk⟩ | ⟨rfl, S, n, hk⟩
    · obtain ⟨its, _, pl, _⟩ := I.list hq
      refine ⟨pl.isList.typeIs, fun a e => ?_⟩
      cases e
      obtain ⟨o, n, e, c, hd, _⟩ := pl
      exact ⟨o, e, hd⟩
    · refine ⟨⟨o, I.kIn p o hk, hc⟩, fun a e => ?_⟩
      cases e
      exact ⟨o, I.kIn _ o hk, hd⟩
    · have z : ∃ o, s.heap.get? p = some o ∧ o.ExactDict := by
        rcases hk with ⟨kvs, hk⟩ | ⟨kvs, hk⟩
        · obtain ⟨_, _, _, _, o, _, _, e, ex, _⟩ := I.hok p _ hk
          exact ⟨o, e, ex⟩
        · obtain ⟨_, _, _, _, o, _, _, e, ex, _⟩ := I.hok p _ hk
          exact ⟨o, e, ex⟩
      obtain ⟨o, e, ex⟩ := z
      refine ⟨⟨o, e, ex.1⟩, fun a e2 => ?_⟩
      cases e2
      exact ⟨o, e, ex.2.1⟩
    · obtain ⟨o, _, _, _, e, ex, _⟩ := I.hok p _ hk
      refine ⟨⟨o, e, ex.1⟩, fun a e2 => ?_⟩
      cases e2
      exact ⟨o, e, ex.2.1⟩
  | _ => exact False.elim ty
variable {o e : Expr} {es : List Expr} {to : TE} {t : TA} {name : Str} {apos cpos : Pos} {T id : String} {r : V → List V → Hp → VK → Prop}
end
end L2

namespace L2
open PySem PySem.Spec PyProof.Rows

def MtM (X : Cx) (id : String) (r : V → List V → Hp → VK → Prop) : Prop :=
  ∀ (pins : List (Addr × Obj)) (s : Shared) (σ : St) (H : Hp) (x : V) (xs : List V) (v : Value) (us : List Value) (Q : VK), Inv X pins σ H s → RelV x v → Vals xs us → r x xs H Q →
    wpAny (model X.prog X.w) X.A (call (.builtin id) (v :: us)) (EP X pins σ Q) X.xe s

/-! ### lists of values -/
theorem Vals.one : ∀ {x : V} {us : List Value}, Vals [x] us → ∃ u, us = [u] ∧ RelV x u
  | _, _, .cons r .nil => ⟨_, rfl, r⟩
theorem Vals.two : ∀ {x y : V} {us : List Value}, Vals [x, y] us → ∃ u v, us = [u, v] ∧ RelV x u ∧ RelV y v
  | _, _, _, .cons r (.cons q .nil) => ⟨_, _, rfl, r, q⟩
theorem Vals.zero : ∀ {us : List Value}, Vals [] us → us = []
  | _, .nil => rfl
section
variable {X : Cx} {pins : List (Addr × Obj)} {σ : St} {H : Hp} {s : Shared} {l b : Addr} {xs ys zs : List V}

/-! ### the two steps: a tracked list is rewritten, a new list is laid -/
theorem Inv.lset {its its' : List Value} {n : Nat} {f : Array Value → Array Value} {t' : Nat} (I : Inv X pins σ H s) (hH : H l = some (.lst xs))
    (e : s.heap.get? l = some { cls := .type "list", data := .seq its.toArray n }) (hf : f its.toArray = its'.toArray) (hv : Vals ys its') (hz : ys.length ≤ sizeLine) :
    Inv X pins σ (upd H l (.lst ys)) { s with heap := s.heap.update l (Obj.mapSeq f), toks := t' } := by
  have q := PySem.IsL.update e f
  rw [hf] at q
  refine I.write (x := l) (e := l) (by rw [hH]; exact trivial) (.inl rfl) (fun b' u hb hu => (Heap.get?_update_other s.heap (Obj.mapSeq f) (Ne.symm hb)).trans hu) ⟨_, q⟩ ?_
  exact ⟨hz, its', _, hv, q⟩
theorem Inv.lnew {its : List Value} {t' : Nat} (I : Inv X pins σ H s) (hv : Vals ys its) (hz : ys.length ≤ sizeLine) :
    Inv X pins σ (upd H s.heap.objs.size (.lst ys)) { s with heap := s.heap.push { cls := .type "list", data := .seq its.toArray }, toks := t' } :=
  I.laid (fun _ _ q => Heap.get?_push_of_some _ q) (Nat.le_refl _) ⟨hz, its, 0, hv, Heap.get?_push_size _ rfl⟩
theorem Inv.fresh (I : Inv X pins σ H s) : H s.heap.objs.size = none := I.hok.fresh (Nat.le_refl _)
theorem Inv.lstM (I : Inv X pins σ H s) (hH : H l = some (.lst xs)) : xs.length ≤ sizeLine ∧ ∃ (its : List Value) (n : Nat), Vals xs its ∧ xs.length = its.length ∧ s.heap.get? l = some { cls := .type "list", data := .seq its.toArray n } := by
  obtain ⟨z, its, n, r, e⟩ := I.hok l _ hH
  exact ⟨z, its, n, r, r.length, e⟩

end

section
variable {X : Cx}

/-! ### methods -/
def rAppend : V → List V → Hp → VK → Prop := fun x vs H Q => ∃ l xs y, x = .ref l ∧ vs = [y] ∧ H l = some (.lst xs) ∧ xs.length < sizeLine ∧ Q .non (upd H l (.lst (xs ++ [y])))
theorem mt_append : MtM X "list.append" rAppend := by
  intro pins s σ H x vs v us Q I rx rv h
  obtain ⟨l, xs, y, rfl, rfl, hH, hz, q⟩ := h
  cases rx
  obtain ⟨u, rfl, ru⟩ := rv.one
  obtain ⟨z, its, n, r, hl, e⟩ := I.lstM hH
  refine call_meets F.slot_list_append ⟨_, e, rfl⟩ F.entry_list_append (F.args_list_append_2 _ _) (PySem.list_append l its.toArray n u (by rw [List.size_toArray]; omega)) ⟨e, ?_⟩
  refine ⟨.non, _, I.lset (its' := its ++ [u]) hH e (by simp) (r.append (.cons ru .nil)) ?_, rfl, q⟩
  rw [List.length_append, List.length_singleton]
  omega

/-! ### list + list, list += list, list * int -/
def rCat : R2 := fun x y H Q => ∃ l b xs zs, x = .ref l ∧ y = .ref b ∧ H l = some (.lst xs) ∧ H b = some (.lst zs) ∧ xs.length + zs.length ≤ sizeLine ∧ ∀ p, H p = none → Q (.ref p) (upd H p (.lst (xs ++ zs)))
theorem op_cat : OpR X (binaryOp .Add) rCat := by
  intro pins s σ H x y v u Q I rx ry h
  obtain ⟨l, b, xs, zs, rfl, rfl, hH, hB, hz, q⟩ := h
  cases rx
  cases ry
  obtain ⟨z, its, n, r, hl, e⟩ := I.lstM hH
  obtain ⟨z2, its2, n2, r2, hl2, e2⟩ := I.lstM hB
  refine PySem.P.add_list e e2 ?_ (by rw [List.size_toArray, List.size_toArray]; omega)
  have ea : its.toArray ++ its2.toArray = (its ++ its2).toArray := by simp
  rw [ea]
  exact ⟨.ref _, _, I.lnew (t' := s.toks) (r.append r2) (by rw [List.length_append]; omega), rfl, q _ I.fresh⟩
/-! ### del xs[i] -/
end

/-! ### xs[a:b] = ys -/
section
variable {prog : Program} {w : World} {A : Around} {E : Value → Shared → Prop} {s : Shared}
set_option maxRecDepth 100000 in
end

section
variable {X : Cx}
end
end L2

namespace L2
open PySem PySem.Spec PyProof.Rows

/-! ### lists of pairs as tables -/
section
variable {κ : Type} [DecidableEq κ]
def valV (kvs : List (κ × V)) (k : κ) : Option V := (kvs.find? fun kv => decide (kv.1 = k)).map (·.2)
/-- in its place, or at the end -/
def putK (kvs : List (κ × V)) (k : κ) (v : V) : List (κ × V) :=
  if (kvs.any fun kv => decide (kv.1 = k)) = true then kvs.map (fun kv => if kv.1 = k then (kv.1, v) else kv) else kvs ++ [(k, v)]
def dropK (kvs : List (κ × V)) (k : κ) : List (κ × V) := kvs.filter fun kv => decide (kv.1 ≠ k)

theorem valV_pos {p : κ × V} {r : List (κ × V)} {k : κ} (e : p.1 = k) : valV (p :: r) k = some p.2 := by simp [valV, List.find?_cons, e]
theorem valV_neg {p : κ × V} {r : List (κ × V)} {k : κ} (e : ¬ p.1 = k) : valV (p :: r) k = valV r k := by simp [valV, List.find?_cons, e]
theorem valV_any (k : κ) : ∀ kvs : List (κ × V), (kvs.any fun kv => decide (kv.1 = k)) = (valV kvs k).isSome
  | [] => rfl
  | p :: r => by
    rw [List.any_cons]
    by_cases e : p.1 = k
    · simp only [valV_pos e, decide_eq_true e, Bool.true_or, Option.isSome_some]
    · rw [valV_neg e, decide_eq_false e, Bool.false_or]; exact valV_any k r
theorem RelO.isSome_eq {o : Option V} {u : Option Value} (r : RelO o u) : o.isSome = u.isSome := by
  cases o with
  | none => cases u with
    | none => rfl
    | some _ => exact (show False from r).elim
  | some _ => cases u with
    | none => exact (show False from r).elim
    | some _ => rfl
theorem RelO.getD {o : Option V} {u : Option Value} {d : V} {d' : Value} (r : RelO o u) (rd : RelV d d') : RelV (o.getD d) (u.getD d') := by
  cases o with
  | none => cases u with
    | none => exact rd
    | some _ => exact (show False from r).elim
  | some _ => cases u with
    | none => exact (show False from r).elim
    | some _ => exact r

/-- raw tables of the same keys -/
theorem KV.val {kvs : List (κ × V)} {vs : List (κ × Value)} (r : KV kvs vs) (k : κ) : RelO (valV kvs k) (valueAt vs k) := by
  unfold KV at r
  induction r with
  | nil => exact True.intro
  | @cons p q ps qs h t ih =>
    obtain ⟨h1, h2⟩ := h
    by_cases e : p.1 = k
    · have e' : q.1 = k := h1.symm.trans e
      have b : valueAt (q :: qs) k = some q.2 := by simp [valueAt, List.find?_cons, e']
      rw [valV_pos e, b]; exact h2
    · have e' : ¬ q.1 = k := fun z => e (h1.trans z)
      have b : valueAt (q :: qs) k = valueAt qs k := by simp [valueAt, List.find?_cons, e']
      rw [valV_neg e, b]; exact ih
theorem KV.any {kvs : List (κ × V)} {vs : List (κ × Value)} (r : KV kvs vs) (k : κ) : (kvs.any fun kv => decide (kv.1 = k)) = vs.any fun kv => decide (kv.1 = k) := by
  unfold KV at r
  induction r with
  | nil => rfl
  | cons h t ih => rw [List.any_cons, List.any_cons, ih, h.1]
theorem KV.repl {kvs : List (κ × V)} {vs : List (κ × Value)} (r : KV kvs vs) (k : κ) {y : V} {u : Value} (ry : RelV y u) :
    KV (kvs.map fun kv => if kv.1 = k then (kv.1, y) else kv) (vs.map fun kv => if kv.1 = k then (kv.1, u) else kv) := by
  unfold KV at r ⊢
  induction r with
  | nil => exact .nil
  | @cons p q ps qs h t ih =>
    rw [List.map_cons, List.map_cons]
    refine .cons ?_ ih
    obtain ⟨h1, h2⟩ := h
    by_cases e : p.1 = k
    · rw [if_pos e, if_pos (h1.symm.trans e)]; exact ⟨h1, ry⟩
    · rw [if_neg e, if_neg (fun z => e (h1.trans z))]; exact ⟨h1, h2⟩
theorem KV.put {kvs : List (κ × V)} {vs : List (κ × Value)} (r : KV kvs vs) (k : κ) {y : V} {u : Value} (ry : RelV y u) : KV (putK kvs k y) (stored vs k u) := by
  unfold putK stored
  rw [r.any k]
  by_cases e : (vs.any fun kv => decide (kv.1 = k)) = true
  · rw [if_pos e, if_pos e]; exact r.repl k ry
  · rw [if_neg e, if_neg e]; exact Paired.snoc r ⟨rfl, ry⟩
theorem KV.drop {kvs : List (κ × V)} {vs : List (κ × Value)} (r : KV kvs vs) (k : κ) : KV (dropK kvs k) (without vs k) := by
  unfold KV at r ⊢
  unfold dropK without
  induction r with
  | nil => exact .nil
  | @cons p q ps qs h t ih =>
    obtain ⟨h1, h2⟩ := h
    rw [List.filter_cons, List.filter_cons]
    by_cases e : p.1 = k
    · have a : ¬ decide (p.1 ≠ k) = true := by simp [e]
      have b : ¬ decide (q.1 ≠ k) = true := by simp [h1.symm.trans e]
      rw [if_neg a, if_neg b]; exact ih
    · have e' : ¬ q.1 = k := fun z => e (h1.trans z)
      have a : decide (p.1 ≠ k) = true := by simp [e]
      have b : decide (q.1 ≠ k) = true := by simp [e']
      rw [if_pos a, if_pos b]; exact .cons ⟨h1, h2⟩ ih
theorem KV.keys {kvs : List (κ × V)} {vs : List (κ × Value)} (r : KV kvs vs) : kvs.map (·.1) = vs.map (·.1) := by
  unfold KV at r
  induction r with
  | nil => rfl
  | cons h t ih => rw [List.map_cons, List.map_cons, ih, h.1]
theorem KV.length {kvs : List (κ × V)} {vs : List (κ × Value)} (r : KV kvs vs) : kvs.length = vs.length := Paired.length r
end


/-! ### a tracked dict, its keys ints and texts or tuples of these -/
/-- raw entries of a dict with tuple keys -/
abbrev KT (H : Hp) : List (List Key × V) → List (List Key × Addr × Value) → Prop := Paired fun p q => p.1 = q.1 ∧ H q.2.1 = some (.tup (p.1.map kV)) ∧ RelV p.2 q.2.2
theorem KT.val {H : Hp} {kvs : List (List Key × V)} {xs : List (List Key × Addr × Value)} (r : KT H kvs xs) (k : List Key) : RelO (valV kvs k) ((atKey xs k).map (·.2)) := by
  induction r with
  | nil => exact True.intro
  | @cons p q ps qs h t ih =>
    obtain ⟨h1, _, h2⟩ := h
    by_cases e : p.1 = k
    · have e' : q.1 = k := h1.symm.trans e
      have b : atKey (q :: qs) k = some q.2 := by simp [atKey, List.find?_cons, e']
      rw [valV_pos e, b]; exact h2
    · have e' : ¬ q.1 = k := fun z => e (h1.trans z)
      have b : atKey (q :: qs) k = atKey qs k := by simp [atKey, List.find?_cons, e']
      rw [valV_neg e, b]; exact ih
theorem KT.repl {H : Hp} {kvs : List (List Key × V)} {xs : List (List Key × Addr × Value)} (r : KT H kvs xs) (k : List Key) {y : V} {u : Value} (ry : RelV y u) :
    KT H (kvs.map fun kv => if kv.1 = k then (kv.1, y) else kv) (xs.map (putAt k u)) := by
  induction r with
  | nil => exact .nil
  | @cons p q ps qs h t ih =>
    rw [List.map_cons, List.map_cons]
    refine .cons ?_ ih
    obtain ⟨h1, h2, h3⟩ := h
    unfold putAt
    by_cases e : p.1 = k
    · rw [if_pos e, if_pos (h1.symm.trans e)]; exact ⟨h1, h2, ry⟩
    · rw [if_neg e, if_neg (fun z => e (h1.trans z))]; exact ⟨h1, h2, h3⟩
theorem KT.put {H : Hp} {kvs : List (List Key × V)} {xs : List (List Key × Addr × Value)} (r : KT H kvs xs) (k : List Key) {b : Addr} {y : V} {u : Value} (hb : H b = some (.tup (k.map kV))) (ry : RelV y u) :
    KT H (putK kvs k y) (storedH xs k b u) := by
  have e : (kvs.any fun kv => decide (kv.1 = k)) = (atKey xs k).isSome := by
    rw [valV_any, (r.val k).isSome_eq, Option.isSome_map]
  unfold putK storedH
  rw [e]
  by_cases q : (atKey xs k).isSome = true
  · rw [if_pos q, if_pos q]; exact r.repl k ry
  · rw [if_neg q, if_neg q]; exact Paired.snoc r ⟨rfl, hb, ry⟩
theorem KT.keeps {H H' : Hp} {kvs : List (List Key × V)} {xs : List (List Key × Addr × Value)} (r : KT H kvs xs) (ht : ∀ b ys, H b = some (.tup ys) → H' b = some (.tup ys)) : KT H' kvs xs :=
  Paired.mapP r fun _ _ z => ⟨z.1, ht _ _ z.2.1, z.2.2⟩

section
variable {P : Program} {w : World} {H : Hp} {h : Heap} {a : Addr}
end

/-- what the dict at a holds at the key y -/
def DGet (H : Hp) (a : Addr) (y : V) (r : Option V) : Prop :=
  (∃ kvs k, Rd H a (.dK kvs) ∧ y = kV k ∧ r = valV kvs k) ∨ ∃ kvs k b, Rd H a (.dT kvs) ∧ y = .ref b ∧ H b = some (.tup (k.map kV)) ∧ r = valV kvs k
/-- the heap behind a[y] = v -/
def DPut (H : Hp) (a : Addr) (y v : V) (H' : Hp) : Prop :=
  (∃ kvs k, H a = some (.dK kvs) ∧ y = kV k ∧ kvs.length < sizeLine ∧ H' = upd H a (.dK (putK kvs k v))) ∨
  ∃ kvs k b, H a = some (.dT kvs) ∧ y = .ref b ∧ H b = some (.tup (k.map kV)) ∧ kvs.length < sizeLine ∧ H' = upd H a (.dT (putK kvs k v))
theorem DGet.k {H : Hp} {a : Addr} {kvs : List (Key × V)} {k : Key} (e : H a = some (.dK kvs)) : DGet H a (kV k) (valV kvs k) := .inl ⟨kvs, k, .inl e, rfl, rfl⟩
theorem DGet.t {H : Hp} {a b : Addr} {kvs : List (List Key × V)} {k : List Key} (e : H a = some (.dT kvs)) (eb : H b = some (.tup (k.map kV))) : DGet H a (.ref b) (valV kvs k) := .inr ⟨kvs, k, b, .inl e, rfl, eb, rfl⟩
theorem DPut.k {H : Hp} {a : Addr} {kvs : List (Key × V)} {k : Key} {v : V} (e : H a = some (.dK kvs)) (hl : kvs.length < sizeLine) : DPut H a (kV k) v (upd H a (.dK (putK kvs k v))) := .inl ⟨kvs, k, e, rfl, hl, rfl⟩
theorem DPut.t {H : Hp} {a b : Addr} {kvs : List (List Key × V)} {k : List Key} {v : V} (e : H a = some (.dT kvs)) (eb : H b = some (.tup (k.map kV))) (hl : kvs.length < sizeLine) :
    DPut H a (.ref b) v (upd H a (.dT (putK kvs k v))) := .inr ⟨kvs, k, b, e, rfl, eb, hl, rfl⟩


section
variable {X : Cx} {pins : List (Addr × Obj)} {σ : St} {H : Hp} {s : Shared} {a : Addr} {y v : V} {u r : Value} {o : Option V} {A : Around} {E : Value → Shared → Prop}

theorem Inv.big (I : Inv X pins σ H s) : sysModules < s.heap.objs.size := by
  have h : mainGlobals < s.heap.objs.size := (I.mod.glob.keeps I.bk).lt
  exact Nat.lt_trans (by decide) h

end

section
variable {X : Cx} {pins : List (Addr × Obj)} {σ : St} {H : Hp} {s : Shared} {a : Addr} {kvs : List (Key × V)} {k : Key} {u : Value} {A : Around} {E : Value → Shared → Prop}
end


/-! ### readings and rules -/
/-- the element of a subscription, not a slice -/
def NoSl (i : Expr) : Prop := ∀ ov iv, subscripted i false ov iv = operate [ov, iv] (getItem ov iv)
theorem subD_of {prog : Program} {w : World} {A : Around} {E : Value → Shared → Prop} {s : Shared} {env : Env} {value slice : Expr} {pos : Pos} {T id : String} {Q : Value → Shared → Prop}
    (hl : typeLookup (.type T) "__getitem__" = pure (some (.builtin id))) (hs : NoSl slice)
    (h : wpAny (model prog w) A (eval value env) (fun o s₁ => wpAny (model prog w) A (eval slice env) (fun i s₂ => s₂.TypeIs o T ∧ wpAny (model prog w) A (getItem o i) Q E s₂) E s₁) E s) :
    wpAny (model prog w) A (eval (.Subscript value slice pos) env) Q E s := by
  refine Subscript_ (wpAny_mono h (fun o s₁ h₁ => wpAny_mono h₁ (fun i s₂ h₂ => ?_) fun _ _ x => x) fun _ _ x => x)
  obtain ⟨hT, h₂⟩ := h₂
  unfold subscriptTail
  refine wpAny_bind ?_
  rw [getitemInPython_of_ne hT.not_modules]
  refine wpAny_bind (wpAny_specialOf hT hl ?_)
  have fin : wpAny (model prog w) A (subscripted slice false o i) (fun r s₃ => wpAny (model prog w) A (letTemporaryGo value o r >>= fun _ => pure r) Q E s₃) E s₂ := by
    rw [hs o i]
    exact wpAny_operating (wpAny_mono h₂ (fun r s₃ h₃ => wpAny_bind (wpAny_letTemporaryGo (wpAny_pure h₃))) fun _ _ x => x)
  first
    | exact wpAny_pure (wpAny_bind fin)
    | exact wpAny_bind (wpAny_pure (wpAny_bind fin))
    | exact wpAny_bind fin

section
variable {X : Cx} {o i e value : Expr} {pos pos' tpos : Pos} {td ty tv : TE}
end


/-! ### displays -/
section
variable {X : Cx} {pos : Pos}
end

/-- the pairs of a display, from the left -/
def tPairs : List (TE × TE) → St → Hp → (List (V × V) → Hp → Prop) → Prop
  | [], _, H, Q => Q [] H
  | (tk, tv) :: r, σ, H, Q => tk σ H fun x H1 => tv σ H1 fun y H2 => tPairs r σ H2 fun ps H3 => Q ((x, y) :: ps) H3
abbrev VV : List (V × V) → List (Value × Value) → Prop := Paired fun p q => RelV p.1 q.1 ∧ RelV p.2 q.2
def PPs (X : Cx) (pos : Pos) (keys : List (Option Expr)) (values : List Expr) (trs : List (TE × TE)) : Prop :=
  ∀ (pins : List (Addr × Obj)) (s : Shared) (σ : St) (H : Hp) (Q : List (V × V) → Hp → Prop), Inv X pins σ H s → tPairs trs σ H Q →
    wpAny (model X.prog X.w) X.A (evalPairs (pairTrees keys values X.env pos)) (fun vs s' => ∃ ps H', Inv X pins σ H' s' ∧ VV ps vs ∧ Q ps H') X.xe s
/-! ### methods -/
/-- a method call o.m(e) of a built-in, with one argument: what must be seen of the text -/
structure M1 (X : Cx) (o : Expr) (m : Str) (apos : Pos) (e : Expr) (cpos : Pos) : Prop where
  base : attributeBase o m X.env (eval o X.env) = eval o X.env
  few : ((backTo cpos (starEach [e] X.env)).all (fun x => !x.1) && (backToKw cpos (keywordEach [] X.env)).all (fun x => x.1.isSome)
    && decide (([e] : List Expr).length + ([] : List Keyword).length + (if ([] : List Keyword).isEmpty then 0 else 1) < 30)) = true
  line : (apos.endLine == cpos.line) = true
  trees : backTo cpos (starEach [e] X.env) = [(false, eval e X.env)]
structure M2 (X : Cx) (o : Expr) (m : Str) (apos : Pos) (e f : Expr) (cpos : Pos) : Prop where
  base : attributeBase o m X.env (eval o X.env) = eval o X.env
  few : ((backTo cpos (starEach [e, f] X.env)).all (fun x => !x.1) && (backToKw cpos (keywordEach [] X.env)).all (fun x => x.1.isSome)
    && decide (([e, f] : List Expr).length + ([] : List Keyword).length + (if ([] : List Keyword).isEmpty then 0 else 1) < 30)) = true
  line : (apos.endLine == cpos.line) = true
  trees : backTo cpos (starEach [e, f] X.env) = [(false, eval e X.env), (false, eval f X.env)]

section
variable {X : Cx} {pins : List (Addr × Obj)} {σ : St} {H : Hp} {s : Shared} {a : Addr} {y d : V} {u r : Value} {o : Option V} {A : Around} {E : Value → Shared → Prop}
end

section
variable {X : Cx} {o e f : Expr} {apos cpos : Pos} {td ty tx : TE}
end

/-! ### dict(d): a copy -/
section
variable {X : Cx} {pins : List (Addr × Obj)} {σ : St} {H : Hp} {s : Shared} {a : Addr} {kvs : List (Key × V)} {A : Around} {E : Value → Shared → Prop}
end


section
variable {X : Cx} {pins : List (Addr × Obj)} {σ : St} {H : Hp} {s : Shared} {a : Addr} {y : V} {u : Value} {A : Around} {E : Value → Shared → Prop}
end
end L2

namespace Att
open PySem PySem.W PySem.Calls PyProof.Rows

/-! ### the script -/
theorem ints_of_wellAll {P : Params} {h : Heap} : ∀ (ns : List Int) (vs : List Value), WellAll P h vs (ns.map WData.int) → IntsAre vs ns := by
  intro ns
  induction ns with
  | nil =>
    intro vs w
    rw [List.map_nil] at w
    cases w
    exact .nil
  | cons n ns ih =>
    intro vs w
    rw [List.map_cons] at w
    cases w with
    | cons a b =>
      cases a
      exact .cons _ _ (ih _ b)

theorem script_of {l : OpenLaw} {n : Nat} (hn : l.most = some n) {P : Params} {h : Heap} {args : List WData} {vals : List Value}
    (hpre : l.row.toRowW.claim.pre args = true) (hwl : WellAll P h vals args) :
    ∃ a vs ns, vals = [Value.ref a] ∧ args = [WData.list (ns.map WData.int)] ∧ h.get? a = some { cls := .type "list", data := .seq vs.toArray } ∧ IntsAre vs ns ∧ ns.length ≤ n := by
  have hsh : WShape.hasAll [] args [.list .int] = true := (pre_splitW hpre).1
  have hc : l.pre.holds [] { args := args } = true := (pre_splitW hpre).2
  obtain ⟨d, r, rfl, h1, h2⟩ := hasAllW_cons hsh
  obtain rfl := hasAllW_nil h2
  obtain ⟨xs, rfl, h3⟩ := hasW_list h1
  obtain ⟨ns, rfl⟩ := items_int h3
  have hlen : ns.length ≤ n := by
    unfold OpenLaw.pre at hc
    have h4 : (WTm.not (.lt (.lit (.int (n : Int))) (.len (.arg 0)))).holds [] { args := [.list (ns.map .int)] } = true := by
      have h4 := (holds_andW hc).1
      rw [hn] at h4
      exact h4
    have h5 := condW_of h4 (w_not (w_lt w_lit (w_len_list (w_arg rfl))))
    rw [List.length_map] at h5
    refine Nat.le_of_not_lt fun q => ?_
    have q' : (n : Int) < ((ns.length : Nat) : Int) := by omega
    first
      | (rw [decide_eq_true q'] at h5; exact absurd h5 (by decide))
      | (simp at h5; omega)
  cases hwl with
  | cons w1 w2 =>
    cases w2
    cases w1 with
    | list ho hall => exact ⟨_, _, ns, rfl, rfl, ho, ints_of_wellAll ns _ hall, hlen⟩

theorem post_true (l : OpenLaw) (args : List WData) : l.row.toRowW.claim.post args (.bool true) args = true :=
  postW_of (r := l.row.toRowW) (X := (true == true))
    (show WShape.has [] (.bool true) .bool = true by first | rfl | decide | simp [WShape.has, WShape.arms, WShape.armsAll])
    (show (WTm.eq .res (.lit (.bool true))).value [] { args := args, res := some (.bool true), after := args } = some (.bool (true == true)) from w_eq_bool (w_res rfl) w_lit) rfl

/-! ### the attachment: holds_open's last premise (the goal 'hc' behind k_head) from a wpAny of the law's body -/
/-- the same from a codeAny of the CALL (for a layer whose function contracts speak of calls) -/
theorem attach_call {l : OpenLaw} {n : Nat} {q : Program} {loose : List Str} {XP : (Str → Option Value) → Heap → Prop} {YP : World → Heap → Prop} {d : DefRec}
    (hn : l.most = some n) (hdf : d.params.defaults = [])
    (call : ∀ (w : World) (s₀ s₁ : Shared) (mg mb : Str → Option Value) (fa : Addr) (o : Obj) (pm cd doc : Value) (a : Addr) (vs : List Value) (ns : List Int),
      Ground q loose [] XP w s₀ mg mb s₁.heap → YP w s₁.heap →
      s₁.heap.get? fa = some o → o.data = .func (docDef d.name d.params d.body d.scope pm cd doc) → s₁.heap.CodeRec cd d.name → mg d.name = some (.ref fa) →
      s₁.heap.get? a = some { cls := .type "list", data := .seq vs.toArray } → IntsAre vs ns → ns.length ≤ n → s₁.gens = #[] →
      codeAny (model l.prog w) callerA (.call (.ref fa) ⟨[.ref a], []⟩) (fun r s' => r = .ok (.ret (.bool true)) ∧ OldK s₁.heap s'.heap ∧ s'.os = s₁.os ∧ AllBare s'.gens) s₁) :
    WalkO q loose XP YP l.row.toRowW d [] (fun f vs => PySem.call f vs) := by
  intro w s₀ s₁ mg mb G Y fa o pm cd doc dV kV ho hd hcd hD hmg hg args vals as hpre hlay hrd hwl hlo
  obtain rfl : dV = .none := Dflts.none hD hdf
  obtain rfl : kV = .none := Dflts.noKw hD
  obtain ⟨a, vs, ns, rfl, rfl, hobj, hints, hlen⟩ := script_of hn hpre hwl
  refine enter_call (codeAny_mono (call w s₀ s₁ mg mb fa o pm cd doc a vs ns G Y ho (fd_plain hd) hcd hmg hobj hints hlen hg) fun r s' hq => ?_)
  obtain ⟨rfl, h2, h3, h4⟩ := hq
  exact ⟨.inl ⟨.bool true, .bool true, [], rfl, fun _ => rfl, .bool true, post_true l _, fun _ => ⟨List.Pairwise.nil, fun _ hm => (nomatch hm)⟩⟩, h2, h3, h4⟩

/-! ### rules over ANY heap (no ledger) from facts about the written part K: the library's own take a ledger (News) for what they write -/
section
variable {prog : Program} {w : World} {A : Around} {E : Value → Shared → Prop} {s : Shared} {K : Frag}

/-! the whole heap as the ledger: makes every rule that writes through a ledger a rule over any heap -/
def ledger (h : Heap) (L d : Addr) : List (Addr × Obj) := (List.range h.objs.size).filterMap fun a => if a = L ∨ a = d then none else (h.get? a).map fun o => (a, o)
end
end Att

namespace L2
open PySem PySem.Spec PyProof.Rows

theorem vals_ints : ∀ {vs : List Value} {ns : List Int}, IntsAre vs ns → Vals (ns.map V.int) vs
  | _, _, .nil => .nil
  | _, _, .cons n t h => .cons ⟨t, rfl⟩ (vals_ints h)

/-- nothing is tracked but the script, known to the object (or it is an object of the module) -/
def Only (H : Hp) : Prop := ∀ b, H b = none ∨ ∃ o xs, H b = some (.frz o (.lst xs))

/-- THE HEAD: the law's promise, at the heap behind the top. F, the promise of the law's def, may use that base is part of the heap (so K.In base, base.Ns mainGlobals mg stand in Mod) -/
theorem law_call {P : Program} {w : World} {K : PySem.W.Frag} {mg mb : Str → Option Value} {CX : CXT} {ca : Bool} {k : Nat} {fa a : Addr} {fd : FuncData} {x : Str} {sp : Sp} {s₁ : Shared} {vs : List Value} {ns : List Int}
    (KX : K.In s₁.heap) (hns : s₁.heap.Ns mainGlobals mg) (hb : s₁.heap.Ns builtinsNs mb) (hbb : ∀ x : Str, x ≠ "__name__" → mb x = bootBuiltins x) (hlim : s₁.heap.NoLimit) (hg : s₁.gens = #[])
    (ha : s₁.heap.get? a = some { cls := .type "list", data := .seq vs.toArray }) (hi : IntsAre vs ns) (hl : ns.length ≤ sizeLine) (hr : Room ca k callerA)
    (F : ∀ base : Heap, K.In base → base.Ns mainGlobals mg → FnOk P w K mg base CX ca k fa fd [x] sp) (hbind : ∀ (s : Shared) (u : Value), BindsTo s fd ⟨[u], []⟩ [(x, u)])
    (hsp : ∀ H : Hp, Only H → SqL K H a (ns.map V.int) → sp [.ref a] H (fun v _ => v = .bl true) fun _ _ _ => False)
    (hCX : ∀ H e s', CX [] H s₁ (fun _ _ _ => False) e s' → False) :
    codeAny (model P w) callerA (.call (.ref fa) ⟨[.ref a], []⟩) (fun r s' => r = .ok (.ret (.bool true)) ∧ OldK s₁.heap s'.heap ∧ s'.os = s₁.os ∧ AllBare s'.gens) s₁ := by
  have rv := vals_ints hi
  have lenV := hi.length
  -- from an abstract heap in which nothing but the script may be tracked
  have core : ∀ H : Hp, Only H → SqL K H a (ns.map V.int) → HOk P w H s₁.heap → (∀ b, H b ≠ none → b = a) → (H a ≠ none → K.lookup a = none) →
      codeAny (model P w) callerA (.call (.ref fa) ⟨[.ref a], []⟩) (fun r s' => r = .ok (.ret (.bool true)) ∧ OldK s₁.heap s'.heap ∧ s'.os = s₁.os ∧ AllBare s'.gens) s₁ := by
    intro H hO hS hok hA hK
    have base_of : ∀ {b : Addr} {o : Obj}, s₁.heap.get? b = some o → H b = none → (hidT s₁.heap H).get? b = some o := fun e n => hidT_get e n
    have noA : ∀ {b : Addr} {o : Obj} {es : Array DictEntry} {ep : Nat}, s₁.heap.get? b = some o → o.data = .dict es ep → H b = none := fun {b o es ep} e d => by
      cases q : H b with
      | none => rfl
      | some u =>
        have e' : b = a := hA b (by rw [q]; simp)
        subst e'
        rw [ha] at e; cases e
        have d' : Data.seq vs.toArray _ = Data.dict es ep := d
        cases d'
    have nsK : ∀ {b : Addr} {m : Str → Option Value}, s₁.heap.Ns b m → (hidT s₁.heap H).Ns b m := fun {b m} ⟨o, es, ep, e, d, r⟩ => ⟨o, es, ep, base_of e (noA e d), d, r⟩
    have hKb : K.In (hidT s₁.heap H) := fun b o e => base_of (KX b o e) (by
      cases q : H b with
      | none => rfl
      | some u =>
        have e' : b = a := hA b (by rw [q]; simp)
        subst e'
        rw [hK (by rw [q]; simp)] at e; cases e)
    have hM : Mod K mg (hidT s₁.heap H) := ⟨hKb, nsK hns, ⟨mb, nsK hb, hbb⟩, let ⟨mc, h1, h2⟩ := hlim; ⟨mc, nsK h1, h2⟩⟩
    have e0 : Env0 P w K mg (hidT s₁.heap H) callerA [] s₁ H := ⟨rfl, hM, fun b o e => of_hidT e, Nat.le_of_eq (hidT_size _ _), trivial, fun b hb => absurd (show b ∈ ([] : List Addr) from hb) (by simp), hok, .of_eq hg⟩
    refine codeAny_mono ((F _ hKb (nsK hns)).run callerA [] s₁ H ⟨[.ref a], []⟩ [.ref a] [.ref a] _ _ hr e0 (hbind s₁ (.ref a)) (.cons rfl .nil) (hsp H hO hS)) fun r s' h => ?_
    cases r with
    | error e => exact (hCX H e s' h).elim
    | ok fl =>
      cases fl with
      | next => exact False.elim h
      | brk => exact False.elim h
      | cont => exact False.elim h
      | ret u =>
        obtain ⟨v, H', os, bare, un, hok', r', q⟩ := h
        have q' : v = .bl true := q
        subst q'
        obtain rfl : u = Value.bool true := r'
        refine ⟨rfl, OldK.of_keep fun b o e => ?_, os, bare⟩
        cases q : H b with
        | none => exact un.keep b o e q (by intro z; exact absurd (show b ∈ ([] : List Addr) from z) (by simp)) (by simp)
        | some u =>
          rcases hO b with z | ⟨ob, xs, z⟩
          · rw [q] at z; cases z
          · have z2 := un.frzs b ob _ z
            obtain ⟨e1, _⟩ := hok b _ z
            obtain ⟨e2, _⟩ := hok' b _ z2
            rw [e] at e1; cases e1
            exact e2
  cases hk : K.lookup a with
  | some o =>
    -- the script is one of the module's own objects
    have e := KX a o hk
    rw [ha] at e
    cases e
    refine core (fun _ => none) (fun _ => .inl rfl) (.inr ⟨_, vs.toArray, _, hk, rfl, rfl, rfl, by rw [List.size_toArray, lenV]; exact hl, by simpa using rv⟩) (fun b u z => by have z' : (none : Option HO) = some u := z; cases z') (fun b z => absurd rfl z) fun z => absurd rfl z
  | none =>
    refine core (fun b => if b = a then some (.frz { cls := .type "list", data := .seq vs.toArray } (.lst (ns.map V.int))) else none) (fun b => ?_) (.inl (.inr ⟨{ cls := .type "list", data := .seq vs.toArray }, if_pos rfl⟩)) (fun b u z => ?_) (fun b z => ?_) fun _ => hk
    · by_cases hb : b = a
      · exact .inr ⟨_, _, if_pos hb⟩
      · exact .inl (if_neg hb)
    · by_cases hb : b = a
      · have z' := (if_pos hb).symm.trans z
        cases z'
        subst hb
        exact ⟨ha, by rw [List.length_map]; exact hl, vs, _, rv, ha⟩
      · have z' := (if_neg hb).symm.trans z
        cases z'
    · by_cases hb : b = a
      · exact hb
      · exact absurd (if_neg hb) z
end L2

namespace L2
open PySem PySem.Spec PyProof.Rows

/-- the goal that k_head leaves (case hc), from the law's promise. F gives the function object fd (K's own) once, then the promise over every base -/
theorem walk_of {l : PySem.W.OpenLaw} {n k : Nat} {q : Program} {loose : List Str} {XP : (Str → Option Value) → Heap → Prop} {YP : World → Heap → Prop} {d : DefRec} {K : Params → PySem.W.Frag} {CX : World → CXT} {ca : Bool} {sp : World → Sp} {x : Str}
    (hn : l.most = some n) (hn2 : n ≤ sizeLine) (hdf : d.params.defaults = []) (hr : Room ca k callerA)
    (hY : ∀ (w : World) (h : Heap), YP w h → (K w.params).In h)
    (F : ∀ (w : World) (mg : Str → Option Value) (fa : Addr) (h : Heap), (K w.params).In h → h.Ns mainGlobals mg → mg d.name = some (.ref fa) →
      ∃ fd : FuncData, (∀ (s : Shared) (u : Value), BindsTo s fd ⟨[u], []⟩ [(x, u)]) ∧
        ∀ base : Heap, (K w.params).In base → base.Ns mainGlobals mg → FnOk l.prog w (K w.params) mg base (CX w) ca k fa fd [x] (sp w))
    (hsp : ∀ (w : World) (H : Hp) (a : Addr) (ns : List Int), ns.length ≤ n → Only H → SqL (K w.params) H a (ns.map V.int) → sp w [.ref a] H (fun v _ => v = .bl true) fun _ _ _ => False)
    (hCX : ∀ (w : World) (H : Hp) (s : Shared) (e : Value) (s' : Shared), CX w [] H s (fun _ _ _ => False) e s' → False) :
    PySem.W.WalkO q loose XP YP l.row.toRowW d [] (fun f vs => PySem.call f vs) := by
  refine Att.attach_call hn hdf fun w s₀ s₁ mg mb fa o pm cd doc a vs ns G Y ho hd hcd hmg hobj hints hlen hg => ?_
  have KX := hY w _ Y
  obtain ⟨fd, hb, hF⟩ := F w mg fa _ KX G.T.g hmg
  exact law_call KX G.T.g G.T.b G.T.builtins G.T.nolimit hg hobj hints (Nat.le_trans hlen hn2) hr hF hb (fun H hO hS => hsp w H a ns hlen hO hS) fun H e s' => hCX w H s₁ e s'
end L2



/-! SHORT WORDS over the layer: a def of the text, its body, what a loop and a test want. -/
namespace L2
open PySem PySem.Spec PyProof.Rows

/-! ### the text by places -/
def defArgs (s : Stmt) : Arguments := match s with
  | .FunctionDef _ a _ _ _ _ _ _ _ _ => a
  | _ => { posonlyargs := [], args := [], vararg := none, kwonlyargs := [], kw_defaults := [], kwarg := none, defaults := [] }
def defBody (s : Stmt) : List Stmt := match s with
  | .FunctionDef _ _ b _ _ _ _ _ _ _ => b
  | _ => []
def defScope (s : Stmt) : Scope := match s with
  | .FunctionDef _ _ _ _ _ _ sc _ _ _ => sc
  | _ => { kind := .function, names := [], isGenerator := false, isCoroutine := false }

/-! ### no exception leaves a def -/
abbrev CX0 : CXT := fun _ _ _ _ _ _ => False
abbrev E0 : XK := fun _ _ _ => False
/-! ### a def (or method) of the text as it stands behind the top -/
structure Fun (K : PySem.W.Frag) (x qual : Str) (st : Stmt) (f : Addr) (fd : FuncData) : Prop where
  ex : ∃ (oc : Value) (od : Option Addr) (kV doc pm : Value) (an : Option Addr) (cdv ct : Value) (osl : Array (Option Value)),
    fd = PySem.W.fnOf x qual (defArgs st) (defBody st) (defScope st) .none kV doc pm an cdv ct ∧ K.lookup f = some ⟨oc, od, .func fd, osl⟩ ∧ PySem.W.codeIn K cdv qual = true
  kp : PySem.W.keepIn K (.ref f) = true
section
variable {P : Program} {w : World} {K : PySem.W.Frag} {mg : Str → Option Value} {base : Heap}
/-- THE RULE for a def: its body as a term of rules, and the reading of that term -/
theorem Fun.ok {x qual : Str} {st : Stmt} {f : Addr} {fd : FuncData} {N ps : List Str} {ca : Bool} {k : Nat} {sp : Sp} (F : Fun K x qual st f fd) (S : FnScope N ps (defScope st)) (len : ∀ vs H Q E, sp vs H Q E → vs.length = ps.length)
    (hbody : ∀ (cdv : Value) (A : Around) (outer : List Env) (s : Shared) (H : Hp) (vs : List V) (Q : VK) (E : XK), Room ca k (A.deeper (envOfC qual (defScope st) s.heap.objs.size f cdv)) → sp vs H Q E →
      ∃ t, PSs (cxOf CX0 ca P w K mg base N qual (defScope st) f cdv A outer s H E).nox (defBody st) t ∧ t { nx := fun _ H' => Q .non H', rt := Q } (start N vs) H) : FnOk P w K mg base CX0 ca (k + 1) f fd ps sp := by
  obtain ⟨oc, od, kV, doc, pm, an, cdv, ct, osl, rfl, lk, hcd⟩ := F.ex
  refine fn_of lk hcd S len fun A outer s H vs Q E hr hsp => ?_
  obtain ⟨t, h, q⟩ := hbody cdv A outer s H vs Q E hr hsp
  exact ⟨t, h.nox, q⟩
/-- how its arguments bind (no defaults): h is «fun _ _ _ _ _ _ us hl => match us, hl with | [_, _], _ => rfl», one _ a parameter -/
theorem Fun.binds {x qual : Str} {st : Stmt} {f : Addr} {fd : FuncData} {ps : List Str} (F : Fun K x qual st f fd)
    (h : ∀ (kV doc pm : Value) (an : Option Addr) (cdv ct : Value) (us : List Value), us.length = ps.length → bindArgs (PySem.W.fnOf x qual (defArgs st) (defBody st) (defScope st) .none kV doc pm an cdv ct) ⟨us, []⟩ = pure (ps.zip us)) : Binds K fd ps [] := by
  obtain ⟨oc, od, kV, doc, pm, an, cdv, ct, osl, rfl, lk, hcd⟩ := F.ex
  exact .all (h kV doc pm an cdv ct)
theorem fun_mk {x qual : Str} {st : Stmt} {f : Addr} {oc : Value} {od an : Option Addr} {osl : Array (Option Value)} {kV doc pm cdv ct : Value} (l : K.lookup f = some ⟨oc, od, .func (PySem.W.fnOf x qual (defArgs st) (defBody st) (defScope st) .none kV doc pm an cdv ct), osl⟩)
    (c : PySem.W.codeIn K cdv qual = true) (k : PySem.W.keepIn K (.ref f) = true) : Fun K x qual st f (PySem.W.fnOf x qual (defArgs st) (defBody st) (defScope st) .none kV doc pm an cdv ct) := ⟨⟨oc, od, kV, doc, pm, an, cdv, ct, osl, rfl, l, c⟩, k⟩
end
/-! ### expressions in short: the name that stands in the i-th slot -/
section
variable {X : Cx}
end

/-! ### tests -/
/-! ### heaps -/
/-- all that was tracked is as it was -/
def Same (H H' : Hp) : Prop := ∀ b o, H b = some o → H' b = some o
theorem Same.refl (H : Hp) : Same H H := fun _ _ h => h
theorem Same.trans {H H1 H2 : Hp} (a : Same H H1) (b : Same H1 H2) : Same H H2 := fun c o h => b c o (a c o h)
theorem Same.free {H H' : Hp} (e : Same H H') {l : Addr} (h : H' l = Option.none) : H l = Option.none := by
  cases q : H l with
  | none => rfl
  | some o =>
    rw [e l o q] at h
    cases h
theorem Same.seq {K : PySem.W.Frag} {H H' : Hp} {a : Addr} {xs : List V} (e : Same H H') (h : SqL K H a xs) : SqL K H' a xs := by
  rcases h with (h | ⟨o, h⟩) | h
  · exact .inl (.inl (e _ _ h))
  · exact .inl (.inr ⟨o, e _ _ h⟩)
  · exact .inr h

end L2

namespace L2
open PySem PySem.Spec PyProof.Rows
section
variable {X : Cx}
end
/-! ### a dict's pairs: keys that differ -/
section
variable {κ : Type} [DecidableEq κ]
end
end L2

/-! LX: own exceptions that are raised, pass through frames and are caught, over the hand layer. -/
namespace L2
open PySem PySem.Spec PyProof.Rows

/-! ### an exception on its way: B is the part of the heap that stays -/
structure XRel (fs : List Addr) (H H' : Hp) (h B : Heap) : Prop where
  keep : ∀ b o, h.get? b = some o → H b = none → b ∉ fs → B.get? b = some o ∧ H' b = none
  fr : ∀ b ∈ fs, H' b = none
  there : ∀ b o, h.get? b = some o → b ∈ fs ∨ ∃ o', B.get? b = some o'
  tups : ∀ b xs, H b = some (.tup xs) → H' b = some (.tup xs)
  frzs : ∀ b o u, H b = some (.frz o u) → H' b = some (.frz o u)
  tbls : ∀ b ps, H b = some (.tbl ps) → ∃ more, H' b = some (.tbl (ps ++ more))
/-- the frames at fs are kept but for their slots -/
def XSl (fs : List Addr) (h h' : Heap) : Prop := ∀ b o, h.get? b = some o → b ∈ fs → ∃ sl, h'.get? b = some { o with slots := sl }
structure XWay (B : Heap) (l : List Env) (a : Addr) (h : Heap) : Prop where
  stays : B.StaysIn h
  new : B.get? a = none
  funs : h.FunFrames B l
/-- new; on its way between frames; held by the frame at L -/
def XFresh (h : Heap) (a : Addr) (cls : Value) : Prop := ∃ oe vs a0, h.get? a = some oe ∧ oe.cls = cls ∧ oe.data = .fields vs ∧ vs[0]? = some a0 ∧ vs[1]? = some .none
abbrev PhT := Heap → Addr → Value → Heap → Prop
def phAt (fl : Value) : PhT := fun B a cls h => ∃ a0, Heap.TracedAtW h B a cls a0 fl
abbrev phFly : PhT := phAt .none
abbrev phHeld (L : Addr) : PhT := phAt (rawInt L)
def phAny (L : Addr) : PhT := fun B a cls h => XFresh h a cls ∨ phFly B a cls h ∨ phHeld L B a cls h

/-- how an exception lies behind a call -/
def CXE (P : Program) (w : World) : CXT := fun outer H s E e s' => ∃ (a : Addr) (cls : Value) (H' : Hp) (B : Heap), e = .ref a ∧ s'.os = s.os ∧ AllBare s'.gens ∧ XWay B outer a s'.heap ∧ phFly B a cls s'.heap ∧
  HOk P w H' B ∧ XRel (frs outer) H H' s.heap B ∧ XSl (frs outer) s.heap s'.heap ∧ E cls none H'

/-- an exception within the frame of X: the last state of X ahead of it, and what is wanted of it -/
inductive UpSt (X : Cx) (E : St → XK) (ph : PhT) (a : Addr) (cls : Value) (s' : Shared) : Prop
  | mk {pins : List (Addr × Obj)} {σ : St} {H H' : Hp} {B : Heap} {s : Shared} (I : Inv X pins σ H s) (os : s'.os = s.os) (bare : AllBare s'.gens) (way : XWay B X.stack a s'.heap) (p : ph B a cls s'.heap)
      (hok : HOk X.prog X.w H' B) (rel : XRel (frs X.stack) H H' s.heap B) (sl : XSl (frs X.stack) s.heap s'.heap) (e : E σ cls none H') : UpSt X E ph a cls s'
def UpW (X : Cx) (E : St → XK) (L : Addr) : Value → Shared → Prop := fun e s' => ∃ a cls, e = .ref a ∧ UpSt X E (phAny L) a cls s'

section
variable {l : List Env} {B h h1 h2 : Heap} {P : Program} {w : World} {H : Hp} {fs : List Addr}
theorem XSl.up (sl : XSl (frs l) h h1) (ff : h1.FunFrames B l) (k : h1.UpToSlots h2) : XSl (frs l) h h2 := fun b o e hb => by
  obtain ⟨s1, q⟩ := sl b o e hb
  obtain ⟨_, o1, q1, nf⟩ := ff.mem hb
  rw [q] at q1; cases q1
  obtain ⟨s2, q2⟩ := k b _ q nf
  exact ⟨s2, q2⟩
theorem HOk.hide (ok : HOk P w H h) (hf : ∀ b ∈ fs, H b = none) : HOk P w H (PySem.W.hideAll h fs) := fun a o e =>
  (ok a o e).stay (fun b u hb q => PySem.W.hideAll_get _ q fun hm => by
    have z := hf b hm
    rcases hb with rfl | hb
    · rw [e] at z; cases z
    · rw [hb] at z; cases z) (fun _ q => q) fun _ _ q => q
end

section
variable {X : Cx} {E : St → XK} {a L : Addr} {cls : Value} {s' : Shared} {M : Model} {A : Around} {Q : Unit → Shared → Prop} {E' : Value → Shared → Prop}
theorem UpSt.note (u : UpSt X E (phAny L) a cls s') (hA : A.frames = X.A.frames) (hst : X.stack = X.env :: X.outer) (hf : X.env.frame = some L)
    (hQ : ∀ h', UpSt X E (phHeld L) a cls { s' with heap := h' } → Q () { s' with heap := h' }) : wpAny M A (noteFrame (.ref a) X.env) Q E' s' := by
  obtain ⟨I, os, bare, ⟨w1, w2, w3⟩, p, hok, rel, sl, e⟩ := u
  rename_i B s
  have hfr : A.frames = some (X.env :: X.outer) := by rw [hA, I.ok.frames, hst]
  have go : ∀ h' a0, Heap.NotedW B (X.env :: X.outer) a cls a0 (rawInt L) s'.heap h' → Q () { s' with heap := h' } := fun h' a0 ⟨k1, k2, k3, k4⟩ =>
    hQ h' ⟨I, os, bare, ⟨k1, w2, hst ▸ k2⟩, ⟨a0, k3⟩, hok, rel, sl.up w3 k4, e⟩
  have w3' : s'.heap.FunFrames B (X.env :: X.outer) := hst ▸ w3
  rcases p with ⟨oe, vs, a0, he, hc, hd, h0, h1⟩ | ⟨a0, p⟩ | ⟨a0, p⟩
  · subst hc; unfold noteFrame; simp only [hf]; refine wpAny_bind (wpAny_field he hd h1 ?_); rw [if_neg (by decide)]
    exact wpAny_entryW hfr w3' hf he w1 w2 hd (Array.getElem?_eq_some_iff.mp h1).1 h0 fun h' N => go h' a0 N
  · exact wpAny_noteFrame_onW hfr w3' hf p w1 w2 fun h' N => go h' a0 N
  · exact wpAny_noteFrame_againW hf p (hQ s'.heap ⟨I, os, bare, ⟨w1, w2, w3⟩, ⟨a0, p⟩, hok, rel, sl, e⟩)
theorem UpSt.fly {fl : Value} (u : UpSt X E (phAt fl) a cls s') (hQ : ∀ h', UpSt X E phFly a cls { s' with heap := h' } → Q () { s' with heap := h' }) : wpAny M A (setFlight (.ref a) none) Q E' s' := by
  obtain ⟨I, os, bare, ⟨w1, w2, w3⟩, ⟨a0, p⟩, hok, rel, sl, e⟩ := u
  exact wpAny_setFlight_noneW w1 w3 p fun h' k1 k2 k3 k4 => hQ h' ⟨I, os, bare, ⟨k1, w2, k2⟩, ⟨a0, k3⟩, hok, rel, sl.up w3 fun b o hb hn => ⟨o.slots, k4 b o hb hn⟩, e⟩
/-- the frame takes it back: its mark is written once more -/
theorem UpSt.hold (u : UpSt X E (phHeld L) a cls s') (hQ : ∀ h', UpSt X E (phHeld L) a cls { s' with heap := h' } → Q () { s' with heap := h' }) :
    wpAny M A (do if (← field (.ref a) 1) == .none then unsupported "frame.own-activation:exception-without-traceback"
                  setFlight (.ref a) (some L)) Q E' s' := by
  obtain ⟨I, os, bare, ⟨w1, w2, w3⟩, ⟨a0, oe, vs, T, oT, ts, he, hcls, hd, h1, hnT, hTe, hT, hdT, h3⟩, hok, rel, sl, e⟩ := u
  rename_i B s
  have hsz : 3 < ts.size := (Array.getElem?_eq_some_iff.mp h3).1
  have oth : ∀ b, b ≠ T → (s'.heap.update T (Obj.mapFields (·.setIfInBounds 3 (rawInt L)))).get? b = s'.heap.get? b := fun b hb => Heap.get?_update_other _ _ (Ne.symm hb)
  have nr : ∀ b o, s'.heap.get? b = some o → (∀ vs, o.data ≠ .fields vs) → b ≠ T := fun b o hb hnf q => by
    subst q; rw [hT] at hb; cases hb; exact hnf ts hdT
  refine wpAny_bind (wpAny_field he hd h1 ?_)
  rw [if_neg (show ¬ ((Value.ref T == Value.none) = true) by simp)]
  unfold setFlight
  refine wpAny_bind (wpAny_field he hd h1 ?_)
  rw [if_pos (show (Value.ref T != Value.none) = true by simp)]
  refine wpAny_setField hT hdT hsz (hQ _ ⟨I, os, bare, ⟨fun b o hb => (oth b fun q => by subst q; rw [hnT] at hb; cases hb).trans (w1 b o hb), w2,
    w3.of_keeps fun b o hb hn => ⟨o, (oth b (nr b o hb hn)).trans hb, rfl⟩⟩, ⟨a0, oe, vs, T, _, _, (oth a (Ne.symm hTe)).trans he, hcls, hd, h1, hnT, hTe,
      Heap.get?_update_self _ hT (Obj.isFreed_of_fields (Obj.data_mapFields hdT _)), Obj.data_mapFields hdT _, by simp [hsz]⟩, hok, rel, sl.up w3 fun b o hb hn => ⟨o.slots, (oth b (nr b o hb hn)).trans hb⟩, e⟩)
end

section
variable {X : Cx} {E : St → XK} {a L : Addr} {cls : Value} {s s' : Shared} {pins : List (Addr × Obj)} {σ : St} {H H' : Hp} {B : Heap}
theorem un_of (way : XWay B X.stack a s'.heap) (rel : XRel (frs X.stack) H H' s.heap B) (sl : XSl (frs X.stack) s.heap s'.heap) : Un (frs X.stack) [] H H' s.heap s'.heap where
  keep := fun b o e n hb _ => way.stays b o (rel.keep b o e n hb).1
  slot := fun b o e _ hb _ => sl b o e hb
  free := fun b o e n _ => by
    by_cases hb : b ∈ frs X.stack
    · exact rel.fr b hb
    · exact (rel.keep b o e n hb).2
  there := fun b o e _ => by
    rcases rel.there b o e with hb | ⟨o', q⟩
    · obtain ⟨_, o1, q1, _⟩ := way.funs.mem hb
      exact ⟨o1, q1⟩
    · exact ⟨o', way.stays b o' q⟩
  tups := rel.tups
  frzs := rel.frzs
  tbls := rel.tbls
theorem inv_of (I : Inv X pins σ H s) (os : s'.os = s.os) (bare : AllBare s'.gens) (way : XWay B X.stack a s'.heap) (hok : HOk X.prog X.w H' B) (rel : XRel (frs X.stack) H H' s.heap B)
    (sl : XSl (frs X.stack) s.heap s'.heap) : Inv X pins σ H' s' :=
  I.call' (ch := []) os (un_of way rel sl) (hok.kept way.stays) bare fun b hb => absurd hb (by simp)

theorem Inv.adopt {o : HO} (I : Inv X pins σ H s) (hn : H a = none) (new : ObjOk X.prog X.w (upd H a o) s.heap a o) (h0 : X.s₀.heap.get? a = none) (hL : a ≠ X.env.locals)
    (hc : ∀ x c, X.env.cells.lookup x = some c → c ≠ a) (hp : ∀ p ∈ X.pn ++ pins, p.1 ≠ a) : Inv X pins σ (upd H a o) s where
  ok := I.ok
  os := I.os
  bare := I.bare
  base := {
    keep := I.base.keep
    slot := I.base.slot
    free := fun b ob e n hb => by
      rw [upd_ne fun z => by subst z; rw [h0] at e; cases e]
      exact I.base.free b ob e n hb
    there := I.base.there
    tups := fun b xs e => by
      have q := I.base.tups b xs e
      rw [upd_ne (ne_of_none q hn)]; exact q
    frzs := fun b ob u e => by
      have q := I.base.frzs b ob u e
      rw [upd_ne (ne_of_none q hn)]; exact q
    tbls := fun b ps e => by
      obtain ⟨m, q⟩ := I.base.tbls b ps e
      exact ⟨m, by rw [upd_ne (ne_of_none q hn)]; exact q⟩ }
  loc := I.loc
  cell := I.cell
  free := by rw [upd_ne (Ne.symm hL)]; exact I.free
  freeC := fun x c e => by rw [upd_ne (hc x c e)]; exact I.freeC x c e
  pin := fun p m => by
    obtain ⟨p1, p2, p3⟩ := I.pin p m
    exact ⟨p1, by rw [upd_ne (hp p m)]; exact p2, p3⟩
  hok := fun b u e => by
    by_cases hb : b = a
    · subst hb; rw [upd_same] at e; cases e; exact new
    · rw [upd_ne hb] at e
      exact (I.hok b u e).stay (fun _ _ _ q => q) (fun c q => by rw [upd_ne (ne_of_none q hn)]; exact q) fun c xs q => by rw [upd_ne (ne_of_none q hn)]; exact q
  len := I.len

theorem ph_there {fl : Value} {h : Heap} (p : phAt fl B a cls h) : ∃ o vs, h.get? a = some o ∧ o.cls = cls ∧ o.data = .fields vs := by
  obtain ⟨a0, oe, vs, T, oT, ts, he, hc, hd, _⟩ := p
  exact ⟨oe, vs, he, hc.1, hd⟩
/-- it has landed in X: the state again, the exception tracked -/
theorem UpSt.adopt {fl : Value} (u : UpSt X E (phAt fl) a cls s') (hex : X.ex = []) :
    ∃ pins σ H', Inv X pins σ (upd H' a (HO.exc cls)) s' ∧ Inv X pins σ H' s' ∧ E σ cls none H' ∧ H' a = none := by
  obtain ⟨I, os, bare, way, p, hok, rel, sl, e⟩ := u
  rename_i pins σ H H' B s
  have I' := inv_of I os bare way hok rel sl
  obtain ⟨o, vs, ho, hc, hd⟩ := ph_there p
  have hn : H' a = none := by
    cases q : H' a with
    | none => rfl
    | some u =>
      have z := hok.lt q
      obtain ⟨ob, hb⟩ : ∃ ob, B.get? a = some ob := by
        have t := (hok a u q)
        cases q2 : B.get? a with
        | some ob => exact ⟨ob, rfl⟩
        | none =>
          exfalso
          cases u with
          | lst xs => obtain ⟨_, _, _, _, e⟩ := t; rw [q2] at e; cases e
          | tup xs => obtain ⟨_, _, _, _, e, _⟩ := t; rw [q2] at e; cases e
          | dK kvs => obtain ⟨_, _, _, _, o, _, _, e, _⟩ := t; rw [q2] at e; cases e
          | dT kvs => obtain ⟨_, _, _, _, o, _, _, e, _⟩ := t; rw [q2] at e; cases e
          | set S n => obtain ⟨o, _, _, _, e, _⟩ := t; rw [q2] at e; cases e
          | ins C dx fs => obtain ⟨_, _, _, e, _⟩ := t; rw [q2] at e; cases e
          | own y => obtain ⟨_, e⟩ := t; rw [q2] at e; cases e
          | xd fs => obtain ⟨_, ⟨_, _, _, e, _⟩, _⟩ := t; rw [q2] at e; cases e
          | rng lo hi => obtain ⟨_, _, _, e⟩ := t; rw [q2] at e; cases e
          | frz ob u => obtain ⟨e, _⟩ := t; rw [q2] at e; cases e
          | tbl ps => have e : B.get? a = some _ := t; rw [q2] at e; cases e
          | met f y => have e : B.get? a = some _ := t; rw [q2] at e; cases e
          | ext φ => obtain ⟨_, ⟨_, e⟩, _⟩ := t; rw [q2] at e; cases e
          | exc c => obtain ⟨_, _, e, _⟩ := t; rw [q2] at e; cases e
      rw [way.new] at hb; cases hb
  have nfr : a ∉ frs X.stack := fun hm => by
    obtain ⟨_, o1, q1, nf⟩ := way.funs.mem hm
    rw [ho] at q1; cases q1; exact nf vs hd
  have h0 : X.s₀.heap.get? a = none := by
    cases q : X.s₀.heap.get? a with
    | none => rfl
    | some o1 =>
      obtain ⟨o2, q2⟩ := I.base.there a o1 q (by rw [hex]; simp)
      rcases rel.there a o2 q2 with z | ⟨o3, z⟩
      · exact absurd z nfr
      · rw [way.new] at z; cases z
  refine ⟨pins, σ, H', I'.adopt hn ⟨o, vs, ho, hc, hd⟩ h0 (fun z => ?_) (fun x c ec z => ?_) (fun p' hp z => ?_), I', e, hn⟩
  · obtain ⟨m, ⟨ob, es, ep, q, qd, _⟩, _⟩ := I'.loc
    rw [← z, ho] at q; cases q; rw [hd] at qd; cases qd
  · obtain ⟨v, ob, q, qd⟩ := I'.cell x c ec
    rw [z, ho] at q; cases q; rw [hd] at qd; cases qd
  · obtain ⟨p1, p2, p3, p4, _⟩ := I.pin p' hp
    have z2 := (rel.keep p'.1 p'.2 p1 p2 fun hm => by
      rcases List.mem_cons.mp (I.stkSub _ hm) with q | q
      · exact p3 q
      · exact p4 q).1
    rw [z, way.new] at z2; cases z2

/-- it leaves the frame of X -/
theorem UpSt.out {E0 : XK} (u : UpSt X (fun _ => E0) phFly a cls s') (hst : X.stack = X.env :: X.outer) (hf : X.env.frame = some X.env.locals) (hex : X.ex = []) :
    CXE X.prog X.w X.outer X.H₀ X.s₀ E0 (.ref a) s' := by
  obtain ⟨I, os, bare, way, p, hok, rel, sl, e⟩ := u
  rename_i pins σ H H' B s
  have noex : ∀ b, b ∉ X.ex := fun b => by rw [hex]; simp
  have hfs : ∀ b, b ∈ frs X.stack ↔ b = X.env.locals ∨ b ∈ X.fs := fun b => by
    rw [hst]; unfold frs; rw [List.filterMap_cons, hf]; exact List.mem_cons
  have nloc : ∀ b o, X.s₀.heap.get? b = some o → b ≠ X.env.locals := fun b o q z => by
    have := Heap.lt_size q
    have h2 := I.ok.above
    rw [z] at this
    exact absurd (Nat.lt_of_lt_of_le this h2) (Nat.lt_irrefl _)
  obtain ⟨w1, w2, w3⟩ := way
  have w3' : s'.heap.FunFrames B X.outer := by rw [hst] at w3; exact w3.2.2
  refine ⟨a, cls, H', B, rfl, os.trans I.os, bare, ⟨w1, w2, w3'⟩, p, hok, ⟨fun b o q n hb => ?_, fun b hb => rel.fr b ((hfs b).mpr (.inr hb)), fun b o q => ?_, fun b xs q => rel.tups b xs (I.base.tups b xs q),
    fun b o u q => rel.frzs b o u (I.base.frzs b o u q), fun b ps q => ?_⟩, fun b o q hb => ?_, e⟩
  · refine rel.keep b o (I.base.keep b o q n hb (noex b)) (I.base.free b o q n (noex b)) fun z => ?_
    rcases (hfs b).mp z with z | z
    · exact nloc b o q z
    · exact hb z
  · obtain ⟨o1, q1⟩ := I.base.there b o q (noex b)
    rcases rel.there b o1 q1 with z | z
    · rcases (hfs b).mp z with z | z
      · exact absurd z (nloc b o q)
      · exact .inl z
    · exact .inr z
  · obtain ⟨m1, q1⟩ := I.base.tbls b ps q
    obtain ⟨m2, q2⟩ := rel.tbls b _ q1
    exact ⟨m1 ++ m2, by rw [q2, Array.append_assoc]⟩
  · obtain ⟨s1, q1⟩ := I.base.slot b o q (I.ok.frf b hb) hb (noex b)
    obtain ⟨s2, q2⟩ := sl b _ q1 ((hfs b).mpr (.inr hb))
    exact ⟨s2, q2⟩
end

/-! ### what X wants of exceptions -/
structure Exc (X : Cx) (E : St → XK) : Prop where
  pass : ∀ (pins : List (Addr × Obj)) (σ : St) (H : Hp) (s : Shared) (e : Value) (s' : Shared), Inv X pins σ H s → CXE X.prog X.w X.stack H s (E σ) e s' → X.xe e s'
  rais : ∀ (pins : List (Addr × Obj)) (σ : St) (H : Hp) (s s' : Shared) (a C : Addr) (args : List Value), Inv X pins σ H s → Heap.MadeExcOf s.heap s'.heap a (.ref C) args → s'.os = s.os → s'.gens = s.gens →
    E σ (.ref C) none H → X.xe (.ref a) s'
  own : PassesOwn (model X.prog X.w) X.A X.env X.xe
theorem exc_up {X : Cx} {E : St → XK} (hst : X.stack = X.env :: X.outer) (hf : X.env.frame = some X.env.locals) : Exc (X.wish (UpW X E X.env.locals)) E where
  pass := fun pins σ H s e s' I ⟨a, cls, H', B, ee, os, bare, way, p, hok, rel, sl, q⟩ => ⟨a, cls, ee, ⟨I.unwish, os, bare, way, .inr (.inl p), hok, rel, sl, q⟩⟩
  rais := fun pins σ H s s' a C args I hm os hg q => by
    have I := I.unwish
    obtain ⟨t, he, htn, ht⟩ := hm.there
    have hB : (PySem.W.hideAll s.heap (frs X.stack)).get? a = none := by
      cases z : (PySem.W.hideAll s.heap (frs X.stack)).get? a with
      | none => rfl
      | some o => have := PySem.W.of_hideAll _ z; rw [hm.new] at this; cases this
    refine ⟨a, .ref C, rfl, ⟨I, os, by rw [hg]; exact I.bare, ⟨fun b o z => hm.keeps b o (PySem.W.of_hideAll _ z), hB, ?_⟩, .inl ⟨_, _, _, he, rfl, rfl, rfl, rfl⟩, I.hok.hide I.stkFree, ⟨fun b o z n hb => ⟨PySem.W.hideAll_get _ z hb, n⟩, I.stkFree,
      fun b o z => ?_, fun _ _ z => z, fun _ _ _ z => z, fun _ ps z => ⟨#[], by rw [Array.append_empty]; exact z⟩⟩, fun b o z _ => ⟨o.slots, hm.keeps b o z⟩, q⟩⟩
    · exact (PySem.W.funFrames_hide I.stack fun env he b hb => List.mem_filterMap.mpr ⟨env, he, hb⟩).of_keeps fun b o z _ => ⟨o, hm.keeps b o z, rfl⟩
    · by_cases hb : b ∈ frs X.stack
      · exact .inl hb
      · exact .inr ⟨o, PySem.W.hideAll_get _ z hb⟩
  own := fun e s' ⟨a, cls, ee, u⟩ => by
    subst ee
    refine u.note rfl hst hf fun h' u' => ?_
    unfold cameBackBy
    rw [show (X.wish (UpW X E X.env.locals)).env.frame = some X.env.locals from hf]
    refine u'.hold fun h2 u2 => ?_
    obtain ⟨I, os, bare, way, p, hok, rel, sl, q⟩ := u2
    exact ⟨a, cls, rfl, ⟨I, os, bare, way, .inr (.inr p), hok, rel, sl, q⟩⟩

theorem PSs.wish {X : Cx} {st : List Stmt} {t : TS} {E : Value → Shared → Prop} (h : PSs (X.wish E) st t) (he : ∀ e s, E e s → X.xe e s) : PSs X st t := fun pins s σ H D I hw =>
  wpAny_mono (h pins s σ H D (I.wish E) hw) (fun _ _ z => SP.unwish z) he

/-- the context of a def's body that may raise -/
abbrev cxE (ca : Bool) (P : Program) (w : World) (K : PySem.W.Frag) (mg : Str → Option Value) (base : Heap) (N : List Str) (qual : Str) (scope : Scope) (f : Addr) (cd : Value) (A : Around) (outer : List Env) (s : Shared) (H : Hp) (E : XK) : Cx :=
  (cxOf (CXE P w) ca P w K mg base N qual scope f cd A outer s H E).wish (UpW (cxOf (CXE P w) ca P w K mg base N qual scope f cd A outer s H E) (fun _ => E) s.heap.objs.size)

section
variable {P : Program} {w : World} {K : PySem.W.Frag} {mg : Str → Option Value} {base : Heap}
theorem Fun.okE {x qual : Str} {st : Stmt} {f : Addr} {fd : FuncData} {N ps : List Str} {ca : Bool} {k : Nat} {sp : Sp} (F : Fun K x qual st f fd) (S : FnScope N ps (defScope st)) (len : ∀ vs H Q E, sp vs H Q E → vs.length = ps.length)
    (hbody : ∀ (cdv : Value) (A : Around) (outer : List Env) (s : Shared) (H : Hp) (vs : List V) (Q : VK) (E : XK), Room ca k (A.deeper (envOfC qual (defScope st) s.heap.objs.size f cdv)) →
      Exc (cxE ca P w K mg base N qual (defScope st) f cdv A outer s H E) (fun _ => E) → sp vs H Q E →
      ∃ t, PSs (cxE ca P w K mg base N qual (defScope st) f cdv A outer s H E) (defBody st) t ∧ t { nx := fun _ H' => Q .non H', rt := Q } (start N vs) H) : FnOk P w K mg base (CXE P w) ca (k + 1) f fd ps sp := by
  obtain ⟨oc, od, kV, doc, pm, an, cdv, ct, osl, rfl, lk, hcd⟩ := F.ex
  refine fn_of (CX := CXE P w) lk hcd S len fun A outer s H vs Q E hr hsp => ?_
  obtain ⟨t, h, q⟩ := hbody cdv A outer s H vs Q E hr (exc_up rfl rfl) hsp
  refine ⟨t, h.wish fun e s2 ⟨a, cls, ee, u⟩ => ?_, q⟩
  subst ee
  show wpAny _ _ (leaving _ _) _ _ _
  unfold leaving
  exact wpAny_bind (u.note rfl rfl rfl fun h' u' => u'.fly fun h'' u'' => u''.out rfl rfl rfl)
end
/-! ### an object of ours that nobody asks for any more -/
def rm (H : Hp) (p : Addr) : Hp := fun b => if b = p then none else H b
theorem rm_same {H : Hp} {p : Addr} : rm H p p = none := by unfold rm; rw [if_pos rfl]
theorem rm_ne {H : Hp} {p b : Addr} (h : b ≠ p) : rm H p b = H b := by unfold rm; rw [if_neg h]
theorem rm_upd {H : Hp} {p : Addr} {o : HO} (h : H p = none) : rm (upd H p o) p = H := by
  funext b
  by_cases hb : b = p
  · subst hb; rw [rm_same, h]
  · rw [rm_ne hb, upd_ne hb]
/-- what may be forgotten: nothing else leans on it -/
def Loose : Option HO → Prop
  | some (.lst _) => True
  | some (.exc _) => True
  | some (.rng _ _) => True
  | _ => False
theorem Inv.rm {X : Cx} {pins : List (Addr × Obj)} {σ : St} {H : Hp} {s : Shared} {p : Addr} (I : Inv X pins σ H s) (hp : Loose (H p)) : Inv X pins σ (rm H p) s := by
  have no : ∀ {b : Addr}, H b = none → L2.rm H p b = none := fun {b} e => by
    unfold L2.rm; split
    · rfl
    · exact e
  have yes : ∀ {b : Addr} {o : HO}, H b = some o → ¬ Loose (some o) → L2.rm H p b = some o := fun {b o} e n => by
    rw [rm_ne fun z => by subst z; rw [e] at hp; exact n hp]; exact e
  refine ⟨I.ok, I.os, I.bare, ⟨I.base.keep, I.base.slot, fun b o e n hb => no (I.base.free b o e n hb), I.base.there, fun b xs e => yes (I.base.tups b xs e) (fun z => z), fun b o u e => yes (I.base.frzs b o u e) (fun z => z), fun b ps e => ?_⟩, I.loc, I.cell,
    no I.free, fun x c e => no (I.freeC x c e), fun q m => ?_, fun b u e => ?_, I.len⟩
  · obtain ⟨m, q⟩ := I.base.tbls b ps e
    exact ⟨m, yes q fun z => z⟩
  · obtain ⟨p1, p2, p3⟩ := I.pin q m
    exact ⟨p1, no p2, p3⟩
  · by_cases hb : b = p
    · subst hb; rw [rm_same] at e; cases e
    · rw [rm_ne hb] at e
      exact (I.hok b u e).stay (fun _ _ _ q => q) (fun c q => yes q fun z => z) fun c xs q => yes q fun z => z

end L2

/-! LY: rules over LX: calls that may raise, raise, try, isinstance; readings that compute. -/
namespace L2
open PySem PySem.Spec PyProof.Rows

/-! ### a name goes behind an except suite -/
section
variable {X : Cx} {pins : List (Addr × Obj)} {σ : St} {H : Hp} {s : Shared}
theorem goes_ok {M : Model} {A : Around} {E : Value → Shared → Prop} {i : Nat} {x : Str} {pos : Pos} {Q : Unit → Shared → Prop} (I : Inv X pins σ H s) (hN : X.N.Nodup) (hi : X.N[i]? = some x) (hk : X.env.scope.names.lookup x = some .local)
    (h : ∀ s', Inv X pins (σ.set i none) H s' → Q () s') : wpAny M A (do bindName X.env x .none; unbindBehindTheSuite X.env x pos) Q E s := by
  obtain ⟨m, hn, hl⟩ := id I.loc
  have hcls : (X.env.scope.kind == .class || (X.env.scope.kind == .module && X.env.locals != X.env.globals)) = false := by rw [I.ok.kind]; rfl
  have nl : ∀ b o, X.s₀.heap.get? b = some o → b ≠ X.env.locals := fun b o e => Nat.ne_of_lt (Nat.lt_of_lt_of_le (Heap.lt_size e) I.ok.above)
  refine wpAny_nameGoes_keeps hk hn hcls fun h' v hn' hs => h _ ⟨I.ok, I.os, I.bare, ⟨fun b o e n hb hx => (hs.2 b (nl b o e)).trans (I.base.keep b o e n hb hx), fun b o e n hb hx => ?_, I.base.free, fun b o e hx => ?_,
    I.base.tups, I.base.frzs, I.base.tbls⟩, ⟨_, hn', fun j y v' e1 e2 e3 => ?_⟩, fun y c e => ?_, I.free, I.freeC, fun p hp => ?_, fun b ob e => ?_, by simpa using I.len⟩
  · obtain ⟨sl, e1⟩ := I.base.slot b o e n hb hx
    exact ⟨sl, (hs.2 b (nl b o e)).trans e1⟩
  · obtain ⟨o', e1⟩ := I.base.there b o e hx
    exact ⟨o', (hs.2 b (nl b o e)).trans e1⟩
  · by_cases hj : j = i
    · subst hj
      have z : (σ.set j none)[j]? = some none ∨ (σ.set j none)[j]? = none := by
        rw [List.getElem?_set]
        simp only [if_true]
        split <;> simp
      rcases z with z | z <;> (rw [z] at e2; cases e2)
    · rw [List.getElem?_set_ne (Ne.symm hj)] at e2
      obtain ⟨u', r', q⟩ := hl j y v' e1 e2 e3
      refine ⟨u', r', ?_⟩
      rcases q with ⟨k, e⟩ | ⟨k, c, e, z⟩
      · have ny : y ≠ x := fun e => hj (nodup_ix hN e1 (e ▸ hi))
        exact .inl ⟨k, by simp [ny, e]⟩
      · exact .inr ⟨k, c, e, z.sameBut hs (I.cne y c e)⟩
  · obtain ⟨w', z⟩ := I.cell y c e
    exact ⟨w', z.sameBut hs (I.cne y c e)⟩
  · obtain ⟨e, n, ne, nf, d⟩ := I.pin p hp
    exact ⟨(hs.2 p.1 ne).trans e, n, ne, nf, d⟩
  · refine (I.hok b ob e).stay (fun c w' hc q => (hs.2 c ?_).trans q) (fun _ q => q) fun _ _ q => q
    rintro rfl
    rcases hc with rfl | hc
    · have := I.free; rw [e] at this; cases this
    · have := I.free; rw [hc] at this; cases this
end

/-! ### calls -/
def tCallE (sp : Sp) (E : St → XK) (t : TA) : TE := fun σ H Q => t σ H fun vs H1 => sp vs H1 Q (E σ)
section
variable {X : Cx} {ca : Bool} {k : Nat} {f C : Addr} {fd : FuncData} {ps : List Str} {sp : Sp} {E : St → XK} {x m : Str} {p pos apos : Pos} {e o : Expr} {es : List Expr} {ta : TE} {t : TA}
theorem run_fnE {pins : List (Addr × Obj)} {σ : St} {H : Hp} {s : Shared} {Q : VK} {us : List Value} {vs : List V} (F : FnOk X.prog X.w X.K X.mg X.base (CXE X.prog X.w) ca k f fd ps sp) (hr : Room ca k X.A) (hb : Binds X.K fd ps []) (hx : Exc X E)
    (I : Inv X pins σ H s) (r : Vals vs us) (h : sp vs H Q (E σ)) : wpAny (model X.prog X.w) X.A (call (.ref f) us) (EP X pins σ Q) X.xe s := by
  have hl : (us ++ []).length = ps.length := by rw [List.append_nil, ← r.length]; exact F.len _ _ _ _ h
  have hb' := hb s us I.kIn hl
  rw [List.append_nil] at hb'
  refine wpAny_call (codeAny_mono (F.run X.A X.stack s H ⟨us, []⟩ us vs Q (E σ) hr I.env0 hb' r h) fun r s' hq => ?_)
  cases r with
  | error e => exact hx.pass pins σ H s e s' I hq
  | ok fl =>
    cases fl with
    | ret u => exact I.after hq
    | next => exact False.elim hq
    | brk => exact False.elim hq
    | cont => exact False.elim hq
theorem pe_callE (F : FnOk X.prog X.w X.K X.mg X.base (CXE X.prog X.w) ca k f fd ps sp) (hr : Room ca k X.A) (hg : Gl X x) (hm : X.mg x = some (.ref f)) (hk : PySem.W.keepIn X.K (.ref f) = true) (hb : Binds X.K fd ps []) (hx : Exc X E)
    (ha : PA X (e :: es) t) (hdb : (x == ("__debug__" : Str)) = false := by decide) (he : starEach (e :: es) X.env = (false, eval e X.env) :: starEach es X.env := by rfl) (hpl : (backTo pos (starEach es X.env)).any (·.1) = false := by rfl) :
    PE X (.Call (.Name x p) (e :: es) [] pos) (tCallE sp E t) := by
  intro pins s σ H Q I h
  refine wpAny_Call_Name_kw (ld_glob I hg hm ?_ hdb)
  refine PySem.W.callWith_K (h₀ := X.base) I.ok.mod.kin hk (thn (ha pos pins s σ H _ I h) fun us s1 ⟨vs, H1, I1, r, q⟩ => ⟨I1.kIn, ?_⟩) he hpl
  exact run_fnE F hr hb hx I1 r q
theorem pe_call0E (F : FnOk X.prog X.w X.K X.mg X.base (CXE X.prog X.w) ca k f fd ps sp) (hr : Room ca k X.A) (hg : Gl X x) (hm : X.mg x = some (.ref f)) (hk : PySem.W.keepIn X.K (.ref f) = true) (hb : Binds X.K fd ps []) (hx : Exc X E)
    (hdb : (x == ("__debug__" : Str)) = false := by decide) : PE X (.Call (.Name x p) [] [] pos) (tCallE sp E tNil) := by
  intro pins s σ H Q I h
  refine wpAny_Call_Name_kw (ld_glob I hg hm ?_ hdb)
  exact PySem.W.callWith_K0 I.kIn hk (run_fnE (us := []) F hr hb hx I .nil h)
end

/-! ### raise C(..), C an own class above which ValueError stands -/
abbrev bmV : List Value := [.type "ValueError", .type "Exception", .type "BaseException", .type "object"]
def ExcC (K : PySem.W.Frag) (C : Addr) : Prop := PySem.W.excIn K C bmV "ValueError.__new__" = true
theorem ExcC.obj {K : PySem.W.Frag} {h : Heap} {C : Addr} (X : K.In h) (q : ExcC K C) : ∃ bm N nm qn bs hd sn sub ab col dd k0 k1 k2 k3 k5 mN, h.get? C = some (excClassObj nm qn C N bs bm hd sn sub ab col dd k0 k1 k2 k3 k5 "ValueError.__new__") ∧
    h.Ns N mN ∧ mN "__init__" = none ∧ OwnTail h bmV bm := by
  unfold ExcC PySem.W.excIn at q
  split at q
  · rename_i dd cd sl ho
    split at q
    · rename_i C' bm k0 k1 k2 k3 n k5 hm hs
      rw [Bool.and_eq_true, Bool.and_eq_true, Bool.and_eq_true, Bool.and_eq_true, Bool.and_eq_true, beq_iff_eq, beq_iff_eq, beq_iff_eq, Bool.not_eq_true'] at q
      obtain ⟨⟨⟨⟨⟨q1, q2⟩, q3⟩, q4⟩, q5⟩, q6⟩ := q
      subst q1 q2
      obtain ⟨nm, bs, mro, ns, qn, hd, sn, sub, ab, col, del⟩ := cd
      have q3 : del = false := q3
      have hm : mro = _ := hm
      subst q3 hm
      obtain ⟨l⟩ := sl
      have hs : l = _ := hs
      subst hs
      exact ⟨bm, ns, nm, qn, bs, hd, sn, sub, ab, col, dd, k0, k1, k2, k3, k5, _, X _ _ ho, .of_isNs (PySem.W.isNs_of_in X q5), PySem.W.nsMap_none_of_in X q5 q6, PySem.W.tail_of_in X q4⟩
    · cases q
  · cases q
def tRaise (C : Addr) (E : St → XK) (t : TA) : TS := fun _ σ H => t σ H fun vs H1 => vs.length ≤ sizeLine ∧ E σ (.ref C) none H1
section
variable {X : Cx} {C : Addr} {E : St → XK} {x : Str} {np cpos pos : Pos} {e : Expr} {es : List Expr} {t : TA}
theorem ps_raise (hx : Exc X E) (hg : Gl X x) (hm : X.mg x = some (.ref C)) (hq : ExcC X.K C) (hc : X.calm = true) (ha : PA X (e :: es) t)
    (he : starEach (e :: es) X.env = (false, eval e X.env) :: starEach es X.env := by rfl) (hpl : (backTo cpos (starEach es X.env)).any (·.1) = false := by rfl) (hdb : (x == ("__debug__" : Str)) = false := by decide) :
    PS X (.Raise (some (.Call (.Name x np) (e :: es) [] cpos)) none pos) (tRaise C E t) := by
  intro pins s σ H D I h
  obtain ⟨bm, N, nm, qn, bs, hd, sn, sub, ab, col, dd, k0, k1, k2, k3, k5, mN, hC, hN, hni, T⟩ := hq.obj I.mod.kin
  refine wpAny_Raise_call_subT (C := C) (nm := nm) (q := qn) (N := N) (bs := bs) (bm := bm) (hdct := hd) (sn := sn) (sub := sub) (ab := ab) (col := col) (dd := dd) (k0 := k0) (k1 := k1) (k2 := k2) (k3 := k3) (k5 := k5)
    PySem.F.excBase_ValueError (mN := mN) (T.hasType PySem.F.excBase_ValueError.hasBase) (I.ok.hd hc) (by rw [he]; show (false || (backTo cpos (starEach es X.env)).any fun x => x.1) = false; rw [hpl]; rfl) hni (ld_glob I hg hm ⟨rfl, ?_⟩ hdb)
  have h2 := ha cpos pins s σ H _ I h
  rw [he] at h2 ⊢
  exact Calls.evalArgs_plain (wpAny_mono h2 (fun us s2 ⟨vs, H1, I1, r, hl, q⟩ => ⟨rfl, by rw [← r.length]; exact hl, I1.bk _ _ hC, hN.keeps I1.bk, T.keeps I1.bk,
    fun h' e hm' => hx.rais pins σ H1 s2 { s2 with heap := h' } e C us I1 hm' rfl rfl q⟩) fun _ _ y => y)
end

/-! ### try .. except -/
/-- the context of an except suite -/
abbrev Cx.hnd (X : Cx) (a : Addr) : Cx := { X with A := X.A.mark (some (.ref a)), calm := false, xe := fun _ _ => False }
abbrev Cx.pinned (X : Cx) (pins : List (Addr × Obj)) : Cx := { X with pn := X.pn ++ pins }
section
variable {X : Cx} {pins pins' : List (Addr × Obj)} {σ : St} {H : Hp} {s : Shared} {a : Addr} {E : Value → Shared → Prop}
theorem Cx.Ok.hnd (ok : X.Ok) : (X.hnd a).Ok := ⟨ok.mod, ok.kind, ok.glob, ok.blt, ok.above, ok.inj, ok.has, ok.cab, (fun z => Bool.noConfusion z), ok.frames, ok.stk, ok.exf, ok.bs, ok.bsz, ok.noex, ok.exfs, ok.funs, ok.frf⟩
theorem Cx.Ok.pinned (ok : X.Ok) (pins : List (Addr × Obj)) : (X.pinned pins).Ok := ⟨ok.mod, ok.kind, ok.glob, ok.blt, ok.above, ok.inj, ok.has, ok.cab, ok.hd, ok.frames, ok.stk, ok.exf, ok.bs, ok.bsz, ok.noex, ok.exfs, ok.funs, ok.frf⟩
theorem Inv.hnd (I : Inv X pins σ H s) : Inv (X.hnd a) pins σ H s := ⟨I.ok.hnd, I.os, I.bare, I.base, I.loc, I.cell, I.free, I.freeC, I.pin, I.hok, I.len⟩
theorem Inv.unhnd (ok : X.Ok) (I : Inv (X.hnd a) pins σ H s) : Inv X pins σ H s := ⟨ok, I.os, I.bare, I.base, I.loc, I.cell, I.free, I.freeC, I.pin, I.hok, I.len⟩
theorem Inv.pinnedX (I : Inv X pins σ H s) : Inv (X.pinned pins) [] σ H s := ⟨I.ok.pinned pins, I.os, I.bare, I.base, I.loc, I.cell, I.free, I.freeC, fun p hp => I.pin p (by simpa using hp), I.hok, I.len⟩
theorem Inv.unpinnedX (ok : X.Ok) (I : Inv (X.pinned pins) pins' σ H s) : Inv X pins σ H s := ⟨ok, I.os, I.bare, I.base, I.loc, I.cell, I.free, I.freeC, fun p hp => I.pin p (List.mem_append_left _ hp), I.hok, I.len⟩
end
/-- a row of handlers, at an exception that lies in the frame -/
abbrev TH := Ends → St → Hp → Value → Prop
def PH (X : Cx) (hs : List ExceptHandler) (t : TH) : Prop :=
  ∀ (pins : List (Addr × Obj)) (D : Ends) (a : Addr) (cls : Value) (s : Shared), X.Ok → UpSt (X.pinned pins) (fun σ cls _ H => t D σ H cls) phFly a cls s →
    wpAny (model X.prog X.w) X.A (handleBy (.ref a) X.env hs) (SP X pins D) X.xe s
def hNil : TH := fun _ _ _ _ => False
/-- what is wanted behind a suite whose name goes -/
abbrev Ends.gone (D : Ends) (i : Nat) (a : Addr) (cls : Value) : Ends := { nx := fun σ H => H a = some (.exc cls) ∧ D.nx (σ.set i none) (rm H a), rt := fun v H => H a = some (.exc cls) ∧ D.rt v (rm H a), bk := fun σ H => H a = some (.exc cls) ∧ D.bk (σ.set i none) (rm H a), ct := fun σ H => H a = some (.exc cls) ∧ D.ct (σ.set i none) (rm H a) }
def hAs (K : PySem.W.Frag) (c : Value) (i : Nat) (th : TS) (tr : TH) : TH := fun D σ H cls => match PySem.W.exmOne K cls c with
  | some true => ∀ a, H a = none → th (D.gone i a cls) (σ.set i (some (.ref a))) (upd H a (HO.exc cls))
  | some false => tr D σ H cls
  | none => False
section
variable {X : Cx} {c : Value} {i : Nat} {x n : Str} {np pos : Pos} {b₀ : Stmt} {suite : List Stmt} {th : TS} {tr : TH} {rest : List ExceptHandler}
theorem ty_looks {M : Model} {h : Heap} {a : Addr} {cls : Value} (e : ∃ o vs, h.get? a = some o ∧ o.cls = cls ∧ o.data = .fields vs) : PySem.W.Looks M h (typeOf (.ref a)) cls := by
  obtain ⟨o, _, ho, hc, _⟩ := e
  subst hc
  exact (PySem.W.Looks.ld ho).andThen .now
theorem ph_nil : PH X [] hNil := fun pins D a cls s ok u => by
  obtain ⟨_, _, _, _, _, _, _, _, h⟩ := u
  exact False.elim h
theorem ph_as (hex : X.ex = []) (hg : Gl X x) (hm : X.mg x = some c) (hN : X.N.Nodup) (hi : X.N[i]? = some n) (hn : X.env.scope.names.lookup n = some .local) (hs : ∀ a, PSs (X.hnd a) (b₀ :: suite) th) (hr : PH X rest tr)
    (hdb : (x == ("__debug__" : Str)) = false := by decide) : PH X (.ExceptHandler (some (.Name x np)) (some n) (b₀ :: suite) pos :: rest) (hAs X.K c i th tr) := by
  intro pins D a cls s ok u
  refine wpAny_handleBy_cons (codeAny_handlers_test ?_) (by intro q; cases q)
  obtain ⟨pins', σ, H', _, I, e, hna⟩ := u.adopt hex
  have LT : PySem.W.Looks (model X.prog X.w) s.heap (typeOf (.ref a)) cls := by obtain ⟨_, _, _, _, p, _, _, _, _⟩ := u; exact ty_looks (ph_there p)
  have I1 : Inv (X.hnd a) pins σ H' s := (I.unpinnedX ok).hnd
  refine ld_glob (X := X.hnd a) I1 hg hm ?_ hdb
  have e : hAs X.K c i th tr D σ H' cls := e
  unfold hAs at e
  cases q : PySem.W.exmOne X.K cls c with
  | none => rw [q] at e; exact False.elim e
  | some b =>
    refine (PySem.W.exm_one I.kIn LT q).here ?_
    cases b with
    | false =>
      refine hr pins D a cls s ok ?_
      obtain ⟨I, os, bare, way, p, hok, rel, sl, e⟩ := u
      refine ⟨I, os, bare, way, p, hok, rel, sl, ?_⟩
      have e : hAs X.K c i th tr D _ _ cls := e
      unfold hAs at e
      rw [q] at e
      exact e
    | true =>
      refine codeAny_handlers_suite_as (u.fly fun h' u' => ?_)
      obtain ⟨pins2, σ2, H2, Ia, _, e2, hn2⟩ := u'.adopt hex
      have e2 : hAs X.K c i th tr D σ2 H2 cls := e2
      unfold hAs at e2
      rw [q] at e2
      have Ia1 : Inv (X.hnd a) pins σ2 (upd H2 a (HO.exc cls)) { s with heap := h' } := (Ia.unpinnedX ok).hnd
      refine store_ok (X := X.hnd a) (v := .ref a) Ia1 hN hi (Or.inl hn) rfl (fun s3 I3 => ?_) (Or.inr hn)
      refine wpAny_mono (hs a pins s3 _ _ (D.gone i a cls) I3 (e2 a hn2)) (fun f s4 z => ?_) fun _ _ z => False.elim z
      cases f with
      | next => obtain ⟨σ4, H4, I4, e4, q4⟩ := z; exact goes_ok ((I4.unhnd ok).rm (p := a) (by rw [e4]; exact True.intro)) hN hi hn fun s5 I5 => ⟨_, _, I5, q4⟩
      | brk => obtain ⟨σ4, H4, I4, e4, q4⟩ := z; exact goes_ok ((I4.unhnd ok).rm (p := a) (by rw [e4]; exact True.intro)) hN hi hn fun s5 I5 => ⟨_, _, I5, q4⟩
      | cont => obtain ⟨σ4, H4, I4, e4, q4⟩ := z; exact goes_ok ((I4.unhnd ok).rm (p := a) (by rw [e4]; exact True.intro)) hN hi hn fun s5 I5 => ⟨_, _, I5, q4⟩
      | ret v => obtain ⟨v', σ4, H4, I4, rv, e4, q4⟩ := z; exact goes_ok ((I4.unhnd ok).rm (p := a) (by rw [e4]; exact True.intro)) hN hi hn fun s5 I5 => ⟨v', _, _, I5, rv, q4⟩
/-- try: body except ..: (no else, no finally) -/
def tTry (tb : (St → XK) → TS) (t : TH) : TS := fun D σ H => tb (fun σ cls _ H => t D σ H cls) D σ H
theorem ps_try {body : List Stmt} {h₀ : ExceptHandler} {hs : List ExceptHandler} {tb : (St → XK) → TS} {t : TH} (hst : X.stack = X.env :: X.outer) (hf : X.env.frame = some X.env.locals)
    (hb : ∀ (E : St → XK) (W : Value → Shared → Prop) (pins : List (Addr × Obj)), Exc ((X.pinned pins).wish W) E → PSs ((X.pinned pins).wish W) body (tb E)) (hh : PH X (h₀ :: hs) t) :
    PS X (.Try body (h₀ :: hs) [] [] pos) (tTry tb t) := by
  intro pins s σ H D I h
  have ex : Exc ((X.pinned pins).wish (UpW (X.pinned pins) (fun σ cls _ H => t D σ H cls) X.env.locals)) (fun σ cls _ H => t D σ H cls) := exc_up hst hf
  refine wpAny_Try_except (wpAny_mono (hb _ _ pins ex [] s σ H D (I.pinnedX.wish _) h) (fun f s1 z => ?_) fun e s1 ⟨a, cls, ee, u⟩ => ?_)
  · cases f with
    | next => obtain ⟨σ4, H4, I4, q4⟩ := z; exact wpAny_execs_nil ⟨_, _, (I4.unwish).unpinnedX I.ok, q4⟩
    | brk => obtain ⟨σ4, H4, I4, q4⟩ := z; exact ⟨_, _, (I4.unwish).unpinnedX I.ok, q4⟩
    | cont => obtain ⟨σ4, H4, I4, q4⟩ := z; exact ⟨_, _, (I4.unwish).unpinnedX I.ok, q4⟩
    | ret v => obtain ⟨v', σ4, H4, I4, rv, q4⟩ := z; exact ⟨v', _, _, (I4.unwish).unpinnedX I.ok, rv, q4⟩
  · subst ee
    exact u.note rfl hst hf fun h' u' => u'.fly fun h'' u'' => hh pins D a cls _ I.ok u''
end
end L2

/-! LZ: readings that compute. -/
namespace L2
open PySem PySem.Spec PyProof.Rows

section
variable {X : Cx}
theorem PE.mono {e : Expr} {t t' : TE} (h : PE X e t) (k : ∀ σ H Q, t' σ H Q → t σ H Q) : PE X e t' := fun pins s σ H Q I q => h pins s σ H Q I (k _ _ _ q)
theorem PT.mono {e : Expr} {t t' : TT} (h : PT X e t) (k : ∀ σ H Q, t' σ H Q → t σ H Q) : PT X e t' := fun pins s σ H Q I q => h pins s σ H Q I (k _ _ _ q)
theorem PS.mono {e : Stmt} {t t' : TS} (h : PS X e t) (k : ∀ D σ H, t' D σ H → t D σ H) : PS X e t' := fun pins s σ H D I q => h pins s σ H D I (k _ _ _ q)
theorem OpR.mono {f : Value → Value → Sem Value} {r r' : R2} (h : OpR X f r) (k : ∀ x y H Q, r' x y H Q → r x y H Q) : OpR X f r' := fun pins s σ H x y v u Q I rx ry q => h pins s σ H x y v u Q I rx ry (k _ _ _ _ q)
theorem CallR.mono {f : Value} {r r' : List V → Hp → VK → Prop} (h : CallR X f r) (k : ∀ xs H Q, r' xs H Q → r xs H Q) : CallR X f r' := fun pins s σ H xs us Q I rx q => h pins s σ H xs us Q I rx (k _ _ _ q)
theorem IxR.mono {r r' : R2} (h : IxR X r) (k : ∀ x y H Q, r' x y H Q → r x y H Q) : IxR X r' := fun value slice pins s σ H x y v u Q I rx ry q => h value slice pins s σ H x y v u Q I rx ry (k _ _ _ _ q)
end

/-! ### names -/
def cVar (i : Nat) : TE := fun σ H Q => match σ[i]? with
  | some (some v) => Q v H
  | _ => False
section
variable {X : Cx}
theorem cv (i : Nat) {x : Str} {pos : Pos} (hN : X.N[i]? = some x := by rfl) (hv : Vis X.env.scope x := by first | exact Or.inl rfl | exact Or.inr (Or.inl rfl) | exact Or.inr (Or.inr rfl)) (hd : (x == ("__debug__" : Str)) = false := by decide)
    (hcd : (x == ("__classdict__" : Str)) = false := by decide) : PE X (.Name x pos) (cVar i) := (pe_var hN hv hd hcd).mono fun σ H Q h => by
  unfold cVar at h
  split at h
  · rename_i v e; exact ⟨v, e, h⟩
  · exact h.elim
/-- a global's value -/
def Gv (mg : Str → Option Value) (x : Str) (v : V) : Prop := ∃ u, mg x = some u ∧ RelV v u
theorem pe_gv {x : Str} {v : V} {pos : Pos} (h : Gv X.mg x v) (hg : Gl X x := by rfl) (hd : (x == ("__debug__" : Str)) = false := by decide) : PE X (.Name x pos) (tC v) := by
  obtain ⟨u, hm, r⟩ := h
  exact pe_glob hg hm r hd
/-- a built-in type's name as a value -/
theorem pe_ty {x : Str} {T : String} {pos : Pos} (hm : X.mg x = none) (hv : bootBuiltins x = some (.type T)) (hg : Gl X x := by rfl) (hn : x ≠ "__name__" := by decide) (hd : (x == ("__debug__" : Str)) = false := by decide) :
    PE X (.Name x pos) (tC (.ty T)) := pe_bltn hg hm hv rfl hn hd
end

/-! ### operations -/
def cAdd : R2 := fun x y H Q => match x, y with
  | .int i, .int j => Q (.int (i + j)) H
  | .str i, .str j => i.length + j.length ≤ sizeLine ∧ Q (.str (i ++ j)) H
  | _, _ => False
def cSub : R2 := fun x y H Q => match x, y with
  | .int i, .int j => Q (.int (i - j)) H
  | _, _ => False
def cMul : R2 := fun x y H Q => match x, y with
  | .int i, .int j => CMul i j ∧ Q (.int (i * j)) H
  | .str z, .int n => z.length ≤ 1000 ∧ (n = 0 ∨ n = 1) ∧ Q (.str (if n = 1 then z else Str.empty)) H
  | _, _ => False
def cFdiv : R2 := fun x y H Q => match x, y with
  | .int i, .int j => CDiv i j ∧ Q (.int (i / j)) H
  | _, _ => False
def cMod : R2 := fun x y H Q => match x, y with
  | .int i, .int j => 0 < j ∧ Q (.int (i % j)) H
  | _, _ => False
def cPow : R2 := fun x y H Q => match x, y with
  | .int i, .int j => CPow i j ∧ Q (.int (i ^ j.toNat)) H
  | _, _ => False
def cCmp (p : Int → Int → Bool) : R2 := fun x y H Q => match x, y with
  | .int i, .int j => Q (.bl (p i j)) H
  | _, _ => False
abbrev cLt : R2 := cCmp fun i j => decide (i < j)
abbrev cLe : R2 := cCmp fun i j => decide (i ≤ j)
abbrev cGt : R2 := cCmp fun i j => decide (j < i)
/-- == of two scalars -/
def eqv : V → V → Option Bool
  | .int i, .int j => some (decide (i = j))
  | .str i, .str j => some (decide (i = j))
  | .bl i, .bl j => some (decide (i = j))
  | .non, .non => some true
  | .non, .int _ => some false | .int _, .non => some false | .non, .bl _ => some false | .bl _, .non => some false | .non, .str _ => some false | .str _, .non => some false
  | .int _, .str _ => some false | .str _, .int _ => some false | .bl _, .str _ => some false | .str _, .bl _ => some false
  | _, _ => none
def cEq : R2 := fun x y H Q => match eqv x y with
  | some b => Q (.bl b) H
  | none => False
def cNe : R2 := fun x y H Q => match eqv x y with
  | some b => Q (.bl (!b)) H
  | none => False
def isNon : V → Bool
  | .non => true
  | _ => false
def cIs : R2 := fun x y H Q => match y with
  | .non => Q (.bl (isNon x)) H
  | _ => False
def cNeg : V → Hp → VK → Prop := fun x H Q => match x with
  | .int i => Q (.int (-i)) H
  | _ => False
theorem eqv_scal {x y : V} {b : Bool} (h : eqv x y = some b) : scal x y = true ∧ decide (x = y) = b := by
  cases x <;> cases y <;> simp only [eqv, Option.some.injEq, reduceCtorEq] at h <;> subst h <;> simp [scal]
section
variable {X : Cx}
theorem c_add : OpR X (binaryOp .Add) cAdd := by
  intro pins s σ H x y v u Q I rx ry h
  unfold cAdd at h
  split at h
  · exact op_add pins s σ H _ _ v u Q I rx ry ⟨_, _, rfl, rfl, h⟩
  · exact op_add_str pins s σ H _ _ v u Q I rx ry ⟨_, _, rfl, rfl, h.1, h.2⟩
  · exact h.elim
theorem c_sub : OpR X (binaryOp .Sub) cSub := op_sub.mono fun x y H Q h => by
  unfold cSub at h
  split at h
  · exact ⟨_, _, rfl, rfl, h⟩
  · exact h.elim
theorem c_mul : OpR X (binaryOp .Mult) cMul := by
  intro pins s σ H x y v u Q I rx ry h
  unfold cMul at h
  split at h
  · exact op_mul pins s σ H _ _ v u Q I rx ry ⟨_, _, rfl, rfl, h.1, h.2⟩
  · rename_i z n
    obtain ⟨t, rfl⟩ := (show ∃ t, v = Value.str z t from rx)
    obtain ⟨t', rfl⟩ := (show ∃ t, u = Value.int n t from ry)
    obtain ⟨hz, hn, h⟩ := h
    refine SB.mul (mulOk_of 1000 16 hz (by omega) (by omega) (by decide) (by decide)) fun t2 k => ?_
    rcases hn with rfl | rfl
    · exact ⟨.str Str.empty, H, I.tok _, ⟨t2, rfl⟩, h⟩
    · exact ⟨.str z, H, I.tok _, ⟨t2, rfl⟩, h⟩
  · exact h.elim
theorem c_fdiv : OpR X (binaryOp .FloorDiv) cFdiv := op_fdiv.mono fun x y H Q h => by
  unfold cFdiv at h
  split at h
  · exact ⟨_, _, rfl, rfl, h.1, h.2⟩
  · exact h.elim
theorem c_mod : OpR X (binaryOp .Mod) cMod := op_mod.mono fun x y H Q h => by
  unfold cMod at h
  split at h
  · exact ⟨_, _, rfl, rfl, h.1, h.2⟩
  · exact h.elim
theorem c_pow : OpR X (binaryOp .Pow) cPow := op_pow.mono fun x y H Q h => by
  unfold cPow at h
  split at h
  · exact ⟨_, _, rfl, rfl, h.1, h.2⟩
  · exact h.elim
theorem c_cmp {op : CmpOp} {p : Int → Int → Bool} (h : OpR X (compareOp op) (rI0 fun i j => .bl (p i j))) : OpR X (compareOp op) (cCmp p) := h.mono fun x y H Q h => by
  unfold cCmp at h
  split at h
  · exact ⟨_, _, rfl, rfl, h⟩
  · exact h.elim
theorem c_lt : OpR X (compareOp .Lt) cLt := c_cmp op_lt
theorem c_le : OpR X (compareOp .LtE) cLe := c_cmp op_le
theorem c_gt : OpR X (compareOp .Gt) cGt := c_cmp op_gt
theorem c_eq : OpR X (compareOp .Eq) cEq := op_eq.mono fun x y H Q h => by
  unfold cEq at h
  split at h
  · rename_i b e
    obtain ⟨e1, e2⟩ := eqv_scal e
    exact ⟨e1, by rw [e2]; exact h⟩
  · exact h.elim
theorem c_ne : OpR X (compareOp .NotEq) cNe := op_ne.mono fun x y H Q h => by
  unfold cNe at h
  split at h
  · rename_i b e
    obtain ⟨e1, e2⟩ := eqv_scal e
    exact ⟨e1, by rw [e2]; exact h⟩
  · exact h.elim
theorem isNon_dec (x : V) : decide (x = .non) = isNon x := by cases x <;> simp [isNon]
theorem c_is : OpR X (compareOp .Is) cIs := op_isN.mono fun x y H Q h => by
  unfold cIs at h
  split at h
  · exact ⟨rfl, by rw [isNon_dec]; exact h⟩
  · exact h.elim
theorem c_neg : UnR X (unaryOp .USub) cNeg := fun pins s σ H x v Q I rx h => by
  unfold cNeg at h
  split at h
  · exact un_neg pins s σ H _ v Q I rx ⟨_, rfl, h⟩
  · exact h.elim
end

end L2

namespace L2
open PySem PySem.Spec PyProof.Rows
/-! ### [a, b, ..][i]: the list is forgotten -/
def rIxM : R2 := fun x y H Q => match x, y with
  | .ref p, .int i => (match H p with
    | some (.lst xs) => (match atI xs i with
      | some v => Q v (rm H p)
      | none => False)
    | _ => False)
  | _, _ => False
section
variable {X : Cx} {es : List Expr} {e : Expr} {t : TA} {ti : TE} {pos p2 : Pos}
theorem ix_menu : IxR X rIxM := by
  intro value slice pins s σ H x y v u Q I rx ry h hsub
  unfold rIxM at h
  split at h
  case h_2 => exact h.elim
  rename_i p i
  split at h
  case h_2 => exact h.elim
  rename_i xs hp
  split at h
  case h_2 => exact h.elim
  rename_i v' ha
  have q := h
  refine thn (ix_list value slice pins s σ H _ _ v u (fun z H' => z = v' ∧ H' = H) I rx ry ⟨p, xs, i, v', rfl, rfl, SqL.of hp, ha, rfl, rfl⟩ hsub) fun u s' ⟨z, H', I', r, e1, e2⟩ => ?_
  subst e1 e2
  exact ⟨z, rm H' p, I'.rm (by rw [hp]; exact True.intro), r, q⟩
theorem pe_menu (ha : PA X es t) (hi : PE X e ti) (hs : PlainIx e) : PE X (.Subscript (.List es p2) e pos) (tOp rIxM (tLst t) ti) := pe_ix ix_menu (pe_lst ha) hi hs
end

/-! ### items, lengths, small built-ins -/
def cIx : R2 := fun x y H Q => match x, y with
  | .ref p, .int i => (match H p with
    | some (.lst xs) => (match atI xs i with
      | some v => Q v H
      | none => False)
    | some (.tup xs) => (match atI xs i with
      | some v => Q v H
      | none => False)
    | _ => False)
  | _, _ => False
def cLen : List V → Hp → VK → Prop := fun xs H Q => match xs with
  | [.ref p] => (match H p with
    | some (.lst ys) => Q (.int ys.length) H
    | some (.tup ys) => Q (.int ys.length) H
    | _ => False)
  | _ => False
/-- of a list that is read only (the script) -/
def cIxS (K : PySem.W.Frag) : R2 := fun x y H Q => match x, y with
  | .ref p, .int i => ∃ xs, SqL K H p xs ∧ (match atI xs i with
      | some v => Q v H
      | none => False)
  | _, _ => False
def cLenS (K : PySem.W.Frag) : List V → Hp → VK → Prop := fun xs H Q => match xs with
  | [.ref p] => ∃ ys, SqL K H p ys ∧ Q (.int ys.length) H
  | _ => False
def cAbs : List V → Hp → VK → Prop := fun xs H Q => match xs with
  | [.int i] => Q (.int (if i < 0 then -i else i)) H
  | _ => False
def cInt : List V → Hp → VK → Prop := fun xs H Q => match xs with
  | [.int i] => Q (.int i) H
  | [.bl k] => Q (.int (if k then 1 else 0)) H
  | _ => False
section
variable {X : Cx}
theorem c_ix : IxR X cIx := by
  intro value slice pins s σ H x y v u Q I rx ry h hsub
  unfold cIx at h
  split at h
  case h_2 => exact h.elim
  split at h
  · rename_i xs hp
    split at h
    case h_2 => exact h.elim
    rename_i v' ha
    exact ix_list value slice pins s σ H _ _ v u Q I rx ry ⟨_, xs, _, v', rfl, rfl, SqL.of hp, ha, h⟩ hsub
  · rename_i xs hp
    split at h
    case h_2 => exact h.elim
    rename_i v' ha
    exact ix_tup value slice pins s σ H _ _ v u Q I rx ry ⟨_, xs, _, v', rfl, rfl, SqT.of hp, ha, h⟩ hsub
  · exact h.elim
theorem c_ixS : IxR X (cIxS X.K) := by
  intro value slice pins s σ H x y v u Q I rx ry h hsub
  unfold cIxS at h
  split at h
  case h_2 => exact h.elim
  obtain ⟨xs, hp, h⟩ := h
  split at h
  case h_2 => exact h.elim
  rename_i v' ha
  exact ix_list value slice pins s σ H _ _ v u Q I rx ry ⟨_, xs, _, v', rfl, rfl, hp, ha, h⟩ hsub
theorem c_len : CallR X (.builtin "len") cLen := call_len_seq.mono fun xs H Q h => by
  unfold cLen at h
  split at h
  case h_2 => exact h.elim
  split at h
  · rename_i ys hp; exact ⟨_, ys, rfl, .inl (SqL.of hp), h⟩
  · rename_i ys hp; exact ⟨_, ys, rfl, .inr (SqT.of hp), h⟩
  · exact h.elim
theorem c_lenS : CallR X (.builtin "len") (cLenS X.K) := call_len_seq.mono fun xs H Q h => by
  unfold cLenS at h
  split at h
  case h_2 => exact h.elim
  obtain ⟨ys, hp, h⟩ := h
  exact ⟨_, ys, rfl, .inl hp, h⟩
theorem c_abs : CallR X (.builtin "abs") cAbs := call_abs.mono fun xs H Q h => by
  unfold cAbs at h
  split at h
  · exact ⟨_, rfl, h⟩
  · exact h.elim
theorem c_int : CallR X (.type "int") cInt := call_int1.mono fun xs H Q h => by
  unfold cInt at h
  split at h
  · exact .inl ⟨_, rfl, h⟩
  · exact .inr ⟨_, rfl, h⟩
  · exact h.elim
end
theorem cxOf_K {CX : CXT} {ca : Bool} {P : Program} {w : World} {K : PySem.W.Frag} {mg : Str → Option Value} {base : Heap} {N : List Str} {qual : Str} {scope : Scope} {f : Addr} {cd : Value} {A : Around} {outer : List Env} {s : Shared} {H : Hp} {E : XK} :
    (cxOf CX ca P w K mg base N qual scope f cd A outer s H E).K = K := rfl

/-! ### within an except suite -/
theorem Room.hnd {ca : Bool} {k : Nat} {A : Around} {v : Value} (r : Room ca k A) : Room false k (A.mark (some v)) := ⟨fun z => Bool.noConfusion z, r.dp, r.un⟩
end L2

/-! LI: isinstance, of caught own exceptions too. -/
namespace L2
open PySem PySem.Spec PyProof.Rows

/-- what isinstance wants of an own exception's class -/
structure KiE (K : PySem.W.Frag) (C : Addr) : Prop where
  ga : PySem.W.findIn K (.ref C) "__getattribute__" = some (some (.builtin "BaseException.__getattribute__"))
  gt : PySem.W.findIn K (.ref C) "__getattr__" = some none
  cl : PySem.W.findIn K (.ref C) "__class__" = some (some (.builtin "object.__class__"))
  hn : PySem.W.specialIn K (.builtin "object.__class__") "__get__" = some (some (.builtin "getset_descriptor.__get__"))
  tk : PySem.W.takesIn K (.builtin "object.__class__") = some true
  mb : PySem.W.mroIn K C (.type "BaseException") = some true
  mo : PySem.W.mroIn K C (.type "object") = some true
section
open Builtin Builtin.ObjectAttr Builtin.Getset_descriptor
variable {prog : Program} {w : World} {A : Around} {E : Value → Shared → Prop} {s : Shared} {K : PySem.W.Frag} {a C : Addr}
theorem KiE.cls (ki : KiE K C) : ∃ cd, PySem.W.clsIn K C = some cd := by
  have h := ki.mo
  unfold PySem.W.mroIn at h
  cases q : PySem.W.clsIn K C with
  | none => rw [q] at h; cases h
  | some cd => exact ⟨cd, rfl⟩
theorem xc_get {R : Result → Shared → Prop} {tp : Value} (X : K.In s.heap) (I : PySem.W.Looks (model prog w) s.heap (typeOf (.ref a)) (.ref C)) (ki : KiE K C) (h : R (.ok (.ret (.ref C))) s) :
    codeAny (model prog w) A (.call (.builtin "getset_descriptor.__get__") ⟨[.builtin "object.__class__", .ref a, tp], []⟩) R s := by
  obtain ⟨hh, g, dr, t, os⟩ := s
  have L1 := PySem.W.looks_mroIn (M := model prog w) X ki.mo
  refine codeAny_call_builtin PySem.W.KF.slot_gs.plain PySem.W.KF.entry_gs (PySem.W.KF.slot_gs.check _ _ _ _ _ _ _ _ PySem.W.KF.type_class (PySem.W.KF.args_gs _ _ _) ?_)
  unfold Builtin.«getset_descriptor.__get__» descrGet; rw [PySem.W.dga_obj]; refine wpAny_bind (wpAny_pure ?_)
  unfold descrGetter descrCheckInstance descrNameAndClass isInstance; simp only [PySem.W.KF.owner_class]; repeat lk
  refine ⟨Code.quiet_builtin _ (by decide +kernel), codeAny_builtin PySem.W.KF.entry_class ?_⟩; unfold Builtin.«object.__class__» shownTypeOf; repeat lk
  exact h
theorem xc_entry {tk : Tok} {Q : Fin → Shared → Prop} (X : K.In s.heap) (I : PySem.W.Looks (model prog w) s.heap (typeOf (.ref a)) (.ref C)) (ki : KiE K C) (h : Q (.done (.ret (.ref C))) s) :
    wpAny (model prog w) A (Builtin.«object.__getattribute__» ⟨[.ref a, .str "__class__" tk], []⟩) Q E s := by
  obtain ⟨hh, g, d, t, os⟩ := s
  have L1 : PySem.W.Looks (model prog w) hh (find (.ref a) (.ref C) "__class__") (.bind (.builtin "getset_descriptor.__get__") (.builtin "object.__class__")) := by
    have LA := PySem.W.looks_findIn (M := model prog w) X ki.cl
    have LB : PySem.W.Looks (model prog w) hh (getOf (some (.builtin "object.__class__"))) (some (.builtin "getset_descriptor.__get__")) := PySem.W.looks_specialIn X ki.hn
    have LC := PySem.W.looks_takesIn (M := model prog w) X ki.tk
    refine LA.andThen (LB.andThen ?_)
    exact (show PySem.W.Looks (model prog w) hh (dataDescriptor? (some (.builtin "object.__class__")) (some (.builtin "getset_descriptor.__get__"))) (some (.builtin "getset_descriptor.__get__", .builtin "object.__class__")) from LC.andThen .now).andThen (PySem.W.Looks.tag .now)
  unfold Builtin.«object.__getattribute__»
  refine wpAny_bind (m := slotArgs _ _ _) (wpAny_pure ?_)
  refine wpAny_bind (m := attrName _) (wpAny_pure ?_)
  refine wpAny_bind (I.at (wpAny_bind (L1.at ?_)))
  show wpAny _ _ (bindTo _ _ _ _) _ _ _
  show wpAny _ _ (holding [_] (call _ [_, .ref a, .ref C]) >>= ret) _ _ _
  exact wpAny_bind (wpAny_holding (wpAny_call (xc_get X I ki (wpAny_pure h))))
theorem xc_call {tk : Tok} {R : Result → Shared → Prop} (X : K.In s.heap) (I : PySem.W.Looks (model prog w) s.heap (typeOf (.ref a)) (.ref C)) (ki : KiE K C) (h : R (.ok (.ret (.ref C))) s) :
    codeAny (model prog w) A (.call (.builtin "BaseException.__getattribute__") ⟨[.ref a, .str "__class__" tk], []⟩) R s := by
  obtain ⟨hh, g, d, t, os⟩ := s
  have L1 := PySem.W.looks_mroIn (M := model prog w) X ki.mb
  refine codeAny_call_builtin PySem.F.attr_ValueError.ga.plain PySem.F.entry_bexc_ga ?_
  have hk : builtinKind "BaseException.__getattribute__" = some .slot := by decide +kernel
  have hsplit : splitId "BaseException.__getattribute__" = some ("BaseException", "__getattribute__") := by decide +kernel
  have ha := PySem.F.args_bexc_ga (.ref a) (.str "__class__" tk)
  simp only [checkBuiltinCall, hk, hsplit]
  refine wpAny_bind (wpAny_bind (I.at (L1.at ?_)))
  rw [if_neg (by decide)]
  unfold argsOk at ha
  exact wpAny_of_eq (a := ()) ha (xc_entry X I ki h)
theorem xc_attr {Q : Option Value → Shared → Prop} (X : K.In s.heap) (I : PySem.W.Looks (model prog w) s.heap (typeOf (.ref a)) (.ref C)) (ki : KiE K C) (h : Q (some (.ref C)) { s with toks := s.toks + 1 }) :
    wpAny (model prog w) A (getAttr? (.ref a) "__class__") Q E s := by
  obtain ⟨hh, g, d, t, os⟩ := s
  have L1 := PySem.W.looks_findIn (M := model prog w) X ki.ga
  have L2 := PySem.W.looks_findIn (M := model prog w) X ki.gt
  unfold getAttr? getAttrBy? getAttrBy
  refine wpAny_bind (wpAny_mkText (wpAny_bind (wpAny_attempt (wpAny_holding (wpAny_bind (I.at (wpAny_bind (L1.at ?_))))))))
  show wpAny _ _ (getAttrByItsOwn _ _ _ _ _ _) _ _ _
  unfold getAttrByItsOwn
  refine wpAny_bind (m := hookBefore _) ?_
  show wpAny _ _ (typeLookup (.ref C) "__getattr__") _ _ _
  refine L2.at (wpAny_bind (wpAny_attempt (wpAny_holding ?_)))
  show wpAny _ _ (boundAndCalled _ _ _) _ _ _
  unfold boundAndCalled
  refine wpAny_bind (wpAny_of_eq (PySem.F.attr_ValueError.ga.bind _) ?_)
  refine wpAny_call (xc_call X I ki ?_)
  exact PySem.W.handed_on rfl (wpAny_pure h)
theorem kitx_exc (ki : KiE K C) : PySem.W.KitX K (.ref a) (.ref C) (fun h => ∃ o vs, h.get? a = some o ∧ o.cls = .ref C ∧ o.data = .fields vs) where
  ty := fun M h _ p => ty_looks p
  it := fun _ _ X _ => by
    obtain ⟨cd, hc⟩ := ki.cls
    unfold PySem.W.clsIn at hc
    split at hc
    · rename_i c' d' cd' sl' ho
      intro A' Q' E' s' k q; unfold isType loadHead; exact wpAny_bind (wpAny_loadPart (k _ _ (X _ _ ho)) (wpAny_pure q))
    · cases hc
  ne := fun h tp dd its n sl X htp => by
    obtain ⟨cd, hc⟩ := ki.cls
    refine Bool.eq_false_iff.mpr fun q => ?_
    have e : C = tp := Value.ref.inj (beq_iff_eq.mp q)
    subst e
    unfold PySem.W.clsIn at hc
    split at hc
    · rename_i c' d' cd' sl' ho; have z := (X _ _ ho).symm.trans htp; cases z
    · cases hc
  ca := fun X p k => xc_attr X (ty_looks p) ki k
end

/-- what isinstance wants of an own class -/
structure KiI (K : PySem.W.Frag) (C : Addr) : Prop where
  cl : Cls K C
  ha : PySem.W.findIn K (.ref C) "__class__" = some (some (.builtin "object.__class__"))
  hn : PySem.W.specialIn K (.builtin "object.__class__") "__get__" = some (some (.builtin "getset_descriptor.__get__"))
  tk : PySem.W.takesIn K (.builtin "object.__class__") = some true
  hm : PySem.W.mroIn K C (.type "object") = some true
/-- the type of a value -/
def tyo (H : Hp) : V → Option Value
  | .non => some (.type "NoneType")
  | .bl _ => some (.type "bool")
  | .int _ => some (.type "int")
  | .str _ => some (.type "str")
  | .ref a => match H a with
    | some (.lst _) => some (.type "list")
    | some (.frz _ (.lst _)) => some (.type "list")
    | some (.tup _) => some (.type "tuple")
    | some (.dK _) => some (.type "dict")
    | some (.ins C _ _) => some (.ref C)
    | some (.exc c) => some c
    | _ => none
  | _ => none
def OkTy (K : PySem.W.Frag) (H : Hp) : V → Prop
  | .ref a => match H a with
    | some (.ins C _ _) => KiI K C
    | some (.exc c) => ∃ C, c = .ref C ∧ KiE K C
    | _ => True
  | _ => True
def kitV (K : PySem.W.Frag) (t : Value) : V → Option Bool
  | .ty n => PySem.W.kitOne K t (.type n)
  | .ref C => PySem.W.kitOne K t (.ref C)
  | _ => none
def rIsi (K : PySem.W.Frag) : List V → Hp → VK → Prop := fun xs H Q => match xs with
  | [x, c] => (match tyo H x with
    | some t => OkTy K H x ∧ (match kitV K t c with
      | some b => Q (.bl b) H
      | none => False)
    | none => False)
  | _ => False
theorem call_isi {X : Cx} : CallR X (.builtin "isinstance") (rIsi X.K) := by
  intro pins s σ H xs us Q I r h
  unfold rIsi at h
  split at h
  case h_2 => exact h.elim
  rename_i x c
  obtain ⟨u, w', rfl, rx, rc⟩ := vals2 r
  split at h
  case h_2 => exact h.elim
  rename_i t ht
  obtain ⟨ok, h⟩ := h
  split at h
  case h_2 => exact h.elim
  rename_i b hk
  have q := h
  have hc : PySem.W.kitOne X.K t w' = some b := by
    cases c <;> first | (cases (show w' = Value.type _ from rc); exact hk) | (cases (show w' = Value.ref _ from rc); exact hk) | cases hk
  have fin : ∀ tk, EP X pins σ Q (.bool b) { s with toks := tk } := fun tk => ⟨.bl b, H, I.tok tk, rfl, q⟩
  cases x with
  | non => cases ht; exact isinst_ok I rx .non hc fin
  | bl y => cases ht; exact isinst_ok I rx (.bl y) hc fin
  | int i => cases ht; exact isinst_ok I rx (.int i) hc fin
  | str y => cases ht; exact isinst_ok I rx (.str y) hc fin
  | byt y => cases ht
  | flt y => cases ht
  | ty n => cases ht
  | ref a =>
    unfold tyo at ht
    unfold OkTy at ok
    dsimp only at ht ok
    cases e : H a with
    | none => rw [e] at ht; cases ht
    | some o =>
      rw [e] at ht ok
      cases o with
      | lst xs => cases ht; exact isinst_ok I rx (.lst e) hc fin
      | tup xs => cases ht; exact isinst_ok I rx (.tup e) hc fin
      | dK kvs => cases ht; exact isinst_ok I rx (.dK e) hc fin
      | ins C dx fs => cases ht; exact isinst_ok I rx (.ins e ok.cl ok.ha ok.hn ok.tk ok.hm) hc fin
      | frz ob u =>
        cases u with
        | lst xs => cases ht; exact isinst_ok I rx (.frz e) hc fin
        | _ => cases ht
      | exc c =>
        cases ht
        obtain ⟨C, rfl, ki⟩ := ok
        cases (show u = Value.ref a from rx)
        exact PySem.W.kia_one (kitx_exc ki) I.kIn (show ObjOk X.prog X.w H s.heap a (.exc (.ref C)) from I.hok a _ e) hc (fun z => nomatch z) fin
      | _ => cases ht
theorem sz1 : (1 ≤ sizeLine) = True := eq_true (by decide)
theorem sz2 : (2 ≤ sizeLine) = True := eq_true (by decide)
theorem sz3 : (3 ≤ sizeLine) = True := eq_true (by decide)
theorem sz4 : (4 ≤ sizeLine) = True := eq_true (by decide)
theorem sz6 : (6 ≤ sizeLine) = True := eq_true (by decide)
theorem sz8 : (8 ≤ sizeLine) = True := eq_true (by decide)
theorem sz10 : (10 ≤ sizeLine) = True := eq_true (by decide)
theorem sz13 : (13 ≤ sizeLine) = True := eq_true (by decide)
theorem ofs_app (a b : String) : Str.ofString a ++ Str.ofString b = Str.ofString (a ++ b) := by
  rw [Str.ofString_eq_toList, Str.ofString_eq_toList, Str.ofString_eq_toList]
  refine congrArg Str.mk ?_
  simp
end L2

/-! LW: argument lists without stars, looked at once and for all. -/
namespace L2
open PySem PySem.Spec PyProof.Rows
def notStar : Expr → Bool
  | .Starred _ _ => false
  | _ => true
theorem star_ns {e : Expr} {rest : List Expr} {env : Env} (h : notStar e = true) : starEach (e :: rest) env = (false, eval e env) :: starEach rest env := by
  cases e <;> first | rfl | cases h
theorem star_any {env : Env} {pos : Pos} : ∀ {es : List Expr}, es.all notStar = true → (backTo pos (starEach es env)).any (·.1) = false
  | [], _ => rfl
  | e :: es, h => by
    rw [List.all_cons, Bool.and_eq_true] at h
    rw [star_ns h.1]
    show (false || (backTo pos (starEach es env)).any (·.1)) = false
    rw [star_any h.2]; rfl
section
variable {X : Cx} {ca : Bool} {k : Nat} {f C : Addr} {fd : FuncData} {ps : List Str} {sp : Sp} {E : St → XK} {x m : Str} {p pos apos np cpos : Pos} {e o : Expr} {es : List Expr} {te ta : TE} {t : TA} {id T : String} {r : List V → Hp → VK → Prop}
theorem pa_c (ha : PE X e te) (hr : PA X es t) (h : notStar e = true := by rfl) : PA X (e :: es) (tCons te t) := pa_cons ha hr (star_ns h)
theorem pe_callF (F : FnOk X.prog X.w X.K X.mg X.base (CXE X.prog X.w) ca k f fd ps sp) (hr : Room ca k X.A) (hg : Gl X x) (hm : X.mg x = some (.ref f)) (hk : PySem.W.keepIn X.K (.ref f) = true) (hb : Binds X.K fd ps []) (hx : Exc X E)
    (ha : PA X (e :: es) t) (hdb : (x == ("__debug__" : Str)) = false := by decide) (h : (e :: es).all notStar = true := by rfl) : PE X (.Call (.Name x p) (e :: es) [] pos) (tCallE sp E t) :=
  pe_callE F hr hg hm hk hb hx ha hdb (star_ns (by rw [List.all_cons, Bool.and_eq_true] at h; exact h.1)) (star_any (by rw [List.all_cons, Bool.and_eq_true] at h; exact h.2))
theorem ps_raiseF (hx : Exc X E) (hg : Gl X x) (hm : X.mg x = some (.ref C)) (hq : ExcC X.K C) (hc : X.calm = true) (ha : PA X (e :: es) t) (h : (e :: es).all notStar = true := by rfl) (hdb : (x == ("__debug__" : Str)) = false := by decide) :
    PS X (.Raise (some (.Call (.Name x np) (e :: es) [] cpos)) none pos) (tRaise C E t) :=
  ps_raise hx hg hm hq hc ha (star_ns (by rw [List.all_cons, Bool.and_eq_true] at h; exact h.1)) (star_any (by rw [List.all_cons, Bool.and_eq_true] at h; exact h.2)) hdb
theorem pe_callBF (hc : CallR X (.builtin id) r) (hg : Gl X x) (hm : X.mg x = none) (hv : bootBuiltins x = some (.builtin id)) (ha : PA X (e :: es) t) (hn : x ≠ "__name__" := by decide) (hdb : (x == ("__debug__" : Str)) = false := by decide)
    (h : (e :: es).all notStar = true := by rfl) : PE X (.Call (.Name x p) (e :: es) [] pos) (tCB r t) :=
  pe_callB hc hg hm hv ha hn hdb (star_ns (by rw [List.all_cons, Bool.and_eq_true] at h; exact h.1)) (star_any (by rw [List.all_cons, Bool.and_eq_true] at h; exact h.2))
theorem pe_callTyF (hc : CallR X (.type T) r) (hg : Gl X x) (hm : X.mg x = none) (hv : bootBuiltins x = some (.type T)) (ha : PA X (e :: es) t) (hn : x ≠ "__name__" := by decide) (hdb : (x == ("__debug__" : Str)) = false := by decide)
    (h : (e :: es).all notStar = true := by rfl) : PE X (.Call (.Name x p) (e :: es) [] pos) (tCB r t) :=
  pe_callTy hc hg hm hv ha hn hdb (star_ns (by rw [List.all_cons, Bool.and_eq_true] at h; exact h.1)) (star_any (by rw [List.all_cons, Bool.and_eq_true] at h; exact h.2))
end
end L2

/-! LV: loops, fields, methods, lists and dicts: readings that compute. -/
namespace L2
open PySem PySem.Spec PyProof.Rows

/-! ### loops -/
/-- what a loop wants, behind its iterable -/
def LoopW (J : It) (g : TG) (tb : TS) (D : Ends) (σ : St) (H1 : Hp) : Prop := ∃ W : Nat → Nat → St → Hp → Prop, (∃ m, W 0 m σ H1) ∧ ∀ i m σ H, W i m σ H →
  (J.stop i H ∧ D.nx σ H) ∨ (J.go i H ∧ ∃ N : St → Hp → Prop, (∀ σ' H', N σ' H' → ∃ m', m' < m ∧ W (i + 1) m' σ' H') ∧ ∀ x H', J.yld i H x H' → g x σ H' fun σ2 H2 => tb { D with nx := N, ct := N, bk := D.nx } σ2 H2)
theorem tFor_eq {wi : TI} {g : TG} {tb : TS} : tFor wi g tb = fun D σ H => wi σ H fun J H1 => LoopW J g tb D σ H1 := rfl
theorem LoopW.range {lo : Int} {n : Nat} {g : TG} {tb : TS} {D : Ends} {σ : St} {H : Hp} (Pv : Nat → St → Hp → Prop) (h0 : Pv 0 σ H)
    (hs : ∀ i σ H, i < n → Pv i σ H → g (.int (lo + i)) σ H fun σ2 H2 => tb { D with nx := Pv (i + 1), ct := Pv (i + 1), bk := D.nx } σ2 H2) (hd : ∀ σ H, Pv n σ H → D.nx σ H) : LoopW (Itr lo n) g tb D σ H :=
  for_range Pv h0 hs hd
theorem LoopW.list {K : PySem.W.Frag} {a : Addr} {xs : List V} {g : TG} {tb : TS} {D : Ends} {σ : St} {H : Hp} (Pv : Nat → St → Hp → Prop) (h0 : Pv 0 σ H) (hl : ∀ i σ H, i ≤ xs.length → Pv i σ H → SqL K H a xs)
    (hs : ∀ i x σ H, xs[i]? = some x → Pv i σ H → g x σ H fun σ2 H2 => tb { D with nx := Pv (i + 1), ct := Pv (i + 1), bk := D.nx } σ2 H2) (hd : ∀ σ H, Pv xs.length σ H → D.nx σ H) : LoopW (Itl K a) g tb D σ H :=
  for_list Pv h0 hl hs hd
theorem LoopW.tup {K : PySem.W.Frag} {a : Addr} {xs : List V} {g : TG} {tb : TS} {D : Ends} {σ : St} {H : Hp} (Pv : Nat → St → Hp → Prop) (h0 : Pv 0 σ H) (hl : ∀ i σ H, i ≤ xs.length → Pv i σ H → SqT K H a xs)
    (hs : ∀ i x σ H, xs[i]? = some x → Pv i σ H → g x σ H fun σ2 H2 => tb { D with nx := Pv (i + 1), ct := Pv (i + 1), bk := D.nx } σ2 H2) (hd : ∀ σ H, Pv xs.length σ H → D.nx σ H) : LoopW (Itt K a) g tb D σ H :=
  for_tup Pv h0 hl hs hd

/-! ### a part of a list by a written index -/
theorem atI_cast {α : Type} {xs : List α} {j : Nat} : atI xs (j : Int) = xs[j]? := by
  cases h : xs[j]? with
  | some v => exact atI_nat h
  | none =>
    have hl : xs.length ≤ j := List.getElem?_eq_none_iff.mp h
    unfold atI ixN
    rw [if_pos (by omega), if_neg (by omega)]
    rfl
theorem atI_0 {α : Type} {xs : List α} : atI xs 0 = xs[0]? := atI_cast (j := 0)
theorem ixN_in {n : Nat} {i : Int} (h0 : 0 ≤ i) (h1 : i < n) : ixN n i = some i.toNat := by
  unfold ixN
  rw [if_pos h0, if_pos h1]
theorem atI_in {α : Type} {xs : List α} {i : Int} (h0 : 0 ≤ i) (h1 : i < xs.length) : atI xs i = xs[i.toNat]? := by
  unfold atI
  rw [ixN_in h0 h1]; rfl

/-! ### fields and methods -/
/-! ### lists -/
def cSetL : TSet := fun o i v H Q => match o, i with
  | .ref p, .int k => (match H p with
    | some (.lst xs) => (match ixN xs.length k with
      | some j => Q (upd H p (.lst (xs.set j v)))
      | none => False)
    | _ => False)
  | _, _ => False
def cSl : V → Option Int → Option Int → Hp → VK → Prop := fun x lo hi H Q => match x with
  | .ref a => (match H a with
    | some (.lst xs) => ∀ p, H p = none → Q (.ref p) (upd H p (.lst (cutV xs lo hi)))
    | _ => False)
  | _ => False
def cPart (t : TE) : TO := fun σ H Q => t σ H fun x H1 => match x with
  | .int i => Q (some i) H1
  | _ => False
def cAppend : V → List V → Hp → VK → Prop := fun x vs H Q => match x, vs with
  | .ref l, [y] => (match H l with
    | some (.lst xs) => xs.length < sizeLine ∧ Q .non (upd H l (.lst (xs ++ [y])))
    | _ => False)
  | _, _ => False
/-- the type of a list's method's owner -/
def cBM (r : V → List V → Hp → VK → Prop) (to : TE) (t : TA) : TE := fun σ H Q => to σ H fun x H1 => match x with
  | .ref a => (match H1 a with
    | some (.lst _) => t σ H1 fun xs H2 => r x xs H2 Q
    | _ => False)
  | _ => False
/-! ### dicts by whole numbers and texts -/
section
variable {X : Cx} {e o i f' value : Expr} {f m : Str} {pos pos' apos cpos p2 : Pos} {ta tv td ty tx te : TE} {t : TA} {lo hi : Option Expr} {tl th : TO}
theorem PO.mono {e : Option Expr} {t t' : TO} (h : PO X e t) (k : ∀ σ H Q, t' σ H Q → t σ H Q) : PO X e t' := fun pins s σ H Q I q => h pins s σ H Q I (k _ _ _ q)
theorem SlR.mono {r r' : V → Option Int → Option Int → Hp → VK → Prop} (h : SlR X r) (k : ∀ x lo hi H Q, r' x lo hi H Q → r x lo hi H Q) : SlR X r' := fun pins s σ H x v vl vu lo hi sl Q I rx hs pl pu q => h pins s σ H x v vl vu lo hi sl Q I rx hs pl pu (k _ _ _ _ _ q)
theorem c_set : PSet X cSetL := by
  intro pins s σ H o i v ov iv u Q I ro ri rv h
  unfold cSetL at h
  split at h
  case h_2 => exact h.elim
  split at h
  case h_2 => exact h.elim
  rename_i xs hp
  split at h
  case h_2 => exact h.elim
  rename_i j hj
  exact set_list pins s σ H _ _ v ov iv u Q I ro ri rv ⟨_, xs, _, j, rfl, rfl, hp, hj, h⟩
theorem c_sl : SlR X cSl := sl_list.mono fun x lo hi H Q h => by
  unfold cSl at h
  split at h
  case h_2 => exact h.elim
  split at h
  case h_2 => exact h.elim
  rename_i xs hp
  exact ⟨_, xs, rfl, SqL.of hp, h⟩
theorem c_part (h : PE X e te) : PO X (some e) (cPart te) := by
  intro pins s σ H Q I hw
  rw [evalPart_some]
  refine thn (h pins s σ H _ I hw) fun u s1 ⟨x, H1, I1, r1, q1⟩ => ?_
  try dsimp only at q1
  split at q1
  case h_2 => exact q1.elim
  rename_i i
  obtain ⟨t, rfl⟩ := r1
  exact ⟨some i, H1, I1, .int i t, q1⟩
theorem c_append : MtM X "list.append" cAppend := fun pins s σ H x xs v us Q I rx rxs h => by
  unfold cAppend at h
  split at h
  case h_2 => exact h.elim
  split at h
  case h_2 => exact h.elim
  rename_i ys hp
  exact mt_append pins s σ H _ _ v us Q I rx rxs ⟨_, ys, _, rfl, rfl, hp, h.1, h.2⟩
end
section
variable {X : Cx} {e o : Expr} {es : List Expr} {to : TE} {t : TA} {apos cpos : Pos} {r : V → List V → Hp → VK → Prop}
theorem c_bm {id : String} {name : Str} (slot : Slot "list" name id) (hty : typeOf (.builtin id) = pure (.type "method_descriptor")) (hm : MtR X id r) (ho : PE X o to) (ha : PA X (e :: es) t) (hns : (e :: es).all notStar = true := by rfl)
    (hbase : attributeBase o name X.env (eval o X.env) = eval o X.env := by rfl)
    (hfew : ((backTo cpos (starEach (e :: es) X.env)).all (fun x => !x.1) && (backToKw cpos (keywordEach [] X.env)).all (fun x => x.1.isSome)
      && decide ((e :: es).length + ([] : List Keyword).length + (if ([] : List Keyword).isEmpty then 0 else 1) < 30)) = true := by rfl)
    (hline : (apos.endLine == cpos.line) = true := by rfl) : PE X (.Call (.Attribute o name apos) (e :: es) [] cpos) (cBM r to t) := by
  intro pins s σ H Q I h
  have hs : starEach (e :: es) X.env = (false, eval e X.env) :: starEach es X.env := star_ns (by rw [List.all_cons, Bool.and_eq_true] at hns; exact hns.1)
  have hplain : (backTo cpos (starEach es X.env)).any (·.1) = false := star_any (by rw [List.all_cons, Bool.and_eq_true] at hns; exact hns.2)
  refine wpAny_Call_method_late hbase hfew hline rfl (thn (ho pins s σ H _ I h) fun v s1 ⟨x, H1, I1, r1, q1⟩ => ?_)
  try dsimp only at q1
  split at q1
  case h_2 => exact q1.elim
  rename_i a
  split at q1
  case h_2 => exact q1.elim
  rename_i ys ea
  have ty : tyV X.K "list" (.ref a) H1 := .inl ⟨rfl, ys, SqL.of ea⟩
  obtain ⟨h1, h2⟩ := tyV_is I1 r1 ty
  refine ⟨"list", id, PySem.F.plainAttrs_list, slot, hty, h1, h2, ?_⟩
  have hA := ha cpos pins s1 σ H1 _ I1 q1
  rw [hs] at hA ⊢
  refine Calls.callWith_builtin (by show (false || (backTo cpos (starEach es X.env)).any (·.1)) = false; rw [hplain] <;> rfl) (Calls.evalArgs_plain ?_)
  exact thn hA fun us s2 ⟨vs, H2, I2, r2, q2⟩ => hm pins s2 σ H2 _ vs v us Q I2 r1 r2 q2
end
section
variable {X : Cx} {ca : Bool} {k : Nat} {f C : Addr} {fd : FuncData} {ps : List Str} {sp : Sp} {E : St → XK} {m : Str} {pos apos : Pos} {e o : Expr} {es : List Expr} {ta : TE} {t : TA}
end

/-! ### written lists by a drawn index -/
theorem Same.upd {H : Hp} {p : Addr} {o : HO} (h : H p = none) : Same H (L2.upd H p o) := fun b u e => by rw [upd_ne (ne_of_none e h)]; exact e
theorem Same.own {H : Hp} {p dx : Addr} {o u : HO} (h1 : H p = none) (h2 : H dx = none) : Same H (L2.upd (L2.upd H dx u) p o) := fun b w e => by rw [upd_ne (ne_of_none e h1), upd_ne (ne_of_none e h2)]; exact e
theorem Same.put {H H' : Hp} {q : Addr} {o : HO} (s : Same H H') (h : H q = none) : Same H (L2.upd H' q o) := fun b u e => by rw [upd_ne (ne_of_none e h)]; exact s b u e
end L2

/-! LC: [elt for x in iter if c]: a comprehension's block over the layer; no exception leaves it. -/
namespace L2
open PySem PySem.Spec PyProof.Rows

section
variable {prog : Program} {w : World} {A : Around} {R : Result → Shared → Prop} {s : Shared}
theorem codeAny_compLoop_any {elt target iter : Expr} {ifs : List Expr} {scope : Scope} {pos : Pos} {it acc : Value} {env : Env} (I : Nat → Shared → Prop)
    (turn : ∀ n s, I n s → wpAny (model prog w) A (pyNext it) (fun r s₁ => match r with
      | none => R (.ok .next) s₁
      | some v => wpAny (model prog w) A (letOwnedTupleGo target it v) (fun _ s₁' => wpAny (model prog w) A (assign target env v) (fun _ s₂ =>
          wpAny (model prog w) A (forIn ifs true fun c r => if r = true then do let ok ← isTrue c env (eval c env); pure (ForInStep.yield ok) else pure (ForInStep.yield r)) (fun ok s₃ =>
            if ok = true then wpAny (model prog w) A (eval elt env) (fun x s₄ =>
              wpAny (model prog w) A (call (.builtin "list.append") [acc, x]) (fun _ s₅ => ∃ m, m < n ∧ I m s₅) (fun _ _ => False) s₄) (fun _ _ => False) s₃
            else ∃ m, m < n ∧ I m s₃) (fun _ _ => False) s₂) (fun _ _ => False) s₁') (fun _ _ => False) s₁) (fun _ _ => False) s)
    (n : Nat) (h : I n s) :
    codeAny (model prog w) A (.compLoop (.ListComp elt [⟨target, iter, ifs, 0⟩] scope pos) 0 it acc env) R s := by
  refine codeAny_loop rfl I (fun n s hI => ?_) n h
  show wpAny _ A ((compTurn (.ListComp elt [⟨target, iter, ifs, 0⟩] scope pos) 0 it acc env).onRaise (fun x => do noteFrame x env; theTreesLotGoes x)) _ _ s
  refine wpAny_noted ?_
  rw [compTurn_list]
  refine wpAny_bind (wpAny_standAt (wpAny_bind (wpAny_mono (turn n s hI) (fun r s₁ h₁ => ?_) fun _ _ h' => h'.elim)))
  cases r with
  | none => exact wpAny_pure h₁
  | some v =>
    refine wpAny_bind (wpAny_mono h₁ (fun _ s₁' h₁' => ?_) fun _ _ h' => h'.elim)
    refine wpAny_bind (wpAny_mono h₁' (fun _ s₂ h₂ => wpAny_bind (wpAny_mono h₂ (fun ok s₃ h₃ => ?_) fun _ _ h' => h'.elim)) fun _ _ h' => h'.elim)
    cases ok with
    | false => exact wpAny_pure ⟨rfl, h₃⟩
    | true =>
      exact wpAny_bind (wpAny_bind (wpAny_mono h₃ (fun x s₄ h₄ => wpAny_bind (wpAny_mono h₄ (fun _ s₅ h₅ => wpAny_pure (wpAny_pure ⟨rfl, h₅⟩)) fun _ _ h' => h'.elim)) fun _ _ h' => h'.elim))
end

/-! ### the closure -/
def clAcc (env : Env) (cs : List (Str × Addr)) : List (Str × NameKind) → List (Str × Addr)
  | [] => cs
  | (n, k) :: r => clAcc env (if k == .free then (n, (env.cells.lookup n).getD 0) :: cs else cs) r
abbrev clOf (scope : Scope) (env : Env) : List (Str × Addr) := clAcc env [] scope.names
theorem closure_of {scope : Scope} {env : Env} (h : ∀ y ∈ scope.names, y.2 = .free → ∃ c, env.cells.lookup y.1 = some c) : closureFor scope env = pure (clOf scope env) := by
  have go : ∀ (l : List (Str × NameKind)) (cs : List (Str × Addr)), (∀ y ∈ l, y.2 = .free → ∃ c, env.cells.lookup y.1 = some c) →
      (forIn l cs fun (x : Str × NameKind) (r : List (Str × Addr)) => match x with
        | (name, kind) => if (kind == .free) = true then do let c ← cellOf env name; pure (ForInStep.yield ((name, c) :: r)) else pure (ForInStep.yield r) : Sem (List (Str × Addr))) = pure (clAcc env cs l) := by
    intro l
    induction l with
    | nil => intro cs _; rfl
    | cons y l ih =>
      intro cs hy
      obtain ⟨n, k⟩ := y
      rw [List.forIn_cons]
      cases hk : (k == NameKind.free) with
      | true =>
        obtain ⟨c, hc⟩ := hy (n, k) List.mem_cons_self (by simpa using hk)
        have e : cellOf env n = pure c := by unfold cellOf; rw [show env.cells.lookup n = some c from hc]
        simp only [if_true, e, pure_bind, clAcc, hk, show env.cells.lookup n = some c from hc, Option.getD_some]
        exact ih _ fun z hz => hy z (List.mem_cons_of_mem _ hz)
      | false =>
        simp only [if_false, Bool.false_eq_true, pure_bind, clAcc, hk]
        exact ih _ fun z hz => hy z (List.mem_cons_of_mem _ hz)
  unfold closureFor
  have := go scope.names [] h
  simp only [bind_pure_comp, pure_bind] at this ⊢
  first | exact this | (rw [this]; rfl) | (simpa using this)
theorem clAcc_look {env : Env} {y : Str} {c : Addr} : ∀ {l : List (Str × NameKind)} {cs : List (Str × Addr)}, (clAcc env cs l).lookup y = some c → cs.lookup y = some c ∨ ((y, NameKind.free) ∈ l ∧ c = (env.cells.lookup y).getD 0)
  | [], cs, h => .inl h
  | (n, k) :: r, cs, h => by
    rcases clAcc_look (l := r) h with h1 | ⟨h1, e⟩
    · cases hk : (k == NameKind.free) with
      | true =>
        rw [hk, if_pos rfl, List.lookup_cons] at h1
        cases hy : y == n with
        | true =>
          rw [hy] at h1
          have e1 : y = n := by simpa using hy
          have e2 : k = .free := by simpa using hk
          subst e1 e2
          exact .inr ⟨List.mem_cons_self, (Option.some.inj h1).symm⟩
        | false => rw [hy] at h1; exact .inl h1
      | false => rw [hk] at h1; exact .inl (by simpa using h1)
    · exact .inr ⟨List.mem_cons_of_mem _ h1, e⟩
theorem clAcc_has {env : Env} {y : Str} : ∀ {l : List (Str × NameKind)} {cs : List (Str × Addr)}, ((y, NameKind.free) ∈ l ∨ ∃ c, cs.lookup y = some c) → ∃ c, (clAcc env cs l).lookup y = some c
  | [], cs, h => h.elim (fun z => by cases z) id
  | (n, k) :: r, cs, h => by
    refine clAcc_has (l := r) ?_
    rcases h with h | ⟨c, h⟩
    · rcases List.mem_cons.mp h with e | h
      · cases e
        exact .inr ⟨(env.cells.lookup y).getD 0, by rw [if_pos (by decide), List.lookup_cons]; simp⟩
      · exact .inl h
    · refine .inr ?_
      cases hk : (k == NameKind.free) with
      | false => exact ⟨c, by simpa using h⟩
      | true =>
        rw [if_pos rfl, List.lookup_cons]
        cases hy : y == n with
        | true => exact ⟨_, rfl⟩
        | false => exact ⟨c, h⟩

theorem lookup_mem {y : Str} {k : NameKind} : ∀ {l : List (Str × NameKind)}, l.lookup y = some k → (y, k) ∈ l
  | [], h => by cases h
  | (n, k') :: r, h => by
    rw [List.lookup_cons] at h
    cases hy : y == n with
    | true =>
      rw [hy] at h
      have e1 : y = n := by simpa using hy
      subst e1
      cases h
      exact List.mem_cons_self
    | false => rw [hy] at h; exact List.mem_cons_of_mem _ (lookup_mem h)
/-- a comprehension's scope within a def's: x its own names, those of N2 the def's -/
structure CompIn (fsc scope : Scope) (x : List Str) (N2 : List Str) : Prop where
  kind : scope.kind = .function
  fkind : fsc.kind = .function
  own : ∀ z ∈ x, scope.names.lookup z = some .local
  nocell : ∀ y ∈ scope.names, y.2 ≠ .cell
  locs : ∀ y ∈ scope.names, y.2 = .local → scope.names.lookup y.1 = some .local
  xfree : ∀ y ∈ scope.names, y.2 = .free → ¬ y.1 ∈ x
  cells : ∀ y ∈ scope.names, y.2 = .free → fsc.names.lookup y.1 = some .cell
  nd : (x ++ N2).Nodup
  cap : ∀ y ∈ N2, scope.names.lookup y = some .free
theorem relabel_free {env : Env} (hk : env.scope.kind = .function) : ∀ {names : List (Str × NameKind)} {y : Str}, names.lookup y = some .free → env.kindOf y = some .cell →
    (names.map fun (n, k) => if (k == NameKind.free && env.scope.kind == .function && env.kindOf n == some .cell) then (n, NameKind.cell) else (n, k)).lookup y = some .cell
  | [], _, h, _ => by simp at h
  | (n, k) :: r, y, h, hc => by
    have ih := @relabel_free env hk r y
    show List.lookup y ((if (k == NameKind.free && env.scope.kind == .function && env.kindOf n == some .cell) = true then (n, NameKind.cell) else (n, k)) :: _) = _
    cases hy : y == n with
    | true =>
      have e1 : y = n := by simpa using hy
      subst e1
      simp only [List.lookup_cons, hy] at h
      cases h
      simp [hk, hc]
    | false =>
      simp only [List.lookup_cons, hy] at h
      by_cases hq : (k == NameKind.free && env.scope.kind == .function && env.kindOf n == some .cell) = true
      · rw [if_pos hq]; simp only [List.lookup_cons, hy]; exact ih h hc
      · rw [if_neg hq]; simp only [List.lookup_cons, hy]; exact ih h hc
theorem relabel_has {scope : Scope} {env : Env} {y : Str} (hn : ∀ z ∈ scope.names, z.2 ≠ .cell) (h : (relabel scope env).names.lookup y = some .cell ∨ (relabel scope env).names.lookup y = some .free) : (y, NameKind.free) ∈ scope.names := by
  have go : ∀ {k : NameKind}, (y, k) ∈ (relabel scope env).names → k = .cell ∨ k = .free → (y, NameKind.free) ∈ scope.names := fun {k} hm hk => by
    obtain ⟨⟨n, k0⟩, hz, e⟩ := List.mem_map.mp hm
    dsimp only at e
    split at e
    · rename_i hq
      have e1 : n = y := congrArg Prod.fst e
      rw [Bool.and_eq_true, Bool.and_eq_true] at hq
      have e2 : k0 = .free := by simpa using hq.1.1
      rw [← e1, ← e2]; exact hz
    · have e1 : n = y := congrArg Prod.fst e
      have e2 : k0 = k := congrArg Prod.snd e
      rcases hk with rfl | rfl
      · exact absurd e2 (hn _ hz)
      · rw [← e1, ← e2]; exact hz
  rcases h with h | h
  · exact go (lookup_mem h) (.inl rfl)
  · exact go (lookup_mem h) (.inr rfl)

/-- the values of the names at js -/
def capt (σ : St) (js : List Nat) : St := js.map fun j => (σ[j]?).join
/-- the context of a comprehension's block -/
abbrev Cx.blk (X : Cx) (scope : Scope) (N : List Str) (x : List Str) (s : Shared) (H : Hp) (C : Addr) (ex : List Addr) : Cx :=
  { X with N := N, s₀ := s, H₀ := H, env := compEnvC scope (clOf scope X.env) C X.env, outer := X.stack, ex := ex, fn := fun y => x.contains y, pn := [], xe := fun _ _ => False }
/-- what a comprehension wants, behind its iterable; W: by the turn, a measure, the items so far -/
def CompW (J : It) (cap : St) (tt : TT) (te : TE) (H1 : Hp) (Q : VK) : Prop :=
  ∃ W : Nat → Nat → List V → Hp → Prop, (∃ m, W 0 m [] H1) ∧ ∀ i m ys H, W i m ys H → ys.length ≤ sizeLine ∧
    ((J.stop i H ∧ ∀ p, H p = none → Q (.ref p) (upd H p (.lst ys))) ∨
     (J.go i H ∧ ∀ x H', J.yld i H x H' → tt (some x :: cap) H' fun b H2 => if b = true then te (some x :: cap) H2 fun y H3 => ∃ m', m' < m ∧ W (i + 1) m' (ys ++ [y]) H3 else ∃ m', m' < m ∧ W (i + 1) m' ys H2))
def tComp (js : List Nat) (wi : TI) (tt : TT) (te : TE) : TE := fun σ H Q => wi σ H fun J H1 => CompW J (capt σ js) tt te H1 Q
/-- the tests of a comprehension -/
def PIfs (X : Cx) (ifs : List Expr) (tt : TT) : Prop :=
  ∀ (pins : List (Addr × Obj)) (s : Shared) (σ : St) (H : Hp) (Q : Bool → Hp → Prop), Inv X pins σ H s → tt σ H Q →
    wpAny (model X.prog X.w) X.A (forIn ifs true fun c r => if r = true then do let ok ← isTrue c X.env (eval c X.env); pure (ForInStep.yield ok) else pure (ForInStep.yield r)) (TP X pins σ Q) X.xe s
def tYes : TT := fun _ H Q => Q true H
theorem pifs_nil {X : Cx} : PIfs X [] tYes := fun pins s σ H Q I h => wpAny_tests_nil ⟨H, I, h⟩
section
variable {X : Cx} {pins : List (Addr × Obj)} {σ : St} {H : Hp} {s : Shared} {scope fsc : Scope} {x : List Str} {N2 : List Str} {js : List Nat} {fp : List Addr} {C : Addr}
theorem cl_sub (S : CompIn fsc scope x N2) (hf : X.env.scope = fsc) (ok : X.Ok) {y : Str} {c : Addr} (e : (clOf scope X.env).lookup y = some c) : X.env.cells.lookup y = some c := by
  rcases clAcc_look e with z | ⟨z, e2⟩
  · cases z
  · obtain ⟨c', hc⟩ := ok.has y (.inl (show X.env.scope.names.lookup y = some .cell by rw [hf]; exact S.cells _ z rfl))
    rw [hc] at e2
    rw [hc, e2]; rfl
theorem blk_ok (S : CompIn fsc scope x N2) (hf : X.env.scope = fsc) (I : Inv X pins σ H s) (hC : s.heap.objs.size ≤ C) (f : ∀ b ∈ fp, FpOk X pins H b) (ho : ∀ b ∈ fp, ∃ o, s.heap.get? b = some o) : (X.blk scope (x ++ N2) x s H C fp).Ok where
  mod := I.ok.mod
  kind := S.kind
  glob := I.ok.glob
  blt := I.ok.blt
  above := hC
  inj := fun y z c e1 e2 => I.ok.inj y z c (cl_sub S hf I.ok e1) (cl_sub S hf I.ok e2)
  has := fun y h => clAcc_has (.inl (relabel_has S.nocell h))
  cab := fun y c h e => by
    have ey : y ∈ x := by simpa using h
    rcases clAcc_look e with z | ⟨z, _⟩
    · cases z
    · exact absurd ey (S.xfree _ z rfl)
  hd := I.ok.hd
  frames := I.ok.frames
  stk := .inl rfl
  exf := fun b hb => by
    obtain ⟨o, e⟩ := ho b hb
    exact ⟨Nat.ne_of_lt (Nat.lt_of_lt_of_le (Heap.lt_size e) hC), fun y c ec => (f b hb).2.2.2.2.1 y c (cl_sub S hf I.ok ec)⟩
  bs := I.bs
  bsz := Nat.le_trans I.ok.bsz I.sz
  noex := fun b o e hb => by
    rcases (f b hb).2.2.2.1 with z | z
    · exact I.ok.noex b o e z
    · exact absurd (Nat.lt_of_lt_of_le (Heap.lt_size e) (Nat.le_trans I.ok.bsz z)) (Nat.lt_irrefl _)
  exfs := fun b hb hm => by
    rcases List.mem_cons.mp (I.stkSub b hm) with z | z
    · exact (f b hb).2.1 z
    · exact (f b hb).2.2.1 z
  funs := I.stack
  frf := I.stkFree
theorem blk_inv (S : CompIn fsc scope x N2) (hf : X.env.scope = fsc) (hjs : js.map (fun j => X.N[j]?) = N2.map some) (I : Inv X pins σ H s) (hC : s.heap.objs.size ≤ C) (f : ∀ b ∈ fp, FpOk X pins H b) (ho : ∀ b ∈ fp, ∃ o, s.heap.get? b = some o)
    {h' : Heap} {t' : Nat} {m : Str → Option Value} (hm : h'.Ns C m) (k : ∀ b o, s.heap.get? b = some o → h'.get? b = some o) : Inv (X.blk scope (x ++ N2) x s H C fp) [] (List.replicate x.length none ++ capt σ js) H { s with heap := h', toks := t' } where
  ok := blk_ok S hf I hC f ho
  os := rfl
  bare := I.bare
  base := Un.kept k
  loc := ⟨m, hm, fun i y v e1 e2 e3 => by
    by_cases hi : i < x.length
    · have e2 : (List.replicate x.length none ++ capt σ js)[i]? = some (some v) := e2
      rw [List.getElem?_append_left (by rw [List.length_replicate]; exact hi), List.getElem?_replicate, if_pos hi] at e2
      cases e2
    · have e1 : (x ++ N2)[i]? = some y := e1
      have e2 : (List.replicate x.length none ++ capt σ js)[i]? = some (some v) := e2
      rw [List.getElem?_append_right (by omega)] at e1
      rw [List.getElem?_append_right (by rw [List.length_replicate]; omega), List.length_replicate] at e2
      generalize i - x.length = i at e1 e2
      unfold capt at e2
      rw [List.getElem?_map] at e2
      obtain ⟨j, hj, e2⟩ := Option.map_eq_some_iff.mp e2
      have e4 : X.N[j]? = some y := by
        have q := congrArg (fun l => l[i]?) hjs
        simp only [List.getElem?_map, hj, e1, Option.map_some] at q
        exact Option.some.inj q
      have hy : y ∈ N2 := List.mem_of_getElem? e1
      have hfree := S.cap y hy
      have hcell : X.env.scope.names.lookup y = some .cell := by rw [hf]; exact S.cells _ (lookup_mem hfree) rfl
      have e5 : σ[j]? = some (some v) := by
        cases q : σ[j]? with
        | none => rw [q] at e2; cases e2
        | some o => rw [q] at e2; have : o = some v := e2; rw [this]
      obtain ⟨m0, _, hl⟩ := I.loc
      obtain ⟨u, r, l⟩ := hl j y v e4 e5 (.inr (.inl hcell))
      refine ⟨u, r, .inr ⟨.inl (relabel_free (by rw [hf]; exact S.fkind) hfree hcell), ?_⟩⟩
      rcases l with ⟨z, _⟩ | ⟨_, c, ec, o, eo, ed⟩
      · have z' : X.env.scope.names.lookup y = some .local := z
        rw [hcell] at z'; cases z'
      · obtain ⟨c', hc'⟩ := clAcc_has (env := X.env) (cs := []) (.inl (lookup_mem hfree))
        have e6 := cl_sub S hf I.ok hc'
        rw [ec] at e6; cases e6
        exact ⟨c, hc', o, k _ _ eo, ed⟩⟩
  cell := fun y c e => by
    obtain ⟨v, o, eo, ed⟩ := I.cell y c (cl_sub S hf I.ok e)
    exact ⟨v, o, k _ _ eo, ed⟩
  free := I.hok.fresh hC
  freeC := fun y c e => I.freeC y c (cl_sub S hf I.ok e)
  pin := fun p hp => by simp at hp
  hok := I.hok.kept k
  len := by
    have q := congrArg List.length hjs
    simp only [List.length_map] at q
    simp [capt, q]

/-- what a comprehension wants, behind its iterable; k names of its own, laid by g -/
def CompWG (J : It) (k : Nat) (g : TG) (cap : St) (tt : TT) (te : TE) (H1 : Hp) (Q : VK) : Prop :=
  ∃ W : Nat → Nat → List V → Hp → Prop, (∃ m, W 0 m [] H1) ∧ ∀ i m ys H, W i m ys H → ys.length ≤ sizeLine ∧
    ((J.stop i H ∧ ∀ p, H p = none → Q (.ref p) (upd H p (.lst ys))) ∨
     (J.go i H ∧ ∀ x H', J.yld i H x H' → ∀ os : St, os.length = k → g x (os ++ cap) H' fun σ2 H2 => (∃ os' : St, os'.length = k ∧ σ2 = os' ++ cap) ∧
       tt σ2 H2 fun b H3 => if b = true then te σ2 H3 fun y H4 => ∃ m', m' < m ∧ W (i + 1) m' (ys ++ [y]) H4 else ∃ m', m' < m ∧ W (i + 1) m' ys H3))
theorem compW_G {J : It} {cap : St} {tt : TT} {te : TE} {H1 : Hp} {Q : VK} (h : CompW J cap tt te H1 Q) : CompWG J 1 (gName 0) cap tt te H1 Q := by
  obtain ⟨W, w0, turn⟩ := h
  refine ⟨W, w0, fun i m ys H hw => ?_⟩
  obtain ⟨hz, alt⟩ := turn i m ys H hw
  refine ⟨hz, alt.imp id fun ⟨go, step⟩ => ⟨go, fun x H' hy os ho => ?_⟩⟩
  match os, ho with
  | [o], _ => exact ⟨⟨[some x], rfl, rfl⟩, step x H' hy⟩
abbrev g2 (K : PySem.W.Frag) : TG := gTup K 2 (gCons (gName 0) (gCons (gName 1) gNil))
theorem same_get {C : Addr} {h h' : Heap} (hs : Heap.SameBut C h h') {b : Addr} {o : Obj} (hb : b ≠ C) (e : h.get? b = some o) : h'.get? b = some o := (hs.2 b hb).trans e
/-- behind the block: the list at D is ours -/
theorem blk_end {Y : Cx} {pl : List (Addr × Obj)} {σ' : St} {H3 : Hp} {s4 : Shared} {h' : Heap} {D : Addr} {ys : List V} {its : List Value} {n : Nat} (I : Inv X pins σ H s) (f : ∀ b ∈ fp, FpOk X pins H b)
    (hY : Y = X.blk scope (x ++ N2) x s H C fp) (hC : s.heap.objs.size ≤ C) (hD : s.heap.objs.size ≤ D) (hDC : D ≠ C) (I4 : Inv Y pl σ' H3 s4) (hs : Heap.SameBut C s4.heap h') (hD3 : H3 D = none)
    (eD : s4.heap.get? D = some { cls := .type "list", data := .seq its.toArray n }) (rv : Vals ys its) (hz : ys.length ≤ sizeLine) : Inv X pins σ (upd H3 D (.lst ys)) { s4 with heap := h' } := by
  subst hY
  have ne : ∀ b o, s.heap.get? b = some o → b ≠ C := fun b o e => Nat.ne_of_lt (Nat.lt_of_lt_of_le (Heap.lt_size e) hC)
  have neD : ∀ b o, s.heap.get? b = some o → b ≠ D := fun b o e => Nat.ne_of_lt (Nat.lt_of_lt_of_le (Heap.lt_size e) hD)
  have fC : H3 C = none := I4.free
  have un : Un (frs X.stack) fp H H3 s.heap h' := ⟨fun b o e n hb hx => same_get hs (ne b o e) (I4.base.keep b o e n hb hx), fun b o e n hb hx => by
      obtain ⟨sl, e1⟩ := I4.base.slot b o e n hb hx
      exact ⟨sl, same_get hs (ne b o e) e1⟩, I4.base.free, fun b o e hx => by
      obtain ⟨o', e1⟩ := I4.base.there b o e hx
      exact ⟨o', same_get hs (ne b o e) e1⟩, I4.base.tups, I4.base.frzs, I4.base.tbls⟩
  have hok : HOk X.prog X.w H3 h' := fun b ob e => (I4.hok b ob e).stay (fun c w' hc q => by
    refine (hs.2 c ?_).trans q
    rintro rfl
    rcases hc with rfl | hc
    · rw [fC] at e; cases e
    · rw [fC] at hc; cases hc) (fun _ q => q) fun _ _ q => q
  have I6 : Inv X pins σ H3 { s4 with heap := h' } := I.call' (ch := fp) I4.os un hok I4.bare fun b hb => ⟨(f b hb).2.2.2.1, (f b hb).2.1, (f b hb).2.2.2.2.1, (f b hb).2.2.2.2.2⟩
  have h0 : X.s₀.heap.get? D = none := by
    cases z : X.s₀.heap.get? D with
    | none => rfl
    | some o => exact absurd (Nat.lt_of_lt_of_le (Heap.lt_size z) (Nat.le_trans I.sz hD)) (Nat.lt_irrefl _)
  exact I6.adopt (a := D) (o := .lst ys) hD3 ⟨hz, its, n, rv, same_get hs hDC eD⟩ h0 (Ne.symm (Nat.ne_of_lt (Nat.lt_of_lt_of_le I.lt hD))) (fun y c ec z => by
    obtain ⟨v, o, eo, _⟩ := I.cell y c ec
    exact neD c o eo z) fun p hp z => neD p.1 p.2 (I.pin p hp).1 z
theorem comp_core {elt iter tg : Expr} {pos p0 : Pos} {g : TG} {CW : It → Hp → Prop} {ifs : List Expr} {wi : TI} {tt : TT} {te : TE} {use : Option (Value → Sem Unit)} {R : Value → Shared → Prop} {Q : VK} (S : CompIn fsc scope x N2) (hf : X.env.scope = fsc) (hjs : js.map (fun j => X.N[j]?) = N2.map some) (hc : X.calm = true) (hi : PI X tg iter wi) (hg : ∀ s H C ex, PG (X.blk scope (x ++ N2) x s H C ex) tg g)
    (ht : ∀ s H C ex, PIfs (X.blk scope (x ++ N2) x s H C ex) ifs tt) (he : ∀ s H C ex, PE (X.blk scope (x ++ N2) x s H C ex) elt te) (hs : ∀ v, foldedSetIterable iter X.env v = pure v) (I : Inv X pins σ H s) (hCW : ∀ J H1, CW J H1 → CompWG J x.length g (capt σ js) tt te H1 Q) (h : wi σ H CW)
    (fin : ∀ (fp : List Addr) (s2 s4 : Shared) (H2 H3 : Hp) (C D : Addr) (Y : Cx) (pl : List (Addr × Obj)) (σ' : St) (ys : List V) (its : List Value) (n : Nat), Inv X pins σ H2 s2 → (∀ b ∈ fp, FpOk X pins H2 b) → Y = X.blk scope (x ++ N2) x s2 H2 C fp → s2.heap.objs.size ≤ C → s2.heap.objs.size ≤ D → D ≠ C →
      Inv Y pl σ' H3 s4 → H3 D = none → s4.heap.get? D = some { cls := .type "list", data := .seq its.toArray n } → Vals ys its → ys.length ≤ sizeLine → Q (.ref D) (upd H3 D (.lst ys)) → compPost (model X.prog X.w) X.A X.xe use R (.ref D) C (.ok .next) s4) :
    wpAny (model X.prog X.w) X.A (comprehension (.ListComp elt [⟨tg, iter, ifs, 0⟩] scope pos) scope X.env p0 (newList []) false (eval iter X.env) use) R X.xe s := by
  refine wpAny_comprehension_free (use := use) (cl := clOf scope X.env) rfl hs (closure_of fun y hy e => I.ok.has y.1 (.inl (show X.env.scope.names.lookup y.1 = some .cell by rw [hf]; exact S.cells y hy e))) S.kind S.locs ?_
  refine wpAny_mono (hi pins s σ H _ I h) (fun v s1 h1 => wpAny_mono h1 (fun itv s2 h2 => ?_) fun _ _ z => z) fun _ _ z => z
  obtain ⟨it, fp, tn, J, H2, e, I2, T, st2, f2, hcw⟩ := h2
  obtain ⟨W, ⟨m0, w0⟩, turn⟩ := hCW _ _ hcw
  subst e
  have ho2 : ∀ b ∈ fp, ∃ o, s2.heap.get? b = some o := fun b hb => let ⟨o, e, _⟩ := T.obj _ _ st2 b hb; ⟨o, e⟩
  refine wpAny_newObj_type (wpAny_newFunctionEnv S.nocell (by intro y hy; simp at hy) (fun h₁ hns₁ hsb₁ => ?_) S.kind)
  dsimp only at hns₁ hsb₁ ⊢
  generalize hH2 : s2.heap.push { cls := .type "list", dict := none, data := .seq ([] : List Value).toArray } = G at hns₁ hsb₁ ⊢
  have hGs : G.objs.size = s2.heap.objs.size + 1 := by rw [← hH2, Heap.size_push]
  generalize hCe : G.objs.size = C at hns₁ hsb₁ ⊢
  have hCs : C = s2.heap.objs.size + 1 := hCe.symm.trans hGs
  generalize hDe : s2.heap.objs.size = D at *
  have hC : s2.heap.objs.size ≤ C := by omega
  have hDC : D ≠ C := by omega
  have leDC : D ≤ C := by omega
  have old : ∀ b o, s2.heap.get? b = some o → h₁.get? b = some o := fun b o e => by
    have hb : b < D := hDe ▸ Heap.lt_size e
    exact hsb₁.extBut b o (Nat.ne_of_lt (Nat.lt_of_lt_of_le hb leDC)) (Heap.get?_push_of_some _ (hH2 ▸ Heap.get?_push_of_some _ e))
  have eD1 : h₁.get? D = some { cls := .type "list", data := .seq ([] : List Value).toArray } := by
    refine hsb₁.extBut _ _ hDC (Heap.get?_push_of_some _ ?_)
    rw [← hH2, ← hDe]
    exact Heap.get?_push_size _ rfl
  have I4 := blk_inv (C := C) (h' := h₁) (t' := s2.toks + ([] : List (Str × Value)).length) S hf hjs I2 hC f2 ho2 hns₁ old
  generalize hY : X.blk scope (x ++ N2) x s2 H2 C fp = Y at I4
  have hYA : Y.A = X.A := by rw [← hY]
  have hYp : Y.prog = X.prog := by rw [← hY]
  have hYw : Y.w = X.w := by rw [← hY]
  have hYK : Y.K = X.K := by rw [← hY]
  have hYc : Y.calm = true := by rw [← hY]; exact hc
  have hYL : Y.env.locals = C := hY ▸ rfl
  have hYx : Y.xe = fun _ _ => False := by rw [← hY]
  have hYe : Y.env = compEnvC scope (clOf scope X.env) C X.env := by rw [← hY]
  have hYs : Y.s₀.heap.objs.size = D := by rw [← hY]; exact hDe
  have hYpn : Y.pn = [] := by rw [← hY]
  have fpD : ∀ b ∈ fp, b < D := fun b hb => by
    obtain ⟨o, e⟩ := ho2 b hb
    exact hDe ▸ Heap.lt_size e
  have cel : ∀ y c, Y.env.cells.lookup y = some c → X.env.cells.lookup y = some c := fun y c e => by
    rw [hYe] at e
    exact cl_sub S hf I2.ok e
  have celD : ∀ y c, Y.env.cells.lookup y = some c → c ≠ D := fun y c e z => by
    obtain ⟨v, o, eo, _⟩ := I2.cell y c (cel y c e)
    have q := Heap.lt_size eo
    rw [hDe, z] at q
    exact Nat.lt_irrefl _ q
  have Dfs : D ∉ Y.fs := by
    rw [← hY]
    intro hm
    obtain ⟨_, o, eo, _⟩ := I2.stack.mem hm
    have q := Heap.lt_size eo
    rw [hDe] at q
    exact Nat.lt_irrefl _ q
  -- the iterator's objects
  have stat : ∀ {H' : Hp} {pl : List (Addr × Obj)}, (∀ b ∈ fp, H' b = none) → (∀ p ∈ pl, p.1 = D) → ∀ b ∈ fp, FpOk Y pl H' b := fun {H' pl} hn hp b hb => by
    refine ⟨hn b hb, by rw [hYL]; exact Nat.ne_of_lt (Nat.lt_of_lt_of_le (fpD b hb) leDC), ?_, .inl (by rw [← hY]; exact hb), fun y c e => (f2 b hb).2.2.2.2.1 y c (cel y c e), fun p hm => ?_⟩
    · rw [← hY]
      intro hm
      rcases List.mem_cons.mp (I2.stkSub b hm) with z | z
      · exact (f2 b hb).2.1 z
      · exact (f2 b hb).2.2.1 z
    · rw [hYpn, List.nil_append] at hm
      rw [hp p hm]
      exact (Nat.ne_of_lt (fpD b hb)).symm
  have pinD : ∀ {σ' : St} {H' : Hp} {s' : Shared} {o : Obj}, Inv Y [] σ' H' s' → s'.heap.get? D = some o → (∀ v, o.data ≠ .cell v) → H' D = none → Inv Y [(D, o)] σ' H' s' := fun {σ' H' s' o} Iy e d n =>
    Iy.pins_of fun p hp => by
      rw [List.mem_singleton] at hp
      subst hp
      exact ⟨e, n, by rw [hYL]; exact hDC, Dfs, d⟩
  have pg : PG Y tg g := by rw [← hY]; exact hg _ _ _ _
  have ht' : PIfs Y ifs tt := by rw [← hY]; exact ht _ _ _ _
  have he' : PE Y elt te := by rw [← hY]; exact he _ _ _ _
  have loop : ∀ s₃ : Shared, s₃ = { s2 with heap := h₁, toks := s2.toks + ([] : List (Str × Value)).length } →
      codeAny (model X.prog X.w) X.A (.compLoop (.ListComp elt [⟨tg, iter, ifs, 0⟩] scope pos) 0 (.ref it) (.ref D) (compEnvC scope (clOf scope X.env) C X.env))
        (compPost (model X.prog X.w) X.A X.xe use R (.ref D) C) s₃ := by
    rintro s₃ rfl
    refine codeAny_compLoop_any (fun n s' => ∃ i ys os its k H', List.length os = x.length ∧ Inv Y [] (os ++ capt σ js) H' s' ∧ tn i s'.heap ∧ (∀ b ∈ fp, H' b = none) ∧ H' D = none ∧ s'.heap.get? D = some { cls := .type "list", data := .seq (its : List Value).toArray k } ∧ Vals ys its ∧ W i n ys H') ?_ m0
      ⟨0, [], List.replicate x.length none, [], 0, H2, List.length_replicate, I4, T.keep _ _ _ st2 fun b _ o e => old b o e, fun b hb => (f2 b hb).1, I2.hok.fresh (by omega), eD1, .nil, w0⟩
    rintro n s3 ⟨i, ys, os, its, k, H3, hos, I3, st3, fr3, hD3, eD3, rv3, w3⟩
    obtain ⟨hz, alt⟩ := turn i n ys H3 w3
    have I3p := pinD I3 eD3 (fun v z => by cases z) hD3
    rcases alt with ⟨stop, q⟩ | ⟨go, step⟩
    · have h4 := T.done Y hYp hYw hYK hYc i _ s3 _ H3 (fun _ _ => False) I3p (stat fr3 fun p hp => by rw [List.mem_singleton] at hp; subst hp; rfl) st3 stop
      rw [hYA] at h4
      refine wpAny_mono h4 (fun r s4 ⟨hr, I4'⟩ => ?_) fun _ _ z => z
      subst hr
      have pD := I4'.pin (D, { cls := .type "list", data := .seq its.toArray k }) (List.mem_append_right _ (List.mem_singleton.mpr rfl))
      exact fin fp s2 s4 H2 H3 C D Y _ _ ys its k I2 f2 hY.symm hC (by omega) hDC I4' pD.2.1 pD.1 rv3 hz (q D pD.2.1)
    · have h4 := T.item Y hYp hYw hYK hYc i _ s3 _ H3 (fun _ _ => False) I3p (stat fr3 fun p hp => by rw [List.mem_singleton] at hp; subst hp; rfl) st3 go
      rw [hYA] at h4
      refine wpAny_mono h4 (fun r s4 ⟨u, hr, h4'⟩ => ?_) fun _ _ z => z
      subst hr
      refine wpAny_mono h4' (fun _ s5 ⟨xv, H5, I5, r5, y5, st5, fr5⟩ => ?_) fun _ _ z => z
      have I5' := I5.pinned (stat fr5 fun p hp => by rw [List.mem_singleton] at hp; subst hp; rfl) (T.obj _ _ st5)
      have keepT : ∀ {σ7 : St} {H7 : Hp} {s7 : Shared}, Inv Y ([(D, { cls := .type "list", data := .seq its.toArray k })] ++ pinsAt fp s5.heap) σ7 H7 s7 → tn (i + 1) s7.heap ∧ (∀ b ∈ fp, H7 b = none) ∧ H7 D = none ∧
          s7.heap.get? D = some { cls := .type "list", data := .seq its.toArray k } := fun {σ7 H7 s7} I7 => by
        have pD := I7.pin (D, { cls := .type "list", data := .seq its.toArray k }) (List.mem_append_right _ (List.mem_append_left _ (List.mem_singleton.mpr rfl)))
        refine ⟨T.keep _ _ _ st5 fun b hb o e => (I7.pin (b, o) (List.mem_append_right _ (List.mem_append_right _ (mem_pinsAt hb e)))).1, fun b hb => ?_, pD.2.1, pD.1⟩
        obtain ⟨o, e, d⟩ := T.obj _ _ st5 b hb
        exact (I7.pin (b, o) (List.mem_append_right _ (List.mem_append_right _ (mem_pinsAt hb e)))).2.1
      have h6 := pg _ s5 _ H5 xv u _ I5' r5 (step xv H5 y5 os hos)
      rw [hYA, hYe, hYp, hYw, hYx] at h6
      refine wpAny_mono h6 (fun _ s6 ⟨σ6, H6, I6, ⟨os', hos', e6⟩, q6⟩ => ?_) fun _ _ z => z
      subst e6
      have h7 := ht' _ s6 _ H6 _ I6 q6
      rw [hYA, hYe, hYp, hYw, hYx] at h7
      refine wpAny_mono h7 (fun b s7 ⟨H7, I7, q7⟩ => ?_) fun _ _ z => z
      cases b with
      | false =>
        rw [if_neg Bool.false_ne_true] at q7 ⊢
        obtain ⟨m', hm, w7⟩ := q7
        obtain ⟨k1, k2, k3, k4⟩ := keepT I7
        exact ⟨m', hm, i + 1, ys, os', its, k, H7, hos', I7.pins_of fun p hp => by simp at hp, k1, k2, k3, k4, rv3, w7⟩
      | true =>
        rw [if_pos rfl] at q7 ⊢
        have h8 := he' _ s7 _ H7 _ I7 q7
        rw [hYA, hYe, hYp, hYw, hYx] at h8
        refine wpAny_mono h8 (fun y s8 ⟨yv, H8, I8, r8, m', hm, w8⟩ => ?_) fun _ _ z => z
        obtain ⟨k1, k2, k3, k4⟩ := keepT I8
        refine wpAny_list_append_plain (l := D) (items := its.toArray) ⟨k, k4⟩ (fun h9 pl9 sb9 => ?_) (by rw [List.size_toArray, ← rv3.length]; exact hz)
        obtain ⟨k9, e9⟩ := pl9
        have I9 : Inv Y [] (os' ++ capt σ js) H8 { s8 with heap := h9 } := (I8.pins_of (pins' := []) fun p hp => by simp at hp).turned (it := D) (t' := s8.toks) (fun b o hb e => (sb9.2 b hb).trans e) k3 (by rw [hYL]; exact hDC)
          (.inr (by rw [hYs]; exact Nat.le_refl _)) celD (by rw [hYpn]; intro p hp; simp at hp)
        exact ⟨m', hm, i + 1, ys ++ [yv], os', its ++ [y], k9, H8, hos', I9, T.keep _ _ _ k1 fun b hb o e => (sb9.2 b (Nat.ne_of_lt (fpD b hb))).trans e, k2, k3, by rw [e9, List.push_toArray], rv3.snoc r8, w8⟩
  exact codeAny_compStart_list (loop _ rfl) (T.self _ 0 _ _ _ (T.keep _ _ _ st2 fun b _ o e => old b o e) (loop _ rfl))
theorem pg_own {x : Str} {px : Pos} (S : CompIn fsc scope [x] N2) {s : Shared} {H : Hp} {C : Addr} {ex : List Addr} : PG (X.blk scope (x :: N2) [x] s H C ex) (.Name x px) (gName 0) :=
  pg_name (i := 0) S.nd rfl (.inl (lookup_relabel_local (S.own x List.mem_cons_self))) (.inl (by show [x].contains x = true; simp))
theorem pe_comp {x : Str} {elt iter : Expr} {px pos : Pos} {ifs : List Expr} {wi : TI} {tt : TT} {te : TE} (S : CompIn fsc scope [x] N2) (hf : X.env.scope = fsc) (hjs : js.map (fun j => X.N[j]?) = N2.map some) (hc : X.calm = true) (hi : PI X (.Name x px) iter wi)
    (ht : ∀ s H C ex, PIfs (X.blk scope (x :: N2) [x] s H C ex) ifs tt) (he : ∀ s H C ex, PE (X.blk scope (x :: N2) [x] s H C ex) elt te) (hs : ∀ v, foldedSetIterable iter X.env v = pure v := by intro _; rfl) :
    PE X (.ListComp elt [⟨.Name x px, iter, ifs, 0⟩] scope pos) (tComp js wi tt te) := by
  intro pins s σ H Q I h
  rw [eval_ListComp]
  refine comp_core (x := [x]) (g := gName 0) (use := none) S hf hjs hc hi (fun _ _ _ _ => pg_own S) ht he hs I (fun _ _ => compW_G) h fun fp s2 s4 H2 H3 C D Y pl σ' ys its n I2 f2 hY hC hD hDC I4 hD3 eD rv hz q => ?_
  obtain ⟨m, hn, _⟩ := I4.loc
  rw [show Y.env.locals = C from hY ▸ rfl] at hn
  exact ⟨m, hn, fun h' hs' => ⟨.ref D, _, blk_end (scope := scope) (x := [x]) (N2 := N2) I2 f2 hY hC hD hDC I4 hs' hD3 eD rv hz, rfl, q⟩⟩
/-- name = a comprehension: the store comes ahead of its names' going -/
theorem ps_setcomp {x : Str} {elt iter : Expr} {px py pos spos : Pos} {ifs : List Expr} {wi : TI} {tt : TT} {te : TE} {i : Nat} {y : Str} (hN : X.N.Nodup) (hy : X.N[i]? = some y) (hl : Loc X.env.scope y)
    (S : CompIn fsc scope [x] N2) (hf : X.env.scope = fsc) (hjs : js.map (fun j => X.N[j]?) = N2.map some) (hc : X.calm = true) (hi : PI X (.Name x px) iter wi)
    (ht : ∀ s H C ex, PIfs (X.blk scope (x :: N2) [x] s H C ex) ifs tt) (he : ∀ s H C ex, PE (X.blk scope (x :: N2) [x] s H C ex) elt te) (hs : ∀ v, foldedSetIterable iter X.env v = pure v := by intro _; rfl)
    (hsw : swapsWith (.ListComp elt [⟨.Name x px, iter, ifs, 0⟩] scope pos) (some (.Name y py)) spos.line X.env = pure true := by rfl)
    (hfn : X.fn y = true ∨ X.env.scope.names.lookup y = some .local := by first | exact .inl rfl | exact .inr rfl | assumption) :
    PS X (.Assign [.Name y py] (.ListComp elt [⟨.Name x px, iter, ifs, 0⟩] scope pos) spos) (tAsg (tComp js wi tt te) (gName i)) := by
  intro pins s σ H Dn I h
  rw [exec_Assign_Name_used _ _ _ _ hsw]
  refine wpAny_bind (wpAny_standAt (wpAny_bind ?_))
  show wpAny _ _ (do let _ ← comprehension (.ListComp elt [⟨.Name x px, iter, ifs, 0⟩] scope pos) scope X.env _ (newList []) false (eval iter X.env) (some (assign (.Name y py) X.env))) _ _ s
  refine wpAny_bind (wpAny_mono (comp_core (x := [x]) (g := gName 0) (use := some (assign (.Name y py) X.env)) (R := fun _ s' => SP X pins Dn .next s') S hf hjs hc hi (fun _ _ _ _ => pg_own S) ht he hs I (fun _ _ => compW_G) h fun fp s2 s4 H2 H3 C D Y pl σ' ys its n I2 f2 hY hC hD hDC I4 hD3 eD rv hz q => ?_)
    (fun _ s' hq => wpAny_pure (wpAny_pure hq)) fun _ _ e => e)
  show wpAny _ _ (assign (.Name y py) X.env (.ref D)) _ _ s4
  have I7 : Inv X pins σ (upd H3 D (.lst ys)) s4 := blk_end (scope := scope) (x := [x]) (N2 := N2) (h' := s4.heap) I2 f2 hY hC hD hDC I4 (Heap.SameBut.refl ..) hD3 eD rv hz
  have nC : ∀ b o, s2.heap.get? b = some o → b ≠ C := fun b o e => Nat.ne_of_lt (Nat.lt_of_lt_of_le (Heap.lt_size e) hC)
  have cC : ∀ z c, X.env.cells.lookup z = some c → c ≠ C := fun z c e => by
    obtain ⟨v, o, eo, _⟩ := I2.cell z c e
    exact nC c o eo
  have lC : X.env.locals ≠ C := Nat.ne_of_lt (Nat.lt_of_lt_of_le I2.lt hC)
  obtain ⟨m, hn, _⟩ := I4.loc
  have eL : Y.env.locals = C := hY ▸ rfl
  have fC : upd H3 D (HO.lst ys) C = none := by rw [upd_ne (Ne.symm hDC)]; exact eL ▸ I4.free
  rw [eL] at hn
  refine wpAny_assign_Name (store_ok2 I7 hN hy hl (v := .ref D) rfl (fun s'' I8 ⟨a, sb, ha⟩ => ?_) hfn)
  have na : C ≠ a := by
    rcases ha with rfl | ha
    · exact Ne.symm lC
    · exact Ne.symm (cC _ _ ha)
  refine ⟨m, hn.sameBut sb na, fun h' hs' => ⟨_, _, I8.turned (it := C) (t' := s''.toks) (fun b o hb e => (hs'.2 b hb).trans e) fC (Ne.symm lC) (.inr (Nat.le_trans I2.sz hC)) cC fun p hp => ?_, q⟩⟩
  exact nC p.1 p.2 (I2.pin p hp).1
end
end L2

/-! LR: range with a step; a list unpacked into names; a tuple written out and walked. -/
namespace L2
open PySem PySem.Spec PyProof.Rows

/-! ### range(a, b, c), c > 0 -/
section
variable {X : Cx} {tg : Expr}
/-! ### a, b, c = a list -/
end
end L2

/-! LE: == of lists and tuples, deep; isinstance by a tuple of classes; forms of comprehensions. -/
namespace L2
open PySem PySem.Spec PyProof.Rows

/-! ### equality -/
/-- the answers of pairs, one behind the other -/
def allO : List (Option Bool) → Option Bool
  | [] => some true
  | none :: _ => none
  | some b :: r => (allO r).map fun c => b && c
/-- == of two values, so deep; lists beside lists, tuples beside tuples, flat values else -/
def deq (H : Hp) : Nat → V → V → Option Bool
  | 0, x, y => if flatV x = true ∧ flatV y = true then some (eqV x y) else none
  | d + 1, x, y => match x, y with
    | .ref a, .ref b => (match H a, H b with
      | some (.lst xs), some (.lst ys) => if xs.length = ys.length then allO (List.zipWith (deq H d) xs ys) else some false
      | some (.tup xs), some (.tup ys) => if xs.length = ys.length then allO (List.zipWith (deq H d) xs ys) else none
      | _, _ => none)
    | x, y => if flatV x = true ∧ flatV y = true then some (eqV x y) else none
theorem allO_at {l : List (Option Bool)} {b : Bool} : allO l = some b → ∃ e : Nat → Bool, (∀ j o, l[j]? = some o → o = some (e j)) ∧ (List.range l.length).all e = b := by
  induction l generalizing b with
  | nil => intro h; cases h; exact ⟨fun _ => true, fun j o z => by simp at z, rfl⟩
  | cons o r ih =>
    intro h
    cases o with
    | none => cases h
    | some b0 =>
      obtain ⟨c, hc, rfl⟩ := Option.map_eq_some_iff.mp h
      obtain ⟨e, h1, h2⟩ := ih hc
      refine ⟨fun j => match j with | 0 => b0 | j + 1 => e j, fun j o z => ?_, ?_⟩
      · cases j with
        | zero => simp at z; exact z.symm
        | succ j => exact h1 j o (by simpa using z)
      · rw [List.length_cons, List.range_succ_eq_map, List.all_cons, List.all_map, ← h2]
        rfl
theorem eqV_refl {x : V} (h : flatV x = true) : eqV x x = true := by
  cases x <;> simp [eqV, flatV] at h ⊢
theorem deq_refl {H : Hp} : ∀ (d : Nat) {x : V} {b : Bool}, deq H d x x = some b → b = true
  | 0, x, b, h => by
    unfold deq at h
    split at h
    · rename_i z; cases h; exact eqV_refl z.1
    · cases h
  | d + 1, x, b, h => by
    unfold deq at h
    split at h
    · split at h
      · rename_i xs ys e1 e2
        rw [e1] at e2
        cases e2
        rw [if_pos rfl] at h
        obtain ⟨e, h1, h2⟩ := allO_at h
        rw [← h2, List.all_eq_true]
        intro j hj
        rw [List.mem_range, List.length_zipWith, Nat.min_self] at hj
        have z := h1 j (deq H d xs[j] xs[j]) (by rw [List.getElem?_zipWith, List.getElem?_eq_getElem hj])
        exact deq_refl d z
      · rename_i xs ys e1 e2
        rw [e1] at e2
        cases e2
        rw [if_pos rfl] at h
        obtain ⟨e, h1, h2⟩ := allO_at h
        rw [← h2, List.all_eq_true]
        intro j hj
        rw [List.mem_range, List.length_zipWith, Nat.min_self] at hj
        have z := h1 j (deq H d xs[j] xs[j]) (by rw [List.getElem?_zipWith, List.getElem?_eq_getElem hj])
        exact deq_refl d z
      · cases h
    · split at h
      · rename_i z; cases h; exact eqV_refl z.1
      · cases h
section
variable {X : Cx}
theorem eqAt_deq {pins : List (Addr × Obj)} {σ : St} {H : Hp} {s : Shared} (I : Inv X pins σ H s) : ∀ (d : Nat) (A : Around) {x y : V} {u v : Value} {b : Bool}, A.units + d < cLine → RelV x u → RelV y v → deq H d x y = some b → SeqAt.EqAt A s u v b
  | 0, A, x, y, u, v, b, hu, rx, ry, h => by
    unfold deq at h
    split at h
    · rename_i z; cases h; exact eqAt_V rx ry z.1 z.2
    · cases h
  | d + 1, A, x, y, u, v, b, hu, rx, ry, h => by
    by_cases hs : ∃ a, x = .ref a ∧ y = .ref a
    · obtain ⟨a, rfl, rfl⟩ := hs
      cases (show u = Value.ref a from rx)
      cases (show v = Value.ref a from ry)
      rw [deq_refl (d + 1) h]
      exact SeqAt.EqAt.same _
    · unfold deq at h
      split at h
      · rename_i a c
        split at h
        · rename_i xs ys e1 e2
          cases (show u = Value.ref a from rx)
          cases (show v = Value.ref c from ry)
          have hne : a ≠ c := fun z => hs ⟨a, rfl, by rw [z]⟩
          obtain ⟨i1, r1, p1, _⟩ := I.list (SqL.of e1)
          obtain ⟨i2, r2, p2, _⟩ := I.list (SqL.of e2)
          refine SeqAt.EqAt.of_refs hne ?_
          have l1 := r1.length
          have l2 := r2.length
          split at h
          · rename_i hl
            obtain ⟨e, h1, h2⟩ := allO_at h
            rw [List.length_zipWith, ← hl, Nat.min_self] at h2
            have z := SeqAt.RcAt.lists (A := A) (s := s) (e := e) p1.isList p2.isList (by simp; omega) (by omega) fun j j1 j2 => ?_
            · have e3 : i1.toArray.size = xs.length := by simp [l1]
              rw [e3, h2] at z
              exact z
            · simp only [List.size_toArray] at j1 j2
              have k1 : j < xs.length := by omega
              have k2 : j < ys.length := by omega
              obtain ⟨w1, g1, q1⟩ := r1.get (List.getElem?_eq_getElem k1)
              obtain ⟨w2, g2, q2⟩ := r2.get (List.getElem?_eq_getElem k2)
              have z := h1 j (deq H d xs[j] ys[j]) (by rw [List.getElem?_zipWith, List.getElem?_eq_getElem k1, List.getElem?_eq_getElem k2])
              have e4 : i1.toArray[j] = w1 := by simpa [j1] using g1
              have e5 : i2.toArray[j] = w2 := by simpa [j2] using g2
              rw [e4, e5]
              exact eqAt_deq I d A.in1 (by rw [Around.in1_units]; omega) q1 q2 z
          · rename_i hl
            cases h
            exact SeqAt.RcAt.lists_lengths p1.isList p2.isList (by simp; omega) (by omega)
        · rename_i xs ys e1 e2
          cases (show u = Value.ref a from rx)
          cases (show v = Value.ref c from ry)
          have hne : a ≠ c := fun z => hs ⟨a, rfl, by rw [z]⟩
          obtain ⟨i1, r1, p1, _⟩ := I.tuple (.inl (.inl e1))
          obtain ⟨i2, r2, p2, _⟩ := I.tuple (.inl (.inl e2))
          refine SeqAt.EqAt.of_refs hne ?_
          have l1 := r1.length
          have l2 := r2.length
          split at h
          · rename_i hl
            obtain ⟨e, h1, h2⟩ := allO_at h
            rw [List.length_zipWith, ← hl, Nat.min_self] at h2
            have z := SeqAt.RcAt.tuples (A := A) (s := s) (e := e) p1 p2 (by omega) fun j j1 j2 => ?_
            · have e3 : i1.toArray.size = xs.length := by simp [l1]
              have e4 : i2.toArray.size = xs.length := by simp [← l2, hl]
              rw [e3, e4, Nat.min_self, h2, beq_self_eq_true, Bool.and_true] at z
              exact z
            · simp only [List.size_toArray] at j1 j2
              have k1 : j < xs.length := by omega
              have k2 : j < ys.length := by omega
              obtain ⟨w1, g1, q1⟩ := r1.get (List.getElem?_eq_getElem k1)
              obtain ⟨w2, g2, q2⟩ := r2.get (List.getElem?_eq_getElem k2)
              have z := h1 j (deq H d xs[j] ys[j]) (by rw [List.getElem?_zipWith, List.getElem?_eq_getElem k1, List.getElem?_eq_getElem k2])
              have e4 : i1.toArray[j] = w1 := by simpa [j1] using g1
              have e5 : i2.toArray[j] = w2 := by simpa [j2] using g2
              rw [e4, e5]
              exact eqAt_deq I d A.in1 (by rw [Around.in1_units]; omega) q1 q2 z
          · cases h
        · cases h
      · split at h
        · rename_i z; cases h; exact eqAt_V rx ry z.1 z.2
        · cases h
def cNeL : R2 := fun x y H Q => match x, y with
  | .ref a, .ref b => (match H a, H b with
    | some (.lst xs), some (.lst ys) => if xs.length = ys.length then (match allO (List.zipWith (deq H 2) xs ys) with
        | some k => Q (.bl (!k)) H
        | none => False) else Q (.bl true) H
    | _, _ => False)
  | _, _ => False
end
section
variable {X : Cx}
theorem c_neL (hu : X.A.units + 8 < cLine) : OpR X (compareOp .NotEq) cNeL := by
  intro pins s σ H x y v u Q I rx ry h
  unfold cNeL at h
  split at h
  case h_2 => exact h.elim
  rename_i a b
  split at h
  case h_2 => exact h.elim
  rename_i xs ys e1 e2
  cases (show v = Value.ref a from rx)
  cases (show u = Value.ref b from ry)
  obtain ⟨i1, r1, p1, _⟩ := I.list (SqL.of e1)
  obtain ⟨i2, r2, p2, _⟩ := I.list (SqL.of e2)
  have l1 := r1.length
  have l2 := r2.length
  split at h
  · rename_i hl
    split at h
    case h_2 => exact h.elim
    rename_i k hk
    obtain ⟨e, h1, h2⟩ := allO_at hk
    rw [List.length_zipWith, ← hl, Nat.min_self] at h2
    refine SeqAt.RcNeAt.lists (e := e) p1.isList p2.isList (by simp; omega) (by omega) (fun j j1 j2 => ?_) X.prog X.w X.xe _ ⟨.bl (!k), H, I, ?_, h⟩
    · simp only [List.size_toArray] at j1 j2
      have k1 : j < xs.length := by omega
      have k2 : j < ys.length := by omega
      obtain ⟨w1, g1, q1⟩ := r1.get (List.getElem?_eq_getElem k1)
      obtain ⟨w2, g2, q2⟩ := r2.get (List.getElem?_eq_getElem k2)
      have z := h1 j (deq H 2 xs[j] ys[j]) (by rw [List.getElem?_zipWith, List.getElem?_eq_getElem k1, List.getElem?_eq_getElem k2])
      have e4 : i1.toArray[j] = w1 := by simpa [j1] using g1
      have e5 : i2.toArray[j] = w2 := by simpa [j2] using g2
      rw [e4, e5]
      exact eqAt_deq I 2 X.A.in1 (by rw [Around.in1_units]; omega) q1 q2 z
    · have e3 : i1.toArray.size = xs.length := by simp [l1]
      rw [e3, h2]
      exact rfl
  · exact SeqAt.RcNeAt.lists_lengths p1.isList p2.isList (by simp; omega) (by omega) X.prog X.w X.xe _ ⟨.bl true, H, I, rfl, h⟩
end
/-! ### isinstance(x, (A, B, ..)) -/
def kitVs (K : PySem.W.Frag) (t : Value) : List V → Option Bool
  | [] => some false
  | c :: r => match kitV K t c with
    | some true => some true
    | some false => kitVs K t r
    | none => none
theorem kitVs_any {K : PySem.W.Frag} {t : Value} {b : Bool} : ∀ {cs : List V} {us : List Value}, Vals cs us → kitVs K t cs = some b → PySem.W.kitAny K t us = some b
  | _, _, .nil, h => h
  | c :: cs, u :: us, .cons r rs, h => by
    have e : ∀ k, kitV K t c = some k → PySem.W.kitOne K t u = some k := fun k hk => by
      cases c <;> first | (cases (show u = Value.type _ from r); exact hk) | (cases (show u = Value.ref _ from r); exact hk) | cases hk
    unfold kitVs at h
    unfold PySem.W.kitAny
    split at h
    · rename_i z; rw [e _ z]; exact h
    · rename_i z; rw [e _ z]; exact kitVs_any rs h
    · cases h
def rIsT (K : PySem.W.Frag) : List V → Hp → VK → Prop := fun xs H Q => match xs with
  | [.ref a, .ref p] => (match H a, H p with
    | some (.exc (.ref C)), some (.tup cs) => KiE K C ∧ (match kitVs K (.ref C) cs with
      | some b => Q (.bl b) H
      | none => False)
    | _, _ => False)
  | _ => False
theorem call_ist {X : Cx} : CallR X (.builtin "isinstance") (rIsT X.K) := by
  intro pins s σ H xs us Q I r h
  unfold rIsT at h
  split at h
  case h_2 => exact h.elim
  rename_i a p
  obtain ⟨u, w', rfl, rx, rc⟩ := vals2 r
  split at h
  case h_2 => exact h.elim
  rename_i C cs ea ep
  obtain ⟨ki, h⟩ := h
  split at h
  case h_2 => exact h.elim
  rename_i b hk
  cases (show u = Value.ref a from rx)
  cases (show w' = Value.ref p from rc)
  obtain ⟨_, its, rv, tp⟩ := (show ObjOk X.prog X.w H s.heap p (.tup cs) from I.hok p _ ep)
  obtain ⟨o, h1, h2, n, h3⟩ := tp
  obtain ⟨oc, od, dt, sl⟩ := o
  have h2 : oc = .type "tuple" := h2
  have h3 : dt = .seq its.toArray n := h3
  subst h2 h3
  exact PySem.W.kia_tup (kitx_exc ki) I.kIn (show ObjOk X.prog X.w H s.heap a (.exc (.ref C)) from I.hok a _ ea) h1 (kitVs_any rv hk) (fun z => nomatch z) fun tk => ⟨.bl b, H, I.tok tk, rfl, h⟩

/-! ### comprehensions that leave the heap -/
theorem exc_blk {X : Cx} {scope : Scope} {N : List Str} {x : List Str} {s : Shared} {H : Hp} {C : Addr} {ex : List Addr} : Exc (X.blk scope N x s H C ex) (fun _ _ _ _ => False) :=
  ⟨fun _ _ _ _ _ _ _ ⟨_, _, _, _, _, _, _, _, _, _, _, _, h⟩ => h, fun _ _ _ _ _ _ _ _ _ _ _ _ h => h, PassesOwn.never⟩

/-! ### all(a list of bools), list(a list), == of what may be lists -/
def bools : List V → Option (List Bool)
  | [] => some []
  | .bl b :: r => (bools r).map fun bs => b :: bs
  | _ :: _ => none
theorem bools_at : ∀ {ys : List V} {bs : List Bool}, bools ys = some bs → ys = bs.map V.bl
  | [], bs, h => by cases h; rfl
  | y :: r, bs, h => by
    cases y with
    | bl b =>
      obtain ⟨cs, hc, rfl⟩ := Option.map_eq_some_iff.mp h
      rw [List.map_cons, ← bools_at hc]
    | _ => cases h
def cAll : List V → Hp → VK → Prop := fun xs H Q => match xs with
  | [.ref a] => (match H a with
    | some (.lst ys) => (match bools ys with
      | some bs => Q (.bl (bs.all id)) H
      | none => False)
    | _ => False)
  | _ => False
def cNeA : R2 := fun x y H Q => match eqv x y with
  | some b => Q (.bl (!b)) H
  | none => cNeL x y H Q
section
variable {X : Cx}
theorem c_neA (hu : X.A.units + 8 < cLine) : OpR X (compareOp .NotEq) cNeA := by
  intro pins s σ H x y v u Q I rx ry h
  unfold cNeA at h
  split at h
  · rename_i b e
    exact c_ne pins s σ H x y v u Q I rx ry (by unfold cNe; rw [e]; exact h)
  · exact c_neL hu pins s σ H x y v u Q I rx ry h
theorem hu8 {ca : Bool} {k : Nat} {A : Around} (hr : Room ca k A) : A.units + 8 < cLine := Nat.lt_of_le_of_lt (Nat.add_le_add_left (by decide : 8 ≤ 64) _) hr.units
theorem all_range {bs : List Bool} {tr : Nat → Bool} (h : ∀ j b, bs[j]? = some b → tr j = b) : (List.range bs.length).all tr = bs.all id := by
  induction bs generalizing tr with
  | nil => rfl
  | cons b r ih =>
    rw [List.length_cons, List.range_succ_eq_map, List.all_cons, List.all_map, List.all_cons, h 0 b rfl, ih (tr := tr ∘ Nat.succ) fun j c z => h (j + 1) c (by simpa using z)]
    rfl
theorem c_all (hc : X.calm = true) : CallR X (.builtin "all") cAll := by
  intro pins s σ H xs us Q I r h
  unfold cAll at h
  split at h
  case h_2 => exact h.elim
  rename_i a
  obtain ⟨u, rfl, rx⟩ := vals1 r
  cases (show u = Value.ref a from rx)
  split at h
  case h_2 => exact h.elim
  rename_i ys ea
  split at h
  case h_2 => exact h.elim
  rename_i bs hb
  have ey := bools_at hb
  subst ey
  obtain ⟨its, rv, pl, hz⟩ := I.list (SqL.of ea)
  have hlen := rv.length
  rw [List.length_map] at hlen
  have hat : ∀ (i : Nat) (v : Value), its.toArray[i]? = some v → ∃ b, bs[i]? = some b ∧ v = .bool b := fun i v hv => by
    have hv' : its[i]? = some v := by simpa using hv
    have hi : i < bs.length := by rw [hlen]; exact (List.getElem?_eq_some_iff.mp hv').1
    obtain ⟨w, g, q⟩ := rv.get (show (bs.map V.bl)[i]? = some (V.bl bs[i]) by rw [List.getElem?_map, List.getElem?_eq_getElem hi]; rfl)
    rw [hv'] at g
    cases g
    exact ⟨bs[i], List.getElem?_eq_getElem hi, q⟩
  refine call_all_walk (wpAny_pyIter_list pl.isList ?_)
  have hne : a ≠ s.heap.objs.size := by
    obtain ⟨o, n, ho, _⟩ := pl
    exact Nat.ne_of_lt (Heap.lt_size ho)
  refine ⟨s.heap.objs.size, _, _, _, _, _, fun i => (bs[i]?).getD true, rfl, Walks.list (by show X.A.handled = none; exact I.ok.hd hc) s.heap.objs.size a hne its.toArray, ⟨⟨_, Heap.get?_push_size _ rfl, rfl, rfl⟩, pl.isList.push _⟩, fun i v s' Q' E' hP hQ => ?_, fun h' tk hk => ?_⟩
  · obtain ⟨b, e1, rfl⟩ := hat i v hP
    dsimp only at hQ
    rw [e1] at hQ
    exact wpAny_truthy_bool hQ
  · rw [show its.toArray.size = bs.length by simp [hlen], all_range (fun j b z => by rw [z]; rfl)]
    refine ⟨.bl _, H, ?_, rfl, h⟩
    have I1 : Inv X pins σ H { s with heap := s.heap.push { cls := .type "list_iterator", data := .fields #[.ref a, .int 0 0] } } := I.kept (t' := s.toks) fun b o q => Heap.get?_push_of_some _ q
    have fp := I.fpOk (H' := H) (Nat.le_refl _) (I.hok.fresh (Nat.le_refl _))
    exact I1.turned (it := s.heap.objs.size) (fun b o hb e => hk b o (by simpa using hb) e) fp.1 fp.2.1 fp.2.2.2.1 fp.2.2.2.2.1 fp.2.2.2.2.2
end
theorem compW_listG {K : PySem.W.Frag} {a : Addr} {xs : List V} {cap : St} {tt : TT} {te : TE} {H : Hp} {Q : VK} (P : Nat → List V → Hp → Prop) (h0 : P 0 [] H) (hS : ∀ i ys H', P i ys H' → SqL K H' a xs) (hz : xs.length ≤ sizeLine) (hlen : ∀ i ys H', P i ys H' → ys.length ≤ i)
    (step : ∀ i x ys H', xs[i]? = some x → P i ys H' → ∀ K1 : List V → Hp → Prop, (∀ ys' H3, P (i + 1) ys' H3 → K1 ys' H3) → tt (some x :: cap) H' fun b H2 => if b = true then te (some x :: cap) H2 (fun y H3 => K1 (ys ++ [y]) H3) else K1 ys H2)
    (q : ∀ ys H', P xs.length ys H' → ∀ l, H' l = none → Q (.ref l) (upd H' l (.lst ys))) : CompW (Itl K a) cap tt te H Q := by
  refine ⟨fun i m ys H' => P i ys H' ∧ i ≤ xs.length ∧ m = xs.length - i, ⟨xs.length, h0, Nat.zero_le _, rfl⟩, fun i m ys H' ⟨hP, hi, em⟩ => ?_⟩
  refine ⟨Nat.le_trans (Nat.le_trans (hlen _ _ _ hP) hi) hz, ?_⟩
  have hS' := hS _ _ _ hP
  by_cases z : i < xs.length
  · have hx : xs[i]? = some xs[i] := List.getElem?_eq_getElem z
    refine .inr ⟨⟨xs, xs[i], hS', hx⟩, fun x H2 ⟨e2, e3⟩ => ?_⟩
    have ex : x = xs[i] := by have := e3 xs hS'; rw [hx] at this; exact (Option.some.inj this).symm
    rw [e2, ex]
    exact step i _ ys H' hx hP (fun ys' H3 => ∃ m', m' < m ∧ (P (i + 1) ys' H3 ∧ i + 1 ≤ xs.length ∧ m' = xs.length - (i + 1))) fun ys' H3 h => ⟨_, by omega, h, z, rfl⟩
  · have e : i = xs.length := by omega
    subst e
    exact .inl ⟨⟨xs, hS', Nat.le_refl _⟩, q _ _ hP⟩
end L2

/-! LK: while, sums, list + list, dicts asked and popped, is True. -/
namespace L2
open PySem PySem.Spec PyProof.Rows

/-! ### numbers of a list -/
/-! ### sum(a list of numbers) -/
section
variable {X : Cx}
/-! ### sorted -/
/-! ### sorted(a dict whose keys are numbers) -/
/-! ### list + list -/
def cCat : R2 := fun x y H Q => match x, y with
  | .ref l, .ref b => (match H l, H b with
    | some (.lst xs), some (.lst zs) => xs.length + zs.length ≤ sizeLine ∧ ∀ p, H p = none → Q (.ref p) (upd H p (.lst (xs ++ zs)))
    | _, _ => False)
  | _, _ => False
theorem c_cat : OpR X (binaryOp .Add) cCat := op_cat.mono fun x y H Q h => by
  unfold cCat at h
  split at h
  case h_2 => exact h.elim
  split at h
  case h_2 => exact h.elim
  rename_i xs zs e1 e2
  exact ⟨_, _, xs, zs, rfl, rfl, e1, e2, h.1, h.2⟩
/-! ### is True, is False -/
def isBl : V → Bool → Option Bool
  | .bl c, b => some (decide (c = b))
  | .int _, _ => some false
  | .non, _ => some false
  | .str _, _ => some false
  | .ref _, _ => some false
  | _, _ => none
def cIsA : R2 := fun x y H Q => match y with
  | .bl b => (match isBl x b with
    | some k => Q (.bl k) H
    | none => False)
  | _ => False
theorem same_bl {x : V} {v : Value} {b k : Bool} (r : RelV x v) (h : isBl x b = some k) : isSame v (.bool b) = pure k := by
  cases x with
  | bl c =>
    cases (show v = Value.bool c from r)
    have e : decide (c = b) = k := Option.some.inj h
    rw [← e]
    cases c <;> cases b <;> rfl
  | int i => obtain ⟨t, rfl⟩ := r; cases h; rfl
  | non => cases (show v = Value.none from r); cases h; rfl
  | str i => obtain ⟨t, rfl⟩ := r; cases h; rfl
  | ref a => cases (show v = Value.ref a from r); cases h; rfl
  | _ => cases h
theorem c_isA : OpR X (compareOp .Is) cIsA := by
  intro pins s σ H x y v u Q I rx ry h
  unfold cIsA at h
  split at h
  case h_2 => exact h.elim
  rename_i b
  split at h
  case h_2 => exact h.elim
  rename_i k hk
  cases (show u = Value.bool b from ry)
  show wpAny _ _ (do let r ← isSame v (.bool b); pure (Value.bool r)) _ _ s
  rw [same_bl rx hk]
  exact wpAny_bind (wpAny_pure (wpAny_pure ⟨.bl k, H, I, rfl, h⟩))
/-! ### dicts -/
end
section
variable {X : Cx} {o e : Expr} {td ty : TE} {apos cpos : Pos}
end
/-! ### list(range(a, b)) -/
section
variable {X : Cx} {a b : Expr} {ta : TA} {p pos p2 pos2 : Pos}
end
end L2

/-! LN: enumerate over a list. -/
namespace L2
open PySem PySem.Spec PyProof.Rows

section
variable {X : Cx} {pins : List (Addr × Obj)} {σ : St} {H : Hp} {s : Shared} {h' : Heap}
end
section
variable {X : Cx}
end
theorem compW_rangeG {lo : Int} {n : Nat} {cap : St} {tt : TT} {te : TE} {H : Hp} {Q : VK} (P : Nat → List V → Hp → Prop) (h0 : P 0 [] H) (hz : n ≤ sizeLine) (hlen : ∀ i ys H', P i ys H' → ys.length ≤ i)
    (step : ∀ (i : Nat) ys H', i < n → P i ys H' → ∀ K1 : List V → Hp → Prop, (∀ ys' H3, P (i + 1) ys' H3 → K1 ys' H3) → tt (some (.int (lo + i)) :: cap) H' fun b H2 => if b = true then te (some (.int (lo + i)) :: cap) H2 (fun y H3 => K1 (ys ++ [y]) H3) else K1 ys H2)
    (q : ∀ ys H', P n ys H' → ∀ l, H' l = none → Q (.ref l) (upd H' l (.lst ys))) : CompW (Itr lo n) cap tt te H Q := by
  refine ⟨fun i m ys H' => P i ys H' ∧ i ≤ n ∧ m = n - i, ⟨n, h0, Nat.zero_le _, rfl⟩, fun i m ys H' ⟨hP, hi, em⟩ => ?_⟩
  refine ⟨Nat.le_trans (Nat.le_trans (hlen _ _ _ hP) hi) hz, ?_⟩
  by_cases z : i < n
  · refine .inr ⟨z, fun x H2 ⟨e2, e3⟩ => ?_⟩
    rw [e2, e3]
    exact step i ys H' z hP (fun ys' H3 => ∃ m', m' < m ∧ (P (i + 1) ys' H3 ∧ i + 1 ≤ n ∧ m' = n - (i + 1))) fun ys' H3 h => ⟨_, by omega, h, z, rfl⟩
  · have e : i = n := by omega
    subst e
    exact .inl ⟨Nat.le_refl _, q _ _ hP⟩
/-! ### tuple + tuple -/
section
variable {X : Cx}
end
theorem compW_tupG {K : PySem.W.Frag} {a : Addr} {xs : List V} {cap : St} {tt : TT} {te : TE} {H : Hp} {Q : VK} (P : Nat → List V → Hp → Prop) (h0 : P 0 [] H) (hS : ∀ i ys H', P i ys H' → SqT K H' a xs) (hz : xs.length ≤ sizeLine) (hlen : ∀ i ys H', P i ys H' → ys.length ≤ i)
    (step : ∀ i x ys H', xs[i]? = some x → P i ys H' → ∀ K1 : List V → Hp → Prop, (∀ ys' H3, P (i + 1) ys' H3 → K1 ys' H3) → tt (some x :: cap) H' fun b H2 => if b = true then te (some x :: cap) H2 (fun y H3 => K1 (ys ++ [y]) H3) else K1 ys H2)
    (q : ∀ ys H', P xs.length ys H' → ∀ l, H' l = none → Q (.ref l) (upd H' l (.lst ys))) : CompW (Itt K a) cap tt te H Q := by
  refine ⟨fun i m ys H' => P i ys H' ∧ i ≤ xs.length ∧ m = xs.length - i, ⟨xs.length, h0, Nat.zero_le _, rfl⟩, fun i m ys H' ⟨hP, hi, em⟩ => ?_⟩
  refine ⟨Nat.le_trans (Nat.le_trans (hlen _ _ _ hP) hi) hz, ?_⟩
  have hS' := hS _ _ _ hP
  by_cases z : i < xs.length
  · have hx : xs[i]? = some xs[i] := List.getElem?_eq_getElem z
    refine .inr ⟨⟨xs, xs[i], hS', hx⟩, fun x H2 ⟨e2, e3⟩ => ?_⟩
    have ex : x = xs[i] := by have := e3 xs hS'; rw [hx] at this; exact (Option.some.inj this).symm
    rw [e2, ex]
    exact step i _ ys H' hx hP (fun ys' H3 => ∃ m', m' < m ∧ (P (i + 1) ys' H3 ∧ i + 1 ≤ xs.length ∧ m' = xs.length - (i + 1))) fun ys' H3 h => ⟨_, by omega, h, z, rfl⟩
  · have e : i = xs.length := by omega
    subst e
    exact .inl ⟨⟨xs, hS', Nat.le_refl _⟩, q _ _ hP⟩
end L2

/-! LJ: the judgements as structures, and the rules over them. -/
namespace L2
open PySem PySem.Spec PyProof.Rows
structure JE (X : Cx) (e : Expr) (t : TE) : Prop where
  run : PE X e t
structure JT (X : Cx) (e : Expr) (t : TT) : Prop where
  run : PT X e t
structure JW (X : Cx) (e : Expr) (t : TT) : Prop where
  run : PW X e t
structure JA (X : Cx) (e : List Expr) (t : TA) : Prop where
  run : PA X e t
structure JS (X : Cx) (e : Stmt) (t : TS) : Prop where
  run : PS X e t
structure JSs (X : Cx) (e : List Stmt) (t : TS) : Prop where
  run : PSs X e t
structure JG (X : Cx) (e : Expr) (t : TG) : Prop where
  run : PG X e t
structure JGs (X : Cx) (e : List Expr) (t : TGs) : Prop where
  run : PGs X e t
structure JI (X : Cx) (tg e : Expr) (t : TI) : Prop where
  run : PI X tg e t
structure JO (X : Cx) (e : Option Expr) (t : TO) : Prop where
  run : PO X e t
structure JH (X : Cx) (e : List ExceptHandler) (t : TH) : Prop where
  run : PH X e t
structure JIfs (X : Cx) (e : List Expr) (t : TT) : Prop where
  run : PIfs X e t
structure JOp (X : Cx) (f : Value → Value → Sem Value) (r : R2) : Prop where
  run : OpR X f r
structure JUn (X : Cx) (f : Value → Sem Value) (r : V → Hp → VK → Prop) : Prop where
  run : UnR X f r
structure JCall (X : Cx) (f : Value) (r : List V → Hp → VK → Prop) : Prop where
  run : CallR X f r
structure JIx (X : Cx) (r : R2) : Prop where
  run : IxR X r
structure JSl (X : Cx) (r : V → Option Int → Option Int → Hp → VK → Prop) : Prop where
  run : SlR X r
structure JSet (X : Cx) (t : TSet) : Prop where
  run : PSet X t
structure JMt (X : Cx) (id : String) (r : V → List V → Hp → VK → Prop) : Prop where
  run : MtR X id r

section
variable {X : Cx} {rest : List Expr} {lo hi : Option Expr} {id T : String} {op : Operator} {st : Stmt} {srest : List Stmt} {hrest : List ExceptHandler}
theorem j_cv (i : Nat) {x : Str} {pos : Pos} (hN : X.N[i]? = some x := by rfl) (hv : Vis X.env.scope x := by first | exact Or.inl rfl | exact Or.inr (Or.inl rfl) | exact Or.inr (Or.inr rfl)) (hd : (x == ("__debug__" : Str)) = false := by decide) (hcd : (x == ("__classdict__" : Str)) = false := by decide) : JE X (.Name x pos) (cVar i) := ⟨cv i hN hv hd hcd⟩
theorem j_pe_gv {x : Str} {v : V} {pos : Pos} (h : Gv X.mg x v) (hg : Gl X x := by rfl) (hd : (x == ("__debug__" : Str)) = false := by decide) : JE X (.Name x pos) (tC v) := ⟨pe_gv h hg hd⟩
theorem j_pe_ty {x : Str} {T : String} {pos : Pos} (hm : X.mg x = none) (hv : bootBuiltins x = some (.type T)) (hg : Gl X x := by rfl) (hn : x ≠ "__name__" := by decide) (hd : (x == ("__debug__" : Str)) = false := by decide) : JE X (.Name x pos) (tC (.ty T)) := ⟨pe_ty hm hv hg hn hd⟩
theorem j_pe_non {j pos} : JE X (.Constant .none j pos) (tC .non) := ⟨pe_non ⟩
theorem j_pe_bl {b j pos} : JE X (.Constant (.bool b) j pos) (tC (.bl b)) := ⟨pe_bl ⟩
theorem j_pe_int {i j pos} : JE X (.Constant (.int i) j pos) (tC (.int i)) := ⟨pe_int ⟩
theorem j_pe_str {x j pos} : JE X (.Constant (.str x) j pos) (tC (.str x)) := ⟨pe_str ⟩
theorem j_pe_op {op : Operator} {r : R2} (ho : JOp X (binaryOp op) r) (ha : JE X a ta) (hb : JE X b tb) : JE X (.BinOp a op b pos) (tOp r ta tb) := ⟨pe_op ho.run ha.run hb.run⟩
theorem j_pe_un {op : UnaryOp} {r : V → Hp → VK → Prop} (ho : JUn X (unaryOp op) r) (ha : JE X a ta) : JE X (.UnaryOp op a pos) (tUn r ta) := ⟨pe_un ho.run ha.run⟩
theorem j_pe_not (ha : JE X a ta) : JE X (.UnaryOp .Not a pos) (tNotV ta) := ⟨pe_not ha.run⟩
theorem j_pe_and (ha : JE X a ta) (hb : JE X (.BoolOp .And (b :: rest) pos) tb) : JE X (.BoolOp .And (a :: b :: rest) pos) (tAndV ta tb) := ⟨pe_and ha.run hb.run⟩
theorem j_pe_one {op} {t : TE} (h : JE X a t) : JE X (.BoolOp op [a] pos) t := ⟨pe_one h.run⟩
theorem j_pe_cmpR {op : CmpOp} {r : R2} (ho : JOp X (compareOp op) r) (ha : JE X a ta) (hb : JE X b tb) (hm : behindInMarks op b = false) : JE X (.Compare a [op] [b] pos) (tOp r ta tb) := ⟨pe_cmpR ho.run ha.run hb.run hm⟩
theorem j_pe_ifExp {c : Expr} (hc : JT X c tA) (ha : JE X a ta) (hb : JE X b tb) : JE X (.IfExp c a b pos) (tIf tA ta tb) := ⟨pe_ifExp hc.run ha.run hb.run⟩
theorem j_pe_lst (h : JA X es t) : JE X (.List es pos) (tLst t) := ⟨pe_lst h.run⟩
theorem j_pe_tup {x1} (h : JA X es t) : JE X (.Tuple es x1 pos) (tTup t) := ⟨pe_tup h.run⟩
theorem j_pe_slice {r : V → Option Int → Option Int → Hp → VK → Prop} (hr : JSl X r) (he : JE X e te) (hl : JO X lo tl) (hu : JO X hi th) : JE X (.Subscript e (.Slice lo hi none p2) pos) (tSl r te tl th) := ⟨pe_slice hr.run he.run hl.run hu.run⟩
theorem j_pe_menu (ha : JA X es t) (hi : JE X e ti) (hs : PlainIx e) : JE X (.Subscript (.List es p2) e pos) (tOp rIxM (tLst t) ti) := ⟨pe_menu ha.run hi.run hs⟩
theorem j_pe_ix {r : R2} (hr : JIx X r) (ha : JE X a ta) (hb : JE X b tb) (hs : PlainIx b) : JE X (.Subscript a b pos) (tOp r ta tb) := ⟨pe_ix hr.run ha.run hb.run hs⟩
theorem j_pe_callF (F : FnOk X.prog X.w X.K X.mg X.base (CXE X.prog X.w) ca k f fd ps sp) (hr : Room ca k X.A) (hg : Gl X x) (hm : X.mg x = some (.ref f)) (hk : PySem.W.keepIn X.K (.ref f) = true) (hb : Binds X.K fd ps []) (hx : Exc X E) (ha : JA X (e :: es) t) (hdb : (x == ("__debug__" : Str)) = false := by decide) (h : (e :: es).all notStar = true := by rfl) : JE X (.Call (.Name x p) (e :: es) [] pos) (tCallE sp E t) := ⟨pe_callF F hr hg hm hk hb hx ha.run hdb h⟩
theorem j_pe_call0E (F : FnOk X.prog X.w X.K X.mg X.base (CXE X.prog X.w) ca k f fd ps sp) (hr : Room ca k X.A) (hg : Gl X x) (hm : X.mg x = some (.ref f)) (hk : PySem.W.keepIn X.K (.ref f) = true) (hb : Binds X.K fd ps []) (hx : Exc X E) (hdb : (x == ("__debug__" : Str)) = false := by decide) : JE X (.Call (.Name x p) [] [] pos) (tCallE sp E tNil) := ⟨pe_call0E F hr hg hm hk hb hx hdb⟩
theorem j_pe_callBF (hc : JCall X (.builtin id) r) (hg : Gl X x) (hm : X.mg x = none) (hv : bootBuiltins x = some (.builtin id)) (ha : JA X (e :: es) t) (hn : x ≠ "__name__" := by decide) (hdb : (x == ("__debug__" : Str)) = false := by decide) (h : (e :: es).all notStar = true := by rfl) : JE X (.Call (.Name x p) (e :: es) [] pos) (tCB r t) := ⟨pe_callBF hc.run hg hm hv ha.run hn hdb h⟩
theorem j_pe_callTyF (hc : JCall X (.type T) r) (hg : Gl X x) (hm : X.mg x = none) (hv : bootBuiltins x = some (.type T)) (ha : JA X (e :: es) t) (hn : x ≠ "__name__" := by decide) (hdb : (x == ("__debug__" : Str)) = false := by decide) (h : (e :: es).all notStar = true := by rfl) : JE X (.Call (.Name x p) (e :: es) [] pos) (tCB r t) := ⟨pe_callTyF hc.run hg hm hv ha.run hn hdb h⟩
theorem j_c_bm {id : String} {name : Str} (slot : Slot "list" name id) (hty : typeOf (.builtin id) = pure (.type "method_descriptor")) (hm : JMt X id r) (ho : JE X o to) (ha : JA X (e :: es) t) (hns : (e :: es).all notStar = true := by rfl) (hbase : attributeBase o name X.env (eval o X.env) = eval o X.env := by rfl) (hfew : ((backTo cpos (starEach (e :: es) X.env)).all (fun x => !x.1) && (backToKw cpos (keywordEach [] X.env)).all (fun x => x.1.isSome)
      && decide ((e :: es).length + ([] : List Keyword).length + (if ([] : List Keyword).isEmpty then 0 else 1) < 30)) = true := by rfl) (hline : (apos.endLine == cpos.line) = true := by rfl) : JE X (.Call (.Attribute o name apos) (e :: es) [] cpos) (cBM r to t) := ⟨c_bm slot hty hm.run ho.run ha.run hns hbase hfew hline⟩
theorem j_po_none  : JO X none tNoPart := ⟨po_none ⟩
theorem j_c_part (h : JE X e te) : JO X (some e) (cPart te) := ⟨c_part h.run⟩
theorem j_pa_nil  : JA X [] tNil := ⟨pa_nil ⟩
theorem j_pa_c (ha : JE X e te) (hr : JA X es t) (h : notStar e = true := by rfl) : JA X (e :: es) (tCons te t) := ⟨pa_c ha.run hr.run h⟩
theorem j_pt_not (ha : JT X a tA) : JT X (.UnaryOp .Not a pos) (tNot tA) := ⟨pt_not ha.run⟩
theorem j_PW_pt {X : Cx} {e : Expr} {t : TT} (h : JW X e t) : JT X e t := ⟨PW.pt h.run⟩
theorem j_pt_cmpR {op : CmpOp} {r : R2} (ho : JOp X (compareOp op) r) (ha : JE X a ta) (hb : JE X b tb) (hm : behindInMarks op b = false) : JT X (.Compare a [op] [b] pos) (tTest (tOp r ta tb)) := ⟨pt_cmpR ho.run ha.run hb.run hm⟩
theorem j_pt_chain {op op' : CmpOp} {r r' : R2} (ho : JOp X (compareOp op) r) (ho' : JOp X (compareOp op') r') (ha : JE X a ta) (hb : JE X b tb) (hc : JE X c tc) (hm : lastMarks [op, op'] [b, c] = false := by with_unfolding_all rfl) : JT X (.Compare a [op, op'] [b, c] pos) (tTest (tChain r r' ta tb tc)) := ⟨pt_chain ho.run ho'.run ha.run hb.run hc.run hm⟩
theorem j_pt_truth (ha : JE X a ta) (he : ∀ whole, isTrue a X.env whole = (do let v ← whole; standAt a.pos; holding [v] (truthy v))) : JT X a (fun σ H Q => ta σ H fun x H' => ∃ k, TruV X.K x H' k ∧ Q k H') := ⟨pt_truth ha.run he⟩
theorem j_pw_and1 (ha : JT X a tA) : JW X (.BoolOp .And [a] pos) tA := ⟨pw_and1 ha.run⟩
theorem j_pw_or1 (ha : JT X a tA) : JW X (.BoolOp .Or [a] pos) tA := ⟨pw_or1 ha.run⟩
theorem j_pw_and (ha : JT X a tA) (hb : JW X (.BoolOp .And (b :: rest) pos) tB') : JW X (.BoolOp .And (a :: b :: rest) pos) (tAnd tA tB') := ⟨pw_and ha.run hb.run⟩
theorem j_pw_or (ha : JT X a tA) (hb : JW X (.BoolOp .Or (b :: rest) pos) tB') : JW X (.BoolOp .Or (a :: b :: rest) pos) (tOr tA tB') := ⟨pw_or ha.run hb.run⟩
theorem j_pss_nil  : JSs X [] tNext := ⟨pss_nil ⟩
theorem j_pss_one (h1 : JS X st t) : JSs X [st] t := ⟨pss_one h1.run⟩
theorem j_pss_cons (h1 : JS X st t) (h2 : JSs X srest u) : JSs X (st :: srest) (tSeq t u) := ⟨pss_cons h1.run h2.run⟩
theorem j_pg_name {i : Nat} {x : Str} (hN : X.N.Nodup) (hi : X.N[i]? = some x) (hx : Loc X.env.scope x) (hf : X.fn x = true ∨ X.env.scope.names.lookup x = some .local := by first | exact .inl rfl | exact .inr rfl | assumption) : JG X (.Name x pos) (gName i) := ⟨pg_name hN hi hx hf⟩
theorem j_ps_ret (he : JE X e te) : JS X (.Return (some e) pos) (tRet te) := ⟨ps_ret he.run⟩
theorem j_ps_expr (he : JE X e te) (hs : swapsWith e none pos.line X.env = pure false := by rfl) : JS X (.Expr e pos) (tDrop te) := ⟨ps_expr he.run hs⟩
theorem j_ps_if {c : Expr} {a b : List Stmt} {tc : TT} (hc : JT X c tc) (ha : JSs X a t) (hb : JSs X b u) : JS X (.If c a b pos) (tIfS tc t u) := ⟨ps_if hc.run ha.run hb.run⟩
theorem j_ps_set {i : Nat} {x : Str} {e : Expr} {te : TE} {pos' : Pos} (hN : X.N.Nodup) (hi : X.N[i]? = some x) (hx : Loc X.env.scope x) (he : JE X e te) (hs : swapsWith e (some (.Name x pos')) pos.line X.env = pure false := by rfl) (hf : X.fn x = true ∨ X.env.scope.names.lookup x = some .local := by first | exact .inl rfl | exact .inr rfl | assumption) : JS X (.Assign [.Name x pos'] e pos) (tAsg te (gName i)) := ⟨ps_set hN hi hx he.run hs hf⟩
theorem j_ps_asg {tg e : Expr} {te : TE} {g : TG} (he : JE X e te) (hg : JG X tg g) (hs : swapsWithSole [tg] e pos.line X.env = pure false := by rfl) (hw : swappedStores [tg] e X.env = pure none := by rfl) (h1 : (assignEach [tg] X.env).map (·.2) = [assign tg X.env] := by rfl) : JS X (.Assign [tg] e pos) (tAsg te g) := ⟨ps_asg he.run hg.run hs hw h1⟩
theorem j_pg_sub {o i : Expr} {to ti : TE} {t : TSet} (ho : JE X o to) (hi : JE X i ti) (hs : JSet X t) (ha : ∀ v, assign (.Subscript o i pos) X.env v = (do
      let ov ← holding [v] (eval o X.env)
      let iv ← holding [v, ov] (eval i X.env)
      standAt pos
      holding [v, ov, iv] (setItem ov iv v)
      release [v, ov, iv] []) := by intro _; rfl) : JG X (.Subscript o i pos) (gSub to ti t) := ⟨pg_sub ho.run hi.run hs.run ha⟩
theorem j_ps_raiseF (hx : Exc X E) (hg : Gl X x) (hm : X.mg x = some (.ref C)) (hq : ExcC X.K C) (hc : X.calm = true) (ha : JA X (e :: es) t) (h : (e :: es).all notStar = true := by rfl) (hdb : (x == ("__debug__" : Str)) = false := by decide) : JS X (.Raise (some (.Call (.Name x np) (e :: es) [] cpos)) none pos) (tRaise C E t) := ⟨ps_raiseF hx hg hm hq hc ha.run h hdb⟩
theorem j_ps_try {body : List Stmt} {h₀ : ExceptHandler} {hs : List ExceptHandler} {tb : (St → XK) → TS} {t : TH} (hst : X.stack = X.env :: X.outer) (hf : X.env.frame = some X.env.locals) (hb : ∀ (E : St → XK) (W : Value → Shared → Prop) (pins : List (Addr × Obj)), Exc ((X.pinned pins).wish W) E → JSs ((X.pinned pins).wish W) body (tb E)) (hh : JH X (h₀ :: hs) t) : JS X (.Try body (h₀ :: hs) [] [] pos) (tTry tb t) := ⟨ps_try hst hf (fun E W pins h_0 => (hb E W pins h_0).run) hh.run⟩
theorem j_ph_as (hex : X.ex = []) (hg : Gl X x) (hm : X.mg x = some c) (hN : X.N.Nodup) (hi : X.N[i]? = some n) (hn : X.env.scope.names.lookup n = some .local) (hs : ∀ a, JSs (X.hnd a) (b₀ :: suite) th) (hr : JH X hrest tr) (hdb : (x == ("__debug__" : Str)) = false := by decide) : JH X (.ExceptHandler (some (.Name x np)) (some n) (b₀ :: suite) pos :: hrest) (hAs X.K c i th tr) := ⟨ph_as hex hg hm hN hi hn (fun a => (hs a).run) hr.run hdb⟩
theorem j_ph_nil  : JH X [] hNil := ⟨ph_nil ⟩
theorem j_pi_range1 {a : Expr} {ta : TA} {p pos : Pos} (hg : Gl X "range") (hm : X.mg "range" = none) (ha : JA X [a] ta) (hs : starEach [a] X.env = [(false, eval a X.env)] := by rfl) : JI X tg (.Call (.Name "range" p) [a] [] pos) (iRng1 ta) := ⟨pi_range1 hg hm ha.run hs⟩
theorem j_pgs_nil  : JGs X [] gNil := ⟨pgs_nil ⟩
theorem j_pgs_cons {e : Expr} {es : List Expr} {t : TG} {u : TGs} (h1 : JG X e t) (h2 : JGs X es u) (hs : (assignEach (e :: es) X.env).map (·.2) = assign e X.env :: (assignEach es X.env).map (·.2) := by rfl) : JGs X (e :: es) (gCons t u) := ⟨pgs_cons h1.run h2.run hs⟩
theorem j_pi_tup {l : Expr} {tl : TE} (hl : JE X l tl) : JI X tg l (iTup X.K tl) := ⟨pi_tup hl.run⟩
theorem j_pi_list {l : Expr} {tl : TE} (hl : JE X l tl) : JI X tg l (iList X.K tl) := ⟨pi_list hl.run⟩
theorem j_ps_for {iter : Expr} {body : List Stmt} {wi : TI} {g : TG} {tb : TS} {pos : Pos} (hp : PassesOwn (model X.prog X.w) X.A X.env X.xe) (hc : X.calm = true) (hi : JI X tg iter wi) (hg : JG X tg g) (hb : JSs X body tb) (hs : ∀ x, foldedSetIterable iter X.env x = pure x := by intro _; rfl) : JS X (.For tg iter body [] pos) (tFor wi g tb) := ⟨ps_for hp hc hi.run hg.run hb.run hs⟩
theorem j_pe_comp {x : Str} {elt iter : Expr} {px pos : Pos} {ifs : List Expr} {wi : TI} {tt : TT} {te : TE} (S : CompIn fsc scope [x] N2) (hf : X.env.scope = fsc) (hjs : js.map (fun j => X.N[j]?) = N2.map some) (hc : X.calm = true) (hi : JI X (.Name x px) iter wi) (ht : ∀ s H C ex, JIfs (X.blk scope (x :: N2) [x] s H C ex) ifs tt) (he : ∀ s H C ex, JE (X.blk scope (x :: N2) [x] s H C ex) elt te) (hs : ∀ v, foldedSetIterable iter X.env v = pure v := by intro _; rfl) : JE X (.ListComp elt [⟨.Name x px, iter, ifs, 0⟩] scope pos) (tComp js wi tt te) := ⟨pe_comp S hf hjs hc hi.run (fun s H C ex => (ht s H C ex).run) (fun s H C ex => (he s H C ex).run) hs⟩
theorem j_ps_setcomp {x : Str} {elt iter : Expr} {px py pos spos : Pos} {ifs : List Expr} {wi : TI} {tt : TT} {te : TE} {i : Nat} {y : Str} (hN : X.N.Nodup) (hy : X.N[i]? = some y) (hl : Loc X.env.scope y) (S : CompIn fsc scope [x] N2) (hf : X.env.scope = fsc) (hjs : js.map (fun j => X.N[j]?) = N2.map some) (hc : X.calm = true) (hi : JI X (.Name x px) iter wi) (ht : ∀ s H C ex, JIfs (X.blk scope (x :: N2) [x] s H C ex) ifs tt) (he : ∀ s H C ex, JE (X.blk scope (x :: N2) [x] s H C ex) elt te) (hs : ∀ v, foldedSetIterable iter X.env v = pure v := by intro _; rfl) (hsw : swapsWith (.ListComp elt [⟨.Name x px, iter, ifs, 0⟩] scope pos) (some (.Name y py)) spos.line X.env = pure true := by rfl) (hfn : X.fn y = true ∨ X.env.scope.names.lookup y = some .local := by first | exact .inl rfl | exact .inr rfl | assumption) : JS X (.Assign [.Name y py] (.ListComp elt [⟨.Name x px, iter, ifs, 0⟩] scope pos) spos) (tAsg (tComp js wi tt te) (gName i)) := ⟨ps_setcomp hN hy hl S hf hjs hc hi.run (fun s H C ex => (ht s H C ex).run) (fun s H C ex => (he s H C ex).run) hs hsw hfn⟩
theorem j_pg_tup {es : List Expr} {k : Nat} {t : TGs} {n : Nat} (hc : X.calm = true) (h : JGs X es t) (hn : (assignEach es X.env).length = n := by rfl) (hst : (assignEach es X.env).findIdx? (·.1) = none := by rfl) : JG X (.Tuple es k pos) (gTup X.K n t) := ⟨pg_tup hc h.run hn hst⟩
theorem j_pifs_nil {X : Cx} : JIfs X [] tYes := ⟨pifs_nil ⟩
theorem j_c_add  : JOp X (binaryOp .Add) cAdd := ⟨c_add ⟩
theorem j_c_sub  : JOp X (binaryOp .Sub) cSub := ⟨c_sub ⟩
theorem j_c_mul  : JOp X (binaryOp .Mult) cMul := ⟨c_mul ⟩
theorem j_c_fdiv  : JOp X (binaryOp .FloorDiv) cFdiv := ⟨c_fdiv ⟩
theorem j_c_mod  : JOp X (binaryOp .Mod) cMod := ⟨c_mod ⟩
theorem j_c_pow  : JOp X (binaryOp .Pow) cPow := ⟨c_pow ⟩
theorem j_c_lt  : JOp X (compareOp .Lt) cLt := ⟨c_lt ⟩
theorem j_c_le  : JOp X (compareOp .LtE) cLe := ⟨c_le ⟩
theorem j_c_gt  : JOp X (compareOp .Gt) cGt := ⟨c_gt ⟩
theorem j_c_eq  : JOp X (compareOp .Eq) cEq := ⟨c_eq ⟩
theorem j_c_ne  : JOp X (compareOp .NotEq) cNe := ⟨c_ne ⟩
theorem j_c_is  : JOp X (compareOp .Is) cIs := ⟨c_is ⟩
theorem j_c_neg  : JUn X (unaryOp .USub) cNeg := ⟨c_neg ⟩
theorem j_op_in_seq  : JOp X (compareOp .In) (rIn X.K false) := ⟨op_in_seq ⟩
theorem j_op_notIn_seq  : JOp X (compareOp .NotIn) (rIn X.K true) := ⟨op_notIn_seq ⟩
theorem j_c_ix  : JIx X cIx := ⟨c_ix ⟩
theorem j_c_ixS  : JIx X (cIxS X.K) := ⟨c_ixS ⟩
theorem j_c_len  : JCall X (.builtin "len") cLen := ⟨c_len ⟩
theorem j_c_lenS  : JCall X (.builtin "len") (cLenS X.K) := ⟨c_lenS ⟩
theorem j_c_abs  : JCall X (.builtin "abs") cAbs := ⟨c_abs ⟩
theorem j_call_isi {X : Cx} : JCall X (.builtin "isinstance") (rIsi X.K) := ⟨call_isi ⟩
theorem j_c_sl  : JSl X cSl := ⟨c_sl ⟩
theorem j_c_set  : JSet X cSetL := ⟨c_set ⟩
theorem j_c_append  : JMt X "list.append" cAppend := ⟨c_append ⟩
theorem j_c_all (hc : X.calm = true) : JCall X (.builtin "all") cAll := ⟨c_all hc⟩
theorem j_call_ist {X : Cx} : JCall X (.builtin "isinstance") (rIsT X.K) := ⟨call_ist ⟩
theorem j_ps_while {c : Expr} {body : List Stmt} {tc : TT} {tb : TS} (hp : PassesOwn (model X.prog X.w) X.A X.env X.xe) (hc : JT X c tc) (hb : JSs X body tb) : JS X (.While c body [] pos) (tWhile tc tb) := ⟨ps_while hp hc.run hb.run⟩
theorem j_c_cat  : JOp X (binaryOp .Add) cCat := ⟨c_cat ⟩
theorem j_c_isA  : JOp X (compareOp .Is) cIsA := ⟨c_isA ⟩
end
section
variable {X : Cx} {scope : Scope} {N2 : List Str} {x : List Str} {s : Shared} {Hb : Hp} {C : Addr} {ex : List Addr}
end
end L2

/-! LO: list(d), dict(d), d.get(k), list.pop(i), == of dicts that have the same numbers. -/
namespace L2
open PySem PySem.Spec PyProof.Rows
variable {X : Cx}
end L2

/-! LP: for a, b in zip(x, y), of lists; d == {} -/
namespace L2
open PySem PySem.Spec PyProof.Rows
section
variable {X : Cx} {pins : List (Addr × Obj)} {σ : St} {H : Hp} {s : Shared} {h' : Heap}
end
/-- pairs of items, each a new tuple -/
def Itz (K : PySem.W.Frag) (a b : Addr) : It :=
  ⟨fun i H => ∃ xs x ys y, SqL K H a xs ∧ xs[i]? = some x ∧ SqL K H b ys ∧ ys[i]? = some y, fun i H x H' => ∃ p u v, H p = none ∧ x = .ref p ∧ H' = upd H p (.tup [u, v]) ∧ (∀ xs, SqL K H a xs → xs[i]? = some u) ∧ ∀ ys, SqL K H b ys → ys[i]? = some v,
   fun i H => ∃ xs ys, SqL K H a xs ∧ SqL K H b ys ∧ (xs.length ≤ i ∨ ys.length ≤ i)⟩
section
variable {X : Cx}
end
theorem LoopW.zip {K : PySem.W.Frag} {a b : Addr} {xs ys : List V} {g : TG} {tb : TS} {D : Ends} {σ : St} {H : Hp} (Pv : Nat → St → Hp → Prop) (hlen : xs.length = ys.length) (h0 : Pv 0 σ H) (hl : ∀ i σ H, i ≤ xs.length → Pv i σ H → SqL K H a xs ∧ SqL K H b ys)
    (hs : ∀ i x y σ H p, xs[i]? = some x → ys[i]? = some y → Pv i σ H → H p = none → g (.ref p) σ (upd H p (.tup [x, y])) fun σ2 H2 => tb { D with nx := Pv (i + 1), ct := Pv (i + 1), bk := D.nx } σ2 H2) (hd : ∀ σ H, Pv xs.length σ H → D.nx σ H) : LoopW (Itz K a b) g tb D σ H := by
  refine ⟨fun i m σ H => Pv i σ H ∧ i ≤ xs.length ∧ m = xs.length - i, ⟨_, h0, Nat.zero_le _, rfl⟩, fun i m σ H ⟨hP, hi, hm⟩ => ?_⟩
  obtain ⟨sa, sb⟩ := hl i σ H hi hP
  by_cases z : i < xs.length
  · have ex : xs[i]? = some xs[i] := List.getElem?_eq_getElem z
    have ey : ys[i]? = some (ys[i]'(by omega)) := List.getElem?_eq_getElem (by omega)
    refine .inr ⟨⟨xs, _, ys, _, sa, ex, sb, ey⟩, Pv (i + 1), fun σ' H' hN => ⟨xs.length - (i + 1), by omega, hN, z, rfl⟩, ?_⟩
    rintro x H' ⟨p, u, v, hp, rfl, rfl, hu, hv⟩
    exact hs i u v σ H p (hu xs sa) (hv ys sb) hP hp
  · have e : i = xs.length := by omega
    subst e
    exact .inl ⟨⟨xs, ys, sa, sb, .inl (Nat.le_refl _)⟩, hd σ H hP⟩
theorem jh_isi {X : Cx} {a : Addr} : JCall (X.hnd a) (.builtin "isinstance") (rIsi X.K) := j_call_isi
theorem jh_truth {X : Cx} {a : Addr} {e : Expr} {ta : TE} (ha : JE (X.hnd a) e ta) (he : ∀ whole, isTrue e (X.hnd a).env whole = (do let v ← whole; standAt e.pos; holding [v] (truthy v))) : JT (X.hnd a) e (fun σ H Q => ta σ H fun x H' => ∃ k, TruV X.K x H' k ∧ Q k H') := j_pt_truth ha he
end L2

/-! LQ: for over a dict that the body reads and does not write; the dict's record is known meanwhile. -/
namespace L2
open PySem PySem.Spec PyProof.Rows
section
variable {X : Cx} {pins : List (Addr × Obj)} {σ : St} {H : Hp} {s : Shared} {d : Addr} {kvs : List (Key × V)}
end
section
variable {X : Cx}
/-- the keys of a known dict -/
def Itd (d : Addr) (o : Obj) (kvs : List (Key × V)) : It :=
  ⟨fun i H => H d = some (.frz o (.dK kvs)) ∧ i < kvs.length, fun i H x H' => H' = H ∧ ∃ kv, kvs[i]? = some kv ∧ x = kV kv.1, fun i H => H d = some (.frz o (.dK kvs)) ∧ kvs.length ≤ i⟩
theorem LoopW.dict {d : Addr} {o : Obj} {kvs : List (Key × V)} {g : TG} {tb : TS} {D : Ends} {σ : St} {H : Hp} (Pv : Nat → St → Hp → Prop) (h0 : Pv 0 σ H) (hl : ∀ i σ H, i ≤ kvs.length → Pv i σ H → H d = some (.frz o (.dK kvs)))
    (hs : ∀ i kv σ H, kvs[i]? = some kv → Pv i σ H → g (kV kv.1) σ H fun σ2 H2 => tb { D with nx := Pv (i + 1), ct := Pv (i + 1), bk := D.nx } σ2 H2) (hd : ∀ σ H, Pv kvs.length σ H → D.nx σ H) : LoopW (Itd d o kvs) g tb D σ H := by
  refine ⟨fun i m σ H => m + i = kvs.length ∧ Pv i σ H, ⟨kvs.length, by omega, h0⟩, ?_⟩
  rintro i m σ H ⟨hm, hP⟩
  by_cases z : i < kvs.length
  · refine .inr ⟨⟨hl i σ H (by omega) hP, z⟩, Pv (i + 1), fun σ' H' hN => ⟨kvs.length - (i + 1), by omega, by omega, hN⟩, ?_⟩
    rintro x H' ⟨rfl, kv, hkv, rfl⟩
    exact hs i kv σ _ hkv hP
  · have e : i = kvs.length := by omega
    subst e
    exact .inl ⟨⟨hl _ σ H (Nat.le_refl _) hP, Nat.le_refl _⟩, hd σ H hP⟩
end
end L2

/-! LS: texts: a sign, a slice, join, the signs one behind the other; list.index of texts -/
namespace L2
open PySem PySem.Spec PyProof.Rows
section
variable {X : Cx}
def cIxT : R2 := fun x y H Q => match x, y with
  | .str z, .int i => (match atI z.cps.toList i with
    | some c => z.length ≤ sizeLine ∧ Q (.str ⟨#[c]⟩) H
    | none => False)
  | _, _ => False
theorem c_ixT : IxR X cIxT := by
  intro value slice pins s σ H x y v u Q I rx ry h hs
  unfold cIxT at h
  split at h
  case h_2 => exact h.elim
  rename_i z i
  split at h
  case h_2 => exact h.elim
  rename_i c hc
  exact ix_str value slice pins s σ H _ _ v u Q I rx ry ⟨z, i, c, rfl, rfl, h.1, hc, h.2⟩ hs
def cSlT : V → Option Int → Option Int → Hp → VK → Prop := fun x lo hi H Q => match x with
  | .str z => (StrLaws.sliceText z lo hi).length ≤ sizeLine ∧ Q (.str (StrLaws.sliceText z lo hi)) H
  | _ => False
theorem c_slT : SlR X cSlT := by
  intro pins s σ H x v vl vu lo hi sl Q I rx hs pl pu h
  unfold cSlT at h
  split at h
  case h_2 => exact h.elim
  rename_i z
  obtain ⟨t, rfl⟩ := rx
  refine ⟨"str", _, slot_str_getitem.lookup, typeIs_str s z t, ?_⟩
  have hp : ∀ {v : Value} {o : Option Int}, IsPart v o → ∃ l : Option (Int × Tok), v = partValue l ∧ l.map (·.1) = o := fun {v o} p => by
    cases p with
    | none => exact ⟨none, rfl, rfl⟩
    | int i t => exact ⟨some (i, t), rfl, rfl⟩
  obtain ⟨l, rfl, el⟩ := hp pl
  obtain ⟨u, rfl, eu⟩ := hp pu
  refine wpAny_getItem_str_slice (l := l) (u := u) (st := none) hs rfl ?_
  unfold sliceMade
  have e : slicePicked z l u none = Builtin.Str.strSliceIndices lo hi 1 z.length := by
    unfold slicePicked; rw [el, eu]; rfl
  rw [e]
  unfold StrLaws.sliceText at h
  rw [show (Option.map (fun (x : Int × Tok) => x.fst) none).getD 1 = (1 : Int) from rfl]
  by_cases c : ((1 : Int) == 1 && (Builtin.Str.strSliceIndices lo hi 1 z.length).length == z.length) = true
  · rw [if_pos c] at h
    rw [if_pos c]
    exact ⟨.str z, H, I, ⟨t, rfl⟩, h.2⟩
  · rw [if_neg c] at h
    rw [if_neg c]
    exact ⟨h.1, .str _, H, I.tok _, ⟨_, rfl⟩, h.2⟩
/-- values of texts -/
theorem vals_strs : ∀ {ts : List Str} {us : List Value}, Vals (ts.map V.str) us → ∃ l : List (Str × Tok), us = strValues l ∧ l.map (·.1) = ts
  | [], _, .nil => ⟨[], rfl, rfl⟩
  | x :: ts, _ :: _, .cons r rest => by
    obtain ⟨t, rfl⟩ := r
    obtain ⟨l, rfl, e⟩ := vals_strs rest
    exact ⟨(x, t) :: l, rfl, by rw [List.map_cons, e]⟩
def cJoin : V → List V → Hp → VK → Prop := fun x vs H Q => match x, vs with
  | .str z, [.ref a] => (match H a with
    | some (.lst ys) => ∃ ts : List Str, ys = ts.map V.str ∧ JoinOk z ts = true ∧ Q (.str (Txt.join z ts)) H
    | _ => False)
  | _, _ => False
theorem c_join : MtR X "str.join" cJoin := by
  intro pins s σ H x xs v us Q I rx rxs h
  unfold cJoin at h
  split at h
  case h_2 => exact h.elim
  rename_i z a
  split at h
  case h_2 => exact h.elim
  rename_i ys ea
  obtain ⟨ts, rfl, hj, q⟩ := h
  obtain ⟨t, rfl⟩ := rx
  obtain ⟨u, rfl, ru⟩ := vals1 rxs
  cases (show u = Value.ref a from ru)
  obtain ⟨its, rv, p, hz⟩ := I.list (SqL.of ea)
  obtain ⟨l, rfl, el⟩ := vals_strs rv
  exact SC.join p.isList el hj fun t' k => ⟨.str _, H, I.tok _, ⟨_, rfl⟩, q⟩
def cIndexS : V → List V → Hp → VK → Prop := fun x vs H Q => match x, vs with
  | .ref a, [.str z] => (match H a with
    | some (.lst ys) => ∃ ts : List Str, ys = ts.map V.str ∧ z ∈ ts ∧ Q (.int (ts.idxOf z : Nat)) H
    | _ => False)
  | _, _ => False
def isStr (z : Str) : Value → Bool
  | .str a _ => a == z
  | _ => false
theorem c_indexS : MtR X "list.index" cIndexS := by
  intro pins s σ H x xs v us Q I rx rxs h
  unfold cIndexS at h
  split at h
  case h_2 => exact h.elim
  rename_i a z
  split at h
  case h_2 => exact h.elim
  rename_i ys ea
  obtain ⟨ts, rfl, hz, q⟩ := h
  cases (show v = Value.ref a from rx)
  obtain ⟨u, rfl, t, rfl⟩ := vals1 rxs
  obtain ⟨its, rv, p, hl⟩ := I.list (SqL.of ea)
  obtain ⟨l, rfl, el⟩ := vals_strs rv
  obtain ⟨⟨cls, dd, data, sl⟩, ho, hc, n, hd⟩ := id p.isList
  simp only at hc hd
  subst hc hd
  have hlen : l.length = ts.length := by rw [← el, List.length_map]
  have hj : ts.idxOf z < ts.length := List.idxOf_lt_length_iff.mpr hz
  have hn := line63
  rw [List.length_map] at hl
  have at_ : ∀ (m : Nat) (hm : m < (strValues l).length) (hm' : m < ts.length), isStr z ((strValues l)[m]) = (ts[m] == z) := fun m hm hm' => by
    subst el
    simp [strValues, isStr]
  refine call_meets PySem.F.slot_list_index ⟨_, ho, rfl⟩ PySem.F.entry_list_index (PySem.F.args_list_index_2 _ _)
    (SeqAt.list_indexAt a (strValues l).toArray n dd sl (.str z t) (isStr z) (ts.idxOf z) (by simpa [strValues, hlen] using hj) (by omega) ?_ ?_) ⟨ho, fun y hy => ?_, ⟨.int _, H, I.tok _, ⟨_, rfl⟩, q⟩⟩
  · show isStr z ((strValues l)[ts.idxOf z]'(by simpa [strValues, hlen] using hj)) = true
    rw [at_ _ _ hj]
    simpa using List.getElem_idxOf hj
  · intro j hjs hlt
    show isStr z ((strValues l)[j]'(by simpa using hjs)) = false
    rw [at_ j _ (by omega)]
    have hf := List.not_of_lt_findIdx (xs := ts) (p := fun a => a == z) hlt
    simpa using hf
  · have hy' : y ∈ strValues l := by simpa using hy
    obtain ⟨pr, _, rfl⟩ := List.mem_map.mp hy'
    exact (eqGives_str pr.1 z pr.2 t).at _ _
/-- the signs of a text -/
def Itx (x : Str) : It :=
  ⟨fun i _ => i < x.cps.toList.length, fun i H v H' => H' = H ∧ ∃ c, x.cps.toList[i]? = some c ∧ v = .str ⟨#[c]⟩, fun i _ => x.cps.toList.length ≤ i⟩
theorem turn_str {P : Program} {w : World} {K : PySem.W.Frag} {tg : Expr} (x : Str) (t : Tok) (it : Addr) : Turn P w K tg (Itx x) [it] it (fun i h => h.IsStrIter it "str_ascii_iterator" x t i) where
  mem := by simp
  obj := fun i h st b hb => by
    have e : b = it := by simpa using hb
    subst e
    obtain ⟨o, e, c, d⟩ := st
    exact ⟨o, e, fun v z => by rw [d] at z; cases z⟩
  keep := fun i h h' st k => by
    obtain ⟨o, e, c⟩ := st
    exact ⟨o, k it (by simp) o e, c⟩
  item := by
    intro X hP hw hK hc i pins s σ H E I hf st hg
    subst hP hw hK
    have ex : x.cps.toList[i]? = some (x.cps.toList[i]'hg) := List.getElem?_eq_getElem hg
    obtain ⟨f0, f1, f2, f3, f4, f5⟩ := hf it (by simp)
    refine wpAny_pyNext_ascii_item st (c := x.cps.toList[i]'hg) (by simpa using ex) fun h' st' sb => ?_
    have I1 : Inv X pins σ H { s with heap := h', toks := s.toks + 1 } := I.turned (t' := s.toks + 1) (fun b o hb e => (sb.2 b hb).trans e) f0 f1 f3 f4 f5
    obtain ⟨o', e', c', d'⟩ := id st'
    exact ⟨_, rfl, go_of (s := { s with heap := h', toks := s.toks + 1 }) e' c' d' (by decide) ⟨.str ⟨#[x.cps.toList[i]'hg]⟩, H, I1, ⟨_, rfl⟩, ⟨rfl, _, ex, rfl⟩, st', fun b hb => (hf b hb).1⟩⟩
  done := by
    intro X hP hw hK hc i pins s σ H E I hf st hg
    subst hP hw hK
    obtain ⟨f0, f1, f2, f3, f4, f5⟩ := hf it (by simp)
    have ex : x.cps.toList[i]? = none := List.getElem?_eq_none hg
    exact wpAny_pyNext_ascii_end (I.ok.hd hc) st (by simpa using ex) fun h' eb => ⟨rfl, I.turned (t' := s.toks) (fun b o hb e => eb b o hb e) f0 f1 f3 f4 f5⟩
  self := fun _ _ _ _ _ st h => wpAny_pyIter_striter_ascii st h
def iStr (tl : TE) : TI := fun σ H R => tl σ H fun x H1 => match x with
  | .str z => (z.cps.all fun c => decide (c < 128)) = true ∧ R (Itx z) H1
  | _ => False
theorem pi_str {tg l : Expr} {tl : TE} (hl : PE X l tl) : PI X tg l (iStr tl) := by
  intro pins s σ H R I h
  refine thn (hl pins s σ H _ I h) fun v s1 ⟨x, H1, I1, r1, q1⟩ => ?_
  try dsimp only at q1
  split at q1
  case h_2 => exact q1.elim
  rename_i z
  obtain ⟨t, rfl⟩ := r1
  refine wpAny_pyIter_ascii q1.1 ?_
  refine ⟨s1.heap.objs.size, [s1.heap.objs.size], _, _, H1, rfl, I1.kept (t' := s1.toks) fun b o e => Heap.get?_push_of_some _ e, turn_str z t _, ⟨_, Heap.get?_push_size _ rfl, rfl, rfl⟩, fun b hb => ?_, q1.2⟩
  have e : b = s1.heap.objs.size := by simpa using hb
  subst e
  exact I1.fpOk (Nat.le_refl _) (I1.hok.fresh (Nat.le_refl _))
/-- one item for each sign -/
theorem CompW.mapX {x : Str} {cap : St} {te : TE} {H : Hp} {Q : VK} (f : Nat → V) (hn : x.cps.toList.length ≤ sizeLine) (h : ∀ c ∈ x.cps.toList, ∀ K' : VK, K' (f c) H → te (some (.str ⟨#[c]⟩) :: cap) H K')
    (q : ∀ p, H p = none → Q (.ref p) (upd H p (.lst (x.cps.toList.map f)))) : CompW (Itx x) cap tYes te H Q := by
  refine ⟨fun i m ys H' => H' = H ∧ i ≤ x.cps.toList.length ∧ m = x.cps.toList.length - i ∧ ys = (x.cps.toList.take i).map f, ⟨_, rfl, Nat.zero_le _, rfl, rfl⟩, fun i m ys H' ⟨e1, hi, em, ey⟩ => ?_⟩
  subst e1 ey
  refine ⟨by rw [List.length_map, List.length_take]; omega, ?_⟩
  by_cases z : i < x.cps.toList.length
  · refine .inr ⟨z, fun v H2 ⟨e2, c, ec, ev⟩ => ?_⟩
    subst e2 ev
    refine h c (List.mem_of_getElem? ec) _ ⟨x.cps.toList.length - (i + 1), by omega, rfl, z, rfl, ?_⟩
    rw [List.take_add_one, ec]; simp
  · have e : i = x.cps.toList.length := by omega
    refine .inl ⟨by show x.cps.toList.length ≤ i; omega, ?_⟩
    rw [e, List.take_length]; exact q
/-- a method of a text -/
def cBMS (r : V → List V → Hp → VK → Prop) (to : TE) (t : TA) : TE := fun σ H Q => to σ H fun x H1 => match x with
  | .str _ => t σ H1 fun xs H2 => r x xs H2 Q
  | _ => False
theorem c_bmS {id : String} {name : Str} {r : V → List V → Hp → VK → Prop} {o e : Expr} {es : List Expr} {to : TE} {t : TA} {apos cpos : Pos} (slot : Slot "str" name id) (hty : typeOf (.builtin id) = pure (.type "method_descriptor")) (hm : MtR X id r) (ho : PE X o to) (ha : PA X (e :: es) t) (hns : (e :: es).all notStar = true := by rfl)
    (hbase : attributeBase o name X.env (eval o X.env) = eval o X.env := by rfl)
    (hfew : ((backTo cpos (starEach (e :: es) X.env)).all (fun x => !x.1) && (backToKw cpos (keywordEach [] X.env)).all (fun x => x.1.isSome)
      && decide ((e :: es).length + ([] : List Keyword).length + (if ([] : List Keyword).isEmpty then 0 else 1) < 30)) = true := by rfl)
    (hline : (apos.endLine == cpos.line) = true := by rfl) : PE X (.Call (.Attribute o name apos) (e :: es) [] cpos) (cBMS r to t) := by
  intro pins s σ H Q I h
  have hs : starEach (e :: es) X.env = (false, eval e X.env) :: starEach es X.env := star_ns (by rw [List.all_cons, Bool.and_eq_true] at hns; exact hns.1)
  have hplain : (backTo cpos (starEach es X.env)).any (·.1) = false := star_any (by rw [List.all_cons, Bool.and_eq_true] at hns; exact hns.2)
  refine wpAny_Call_method_late hbase hfew hline rfl (thn (ho pins s σ H _ I h) fun v s1 ⟨x, H1, I1, r1, q1⟩ => ?_)
  try dsimp only at q1
  split at q1
  case h_2 => exact q1.elim
  rename_i z
  have ty : tyV X.K "str" (.str z) H1 := rfl
  obtain ⟨h1, h2⟩ := tyV_is I1 r1 ty
  refine ⟨"str", id, PySem.F.plainAttrs_str, slot, hty, h1, h2, ?_⟩
  have hA := ha cpos pins s1 σ H1 _ I1 q1
  rw [hs] at hA ⊢
  refine Calls.callWith_builtin (by show (false || (backTo cpos (starEach es X.env)).any (·.1)) = false; rw [hplain] <;> rfl) (Calls.evalArgs_plain ?_)
  exact thn hA fun us s2 ⟨vs, H2, I2, r2, q2⟩ => hm pins s2 σ H2 _ vs v us Q I2 r1 r2 q2
/-- len of a text, too -/
def cLenT : List V → Hp → VK → Prop := fun xs H Q => match xs with
  | [.str z] => z.length ≤ sizeLine ∧ Q (.int z.length) H
  | _ => False
theorem c_lenT : CallR X (.builtin "len") cLenT := call_len_str.mono fun xs H Q h => by
  unfold cLenT at h
  split at h
  case h_2 => exact h.elim
  rename_i z
  exact ⟨z, rfl, h⟩
structure JPs (X : Cx) (pos : Pos) (keys : List (Option Expr)) (values : List Expr) (trs : List (TE × TE)) : Prop where
  run : PPs X pos keys values trs
theorem j_c_ixT : JIx X cIxT := ⟨c_ixT⟩
theorem j_c_slT : JSl X cSlT := ⟨c_slT⟩
theorem j_c_join : JMt X "str.join" cJoin := ⟨c_join⟩
theorem j_c_indexS : JMt X "list.index" cIndexS := ⟨c_indexS⟩
theorem j_pi_str {tg l : Expr} {tl : TE} (hl : JE X l tl) : JI X tg l (iStr tl) := ⟨pi_str hl.run⟩
theorem j_c_lenT : JCall X (.builtin "len") cLenT := ⟨c_lenT⟩
theorem j_c_bmS {id : String} {name : Str} {r : V → List V → Hp → VK → Prop} {o e : Expr} {es : List Expr} {to : TE} {t : TA} {apos cpos : Pos} (slot : Slot "str" name id) (hty : typeOf (.builtin id) = pure (.type "method_descriptor")) (hm : JMt X id r) (ho : JE X o to) (ha : JA X (e :: es) t) (hns : (e :: es).all notStar = true := by rfl)
    (hbase : attributeBase o name X.env (eval o X.env) = eval o X.env := by rfl)
    (hfew : ((backTo cpos (starEach (e :: es) X.env)).all (fun x => !x.1) && (backToKw cpos (keywordEach [] X.env)).all (fun x => x.1.isSome)
      && decide ((e :: es).length + ([] : List Keyword).length + (if ([] : List Keyword).isEmpty then 0 else 1) < 30)) = true := by rfl)
    (hline : (apos.endLine == cpos.line) = true := by rfl) : JE X (.Call (.Attribute o name apos) (e :: es) [] cpos) (cBMS r to t) := ⟨c_bmS slot hty hm.run ho.run ha.run hns hbase hfew hline⟩
end
/-- != of tuples of one length, else as cNeA -/
def cNeT : R2 := fun x y H Q => match x, y with
  | .ref a, .ref b => (match H a, H b with
    | some (.tup xs), some (.tup ys) => xs.length = ys.length ∧ (match allO (List.zipWith (deq H 2) xs ys) with
        | some k => Q (.bl (!k)) H
        | none => False)
    | _, _ => cNeA (.ref a) (.ref b) H Q)
  | x, y => cNeA x y H Q
theorem c_neT {X : Cx} (hu : X.A.units + 8 < cLine) : OpR X (compareOp .NotEq) cNeT := by
  intro pins s σ H x y v u Q I rx ry h
  unfold cNeT at h
  split at h
  case h_2 => exact c_neA hu pins s σ H _ _ v u Q I rx ry h
  rename_i a b
  split at h
  case h_2 => exact c_neA hu pins s σ H _ _ v u Q I rx ry h
  rename_i xs ys e1 e2
  obtain ⟨hl, h⟩ := h
  cases (show v = Value.ref a from rx)
  cases (show u = Value.ref b from ry)
  obtain ⟨i1, r1, p1, _⟩ := I.tuple (.inl (.inl e1))
  obtain ⟨i2, r2, p2, _⟩ := I.tuple (.inl (.inl e2))
  have l1 := r1.length
  have l2 := r2.length
  split at h
  case h_2 => exact h.elim
  rename_i k hk
  obtain ⟨e, h1, h2⟩ := allO_at hk
  rw [List.length_zipWith, ← hl, Nat.min_self] at h2
  refine SeqAt.RcNeAt.tuples (e := e) p1 p2 (by omega) (fun j j1 j2 => ?_) X.prog X.w X.xe _ ⟨.bl (!k), H, I, ?_, h⟩
  · simp only [List.size_toArray] at j1 j2
    have k1 : j < xs.length := by omega
    have k2 : j < ys.length := by omega
    obtain ⟨w1, g1, q1⟩ := r1.get (List.getElem?_eq_getElem k1)
    obtain ⟨w2, g2, q2⟩ := r2.get (List.getElem?_eq_getElem k2)
    have z := h1 j (deq H 2 xs[j] ys[j]) (by rw [List.getElem?_zipWith, List.getElem?_eq_getElem k1, List.getElem?_eq_getElem k2])
    have e4 : i1.toArray[j] = w1 := by simpa [j1] using g1
    have e5 : i2.toArray[j] = w2 := by simpa [j2] using g2
    rw [e4, e5]
    exact eqAt_deq I 2 X.A.in1 (by rw [Around.in1_units]; omega) q1 q2 z
  · have e3 : i1.toArray.size = xs.length := by simp [l1]
    have e4 : i2.toArray.size = xs.length := by simp [← l2, hl]
    rw [e3, e4, Nat.min_self, h2, beq_self_eq_true, Bool.and_true]
    exact rfl
theorem j_c_neT {X : Cx} (hu : X.A.units + 8 < cLine) : JOp X (compareOp .NotEq) cNeT := ⟨c_neT hu⟩
end L2

/-! LT: texts: str, int of a text, split, startswith, find, in; tuple of a list; a written table of texts and numbers -/
namespace L2
open PySem PySem.Spec PyProof.Rows
section
variable {X : Cx}
def cStr : List V → Hp → VK → Prop := fun xs H Q => match xs with
  | [.str z] => Q (.str z) H
  | [.int i] => i.natAbs.log2 < 1920 ∧ Q (.str (toString i)) H
  | _ => False
theorem c_str : CallR X (.type "str") cStr := by
  intro pins s σ H xs us Q I r h
  unfold cStr at h
  split at h
  · obtain ⟨u, rfl, t, rfl⟩ := vals1 r
    exact P.str_of_str ⟨.str _, H, I, ⟨_, rfl⟩, h⟩
  · exact call_str_int pins s σ H _ us Q I r ⟨_, rfl, h.1, h.2⟩
  · exact h.elim
def cIntT : List V → Hp → VK → Prop := fun xs H Q => match xs with
  | [.str z] => ∃ n, PySem.intText? z = some n ∧ z.length ≤ 640 ∧ Q (.int n) H
  | [.int i] => Q (.int i) H
  | [.bl k] => Q (.int (if k then 1 else 0)) H
  | _ => False
theorem c_intT : CallR X (.type "int") cIntT := by
  intro pins s σ H xs us Q I r h
  unfold cIntT at h
  split at h
  · obtain ⟨u, rfl, t, rfl⟩ := vals1 r
    obtain ⟨n, hn, hl, q⟩ := h
    exact PySem.W.KIN.call_text hn hl ⟨.int n, H, I.tok _, ⟨_, rfl⟩, q⟩
  · exact c_int pins s σ H _ us Q I r h
  · exact c_int pins s σ H _ us Q I r h
  · exact h.elim
def cTupleOf : List V → Hp → VK → Prop := fun xs H Q => match xs with
  | [.ref a] => (match H a with
    | some (.lst ys) => ∀ l, H l = none → Q (.ref l) (upd H l (.tup ys))
    | _ => False)
  | _ => False
theorem c_tupleOf : CallR X (.type "tuple") cTupleOf := call_tuple_of.mono fun xs H Q h => by
  unfold cTupleOf at h
  split at h
  case h_2 => exact h.elim
  split at h
  case h_2 => exact h.elim
  rename_i ys e
  exact ⟨_, ys, rfl, .inl ⟨SqL.of e, h⟩⟩
def cSplit : V → List V → Hp → VK → Prop := fun x vs H Q => match x, vs with
  | .str z, [.str y] => 1 ≤ y.length ∧ z.length ≤ 1000 ∧ ∀ l, H l = none → Q (.ref l) (upd H l (.lst ((Txt.split z y).map V.str)))
  | _, _ => False
theorem vals_strValues : ∀ {l : List (Str × Tok)} {ts : List Str}, l.map (·.1) = ts → Vals (ts.map V.str) (strValues l)
  | [], _, rfl => .nil
  | (x, t) :: l, _, rfl => .cons ⟨t, rfl⟩ (vals_strValues (l := l) rfl)
theorem c_split : MtR X "str.split" cSplit := by
  intro pins s σ H x xs v us Q I rx rxs h
  unfold cSplit at h
  split at h
  case h_2 => exact h.elim
  rename_i z y
  obtain ⟨hy, hz, q⟩ := h
  obtain ⟨t, rfl⟩ := rx
  obtain ⟨u, rfl, tu, rfl⟩ := vals1 rxs
  have lay : ∀ (l : List (Str × Tok)) (k : Nat), l.map (·.1) = Txt.split z y → EP X pins σ Q (.ref s.heap.objs.size) { s with toks := k, heap := s.heap.push { cls := .type "list", data := .seq (strValues l).toArray } } := fun l k e => by
    have hl : (Txt.split z y).length ≤ sizeLine := Nat.le_trans (split_le z y) (Nat.le_trans (show z.length + 2 ≤ 1002 by omega) (by decide))
    refine ⟨.ref s.heap.objs.size, _, I.laid (t' := k) (fun b o e => Heap.get?_push_of_some _ e) (Nat.le_refl _) (show ObjOk X.prog X.w _ _ _ (.lst ((Txt.split z y).map V.str)) from ⟨by rw [List.length_map]; exact hl, strValues l, 0, vals_strValues e, Heap.get?_push_size _ rfl⟩), rfl, q _ (I.hok.fresh (Nat.le_refl _))⟩
  have hy' : (y.length == 0) = false := by simpa using (show y.length ≠ 0 by omega)
  have hsz : z.length ≤ sizeLine := Nat.le_trans hz (by decide)
  cases h1 : (decide (z.length < y.length) || decide (Builtin.Str.strKind z < Builtin.Str.strKind y))
  · cases hf : (Builtin.Str.occurrences z y 0 z.length (z.length + 1)).isEmpty
    · have e : Txt.split z y = Builtin.Str.partsBetween z (Builtin.Str.occurrences z y 0 z.length (z.length + 1)) y.length := by unfold Txt.split; rw [if_neg (by rw [h1]; exact Bool.false_ne_true), if_neg (by rw [hf]; exact Bool.false_ne_true)]
      have hsz2 : (Builtin.Str.partsBetween z (Builtin.Str.occurrences z y 0 z.length (z.length + 1)) y.length).length ≤ sizeLine := by
        rw [← e]; exact Nat.le_trans (split_le z y) (Nat.le_trans (show z.length + 2 ≤ 1002 by omega) (by decide))
      refine call_meets F.slot_str_split (typeIs_str _ _ _) F.entry_str_split (F.args_str_split_2 _ _) (meets_str_split_sep z y t tu h1 hy' hf hsz hsz2) ?_
      show wants _ _ _ { s with toks := _, heap := s.heap.push { cls := .type "list", data := .seq (strsFrom s.toks (Builtin.Str.partsBetween z (Builtin.Str.occurrences z y 0 z.length (z.length + 1)) y.length)).toArray } }
      rw [strsFrom_eq]
      exact lay (numbered s.toks _) _ ((numbered_texts _ _).trans e.symm)
    · have e : Txt.split z y = [z] := by unfold Txt.split; rw [if_neg (by rw [h1]; exact Bool.false_ne_true), if_pos hf]
      exact call_meets F.slot_str_split (typeIs_str _ _ _) F.entry_str_split (F.args_str_split_2 _ _) (meets_str_split_not_found z y t tu h1 hy' hf) (lay [(z, t)] s.toks e.symm)
  · have e : Txt.split z y = [z] := by unfold Txt.split; rw [if_pos h1]
    exact call_meets F.slot_str_split (typeIs_str _ _ _) F.entry_str_split (F.args_str_split_2 _ _) (meets_str_split_cannot_occur z y t tu h1) (lay [(z, t)] s.toks e.symm)
def cStarts : V → List V → Hp → VK → Prop := fun x vs H Q => match x, vs with
  | .str z, [.str y] => Q (.bl (Txt.startswith z y)) H
  | _, _ => False
theorem c_starts : MtR X "str.startswith" cStarts := by
  intro pins s σ H x xs v us Q I rx rxs h
  unfold cStarts at h
  split at h
  case h_2 => exact h.elim
  obtain ⟨t, rfl⟩ := rx
  obtain ⟨u, rfl, tu, rfl⟩ := vals1 rxs
  exact SC.startswith ⟨.bl _, H, I, rfl, h⟩
def cFind : V → List V → Hp → VK → Prop := fun x vs H Q => match x, vs with
  | .str z, [.str y] => Q (.int (Txt.find z y)) H
  | _, _ => False
theorem c_find : MtR X "str.find" cFind := by
  intro pins s σ H x xs v us Q I rx rxs h
  unfold cFind at h
  split at h
  case h_2 => exact h.elim
  obtain ⟨t, rfl⟩ := rx
  obtain ⟨u, rfl, tu, rfl⟩ := vals1 rxs
  exact SC.find ⟨.int _, H, I.tok _, ⟨_, rfl⟩, h⟩
def cInT : R2 := fun x y H Q => match x, y with
  | .str i, .str j => Q (.bl (!(Builtin.Str.occurrences j i 0 j.length 1).isEmpty)) H
  | _, _ => False
theorem c_inT : OpR X (compareOp .In) cInT := op_in_str.mono fun x y H Q h => by
  unfold cInT at h
  split at h
  · exact ⟨_, _, rfl, rfl, h⟩
  · exact h.elim
/-- a text so often -/
def cMulT : R2 := fun x y H Q => match x, y with
  | .str z, .int n => z.length ≤ 1000 ∧ 0 ≤ n ∧ n ≤ 16 ∧ Q (.str (Txt.mul z n)) H
  | _, _ => False
theorem c_mulT : OpR X (binaryOp .Mult) cMulT := by
  intro pins s σ H x y v u Q I rx ry h
  unfold cMulT at h
  split at h
  case h_2 => exact h.elim
  rename_i z n
  obtain ⟨t, rfl⟩ := (show ∃ t, v = Value.str z t from rx)
  obtain ⟨t', rfl⟩ := (show ∃ t, u = Value.int n t from ry)
  obtain ⟨hz, h0, hn, h⟩ := h
  exact SB.mul (mulOk_of 1000 16 hz (by omega) (by omega) (by decide) (by decide)) fun t2 k => ⟨.str _, H, I.tok _, ⟨t2, rfl⟩, h⟩
/-- a slice of a tuple, not the whole -/
def cSlU (K : PySem.W.Frag) : V → Option Int → Option Int → Hp → VK → Prop := fun x lo hi H Q => match x with
  | .ref a => (match H a with
    | some (.tup xs) => ¬ (HT.sIx xs.length 0 lo = 0 ∧ HT.sIx xs.length xs.length hi = xs.length) ∧ ∀ p, H p = none → Q (.ref p) (upd H p (.tup (cutV xs lo hi)))
    | _ => False)
  | _ => False
theorem c_slU : SlR X (cSlU X.K) := by
  intro pins s σ H x v vl vu lo hi sl Q I rx hs pl pu h
  unfold cSlU at h
  split at h
  case h_2 => exact h.elim
  split at h
  case h_2 => exact h.elim
  rename_i a _ xs e
  exact sl_tup pins s σ H _ v vl vu lo hi sl Q I rx hs pl pu ⟨a, xs, rfl, SqT.of e, h.1, h.2⟩
/-- a written table: texts, and a number for each -/
structure KTb (w : World) (K : PySem.W.Frag) (a : Addr) (D : List (Str × Int)) : Prop where
  lk : KTD.tabLook KTD.flatLooks (fun b => K.lookup b) a (D.map fun p => (p.1, PyData.int p.2)) = true
  nd : (D.map (·.1)).Nodup
  hs : KTD.hashesOf (fun b => K.lookup b) a = D.map fun p => PySem.hashStr w p.1
theorem KTb.tab {P : Program} {w : World} {K : PySem.W.Frag} {a : Addr} {D : List (Str × Int)} {h : Heap} (t : KTb w K a D) (x : ∀ b o, K.lookup b = some o → h.get? b = some o) : StrTab P w h a (PySem.W.kdpD D) := by
  have := KTD.strTab_of_look P w x t.lk (by rw [List.map_map]; exact t.nd) (by rw [List.map_map]; exact t.hs)
  rw [List.map_map] at this
  exact this
def cNotInK (w : World) (K : PySem.W.Frag) : R2 := fun x y H Q => match x, y with
  | .str k, .ref a => ∃ D, KTb w K a D ∧ Q (.bl (!PySem.W.kdpHas D k)) H
  | _, _ => False
theorem c_notInK : OpR X (compareOp .NotIn) (cNotInK X.w X.K) := by
  intro pins s σ H x y v u Q I rx ry h
  unfold cNotInK at h
  split at h
  case h_2 => exact h.elim
  obtain ⟨D, t, q⟩ := h
  obtain ⟨tk, rfl⟩ := rx
  cases ry
  exact PySem.W.kdp_notin (t.tab I.kIn) ⟨.bl _, H, I.tok _, rfl, q⟩
def cKGet (w : World) (K : PySem.W.Frag) (td ty : TE) : TE := fun σ H Q => td σ H fun x H1 => ty σ H1 fun y H2 => match x, y with
  | .ref a, .str k => ∃ D, KTb w K a D ∧ PySem.W.kdpHas D k = true ∧ Q (.int (PySem.W.kdpLook D k 0)) H2
  | _, _ => False
theorem c_kget {o i : Expr} {pos : Pos} {td ty : TE} (ho : PE X o td) (hi : PE X i ty) (hs : NoSl i) : PE X (.Subscript o i pos) (cKGet X.w X.K td ty) := by
  intro pins s σ H Q I h
  refine subD_of PySem.F.slot_dict_getitem.lookup hs (thn (ho pins s σ H _ I h) fun u s1 ⟨x, H1, I1, rx, q1⟩ => thn (hi pins s1 σ H1 _ I1 q1) fun iv s2 ⟨y, H2, I2, ry, q2⟩ => ?_)
  try dsimp only at q2
  split at q2
  case h_2 => exact q2.elim
  rename_i a k _
  obtain ⟨D, t, hk, q⟩ := q2
  obtain rfl : u = Value.ref a := rx
  obtain ⟨tk, rfl⟩ := ry
  have tt := t.tab (P := X.prog) I2.kIn
  obtain ⟨lo, kvs, hd, hf⟩ := id tt
  exact ⟨hd.typeIs, PySem.W.kdp_getItem tt hk fun t' => ⟨.int _, H2, I2.tok _, ⟨t', rfl⟩, q⟩⟩
end
/-- written texts and numbers, one behind the other -/
def cstE : Expr → Option V
  | .Constant (.str x) _ _ => some (.str x)
  | .Constant (.int i) _ _ => some (.int i)
  | _ => none
def cstEs : List Expr → Option (List V)
  | [] => some []
  | e :: es => match cstE e with
    | some v => (cstEs es).map fun vs => v :: vs
    | none => none
def tCst (cs : List V) : TA := fun _ H Q => Q cs H
theorem pa_cst {X : Cx} : ∀ {es : List Expr} {cs : List V}, cstEs es = some cs → PA X es (tCst cs)
  | [], cs, h => by cases h; exact pa_nil
  | e :: es, cs, h => by
    unfold cstEs at h
    split at h
    · rename_i v ev
      obtain ⟨vs, h1, rfl⟩ := Option.map_eq_some_iff.mp h
      unfold cstE at ev
      split at ev
      · cases ev
        exact pa_cons pe_str (pa_cst h1) rfl
      · cases ev
        exact pa_cons pe_int (pa_cst h1) rfl
      · cases ev
    · cases h
theorem j_pa_cst {X : Cx} {es : List Expr} {cs : List V} (h : cstEs es = some cs) : JA X es (tCst cs) := ⟨pa_cst h⟩
theorem LoopW.str {x : Str} {g : TG} {tb : TS} {D : Ends} {σ : St} {H : Hp} (Pv : Nat → St → Hp → Prop) (h0 : Pv 0 σ H)
    (hs : ∀ i c σ H, x.cps.toList[i]? = some c → Pv i σ H → g (.str ⟨#[c]⟩) σ H fun σ2 H2 => tb { D with nx := Pv (i + 1), ct := Pv (i + 1), bk := D.nx } σ2 H2) (hd : ∀ σ H, Pv x.cps.toList.length σ H → D.nx σ H) : LoopW (Itx x) g tb D σ H := by
  refine ⟨fun i m σ H => Pv i σ H ∧ i ≤ x.cps.toList.length ∧ m = x.cps.toList.length - i, ⟨_, h0, Nat.zero_le _, rfl⟩, fun i m σ H ⟨hP, hi, hm⟩ => ?_⟩
  by_cases z : i < x.cps.toList.length
  · refine .inr ⟨z, Pv (i + 1), fun σ' H' hN => ⟨x.cps.toList.length - (i + 1), by omega, hN, z, rfl⟩, ?_⟩
    rintro v H' ⟨rfl, c, hc, rfl⟩
    exact hs i c σ _ hc hP
  · have e : i = x.cps.toList.length := by omega
    subst e
    exact .inl ⟨Nat.le_refl _, hd σ H hP⟩
theorem ex_run {X : Cx} {es : List Stmt} {t : TS} {B : TS → Prop} (h : JSs X es t) (hb : B t) : ∃ t, PSs X es t ∧ B t := ⟨t, h.run, hb⟩
theorem cxOf_w {CX : CXT} {ca : Bool} {P : Program} {w : World} {K : PySem.W.Frag} {mg : Str → Option Value} {base : Heap} {N : List Str} {qual : Str} {scope : Scope} {f : Addr} {cd : Value} {A : Around} {outer : List Env} {s : Shared} {H : Hp} {E : XK} :
    (cxOf CX ca P w K mg base N qual scope f cd A outer s H E).w = w := rfl
theorem j_c_str {X : Cx} : JCall X (.type "str") cStr := ⟨c_str⟩
theorem j_c_intT {X : Cx} : JCall X (.type "int") cIntT := ⟨c_intT⟩
theorem j_c_tupleOf {X : Cx} : JCall X (.type "tuple") cTupleOf := ⟨c_tupleOf⟩
theorem j_c_split {X : Cx} : JMt X "str.split" cSplit := ⟨c_split⟩
theorem j_c_starts {X : Cx} : JMt X "str.startswith" cStarts := ⟨c_starts⟩
theorem j_c_find {X : Cx} : JMt X "str.find" cFind := ⟨c_find⟩
theorem j_c_inT {X : Cx} : JOp X (compareOp .In) cInT := ⟨c_inT⟩
theorem j_c_mulT {X : Cx} : JOp X (binaryOp .Mult) cMulT := ⟨c_mulT⟩
theorem j_c_slU {X : Cx} : JSl X (cSlU X.K) := ⟨c_slU⟩
theorem j_c_notInK {X : Cx} : JOp X (compareOp .NotIn) (cNotInK X.w X.K) := ⟨c_notInK⟩
theorem j_c_kget {X : Cx} {o i : Expr} {pos : Pos} {td ty : TE} (ho : JE X o td) (hi : JE X i ty) (hs : NoSl i) : JE X (.Subscript o i pos) (cKGet X.w X.K td ty) := ⟨c_kget ho.run hi.run hs⟩
end L2

/-! the law's own text -/
namespace K22
open PySem L2
def top (i : Nat) : Stmt := PySem.Challenge.pw_cellkeep_k22_notes.main.body.getD i (.Pass ⟨0, 0, 0, 0⟩)
abbrev s_line_of : Stmt := top 19
abbrev s_is_written : Stmt := top 22
abbrev s__law_cell_at : Stmt := top 24
abbrev s__law_whole : Stmt := top 25
abbrev s__law_sign_by : Stmt := top 26
abbrev s__law_words : Stmt := top 27
abbrev s__law_figures : Stmt := top 28
abbrev s__law_number_by : Stmt := top 29
abbrev s__law_number : Stmt := top 30
abbrev s_numbers_of : Stmt := top 21
abbrev s__law_deed : Stmt := top 31
abbrev s__law_changed : Stmt := top 34
abbrev s_deed_of : Stmt := top 20
abbrev s__law_read : Stmt := top 32
abbrev s__law_right : Stmt := top 33
abbrev s_law : Stmt := top 35
theorem ln_1 : (Str.ofString " ").length = 1 := by decide +kernel
theorem ln_2 : (Str.ofString " !\"#$&'()*+,-./0123456789:;<=>?@ABCDEFGHIJKLMNOPQRSTUVWXYZ[\\]^_`").length = 64 := by decide +kernel
theorem ln_3 : (Str.ofString " -0").length = 3 := by decide +kernel
theorem ln_4 : (Str.ofString "-").length = 1 := by decide +kernel
theorem ln_6 : (Str.ofString "0123456789").length = 10 := by decide +kernel
theorem ln_7 : (Str.ofString "1234567890").length = 10 := by decide +kernel
theorem ln_8 : (Str.ofString "5").length = 1 := by decide +kernel
theorem ln_11 : (Str.ofString "abcdefghijklmnopqrstuvwxyz{|}~\n\t").length = 32 := by decide +kernel
theorem ln_16 : (Str.ofString "drop ").length = 5 := by decide +kernel
theorem seq_mid {s t : TS} {D : Ends} {σ : St} {H : Hp} (P : St → Hp → Prop) (h1 : ∀ R : St → Hp → Prop, (∀ σ' H', P σ' H' → R σ' H') → s { D with nx := R } σ H) (h2 : ∀ σ' H', P σ' H' → t D σ' H') : tSeq s t D σ H := h1 (t D) h2
theorem same_none {H H' : Hp} {l : Addr} (s : Same H H') (h : H' l = none) : H l = none := by
  cases e : H l with
  | none => rfl
  | some u => rw [s _ _ e] at h; cases h
theorem big {k : Nat} (h : k ≤ 1000) : k ≤ sizeLine := Nat.le_trans h (by decide)
/-- all signs are plain -/
def asc (z : Str) : Prop := ∀ c ∈ z.cps.toList, c < 128
theorem asc.all {z : Str} (h : asc z) : (z.cps.all fun c => decide (c < 128)) = true := by
  rw [← Array.all_toList, List.all_eq_true]
  exact fun c hc => decide_eq_true (h c hc)
theorem len_cps (x : Str) : x.length = x.cps.toList.length := rfl
theorem app_cps (x y : Str) : (x ++ y).cps.toList = x.cps.toList ++ y.cps.toList := by
  show (x.cps ++ y.cps).toList = _
  rw [Array.toList_append]
theorem str_len (x y : Str) : (x ++ y).length = x.length + y.length := Str.length_append x y
theorem str_ext {x y : Str} (h : x.cps.toList = y.cps.toList) : x = y := by
  cases x; cases y
  exact congrArg Str.mk (Array.toList_inj.mp h)
theorem asc.app {x y : Str} (h1 : asc x) (h2 : asc y) : asc (x ++ y) := fun c hc => by
  rw [app_cps] at hc
  rcases List.mem_append.mp hc with m | m
  · exact h1 c m
  · exact h2 c m
def mkS (cs : List Nat) : Str := ⟨cs.toArray⟩
theorem mkS_eta {z : Str} : mkS z.cps.toList = z := str_ext rfl
theorem sl_from {z : Str} {i : Nat} : StrLaws.sliceText z (some (i : Int)) none = mkS (z.cps.toList.drop i) := by
  by_cases h : i ≤ z.length
  · rw [StrLaws.sliceText_from (x := z) (i := (i : Int)) ⟨by omega, by rw [← len_cps]; omega⟩, show ((i : Int)).toNat = i by omega, List.take_of_length_le (by rw [List.length_drop]; omega)]; rfl
  · rw [show StrLaws.sliceText z (some (i : Int)) none = ⟨#[]⟩ from PyProof.Rows.slice_from_beyond (by omega), List.drop_of_length_le (by rw [← len_cps]; omega)]; rfl
theorem sl_to {z : Str} {i : Nat} : StrLaws.sliceText z none (some (i : Int)) = mkS (z.cps.toList.take i) := by
  by_cases h : i ≤ z.length
  · rw [StrLaws.sliceText_to (x := z) (j := (i : Int)) ⟨by omega, by rw [← len_cps]; omega⟩, List.drop_zero, show ((i : Int) - 0).toNat = i by omega]; rfl
  · have e : StrLaws.sliceText z none (some (i : Int)) = StrLaws.sliceText z none (some (z.length : Int)) := PyProof.Rows.slice_to_beyond (by omega)
    rw [e, StrLaws.sliceText_to (x := z) (j := (z.length : Int)) ⟨by omega, by rw [← len_cps]; omega⟩, List.drop_zero, List.take_of_length_le (by rw [← len_cps]; omega), List.take_of_length_le (by rw [← len_cps]; omega)]; rfl
/-! figures -/
def dig (c : Nat) : Bool := decide (48 ≤ c) && decide (c ≤ 57)
def figs : Str := Str.ofString "0123456789"
theorem occ_dig {c : Nat} (h : c < 128) : (!(Builtin.Str.occurrences figs ⟨#[c]⟩ 0 figs.length 1).isEmpty) = dig c := by
  revert h; revert c; decide +kernel
theorem find_dig {c : Nat} (h : c < 128) : Txt.find figs ⟨#[c]⟩ = if dig c = true then ((c - 48 : Nat) : Int) else -1 := by
  revert h; revert c; decide +kernel
theorem starts_one {z : Str} {c : Nat} : Txt.startswith z ⟨#[c]⟩ = decide (z.cps.toList.head? = some c) := by
  unfold Txt.startswith Builtin.Str.subAt
  cases e : z.cps.toList with
  | nil =>
    have hl : z.cps.size = 0 := by rw [← Array.length_toList, e]; rfl
    have h1 : ¬ (1 ≤ z.cps.size) := by omega
    simp [Str.length, h1]
  | cons a r =>
    have hl : 1 ≤ z.cps.size := by rw [← Array.length_toList, e]; simp
    have hz : z.cps = (a :: r).toArray := by rw [← e]
    have h2 : (z.cps.extract 0 1 == #[c]) = decide (a = c) := by rw [hz]; simp; rfl
    simp [Str.length, hl]
    simpa using h2
def wrL (cs : List Nat) : Bool := decide (cs.length ≤ 60) && !cs.isEmpty && decide (cs.head? ≠ some 48) && cs.all dig
def wrC : List Nat → Bool
  | 45 :: r => wrL r
  | r => wrL r
def wr (z : Str) : Bool := decide (z = Str.ofString "0") || wrC z.cps.toList
def vlC : List Nat → Int
  | 45 :: r => -((NumText.digitsVal r : Nat) : Int)
  | r => ((NumText.digitsVal r : Nat) : Int)
def vl (z : Str) : Int := vlC z.cps.toList
theorem all_dig {cs : List Nat} (h : cs.all dig = true) : NumText.AllDigits cs := fun c hc => by
  have := List.all_eq_true.mp h c hc
  unfold dig at this
  rw [Bool.and_eq_true, decide_eq_true_eq, decide_eq_true_eq] at this
  exact this
theorem wrL_is {cs : List Nat} (h : wrL cs = true) : cs.length ≤ 60 ∧ cs ≠ [] ∧ cs.head? ≠ some 48 ∧ cs.all dig = true := by
  unfold wrL at h
  rw [Bool.and_eq_true, Bool.and_eq_true, Bool.and_eq_true, decide_eq_true_eq, decide_eq_true_eq] at h
  refine ⟨h.1.1.1, fun z => ?_, h.1.2, h.2⟩
  have := h.1.1.2
  rw [z] at this; cases this
theorem wr_int {z : Str} (h : wr z = true) : PySem.intText? z = some (vl z) ∧ z.length ≤ 640 := by
  unfold wr at h
  rw [Bool.or_eq_true, decide_eq_true_eq] at h
  rcases h with rfl | h
  · exact ⟨by decide +kernel, by decide +kernel⟩
  · unfold vl
    by_cases y : ∃ r, z.cps.toList = 45 :: r
    · obtain ⟨r, e⟩ := y
      rw [e] at h ⊢
      obtain ⟨h1, h2, _, h4⟩ := wrL_is (show wrL r = true from h)
      have hl : z.length ≤ 61 := by rw [len_cps, e]; show r.length + 1 ≤ 61; omega
      exact ⟨PySem.intText_neg e (all_dig h4) h2 (by omega), by omega⟩
    · have e1 : wrC z.cps.toList = wrL z.cps.toList := by
        cases e : z.cps.toList with
        | nil => rfl
        | cons a r =>
          unfold wrC
          split
          · rename_i q hq; exact absurd ⟨q, e.trans hq⟩ y
          · rfl
      have e2 : vlC z.cps.toList = ((NumText.digitsVal z.cps.toList : Nat) : Int) := by
        cases e : z.cps.toList with
        | nil => rfl
        | cons a r =>
          unfold vlC
          split
          · rename_i q hq; exact absurd ⟨q, e.trans hq⟩ y
          · rfl
      rw [e1] at h
      obtain ⟨h1, h2, _, h4⟩ := wrL_is h
      rw [e2]
      have hl : z.length ≤ 60 := h1
      exact ⟨PySem.intText_digits (all_dig h4) h2 (by omega), by omega⟩
/-! splitting -/
def spl : List Nat → List (List Nat)
  | [] => [[]]
  | c :: r => if c = 32 then [] :: spl r else match spl r with
    | p :: ps => (c :: p) :: ps
    | [] => [[c]]
theorem spl_ne {cs : List Nat} : spl cs ≠ [] := by
  cases cs with
  | nil => exact List.cons_ne_nil _ _
  | cons c r =>
    unfold spl
    split
    · exact List.cons_ne_nil _ _
    · split <;> exact List.cons_ne_nil _ _
/-- one behind the other, with a sign between -/
def jn : List (List Nat) → List Nat
  | [] => []
  | [p] => p
  | p :: ps => p ++ 32 :: jn ps
theorem spl_app {p r : List Nat} (h : 32 ∉ p) : spl (p ++ r) = match spl r with | q :: qs => (p ++ q) :: qs | [] => [p] := by
  induction p with
  | nil =>
    cases e : spl r with
    | nil => exact absurd e spl_ne
    | cons q qs => rw [List.nil_append, e]; rfl
  | cons c p ih =>
    have hc : c ≠ 32 := fun z => h (by rw [z]; exact List.mem_cons_self)
    rw [List.cons_append, spl, if_neg hc, ih (fun m => h (List.mem_cons_of_mem _ m))]
    cases e : spl r with
    | nil => exact absurd e spl_ne
    | cons q qs => rfl
theorem spl_jn : ∀ {ps : List (List Nat)}, ps ≠ [] → (∀ p ∈ ps, 32 ∉ p) → spl (jn ps) = ps
  | [], h, _ => absurd rfl h
  | [p], _, h => by
    have := spl_app (p := p) (r := []) (h p List.mem_cons_self)
    rw [List.append_nil] at this
    show spl p = _
    rw [this]; show [p ++ []] = _; rw [List.append_nil]
  | p :: q :: ps, _, h => by
    show spl (p ++ 32 :: jn (q :: ps)) = _
    rw [spl_app (h p List.mem_cons_self), spl, if_pos rfl, spl_jn (List.cons_ne_nil _ _) fun x hx => h x (List.mem_cons_of_mem _ hx)]
    show (p ++ []) :: q :: ps = _
    rw [List.append_nil]
theorem join_jn : ∀ {ps : List Str}, (Str.join ⟨#[32]⟩ ps).cps.toList = jn (ps.map fun p => p.cps.toList)
  | [] => rfl
  | [p] => rfl
  | p :: q :: ps => by
    show ((p ++ ⟨#[32]⟩) ++ Str.join ⟨#[32]⟩ (q :: ps)).cps.toList = _
    rw [app_cps, app_cps, join_jn (ps := q :: ps)]
    show (p.cps.toList ++ [32]) ++ _ = _
    rw [List.append_assoc]; rfl
def blank : Str := Str.ofString " "
theorem blank_is : blank = ⟨#[32]⟩ := by decide +kernel
/-- the parts of a line -/
def prts (z : Str) : List Str := (spl z.cps.toList).map mkS
theorem split_is {z : Str} : Txt.split z blank = prts z := by
  rw [blank_is]
  have h1 : Str.join ⟨#[32]⟩ (Txt.split z ⟨#[32]⟩) = z := StrLaws.join_split z ⟨#[32]⟩
  have h2 := StrLaws.split_free z 32
  have h3 := PyProof.Rows.split_pos z ⟨#[32]⟩
  generalize Txt.split z ⟨#[32]⟩ = ps at *
  unfold prts
  have e := join_jn (ps := ps)
  rw [h1] at e
  rw [e, spl_jn (fun y => by rw [List.map_eq_nil_iff] at y; rw [y] at h3; exact absurd h3 (by decide)) (fun p hp => by obtain ⟨q, hq, rfl⟩ := List.mem_map.mp hp; exact h2 q hq), List.map_map]
  exact (List.map_id'' (fun p => mkS_eta) ps).symm
theorem spl_mem : ∀ {cs : List Nat} {p : List Nat} {c : Nat}, p ∈ spl cs → c ∈ p → c ∈ cs
  | [], p, c, hp, hc => by
    rw [show spl [] = [[]] from rfl, List.mem_singleton] at hp
    subst hp; cases hc
  | a :: r, p, c, hp, hc => by
    unfold spl at hp
    split at hp
    · rcases List.mem_cons.mp hp with rfl | m
      · cases hc
      · exact List.mem_cons_of_mem _ (spl_mem m hc)
    · split at hp
      · rename_i q qs e
        rcases List.mem_cons.mp hp with rfl | m
        · rcases List.mem_cons.mp hc with rfl | m
          · exact List.mem_cons_self
          · exact List.mem_cons_of_mem _ (spl_mem (by rw [e]; exact List.mem_cons_self) m)
        · exact List.mem_cons_of_mem _ (spl_mem (by rw [e]; exact List.mem_cons_of_mem _ m) hc)
      · rename_i e; exact absurd e spl_ne
theorem spl_len : ∀ {cs : List Nat}, (spl cs).length ≤ cs.length + 1 ∧ ∀ p ∈ spl cs, p.length ≤ cs.length
  | [] => ⟨Nat.le_refl _, fun p hp => by rw [show spl [] = [[]] from rfl, List.mem_singleton] at hp; subst hp; exact Nat.le_refl _⟩
  | a :: r => by
    obtain ⟨h1, h2⟩ := spl_len (cs := r)
    unfold spl
    split
    · refine ⟨by rw [List.length_cons, List.length_cons]; omega, fun p hp => ?_⟩
      rcases List.mem_cons.mp hp with rfl | m
      · exact Nat.zero_le _
      · have := h2 p m; rw [List.length_cons]; omega
    · split
      · rename_i q qs e
        rw [e] at h1 h2
        refine ⟨by rw [List.length_cons] at h1 ⊢; rw [List.length_cons]; omega, fun p hp => ?_⟩
        rcases List.mem_cons.mp hp with rfl | m
        · have := h2 q List.mem_cons_self; rw [List.length_cons, List.length_cons]; omega
        · have := h2 p (List.mem_cons_of_mem _ m); rw [List.length_cons]; omega
      · rename_i e; exact absurd e spl_ne
theorem prts_ne {z : Str} : prts z ≠ [] := fun h => spl_ne (List.map_eq_nil_iff.mp h)
theorem prts_asc {z : Str} (h : asc z) : ∀ p ∈ prts z, asc p ∧ p.length ≤ z.length := fun p hp => by
  obtain ⟨q, hq, rfl⟩ := List.mem_map.mp hp
  exact ⟨fun c hc => h c (spl_mem hq hc), spl_len.2 q hq⟩
theorem prts_len {z : Str} : (prts z).length ≤ z.length + 1 := by
  unfold prts; rw [List.length_map]; exact spl_len.1
/-! numbers -/
def dg (m : Nat) : List Nat := if h : m < 10 then [48 + m] else dg (m / 10) ++ [48 + m % 10]
termination_by m
decreasing_by omega
theorem dg_lo {m : Nat} (h : m < 10) : dg m = [48 + m] := by rw [dg, dif_pos h]
theorem dg_hi {m : Nat} (h : ¬ m < 10) : dg m = dg (m / 10) ++ [48 + m % 10] := by rw [dg, dif_neg h]
theorem digit_nat : ∀ d : Nat, d < 10 → (Nat.digitChar d).toNat = 48 + d := by decide
theorem dg_is (m : Nat) : (Nat.toDigits 10 m).map Char.toNat = dg m := by
  induction m using Nat.strongRecOn with
  | _ m ih =>
    by_cases h : m < 10
    · rw [Nat.toDigits_of_lt_base h, dg_lo h, List.map_cons, List.map_nil, digit_nat m h]
    · have hm : m % 10 < 10 := Nat.mod_lt m (by decide)
      have t : Nat.toDigits 10 (m / 10) ++ Nat.toDigits 10 (m % 10) = Nat.toDigits 10 (10 * (m / 10) + m % 10) := Nat.toDigits_append_toDigits (by decide) (by omega) hm
      rw [Nat.div_add_mod] at t
      rw [← t, List.map_append, Nat.toDigits_of_lt_base hm, dg_hi h, ih (m / 10) (by omega), List.map_cons, List.map_nil, digit_nat _ hm]
theorem dg_ne (m : Nat) : dg m ≠ [] := by
  by_cases h : m < 10
  · rw [dg_lo h]; exact List.cons_ne_nil _ _
  · rw [dg_hi h]; exact fun z => by simp at z
theorem dg_all (m : Nat) : (dg m).all dig = true := by
  induction m using Nat.strongRecOn with
  | _ m ih =>
    by_cases h : m < 10
    · rw [dg_lo h]; simp [dig]; omega
    · rw [dg_hi h, List.all_append, ih (m / 10) (by omega)]; simp [dig]; omega
theorem dg_val (m : Nat) : NumText.digitsVal (dg m) = m := by rw [← dg_is, PySem.W.KIN.val_back]
theorem dg_head (m : Nat) (h0 : 1 ≤ m) : (dg m).head? ≠ some 48 := by
  induction m using Nat.strongRecOn with
  | _ m ih =>
    by_cases h : m < 10
    · rw [dg_lo h]; simp; omega
    · rw [dg_hi h]
      have := ih (m / 10) (by omega) (by omega)
      cases e : dg (m / 10) with
      | nil => exact absurd e (dg_ne _)
      | cons a r => rw [e] at this; simpa using this
theorem dg_len : ∀ (k m : Nat), m < 10 ^ (k + 1) → (dg m).length ≤ k + 1
  | 0, m, h => by rw [dg_lo (by simpa using h)]; exact Nat.le_refl _
  | k + 1, m, h => by
    by_cases h9 : m < 10
    · rw [dg_lo h9]; show 1 ≤ _; omega
    · rw [dg_hi h9, List.length_append]
      have := dg_len k (m / 10) (by rw [Nat.pow_succ] at h; omega)
      show _ + 1 ≤ _; omega
def numT (n : Int) : Str := Str.ofString (toString n)
theorem numT_pos (m : Nat) : (numT (m : Int)).cps.toList = dg m := by
  unfold numT; rw [PySem.W.KIN.signs_num, dg_is]
theorem numT_neg {n : Int} (h : n < 0) : (numT n).cps.toList = 45 :: dg n.natAbs := by
  unfold numT
  have e : (0 - n) = ((n.natAbs : Nat) : Int) := by omega
  rw [PyProof.Rows.toString_neg h, e, ← ofs_app, app_cps]
  have := numT_pos n.natAbs
  unfold numT at this
  rw [this]; rfl
theorem numT_c (n : Int) : ∀ c ∈ (numT n).cps.toList, c = 45 ∨ dig c = true := fun c hc => by
  by_cases h : n < 0
  · rw [numT_neg h] at hc
    rcases List.mem_cons.mp hc with rfl | m
    · exact .inl rfl
    · exact .inr (List.all_eq_true.mp (dg_all _) c m)
  · obtain ⟨m, rfl⟩ : ∃ m : Nat, n = m := ⟨n.toNat, by omega⟩
    rw [numT_pos] at hc
    exact .inr (List.all_eq_true.mp (dg_all _) c hc)
theorem dig_is {c : Nat} (h : dig c = true) : 48 ≤ c ∧ c ≤ 57 := by
  unfold dig at h; rw [Bool.and_eq_true, decide_eq_true_eq, decide_eq_true_eq] at h; exact h
theorem numT_asc (n : Int) : asc (numT n) := fun c hc => by
  rcases numT_c n c hc with rfl | h
  · decide
  · have := dig_is h; omega
theorem numT_free (n : Int) : 32 ∉ (numT n).cps.toList := fun hc => by
  rcases numT_c n 32 hc with h | h
  · cases h
  · have := dig_is h; omega
theorem numT_len {n : Int} (h : n.natAbs < 10 ^ 60) : (numT n).length ≤ 61 := by
  by_cases h0 : n < 0
  · have := dg_len 59 n.natAbs h
    rw [len_cps, numT_neg h0, List.length_cons]; omega
  · obtain ⟨m, rfl⟩ : ∃ m : Nat, n = m := ⟨n.toNat, by omega⟩
    have := dg_len 59 m (by simpa using h)
    rw [len_cps, numT_pos]; omega
theorem wrL_dg {m : Nat} (h0 : 1 ≤ m) (h : m < 10 ^ 60) : wrL (dg m) = true := by
  unfold wrL
  rw [Bool.and_eq_true, Bool.and_eq_true, Bool.and_eq_true]
  refine ⟨⟨⟨decide_eq_true (dg_len 59 m h), ?_⟩, decide_eq_true (dg_head m h0)⟩, dg_all m⟩
  cases e : dg m with
  | nil => exact absurd e (dg_ne m)
  | cons a r => rfl
theorem wr_num {n : Int} (h : n.natAbs < 10 ^ 60) : wr (numT n) = true ∧ vl (numT n) = n := by
  by_cases h0 : n < 0
  · unfold wr vl
    rw [numT_neg h0]
    refine ⟨by rw [Bool.or_eq_true]; exact .inr (wrL_dg (by omega) h), ?_⟩
    show -((NumText.digitsVal (dg n.natAbs) : Nat) : Int) = n
    rw [dg_val]; omega
  · obtain ⟨m, rfl⟩ : ∃ m : Nat, n = m := ⟨n.toNat, by omega⟩
    by_cases z : m = 0
    · subst z; exact ⟨by decide +kernel, by decide +kernel⟩
    · unfold wr vl
      rw [numT_pos]
      have hh : ∀ r, dg m ≠ 45 :: r := fun r e => by
        have := List.all_eq_true.mp (dg_all m) 45 (by rw [e]; exact List.mem_cons_self)
        cases this
      cases e : dg m with
      | nil => exact absurd e (dg_ne m)
      | cons a r =>
        have ha : a ≠ 45 := fun y => hh r (by rw [e, y])
        have hw := wrL_dg (m := m) (by omega) (by simpa using h)
        have hv := dg_val m
        rw [e] at hw hv
        have hc : wrC (a :: r) = true := by
          unfold wrC
          split
          · rename_i q hq; injection hq with h1; exact absurd h1 ha
          · exact hw
        refine ⟨by rw [Bool.or_eq_true]; exact .inr hc, ?_⟩
        unfold vlC
        split
        · rename_i q hq; injection hq with h1; exact absurd h1 ha
        · rw [hv]
/-! deeds -/
def Dt : List (Str × Int) := [(Str.ofString "make", 2), (Str.ofString "keep", 2), (Str.ofString "share", 2), (Str.ofString "drop", 1), (Str.ofString "read", 1), (Str.ofString "take", 3), (Str.ofString "put", 3), (Str.ofString "name", 1), (Str.ofString "find", 2), (Str.ofString "last", 2), (Str.ofString "young", 0), (Str.ofString "all", 0), (Str.ofString "said", 0)]
def ws : List Str := [Str.ofString "young", Str.ofString "all", Str.ofString "said", Str.ofString "drop", Str.ofString "read", Str.ofString "name", Str.ofString "make", Str.ofString "keep", Str.ofString "share", Str.ofString "find", Str.ofString "last", Str.ofString "take", Str.ofString "put"]
def cn : List Int := [0, 0, 0, 1, 1, 1, 2, 2, 2, 2, 2, 3, 3]
def many (x : Str) : Int := cn.getD (ws.idxOf x) 0
theorem tab_in {x : Str} (h : x ∈ ws) : PySem.W.kdpHas Dt x = true ∧ PySem.W.kdpLook Dt x 0 = many x := by
  revert h; revert x
  show ∀ x ∈ ws, _
  decide +kernel
theorem tab_out {x : Str} (h : x ∉ ws) : PySem.W.kdpHas Dt x = false := by
  have hk : ∀ p ∈ Dt, p.1 ∈ ws := by decide +kernel
  unfold PySem.W.kdpHas
  rw [List.any_eq_false]
  exact fun p hp e => h (by have := hk p hp; rw [of_decide_eq_true e] at this; exact this)
theorem many_le : ∀ x : Str, 0 ≤ many x ∧ many x ≤ 3 := fun x => by
  have h : ∀ i : Nat, i < 14 → 0 ≤ cn.getD i 0 ∧ cn.getD i 0 ≤ 3 := by decide
  exact h _ (Nat.lt_succ_of_le (List.idxOf_le_length (l := ws)))
theorem ws_free {x : Str} (h : x ∈ ws) : 32 ∉ x.cps.toList ∧ asc x ∧ x.length ≤ 5 := by
  revert h; revert x
  show ∀ x ∈ ws, 32 ∉ x.cps.toList ∧ (∀ c ∈ x.cps.toList, c < 128) ∧ x.length ≤ 5
  decide +kernel
/-- the deed that a line tells -/
def dd (z : Str) : Option (Str × List Int) := match prts z with
  | [] => none
  | x :: r => if x ∈ ws ∧ (r.length : Int) = many x ∧ r.all wr = true then some (x, r.map vl) else none
def lineT (x : Str) (ns : List Int) : Str := Txt.join blank (x :: ns.map numT)
theorem lineT_prts {x : Str} {ns : List Int} (hx : x ∈ ws) : prts (lineT x ns) = x :: ns.map numT := by
  unfold prts lineT Txt.join
  rw [StrLaws.glued_eq_join, blank_is, join_jn, spl_jn (by simp) (fun p hp => by
    obtain ⟨q, hq, rfl⟩ := List.mem_map.mp hp
    rcases List.mem_cons.mp hq with rfl | m
    · exact (ws_free hx).1
    · obtain ⟨n, _, rfl⟩ := List.mem_map.mp m; exact numT_free n), List.map_map]
  exact List.map_id'' (fun p => mkS_eta) _
theorem lineT_dd {x : Str} {ns : List Int} (hx : x ∈ ws) (hn : (ns.length : Int) = many x) (h : ∀ n ∈ ns, n.natAbs < 10 ^ 60) : dd (lineT x ns) = some (x, ns) := by
  unfold dd
  rw [lineT_prts hx]
  dsimp only
  rw [if_pos ⟨hx, by rw [List.length_map]; exact hn, by
    rw [List.all_eq_true]
    intro z hz
    obtain ⟨n, m, rfl⟩ := List.mem_map.mp hz
    exact (wr_num (h n m)).1⟩, List.map_map]
  congr 2
  have : ∀ l : List Int, (∀ n ∈ l, n.natAbs < 10 ^ 60) → l.map (vl ∘ numT) = l := fun l => by
    induction l with
    | nil => intro _; rfl
    | cons n l ih =>
      intro h
      rw [List.map_cons, ih fun m hm => h m (List.mem_cons_of_mem _ hm)]
      show vl (numT n) :: l = _
      rw [(wr_num (h n List.mem_cons_self)).2]
  exact this ns h
set_option genInjectivity false in
structure Ad where
  f_line_of : Addr
  d_line_of : FuncData
  f_is_written : Addr
  d_is_written : FuncData
  f__law_cell_at : Addr
  d__law_cell_at : FuncData
  f__law_whole : Addr
  d__law_whole : FuncData
  f__law_sign_by : Addr
  d__law_sign_by : FuncData
  f__law_words : Addr
  d__law_words : FuncData
  f__law_figures : Addr
  d__law_figures : FuncData
  f__law_number_by : Addr
  d__law_number_by : FuncData
  f__law_number : Addr
  d__law_number : FuncData
  f_numbers_of : Addr
  d_numbers_of : FuncData
  f__law_deed : Addr
  d__law_deed : FuncData
  f__law_changed : Addr
  d__law_changed : FuncData
  f_deed_of : Addr
  d_deed_of : FuncData
  f__law_read : Addr
  d__law_read : FuncData
  f__law_right : Addr
  d__law_right : FuncData
  f_law : Addr
  d_law : FuncData
  c_KeepError : Addr
  c_BadNumber : Addr
  c_BadWord : Addr
  c_BadCount : Addr
  c_NoPlace : Addr
  c_NoRoom : Addr
  c_NoSlot : Addr
  c_NoCell : Addr
  c_NoHand : Addr
  c_NothingHeld : Addr
  c_NoName : Addr
  c_NoDeed : Addr
  c_NoImage : Addr
  c_NoProgram : Addr
  t_NUMBERS_BEHIND : Addr
structure Txt (w : World) (K : PySem.W.Frag) (mg : Str → Option Value) (A : Ad) : Prop where
  fn_line_of : Fun K "line_of" "line_of" s_line_of A.f_line_of A.d_line_of
  b_line_of : Binds K A.d_line_of ["deed"] []
  g_line_of : mg "line_of" = some (.ref A.f_line_of)
  fn_is_written : Fun K "is_written" "is_written" s_is_written A.f_is_written A.d_is_written
  b_is_written : Binds K A.d_is_written ["text"] []
  g_is_written : mg "is_written" = some (.ref A.f_is_written)
  fn__law_cell_at : Fun K "_law_cell_at" "_law_cell_at" s__law_cell_at A.f__law_cell_at A.d__law_cell_at
  b__law_cell_at : Binds K A.d__law_cell_at ["_law_script", "_law_k"] []
  g__law_cell_at : mg "_law_cell_at" = some (.ref A.f__law_cell_at)
  fn__law_whole : Fun K "_law_whole" "_law_whole" s__law_whole A.f__law_whole A.d__law_whole
  b__law_whole : Binds K A.d__law_whole ["_law_found"] []
  g__law_whole : mg "_law_whole" = some (.ref A.f__law_whole)
  fn__law_sign_by : Fun K "_law_sign_by" "_law_sign_by" s__law_sign_by A.f__law_sign_by A.d__law_sign_by
  b__law_sign_by : Binds K A.d__law_sign_by ["_law_cell"] []
  g__law_sign_by : mg "_law_sign_by" = some (.ref A.f__law_sign_by)
  fn__law_words : Fun K "_law_words" "_law_words" s__law_words A.f__law_words A.d__law_words
  b__law_words : Binds K A.d__law_words [] []
  g__law_words : mg "_law_words" = some (.ref A.f__law_words)
  fn__law_figures : Fun K "_law_figures" "_law_figures" s__law_figures A.f__law_figures A.d__law_figures
  b__law_figures : Binds K A.d__law_figures ["_law_number_here"] []
  g__law_figures : mg "_law_figures" = some (.ref A.f__law_figures)
  fn__law_number_by : Fun K "_law_number_by" "_law_number_by" s__law_number_by A.f__law_number_by A.d__law_number_by
  b__law_number_by : Binds K A.d__law_number_by ["_law_cell"] []
  g__law_number_by : mg "_law_number_by" = some (.ref A.f__law_number_by)
  fn__law_number : Fun K "_law_number" "_law_number" s__law_number A.f__law_number A.d__law_number
  b__law_number : Binds K A.d__law_number ["_law_part"] []
  g__law_number : mg "_law_number" = some (.ref A.f__law_number)
  fn_numbers_of : Fun K "numbers_of" "numbers_of" s_numbers_of A.f_numbers_of A.d_numbers_of
  b_numbers_of : Binds K A.d_numbers_of ["texts"] []
  g_numbers_of : mg "numbers_of" = some (.ref A.f_numbers_of)
  fn__law_deed : Fun K "_law_deed" "_law_deed" s__law_deed A.f__law_deed A.d__law_deed
  b__law_deed : Binds K A.d__law_deed ["_law_line"] []
  g__law_deed : mg "_law_deed" = some (.ref A.f__law_deed)
  fn__law_changed : Fun K "_law_changed" "_law_changed" s__law_changed A.f__law_changed A.d__law_changed
  b__law_changed : Binds K A.d__law_changed ["_law_line", "_law_cell", "_law_more"] []
  g__law_changed : mg "_law_changed" = some (.ref A.f__law_changed)
  fn_deed_of : Fun K "deed_of" "deed_of" s_deed_of A.f_deed_of A.d_deed_of
  b_deed_of : Binds K A.d_deed_of ["line"] []
  g_deed_of : mg "deed_of" = some (.ref A.f_deed_of)
  fn__law_read : Fun K "_law_read" "_law_read" s__law_read A.f__law_read A.d__law_read
  b__law_read : Binds K A.d__law_read ["_law_line"] []
  g__law_read : mg "_law_read" = some (.ref A.f__law_read)
  fn__law_right : Fun K "_law_right" "_law_right" s__law_right A.f__law_right A.d__law_right
  b__law_right : Binds K A.d__law_right ["_law_line", "_law_due"] []
  g__law_right : mg "_law_right" = some (.ref A.f__law_right)
  fn_law : Fun K "law" "law" s_law A.f_law A.d_law
  b_law : Binds K A.d_law ["_law_script"] []
  g_law : mg "law" = some (.ref A.f_law)
  v_NUMBERS_BEHIND : Gv mg "NUMBERS_BEHIND" (.ref A.t_NUMBERS_BEHIND)
  tb_NUMBERS_BEHIND : KTb w K A.t_NUMBERS_BEHIND [(Str.ofString "make", 2), (Str.ofString "keep", 2), (Str.ofString "share", 2), (Str.ofString "drop", 1), (Str.ofString "read", 1), (Str.ofString "take", 3), (Str.ofString "put", 3), (Str.ofString "name", 1), (Str.ofString "find", 2), (Str.ofString "last", 2), (Str.ofString "young", 0), (Str.ofString "all", 0), (Str.ofString "said", 0)]
  v_FIGURES : Gv mg "FIGURES" (.str "0123456789")
  v_MOST_FIGURES : Gv mg "MOST_FIGURES" (.int (60))
  g_KeepError : mg "KeepError" = some (.ref A.c_KeepError)
  v_KeepError : Gv mg "KeepError" (.ref A.c_KeepError)
  g_BadNumber : mg "BadNumber" = some (.ref A.c_BadNumber)
  v_BadNumber : Gv mg "BadNumber" (.ref A.c_BadNumber)
  g_BadWord : mg "BadWord" = some (.ref A.c_BadWord)
  v_BadWord : Gv mg "BadWord" (.ref A.c_BadWord)
  g_BadCount : mg "BadCount" = some (.ref A.c_BadCount)
  v_BadCount : Gv mg "BadCount" (.ref A.c_BadCount)
  g_NoPlace : mg "NoPlace" = some (.ref A.c_NoPlace)
  v_NoPlace : Gv mg "NoPlace" (.ref A.c_NoPlace)
  g_NoRoom : mg "NoRoom" = some (.ref A.c_NoRoom)
  v_NoRoom : Gv mg "NoRoom" (.ref A.c_NoRoom)
  g_NoSlot : mg "NoSlot" = some (.ref A.c_NoSlot)
  v_NoSlot : Gv mg "NoSlot" (.ref A.c_NoSlot)
  g_NoCell : mg "NoCell" = some (.ref A.c_NoCell)
  v_NoCell : Gv mg "NoCell" (.ref A.c_NoCell)
  g_NoHand : mg "NoHand" = some (.ref A.c_NoHand)
  v_NoHand : Gv mg "NoHand" (.ref A.c_NoHand)
  g_NothingHeld : mg "NothingHeld" = some (.ref A.c_NothingHeld)
  v_NothingHeld : Gv mg "NothingHeld" (.ref A.c_NothingHeld)
  g_NoName : mg "NoName" = some (.ref A.c_NoName)
  v_NoName : Gv mg "NoName" (.ref A.c_NoName)
  g_NoDeed : mg "NoDeed" = some (.ref A.c_NoDeed)
  v_NoDeed : Gv mg "NoDeed" (.ref A.c_NoDeed)
  g_NoImage : mg "NoImage" = some (.ref A.c_NoImage)
  v_NoImage : Gv mg "NoImage" (.ref A.c_NoImage)
  g_NoProgram : mg "NoProgram" = some (.ref A.c_NoProgram)
  v_NoProgram : Gv mg "NoProgram" (.ref A.c_NoProgram)
  x_NoDeed : ExcC K A.c_NoDeed
  ki_NoDeed : KiE K A.c_NoDeed
  em_NoDeed_KeepError : PySem.W.exmOne K (.ref A.c_NoDeed) (.ref A.c_KeepError) = some true
  k2_NoDeed_BadCount : PySem.W.kitOne K (.ref A.c_NoDeed) (.ref A.c_BadCount) = some false
  k2_NoDeed_BadNumber : PySem.W.kitOne K (.ref A.c_NoDeed) (.ref A.c_BadNumber) = some false
  k2_NoDeed_BadWord : PySem.W.kitOne K (.ref A.c_NoDeed) (.ref A.c_BadWord) = some false
  k2_NoDeed_NoCell : PySem.W.kitOne K (.ref A.c_NoDeed) (.ref A.c_NoCell) = some false
  k2_NoDeed_NoHand : PySem.W.kitOne K (.ref A.c_NoDeed) (.ref A.c_NoHand) = some false
  k2_NoDeed_NoImage : PySem.W.kitOne K (.ref A.c_NoDeed) (.ref A.c_NoImage) = some false
  k2_NoDeed_NoName : PySem.W.kitOne K (.ref A.c_NoDeed) (.ref A.c_NoName) = some false
  k2_NoDeed_NoPlace : PySem.W.kitOne K (.ref A.c_NoDeed) (.ref A.c_NoPlace) = some false
  k2_NoDeed_NoProgram : PySem.W.kitOne K (.ref A.c_NoDeed) (.ref A.c_NoProgram) = some false
  k2_NoDeed_NoRoom : PySem.W.kitOne K (.ref A.c_NoDeed) (.ref A.c_NoRoom) = some false
  k2_NoDeed_NoSlot : PySem.W.kitOne K (.ref A.c_NoDeed) (.ref A.c_NoSlot) = some false
  k2_NoDeed_NothingHeld : PySem.W.kitOne K (.ref A.c_NoDeed) (.ref A.c_NothingHeld) = some false
  k2_NoDeed_NoDeed : PySem.W.kitOne K (.ref A.c_NoDeed) (.ref A.c_NoDeed) = some true
  k2_NoDeed_ValueError : PySem.W.kitOne K (.ref A.c_NoDeed) (.type "ValueError") = some true
  kt_NoneType_int : PySem.W.kitOne K (.type "NoneType") (.type "int") = some false
  kt_NoneType_bool : PySem.W.kitOne K (.type "NoneType") (.type "bool") = some false
  kt_NoneType_tuple : PySem.W.kitOne K (.type "NoneType") (.type "tuple") = some false
  kt_NoneType_str : PySem.W.kitOne K (.type "NoneType") (.type "str") = some false
  kt_bool_int : PySem.W.kitOne K (.type "bool") (.type "int") = some true
  kt_bool_bool : PySem.W.kitOne K (.type "bool") (.type "bool") = some true
  kt_bool_tuple : PySem.W.kitOne K (.type "bool") (.type "tuple") = some false
  kt_bool_str : PySem.W.kitOne K (.type "bool") (.type "str") = some false
  kt_int_int : PySem.W.kitOne K (.type "int") (.type "int") = some true
  kt_int_bool : PySem.W.kitOne K (.type "int") (.type "bool") = some false
  kt_int_tuple : PySem.W.kitOne K (.type "int") (.type "tuple") = some false
  kt_int_str : PySem.W.kitOne K (.type "int") (.type "str") = some false
  kt_str_int : PySem.W.kitOne K (.type "str") (.type "int") = some false
  kt_str_bool : PySem.W.kitOne K (.type "str") (.type "bool") = some false
  kt_str_tuple : PySem.W.kitOne K (.type "str") (.type "tuple") = some false
  kt_str_str : PySem.W.kitOne K (.type "str") (.type "str") = some true
  kt_list_int : PySem.W.kitOne K (.type "list") (.type "int") = some false
  kt_list_bool : PySem.W.kitOne K (.type "list") (.type "bool") = some false
  kt_list_tuple : PySem.W.kitOne K (.type "list") (.type "tuple") = some false
  kt_list_str : PySem.W.kitOne K (.type "list") (.type "str") = some false
  kt_tuple_int : PySem.W.kitOne K (.type "tuple") (.type "int") = some false
  kt_tuple_bool : PySem.W.kitOne K (.type "tuple") (.type "bool") = some false
  kt_tuple_tuple : PySem.W.kitOne K (.type "tuple") (.type "tuple") = some true
  kt_tuple_str : PySem.W.kitOne K (.type "tuple") (.type "str") = some false
  kt_dict_int : PySem.W.kitOne K (.type "dict") (.type "int") = some false
  kt_dict_bool : PySem.W.kitOne K (.type "dict") (.type "bool") = some false
  kt_dict_tuple : PySem.W.kitOne K (.type "dict") (.type "tuple") = some false
  kt_dict_str : PySem.W.kitOne K (.type "dict") (.type "str") = some false
  n_ValueError : mg "ValueError" = none
  n_abs : mg "abs" = none
  n_all : mg "all" = none
  n_bool : mg "bool" = none
  n_int : mg "int" = none
  n_isinstance : mg "isinstance" = none
  n_len : mg "len" = none
  n_range : mg "range" = none
  n_str : mg "str" = none
  n_tuple : mg "tuple" = none
section
variable {P : Program} {w : World} {K : PySem.W.Frag} {mg : Str → Option Value} {base : Heap} {A : Ad}
theorem wt_len {n : Int} (h : n.natAbs < 10 ^ 60) : n.natAbs.log2 < 1920 := by
  have h1 : n.natAbs < 2 ^ 1920 := Nat.lt_of_lt_of_le h (by decide +kernel)
  by_cases z : n.natAbs = 0
  · rw [z]; decide
  · exact (Nat.log2_lt z).mpr h1
theorem line_ok {x : Str} {ns : List Int} (hx : x ∈ ws) (hl : ns.length ≤ 3) (hn : ∀ n ∈ ns, n.natAbs < 10 ^ 60) : ((x :: ns.map numT).map (·.length)).sum + (x :: ns.map numT).length * 1 ≤ 200 := by
  have h5 := (ws_free hx).2.2
  have hs : ∀ l : List Int, (∀ n ∈ l, n.natAbs < 10 ^ 60) → ((l.map numT).map (·.length)).sum ≤ 61 * l.length := fun l => by
    induction l with
    | nil => intro _; exact Nat.le_refl _
    | cons n l ih =>
      intro h
      have h1 := numT_len (h n List.mem_cons_self)
      have h2 := ih fun m hm => h m (List.mem_cons_of_mem _ hm)
      rw [List.map_cons, List.map_cons, List.sum_cons, List.length_cons]; omega
  have := hs ns hn
  rw [List.map_cons, List.sum_cons, List.length_cons, List.length_map]; omega
theorem blank_len : blank.length = 1 := by decide +kernel
theorem line_join {x : Str} {ns : List Int} (hx : x ∈ ws) (hl : ns.length ≤ 3) (hn : ∀ n ∈ ns, n.natAbs < 10 ^ 60) : JoinOk blank (x :: ns.map numT) = true := by
  have := line_ok hx hl hn
  unfold JoinOk Builtin.Str.tooLong
  rw [StrLaws.joinTotal, blank_len, Bool.not_eq_true', decide_eq_false_iff_not]
  exact Nat.not_lt.mpr (Nat.le_trans this (by decide))
def sp_line_of : Sp := fun vs H Q _ => ∃ a x, ∃ ns : List Int, vs = [.ref a] ∧ H a = some (.tup (.str x :: ns.map V.int)) ∧ x ∈ ws ∧ ns.length ≤ 3 ∧ (∀ n ∈ ns, n.natAbs < 10 ^ 60) ∧ ∀ H', Same H H' → Q (.str (lineT x ns)) H'
theorem sc_line_of : FnScope ["deed"] ["deed"] (defScope s_line_of) := ⟨rfl, rfl, rfl, by decide +kernel, rfl, by decide +kernel, by decide +kernel⟩
theorem ok_line_of (T : Txt w K mg A) : FnOk P w K mg base (CXE P w) true 1 A.f_line_of A.d_line_of ["deed"] sp_line_of := by
  refine T.fn_line_of.okE sc_line_of (fun vs H Q E h => ?_) (fun cdv A' outer s H vs Q E hr hx h => ?_)
  · obtain ⟨a, x, ns, rfl, ea, hx, hl, hn, q⟩ := h
    rfl
  · obtain ⟨a, x, ns, rfl, ea, hx, hl, hn, q⟩ := h
    refine ex_run (B := fun t => t _ _ _) (j_pss_one (j_ps_ret (j_c_bmS PySem.F.slot_str_join PySem.F.type_str_join j_c_join j_pe_str (j_pa_c (j_pe_comp (fsc := defScope s_line_of) (N2 := []) (js := []) ⟨rfl, rfl, by decide +kernel, by decide +kernel, by decide +kernel, by decide +kernel, by decide +kernel, by decide +kernel, by decide +kernel⟩ rfl rfl (by rfl) (j_pi_tup (j_cv 0)) (fun _ _ _ _ => j_pifs_nil) (fun _ _ _ _ => (j_pe_callTyF j_c_str (by rfl) T.n_str PyProof.Rows.Boot.«str» (j_pa_c (j_cv 0) j_pa_nil)))) j_pa_nil)))) ?_
    simp only [tRet, tCons, tNil, tC, cVar, cxOf_K, Int.reduceAdd, tComp, capt, iTup, L2.start, List.map_cons, List.map_nil, List.length_cons, List.length_nil, List.replicate, List.append_nil, List.getElem?_cons_zero, V.int.injEq, V.bl.injEq, V.str.injEq, V.ref.injEq, V.ty.injEq, List.cons.injEq, Option.some.injEq, exists_eq_left', Nat.reduceAdd, Nat.sub_self, cJoin, cBMS]
    have hl' : (V.str x :: ns.map V.int).length = ns.length + 1 := by rw [List.length_cons, List.length_map]
    refine ⟨⟨_, SqT.of ea⟩, compW_tupG (xs := V.str x :: ns.map V.int) (fun i ys H' => H = H' ∧ i ≤ ns.length + 1 ∧ ys = ((x :: ns.map numT).take i).map V.str) ⟨rfl, Nat.zero_le _, rfl⟩ (fun i ys H' h => by rw [← h.1]; exact SqT.of ea) (big (by omega)) (fun i ys H' h => by rw [h.2.2, List.length_map, List.length_take]; omega) ?_ ?_⟩
    · rintro i v ys _ hv ⟨rfl, hi, rfl⟩ K1 hK
      have hi' : i < ns.length + 1 := by rw [← hl']; exact (List.getElem?_eq_some_iff.mp hv).1
      have fin : ∀ t, (x :: ns.map numT)[i]? = some t → K1 (((x :: ns.map numT).take i).map V.str ++ [V.str t]) H := fun t ht => hK _ _ ⟨rfl, by omega, by rw [List.take_add_one, ht]; simp⟩
      cases i with
      | zero =>
        cases hv
        simp only [tCB, tCons, tNil, cVar, tYes, List.getElem?_cons_zero, ite_true, cStr]
        exact fin x rfl
      | succ i =>
        rw [List.getElem?_cons_succ, List.getElem?_map] at hv
        obtain ⟨n, hn', rfl⟩ := Option.map_eq_some_iff.mp hv
        simp only [tCB, tCons, tNil, cVar, tYes, List.getElem?_cons_zero, ite_true, cStr]
        exact ⟨wt_len (hn n (List.mem_of_getElem? hn')), fin (numT n) (by rw [List.getElem?_cons_succ, List.getElem?_map, hn']; rfl)⟩
    · rintro ys _ ⟨rfl, _, rfl⟩ l hl2
      rw [hl', List.take_of_length_le (by rw [List.length_cons, List.length_map]; exact Nat.le_refl _)]
      dsimp only
      rw [upd_same]
      exact ⟨x :: ns.map numT, rfl, line_join hx hl hn, q _ (Same.upd hl2)⟩
def sp_is_written : Sp := fun vs H Q _ => ∃ z, vs = [.str z] ∧ asc z ∧ z.length ≤ 700 ∧ ∀ H', Same H H' → Q (.bl (wr z)) H'
theorem sc_is_written : FnScope ["text", "figures"] ["text"] (defScope s_is_written) := ⟨rfl, rfl, rfl, by decide +kernel, rfl, by decide +kernel, by decide +kernel⟩
theorem ok_is_written (T : Txt w K mg A) : FnOk P w K mg base (CXE P w) true 1 A.f_is_written A.d_is_written ["text"] sp_is_written := by
  refine T.fn_is_written.okE sc_is_written (fun vs H Q E h => ?_) (fun cdv A' outer s H vs Q E hr hx h => ?_)
  · obtain ⟨z, rfl, az, lz, q⟩ := h
    rfl
  · obtain ⟨z, rfl, az, lz, q⟩ := h
    refine ex_run (B := fun t => t _ _ _) (j_pss_cons (j_ps_if (j_pt_cmpR j_c_eq (j_cv 0) j_pe_str (nomark _)) (j_pss_one (j_ps_ret j_pe_bl)) j_pss_nil)
      (j_pss_cons (j_ps_set (i := 1) sc_is_written.nd rfl (by first | exact Or.inl rfl | exact Or.inr rfl) (j_pe_ifExp (j_pt_truth (j_c_bmS PySem.F.slot_str_startswith PySem.F.type_str_startswith j_c_starts (j_cv 0) (j_pa_c j_pe_str j_pa_nil)) (fun _ => rfl)) (j_pe_slice j_c_slT (j_cv 0) (j_c_part j_pe_int) j_po_none) (j_cv 0)))
      (j_pss_cons (j_ps_if (j_PW_pt (j_pw_or (j_pt_cmpR j_c_gt (j_pe_callBF j_c_lenT (by rfl) T.n_len PyProof.Rows.Boot.«len» (j_pa_c (j_cv 1) j_pa_nil)) (j_pe_gv T.v_MOST_FIGURES) (nomark _)) (j_pw_or (j_pt_cmpR j_c_eq (j_cv 1) j_pe_str (nomark _)) (j_pw_or1 (j_pt_truth (j_c_bmS PySem.F.slot_str_startswith PySem.F.type_str_startswith j_c_starts (j_cv 1) (j_pa_c j_pe_str j_pa_nil)) (fun _ => rfl)))))) (j_pss_one (j_ps_ret j_pe_bl)) j_pss_nil)
      (j_pss_one (j_ps_ret (j_pe_callBF (j_c_all (by rfl)) (by rfl) T.n_all PyProof.Rows.Boot.«all» (j_pa_c (j_pe_comp (fsc := defScope s_is_written) (N2 := []) (js := []) ⟨rfl, rfl, by decide +kernel, by decide +kernel, by decide +kernel, by decide +kernel, by decide +kernel, by decide +kernel, by decide +kernel⟩ rfl rfl (by rfl) (j_pi_str (j_cv 1)) (fun _ _ _ _ => j_pifs_nil) (fun _ _ _ _ => (j_pe_cmpR j_c_inT (j_cv 0) (j_pe_gv T.v_FIGURES) (by with_unfolding_all rfl)))) j_pa_nil))))))) ?_
    show tSeq _ _ _ [some (V.str z), none] H
    refine seq_mid (fun σ' H' => H = H' ∧ z ≠ Str.ofString "0" ∧ σ' = [some (V.str z), none]) (fun R hR => ?_) ?_
    · simp only [tRet, tNext, tIfS, tTest, tOp, tC, cVar, cEq, eqv, List.getElem?_cons_zero, V.int.injEq, V.bl.injEq, V.str.injEq, V.ref.injEq, V.ty.injEq, List.cons.injEq, Option.some.injEq, exists_eq_left', decide_eq_true_eq]
      by_cases y : z = Str.ofString "0"
      · rw [if_pos y]
        have e : wr z = true := by unfold wr; rw [decide_eq_true y]; rfl
        rw [e] at q
        exact q _ (Same.refl _)
      · rw [if_neg y]
        exact hR _ _ ⟨rfl, y, rfl⟩
    rintro _ _ ⟨rfl, z0, rfl⟩
    have ew : wr z = wrC z.cps.toList := by unfold wr; rw [decide_eq_false z0]; rfl
    rw [ew] at q
    refine seq_mid (fun σ' H' => H = H' ∧ ∃ f, asc f ∧ f.length ≤ 700 ∧ wrC z.cps.toList = wrL f.cps.toList ∧ σ' = [some (V.str z), some (V.str f)]) (fun R hR => ?_) ?_
    · simp only [tIf, tCons, tNil, tC, cVar, tAsg, gName, TruV, cPart, tNoPart, tSl, List.getElem?_cons_zero, List.set_cons_zero, List.set_cons_succ, exists_eq_left, cSlT, cBMS, cStarts]
      rw [show Str.ofString "-" = (⟨#[45]⟩ : Str) by decide +kernel, starts_one]
      cases e : z.cps.toList with
      | nil =>
        rw [if_neg (by simp)]
        exact hR _ _ ⟨rfl, z, az, lz, by rw [e]; rfl, rfl⟩
      | cons c r =>
        by_cases y : c = 45
        · subst y
          have es : StrLaws.sliceText z (some 1) none = mkS r := by
            have := sl_from (z := z) (i := 1)
            rw [e] at this; exact this
          have hr : r.length + 1 ≤ 700 := by rw [len_cps, e] at lz; exact lz
          rw [if_pos (by simp), es]
          exact ⟨big (show r.length ≤ 1000 by omega), hR _ _ ⟨rfl, mkS r, fun c hc => az c (by rw [e]; exact List.mem_cons_of_mem _ hc), (show r.length ≤ 700 by omega), by rw [e]; rfl, rfl⟩⟩
        · rw [if_neg (by simpa using y)]
          refine hR _ _ ⟨rfl, z, az, lz, ?_, rfl⟩
          rw [e]; unfold wrC; split
          · rename_i q' hq; injection hq with h1; exact absurd h1 y
          · rfl
    rintro _ _ ⟨rfl, f, af, lf, ef, rfl⟩
    rw [ef] at q
    refine seq_mid (fun σ' H' => H = H' ∧ f.length ≤ 60 ∧ f.cps.toList ≠ [] ∧ f.cps.toList.head? ≠ some 48 ∧ σ' = [some (V.str z), some (V.str f)]) (fun R hR => ?_) ?_
    · simp only [tRet, tNext, tIfS, tTest, tOp, tOr, tCB, tCons, tNil, tC, cVar, cGt, cCmp, cEq, eqv, TruV, List.getElem?_cons_zero, List.getElem?_cons_succ, V.int.injEq, V.bl.injEq, V.str.injEq, V.ref.injEq, V.ty.injEq, List.cons.injEq, Option.some.injEq, exists_eq_left', exists_eq_left, ite_true, decide_eq_true_eq, cLenT, cBMS, cStarts]
      refine ⟨big (by omega), ?_⟩
      rw [show Str.ofString "0" = (⟨#[48]⟩ : Str) by decide +kernel, starts_one]
      by_cases y1 : 60 < f.length
      · rw [if_pos (by omega)]
        have e : wrL f.cps.toList = false := by unfold wrL; rw [decide_eq_false (by rw [← len_cps]; omega)]; rfl
        rw [e] at q; exact q _ (Same.refl _)
      · rw [if_neg (by omega)]
        by_cases y2 : f = Str.ofString ""
        · rw [if_pos y2]
          have e : wrL f.cps.toList = false := by rw [y2]; decide +kernel
          rw [e] at q; exact q _ (Same.refl _)
        · rw [if_neg y2]
          have fn : f.cps.toList ≠ [] := fun z => y2 (str_ext (by rw [z]; decide +kernel))
          by_cases y3 : f.cps.toList.head? = some 48
          · rw [if_pos (decide_eq_true y3)]
            have e : wrL f.cps.toList = false := by unfold wrL; rw [show decide (f.cps.toList.head? ≠ some 48) = false from decide_eq_false (fun n => n y3), Bool.and_false, Bool.false_and]
            rw [e] at q; exact q _ (Same.refl _)
          · rw [if_neg (fun z => y3 (of_decide_eq_true z))]
            exact hR _ _ ⟨rfl, by omega, fn, y3, rfl⟩
    rintro _ _ ⟨rfl, f60, fn, f0, rfl⟩
    simp only [tRet, tCB, tCons, tNil, cVar, tComp, capt, cAll, List.map_nil, List.getElem?_cons_zero, List.getElem?_cons_succ, iStr]
    refine ⟨af.all, CompW.mapX (fun c => V.bl (dig c)) (big (show f.length ≤ 1000 by omega)) (fun c hc K' hK => ?_) fun p hp => ?_⟩
    · simp only [tOp, tC, cVar, List.getElem?_cons_zero, ln_6, cInT]
      have := occ_dig (af c hc)
      unfold figs at this
      rw [show (Str.ofString "0123456789").length = 10 by decide +kernel] at this
      rw [this]; exact hK
    · have eb : ∀ l : List Nat, bools (l.map fun c => V.bl (dig c)) = some (l.map dig) := fun l => by
        induction l with
        | nil => rfl
        | cons c l ih => rw [List.map_cons]; show (bools _).map _ = _; rw [ih]; rfl
      dsimp only
      rw [upd_same]
      dsimp only
      rw [eb]
      have e : wrL f.cps.toList = (f.cps.toList.map dig).all id := by
        unfold wrL
        rw [decide_eq_true (show f.cps.toList.length ≤ 60 from f60), decide_eq_true f0, List.all_map]
        cases e : f.cps.toList with
        | nil => exact absurd e fn
        | cons c r => rfl
      rw [e] at q
      exact q _ (Same.upd hp)
def cat (ns : List Int) (k : Int) : Int := ns.getD k.toNat 0
theorem atI_ints {ns : List Int} {k : Int} (h0 : 0 ≤ k) (h : k < (ns.map V.int).length) : atI (ns.map V.int) k = some (.int (cat ns k)) := by
  obtain ⟨n, rfl⟩ : ∃ n : Nat, k = n := ⟨k.toNat, by omega⟩
  rw [List.length_map] at h
  refine atI_nat ?_
  rw [List.getElem?_map, List.getElem?_eq_getElem (by omega)]
  simp only [cat, Int.toNat_natCast, Option.map_some, List.getD_eq_getElem?_getD, List.getElem?_eq_getElem (show n < ns.length by omega), Option.getD_some]
theorem cat_out {ns : List Int} {k : Int} (h0 : 0 ≤ k) (h : ¬ k < (ns.map V.int).length) : cat ns k = 0 := by
  rw [List.length_map] at h
  unfold cat
  rw [List.getD_eq_getElem?_getD, List.getElem?_eq_none (by omega)]
  rfl
def sp__law_cell_at (K : PySem.W.Frag) : Sp := fun vs H Q _ => ∃ a ns k, vs = [.ref a, .int k] ∧ SqL K H a (ns.map V.int) ∧ 0 ≤ k ∧ Q (.int (cat ns k)) H
theorem sc__law_cell_at : FnScope ["_law_script", "_law_k"] ["_law_script", "_law_k"] (defScope s__law_cell_at) := ⟨rfl, rfl, rfl, by decide +kernel, rfl, by decide +kernel, by decide +kernel⟩
theorem ok__law_cell_at {ca : Bool} (T : Txt w K mg A) : FnOk P w K mg base (CXE P w) ca 1 A.f__law_cell_at A.d__law_cell_at ["_law_script", "_law_k"] (sp__law_cell_at K) := by
  refine T.fn__law_cell_at.okE sc__law_cell_at (fun vs H Q E h => ?_) (fun cdv A' outer s H vs Q E hr hx h => ?_)
  · obtain ⟨a, ns, k, rfl, hS, h0, q⟩ := h
    rfl
  · obtain ⟨a, ns, k, rfl, hS, h0, q⟩ := h
    refine ex_run (B := fun t => t _ _ _) (j_pss_cons (j_ps_if (j_pt_cmpR j_c_lt (j_cv 1) (j_pe_callBF j_c_lenS (by rfl) T.n_len PyProof.Rows.Boot.«len» (j_pa_c (j_cv 0) j_pa_nil)) (nomark _)) (j_pss_one (j_ps_ret (j_pe_ix j_c_ixS (j_cv 0) (j_cv 1) (fun _ _ => rfl)))) j_pss_nil)
      (j_pss_one (j_ps_ret j_pe_int))) ?_
    simp only [tRet, tNext, tSeq, tIfS, tTest, tOp, tCB, tCons, tNil, tC, cVar, cLt, cCmp, cIxS, cLenS, cxOf_K, Int.reduceAdd, L2.start, List.map_cons, List.map_nil, List.length_cons, List.length_nil, List.replicate, List.append_nil, List.getElem?_cons_zero, List.getElem?_cons_succ, V.int.injEq, V.bl.injEq, V.str.injEq, V.ref.injEq, V.ty.injEq, List.cons.injEq, Option.some.injEq, exists_eq_left', decide_eq_true_eq, Nat.reduceAdd, Nat.sub_self]
    refine ⟨_, hS, ?_⟩
    split <;> rename_i h
    · refine ⟨_, hS, ?_⟩
      rw [atI_ints h0 h]; exact q
    · rw [cat_out h0 h] at q; exact q
def sp__law_whole : Sp := fun vs H Q _ => ∃ n, vs = [.int n] ∧ Q (.bl true) H
theorem sc__law_whole : FnScope ["_law_found"] ["_law_found"] (defScope s__law_whole) := ⟨rfl, rfl, rfl, by decide +kernel, rfl, by decide +kernel, by decide +kernel⟩
theorem ok__law_whole {ca : Bool} (T : Txt w K mg A) : FnOk P w K mg base (CXE P w) ca 1 A.f__law_whole A.d__law_whole ["_law_found"] sp__law_whole := by
  refine T.fn__law_whole.okE sc__law_whole (fun vs H Q E h => ?_) (fun cdv A' outer s H vs Q E hr hx h => ?_)
  · obtain ⟨n, rfl, q⟩ := h
    rfl
  · obtain ⟨n, rfl, q⟩ := h
    refine ex_run (B := fun t => t _ _ _) (j_pss_one (j_ps_ret (j_pe_and (j_pe_callBF j_call_isi (by rfl) T.n_isinstance PyProof.Rows.Boot.«isinstance» (j_pa_c (j_cv 0) (j_pa_c (j_pe_ty T.n_int PyProof.Rows.Boot.«int») j_pa_nil))) (j_pe_one (j_pe_not (j_pe_callBF j_call_isi (by rfl) T.n_isinstance PyProof.Rows.Boot.«isinstance» (j_pa_c (j_cv 0) (j_pa_c (j_pe_ty T.n_bool PyProof.Rows.Boot.«bool») j_pa_nil)))))))) ?_
    simp only [tRet, tAndV, tNotV, tCB, tCons, tNil, tC, cVar, rIsi, kitV, cxOf_K, Int.reduceAdd, Bool.not_false, L2.start, List.map_cons, List.map_nil, List.length_cons, List.length_nil, List.replicate, List.append_nil, List.getElem?_cons_zero, V.int.injEq, V.bl.injEq, V.str.injEq, V.ref.injEq, V.ty.injEq, List.cons.injEq, Option.some.injEq, true_and, exists_eq_left', ite_true, Nat.reduceAdd, Nat.sub_self, tyo, OkTy, T.kt_int_int, T.kt_int_bool]
    exact q
theorem sgs_len : (Str.ofString " !\"#$&'()*+,-./0123456789:;<=>?@ABCDEFGHIJKLMNOPQRSTUVWXYZ[\\]^_`" ++ Str.ofString "abcdefghijklmnopqrstuvwxyz{|}~\n\t").cps.toList.length = 96 := by decide +kernel
theorem sgs_asc : ∀ c ∈ (Str.ofString " !\"#$&'()*+,-./0123456789:;<=>?@ABCDEFGHIJKLMNOPQRSTUVWXYZ[\\]^_`" ++ Str.ofString "abcdefghijklmnopqrstuvwxyz{|}~\n\t").cps.toList, c < 128 := by decide +kernel
def sp__law_sign_by : Sp := fun vs H Q _ => ∃ n, vs = [.int n] ∧ ∀ c, c < 128 → Q (.str ⟨#[c]⟩) H
theorem sc__law_sign_by : FnScope ["_law_cell", "_law_some"] ["_law_cell"] (defScope s__law_sign_by) := ⟨rfl, rfl, rfl, by decide +kernel, rfl, by decide +kernel, by decide +kernel⟩
theorem ok__law_sign_by {ca : Bool} (T : Txt w K mg A) : FnOk P w K mg base (CXE P w) ca 1 A.f__law_sign_by A.d__law_sign_by ["_law_cell"] sp__law_sign_by := by
  refine T.fn__law_sign_by.okE sc__law_sign_by (fun vs H Q E h => ?_) (fun cdv A' outer s H vs Q E hr hx h => ?_)
  · obtain ⟨n, rfl, q⟩ := h
    rfl
  · obtain ⟨n, rfl, q⟩ := h
    refine ex_run (B := fun t => t _ _ _) (j_pss_cons (j_ps_set (i := 1) sc__law_sign_by.nd rfl (by first | exact Or.inl rfl | exact Or.inr rfl) j_pe_str)
      (j_pss_cons (j_ps_set (i := 1) sc__law_sign_by.nd rfl (by first | exact Or.inl rfl | exact Or.inr rfl) (j_pe_op j_c_add (j_cv 1) j_pe_str))
      (j_pss_one (j_ps_ret (j_pe_ix j_c_ixT (j_cv 1) (j_pe_op j_c_mod (j_cv 0) j_pe_int) (fun _ _ => rfl)))))) ?_
    show tSeq _ _ _ [some (V.int n), none] H
    refine seq_mid (fun σ' H' => H = H' ∧ σ' = [some (V.int n), some (V.str (Str.ofString " !\"#$&'()*+,-./0123456789:;<=>?@ABCDEFGHIJKLMNOPQRSTUVWXYZ[\\]^_`"))]) (fun R hR => ?_) ?_
    · simp only [tC, tAsg, gName, List.set_cons_zero, List.set_cons_succ]
      exact hR _ _ ⟨rfl, rfl⟩
    rintro _ _ ⟨rfl, rfl⟩
    refine seq_mid (fun σ' H' => H = H' ∧ ∃ S : Str, S.cps.toList.length = 96 ∧ (∀ c ∈ S.cps.toList, c < 128) ∧ σ' = [some (V.int n), some (V.str S)]) (fun R hR => ?_) ?_
    · simp only [tOp, tC, cVar, tAsg, gName, cAdd, Int.reduceAdd, List.getElem?_cons_zero, List.getElem?_cons_succ, List.set_cons_zero, List.set_cons_succ, Nat.reduceAdd, ln_2, ln_11, -ofs_app]
      exact ⟨by decide, hR _ _ ⟨rfl, _, sgs_len, sgs_asc, rfl⟩⟩
    rintro _ _ ⟨rfl, S, h96, hA, rfl⟩
    have hi : (n % 96).toNat < S.cps.toList.length := by rw [h96]; omega
    have ea : atI S.cps.toList (n % 96) = some (S.cps.toList[(n % 96).toNat]'hi) := by
      rw [atI_in (by omega) (by omega)]; exact List.getElem?_eq_getElem hi
    simp only [tRet, tOp, tC, cVar, cMod, Int.reduceLT, Nat.reduceLT, List.getElem?_cons_zero, List.getElem?_cons_succ, true_and, cIxT, ea]
    exact ⟨Nat.le_trans (show S.cps.toList.length ≤ 96 by rw [h96]; exact Nat.le_refl _) (by decide), q _ (hA _ (List.getElem_mem hi))⟩
def sp__law_words : Sp := fun vs H Q _ => vs = [] ∧ ∀ t l m H', Same H H' → H' t = some (.tup [.ref l, .ref m]) → H' l = some (.lst (ws.map V.str)) → H' m = some (.lst (cn.map V.int)) → Q (.ref t) H'
theorem sc__law_words : FnScope ["_law_first"] [] (defScope s__law_words) := ⟨rfl, rfl, rfl, by decide +kernel, rfl, by decide +kernel, by decide +kernel⟩
theorem ok__law_words (T : Txt w K mg A) : FnOk P w K mg base (CXE P w) true 1 A.f__law_words A.d__law_words [] sp__law_words := by
  refine T.fn__law_words.okE sc__law_words (fun vs H Q E h => ?_) (fun cdv A' outer s H vs Q E hr hx h => ?_)
  · obtain ⟨rfl, q⟩ := h
    rfl
  · obtain ⟨rfl, q⟩ := h
    refine ex_run (B := fun t => t _ _ _) (j_pss_cons (j_ps_set (i := 0) sc__law_words.nd rfl (by first | exact Or.inl rfl | exact Or.inr rfl) (j_pe_lst (j_pa_cst (by rfl))))
      (j_pss_one (j_ps_ret (j_pe_tup (j_pa_c (j_cv 0) (j_pa_c (j_pe_lst (j_pa_cst (by rfl))) j_pa_nil)))))) ?_
    simp only [tRet, tSeq, tCons, tNil, cVar, tLst, tTup, tAsg, gName, Int.reduceAdd, Int.reduceSub, L2.start, List.map_nil, List.length_cons, List.length_nil, List.replicate, List.nil_append, List.getElem?_cons_zero, List.set_cons_zero, true_and, Nat.reduceSub, Nat.reduceAdd, sz2, sz13, tCst]
    intro p hp p1 hp1 p2 hp2
    have e1 : [V.str (Str.ofString "young"), V.str (Str.ofString "all"), V.str (Str.ofString "said"), V.str (Str.ofString "drop"), V.str (Str.ofString "read"), V.str (Str.ofString "name"), V.str (Str.ofString "make"), V.str (Str.ofString "keep"), V.str (Str.ofString "share"), V.str (Str.ofString "find"), V.str (Str.ofString "last"), V.str (Str.ofString "take"), V.str (Str.ofString "put")] = ws.map V.str := rfl
    have e2 : [V.int 0, V.int 0, V.int 0, V.int 1, V.int 1, V.int 1, V.int 2, V.int 2, V.int 2, V.int 2, V.int 2, V.int 3, V.int 3] = cn.map V.int := rfl
    rw [e1] at hp1 hp2 ⊢
    rw [e2] at hp2 ⊢
    have a1 := Same.upd (o := .lst (ws.map V.str)) hp
    have a2 := Same.upd (o := .lst (cn.map V.int)) hp1
    have a3 := Same.upd (o := .tup [V.ref p, V.ref p1]) hp2
    exact q p2 p p1 _ (a1.trans (a2.trans a3)) upd_same ((a2.trans a3) _ _ upd_same) (a3 _ _ upd_same)
theorem fig_at {k : Nat} (h : k < 10) : atI (Str.ofString "0123456789").cps.toList (k : Int) = some (48 + k) := by
  revert h; revert k; decide +kernel
def sp__law_figures : Sp := fun vs H Q _ => ∃ n : Int, vs = [.int n] ∧ n.natAbs < 10 ^ 60 ∧ Q (.str (numT n)) H
theorem sc__law_figures : FnScope ["_law_number_here", "_law_found", "_law_left"] ["_law_number_here"] (defScope s__law_figures) := ⟨rfl, rfl, rfl, by decide +kernel, rfl, by decide +kernel, by decide +kernel⟩
theorem ok__law_figures (T : Txt w K mg A) : FnOk P w K mg base (CXE P w) true 1 A.f__law_figures A.d__law_figures ["_law_number_here"] sp__law_figures := by
  refine T.fn__law_figures.okE sc__law_figures (fun vs H Q E h => ?_) (fun cdv A' outer s H vs Q E hr hx h => ?_)
  · obtain ⟨n, rfl, hn, q⟩ := h
    rfl
  · obtain ⟨n, rfl, hn, q⟩ := h
    refine ex_run (B := fun t => t _ _ _) (j_pss_cons (j_ps_set (i := 1) sc__law_figures.nd rfl (by first | exact Or.inl rfl | exact Or.inr rfl) (j_pe_ix j_c_ixT j_pe_str (j_pe_op j_c_mod (j_pe_callBF j_c_abs (by rfl) T.n_abs PyProof.Rows.Boot.«abs» (j_pa_c (j_cv 0) j_pa_nil)) j_pe_int) (fun _ _ => rfl)))
      (j_pss_cons (j_ps_set (i := 2) sc__law_figures.nd rfl (by first | exact Or.inl rfl | exact Or.inr rfl) (j_pe_op j_c_fdiv (j_pe_callBF j_c_abs (by rfl) T.n_abs PyProof.Rows.Boot.«abs» (j_pa_c (j_cv 0) j_pa_nil)) j_pe_int))
      (j_pss_cons (j_ps_while hx.own (j_pt_cmpR j_c_gt (j_cv 2) j_pe_int (nomark _))
        (j_pss_cons (j_ps_set (i := 1) sc__law_figures.nd rfl (by first | exact Or.inl rfl | exact Or.inr rfl) (j_pe_op j_c_add (j_pe_ix j_c_ixT j_pe_str (j_pe_op j_c_mod (j_cv 2) j_pe_int) (fun _ _ => rfl)) (j_cv 1)))
      (j_pss_one (j_ps_set (i := 2) sc__law_figures.nd rfl (by first | exact Or.inl rfl | exact Or.inr rfl) (j_pe_op j_c_fdiv (j_cv 2) j_pe_int)))))
      (j_pss_one (j_ps_ret (j_pe_op j_c_add (j_pe_op j_c_mulT j_pe_str (j_pe_callTyF j_c_intT (by rfl) T.n_int PyProof.Rows.Boot.«int» (j_pa_c (j_pe_cmpR j_c_lt (j_cv 0) j_pe_int (nomark _)) j_pa_nil))) (j_cv 1))))))) ?_
    have eab : (if n < 0 then -n else n) = (n.natAbs : Int) := by split <;> omega
    have h60 := dg_len 59 n.natAbs hn
    show tSeq _ _ _ [some (V.int n), none, none] H
    refine seq_mid (fun σ' H' => H = H' ∧ σ' = [some (V.int n), some (V.str (mkS [48 + n.natAbs % 10])), none]) (fun R hR => ?_) ?_
    · simp only [tOp, tCB, tCons, tNil, tC, cVar, tAsg, gName, cMod, cAbs, Int.reduceLT, Nat.reduceLT, List.getElem?_cons_zero, List.set_cons_zero, List.set_cons_succ, true_and, sz10, ln_6, cIxT]
      rw [eab, show ((n.natAbs : Int) % 10) = ((n.natAbs % 10 : Nat) : Int) by omega, fig_at (by omega)]
      exact hR _ _ ⟨rfl, rfl⟩
    rintro _ _ ⟨rfl, rfl⟩
    refine seq_mid (fun σ' H' => H = H' ∧ σ' = [some (V.int n), some (V.str (mkS [48 + n.natAbs % 10])), some (V.int ((n.natAbs / 10 : Nat) : Int))]) (fun R hR => ?_) ?_
    · simp only [tOp, tCB, tCons, tNil, tC, cVar, tAsg, gName, cFdiv, cAbs, CDiv, Int.reduceLT, Nat.reduceLT, List.getElem?_cons_zero, List.set_cons_zero, List.set_cons_succ, and_true, true_and]
      rw [eab, show ((n.natAbs : Int) / 10) = ((n.natAbs / 10 : Nat) : Int) by omega]
      exact hR _ _ ⟨rfl, rfl⟩
    rintro _ _ ⟨rfl, rfl⟩
    refine seq_mid (fun σ' H' => H = H' ∧ ∃ v2, σ' = [some (V.int n), some (V.str (mkS (dg n.natAbs))), v2]) (fun R hR => ?_) ?_
    · refine ⟨fun m σ' H' => H = H' ∧ ∃ cs : List Nat, dg n.natAbs = (if m = 0 then [] else dg m) ++ cs ∧ σ' = [some (V.int n), some (V.str (mkS cs)), some (V.int (m : Int))], ⟨n.natAbs / 10, rfl, [48 + n.natAbs % 10], ?_, rfl⟩, ?_⟩
      · by_cases y : n.natAbs < 10
        · rw [if_pos (by omega), dg_lo y, Nat.mod_eq_of_lt y]; rfl
        · rw [if_neg (by omega)]; exact dg_hi y
      rintro m σ' _ ⟨rfl, cs, hcs, rfl⟩
      have hlen : cs.length ≤ 60 := by rw [hcs, List.length_append] at h60; omega
      simp only [tSeq, tTest, tOp, tC, cVar, tAsg, gName, cAdd, cFdiv, cMod, cGt, cCmp, CDiv, Int.reduceLT, Nat.reduceLT, List.getElem?_cons_zero, List.getElem?_cons_succ, List.set_cons_zero, List.set_cons_succ, V.int.injEq, V.bl.injEq, V.str.injEq, V.ref.injEq, V.ty.injEq, List.cons.injEq, Option.some.injEq, and_true, true_and, exists_eq_left', decide_eq_true_eq, sz10, ln_6, cIxT]
      by_cases y : m = 0
      · rw [if_neg (by omega)]
        rw [if_pos y, List.nil_append] at hcs
        rw [← hcs]
        exact hR _ _ ⟨rfl, _, rfl⟩
      · rw [if_pos (by omega)]
        refine ⟨_, fun σ' H' h => h, ?_⟩
        rw [show ((m : Int) % 10) = ((m % 10 : Nat) : Int) by omega, fig_at (by omega)]
        refine ⟨big (show 1 + cs.length ≤ 1000 by omega), m / 10, by omega, rfl, (48 + m % 10) :: cs, ?_, ?_⟩
        · rw [if_neg y] at hcs
          rw [hcs]
          by_cases z : m < 10
          · rw [if_pos (by omega), dg_lo z, Nat.mod_eq_of_lt z]; rfl
          · rw [if_neg (by omega), dg_hi z, List.append_assoc]; rfl
        · rw [show ((m : Int) / 10) = ((m / 10 : Nat) : Int) by omega, show (⟨#[48 + m % 10]⟩ : Str) ++ mkS cs = mkS ((48 + m % 10) :: cs) from str_ext (by rw [app_cps]; rfl)]
    rintro _ _ ⟨rfl, v2, rfl⟩
    simp only [tRet, tOp, tCB, tCons, tNil, tC, cVar, cAdd, cLt, cCmp, Nat.reduceLeDiff, List.getElem?_cons_zero, List.getElem?_cons_succ, true_and, decide_eq_true_eq, ln_4, cIntT, cMulT]
    have hl : (mkS (dg n.natAbs)).length ≤ 60 := h60
    by_cases y : n < 0
    · rw [if_pos y, show Txt.mul (Str.ofString "-") 1 = Str.ofString "-" by decide +kernel]
      refine ⟨by omega, by omega, big (by rw [show (Str.ofString "-").length = 1 by decide +kernel]; omega), ?_⟩
      rw [show Str.ofString "-" ++ mkS (dg n.natAbs) = numT n from str_ext (by rw [app_cps, numT_neg y, show (Str.ofString "-").cps.toList = [45] by decide +kernel]; rfl)]
      exact q
    · rw [if_neg y, show Txt.mul (Str.ofString "-") 0 = Str.empty by decide +kernel]
      refine ⟨by omega, by omega, big (by rw [show Str.empty.length = 0 by decide +kernel]; omega), ?_⟩
      obtain ⟨m, hm⟩ : ∃ m : Nat, n = m := ⟨n.toNat, by omega⟩
      rw [show Str.empty ++ mkS (dg n.natAbs) = numT n from str_ext (by rw [app_cps, hm, numT_pos, show Str.empty.cps.toList = [] by decide +kernel]; rfl)]
      exact q
def sp__law_number_by : Sp := fun vs H Q _ => ∃ n, vs = [.int n] ∧ ∀ m : Int, m.natAbs < 10 ^ 60 → Q (.int m) H
theorem sc__law_number_by : FnScope ["_law_cell"] ["_law_cell"] (defScope s__law_number_by) := ⟨rfl, rfl, rfl, by decide +kernel, rfl, by decide +kernel, by decide +kernel⟩
theorem ok__law_number_by {ca : Bool} (T : Txt w K mg A) : FnOk P w K mg base (CXE P w) ca 1 A.f__law_number_by A.d__law_number_by ["_law_cell"] sp__law_number_by := by
  refine T.fn__law_number_by.okE sc__law_number_by (fun vs H Q E h => ?_) (fun cdv A' outer s H vs Q E hr hx h => ?_)
  · obtain ⟨n, rfl, q⟩ := h
    rfl
  · obtain ⟨n, rfl, q⟩ := h
    refine ex_run (B := fun t => t _ _ _) (j_pss_cons (j_ps_if (j_pt_cmpR j_c_eq (j_pe_op j_c_mod (j_cv 0) j_pe_int) j_pe_int (nomark _)) (j_pss_one (j_ps_ret (j_pe_op j_c_sub (j_pe_op j_c_mod (j_pe_op j_c_fdiv (j_cv 0) j_pe_int) j_pe_int) j_pe_int))) j_pss_nil)
      (j_pss_cons (j_ps_if (j_pt_cmpR j_c_eq (j_pe_op j_c_mod (j_cv 0) j_pe_int) j_pe_int (nomark _)) (j_pss_one (j_ps_ret (j_pe_op j_c_sub (j_pe_op j_c_mod (j_pe_op j_c_fdiv (j_cv 0) j_pe_int) (j_pe_op j_c_add (j_pe_op j_c_mul j_pe_int (j_pe_op j_c_pow j_pe_int j_pe_int)) j_pe_int)) (j_pe_op j_c_pow j_pe_int j_pe_int)))) j_pss_nil)
      (j_pss_one (j_ps_ret (j_pe_op j_c_add (j_pe_op j_c_sub (j_pe_op j_c_mod (j_pe_op j_c_fdiv (j_cv 0) j_pe_int) (j_pe_op j_c_sub (j_pe_op j_c_mul j_pe_int (j_pe_op j_c_pow j_pe_int j_pe_int)) j_pe_int)) (j_pe_op j_c_pow j_pe_int j_pe_int)) j_pe_int))))) ?_
    simp only [tRet, tNext, tSeq, tIfS, tTest, tOp, tC, cVar, cAdd, cSub, cMul, cFdiv, cMod, cPow, cEq, eqv, CDiv, CMul, CPow, true_or, or_true, Int.reduceLT, Nat.reduceMul, Nat.reduceLT, Int.reduceLE, Int.reduceNeg, Int.reducePow, Int.reduceToNat, Int.reduceMul, Int.reduceAdd, Int.reduceSub, L2.start, List.map_cons, List.map_nil, List.length_cons, List.length_nil, List.replicate, List.append_nil, List.getElem?_cons_zero, V.int.injEq, V.bl.injEq, V.str.injEq, V.ref.injEq, V.ty.injEq, List.cons.injEq, Option.some.injEq, and_true, true_and, exists_eq_left', and_false, decide_eq_true_eq, Nat.reduceSub, Nat.reduceAdd, Nat.sub_self]
    split
    · exact q _ (Nat.lt_of_le_of_lt (show _ ≤ 20 by omega) (by decide))
    · split
      · exact ⟨by decide, by decide, q _ (Nat.lt_of_le_of_lt (show _ ≤ 2000000000001 by omega) (by decide))⟩
      · refine ⟨by decide, by decide, q _ ?_⟩
        show _ < 1000000000000000000000000000000000000000000000000000000000000
        omega
def nmV (z : Str) : V := if wr z = true then .int (vl z) else .non
theorem wr_not {z : Str} {f : List Nat} (e : wrC z.cps.toList = wrL f) (z0 : z ≠ Str.ofString "0") (h : wrL f = false) : nmV z = .non := by
  unfold nmV wr
  rw [decide_eq_false z0, e, h]; rfl
def sp__law_number : Sp := fun vs H Q _ => ∃ z, vs = [.str z] ∧ asc z ∧ z.length ≤ 700 ∧ Q (nmV z) H
theorem sc__law_number : FnScope ["_law_part", "_law_figures_here", "_law_number_here", "_law_sign", "_law_at"] ["_law_part"] (defScope s__law_number) := ⟨rfl, rfl, rfl, by decide +kernel, rfl, by decide +kernel, by decide +kernel⟩
theorem ok__law_number (T : Txt w K mg A) : FnOk P w K mg base (CXE P w) true 1 A.f__law_number A.d__law_number ["_law_part"] sp__law_number := by
  refine T.fn__law_number.okE sc__law_number (fun vs H Q E h => ?_) (fun cdv A' outer s H vs Q E hr hx h => ?_)
  · obtain ⟨z, rfl, az, lz, q⟩ := h
    rfl
  · obtain ⟨z, rfl, az, lz, q⟩ := h
    refine ex_run (B := fun t => t _ _ _) (j_pss_cons (j_ps_set (i := 1) sc__law_number.nd rfl (by first | exact Or.inl rfl | exact Or.inr rfl) (j_cv 0))
      (j_pss_cons (j_ps_if (j_pt_cmpR j_c_eq (j_pe_slice j_c_slT (j_cv 0) j_po_none (j_c_part j_pe_int)) j_pe_str (nomark _)) (j_pss_one (j_ps_set (i := 1) sc__law_number.nd rfl (by first | exact Or.inl rfl | exact Or.inr rfl) (j_pe_slice j_c_slT (j_cv 0) (j_c_part j_pe_int) j_po_none))) j_pss_nil)
      (j_pss_cons (j_ps_if (j_PW_pt (j_pw_or (j_pt_not (j_pt_chain j_c_le j_c_le j_pe_int (j_pe_callBF j_c_lenT (by rfl) T.n_len PyProof.Rows.Boot.«len» (j_pa_c (j_cv 1) j_pa_nil)) j_pe_int)) (j_pw_or1 (j_PW_pt (j_pw_and (j_pt_cmpR j_c_eq (j_pe_ix j_c_ixT (j_cv 1) j_pe_int (fun _ _ => rfl)) j_pe_str (nomark _)) (j_pw_and1 (j_pt_cmpR j_c_ne (j_cv 0) j_pe_str (nomark _)))))))) (j_pss_one (j_ps_ret j_pe_non)) j_pss_nil)
      (j_pss_cons (j_ps_set (i := 2) sc__law_number.nd rfl (by first | exact Or.inl rfl | exact Or.inr rfl) j_pe_int)
      (j_pss_cons (j_ps_for hx.own rfl (j_pi_str (j_cv 1)) (j_pg_name (i := 3) sc__law_number.nd rfl (by first | exact Or.inl rfl | exact Or.inr rfl))
        (j_pss_cons (j_ps_set (i := 4) sc__law_number.nd rfl (by first | exact Or.inl rfl | exact Or.inr rfl) (j_c_bmS PySem.F.slot_str_find PySem.F.type_str_find j_c_find j_pe_str (j_pa_c (j_cv 3) j_pa_nil)))
      (j_pss_cons (j_ps_if (j_pt_cmpR j_c_lt (j_cv 4) j_pe_int (nomark _)) (j_pss_one (j_ps_ret j_pe_non)) j_pss_nil)
      (j_pss_one (j_ps_set (i := 2) sc__law_number.nd rfl (by first | exact Or.inl rfl | exact Or.inr rfl) (j_pe_op j_c_add (j_pe_op j_c_mul j_pe_int (j_cv 2)) (j_cv 4)))))))
      (j_pss_one (j_ps_ret (j_pe_ifExp (j_pt_cmpR j_c_ne (j_cv 1) (j_cv 0) (nomark _)) (j_pe_op j_c_sub j_pe_int (j_cv 2)) (j_cv 2))))))))) ?_
    show tSeq _ _ _ [some (V.str z), none, none, none, none] H
    refine seq_mid (fun σ' H' => H = H' ∧ σ' = [some (V.str z), some (V.str z), none, none, none]) (fun R hR => ?_) ?_
    · simp only [cVar, tAsg, gName, List.getElem?_cons_zero, List.set_cons_zero, List.set_cons_succ]
      exact hR _ _ ⟨rfl, rfl⟩
    rintro _ _ ⟨rfl, rfl⟩
    refine seq_mid (fun σ' H' => H = H' ∧ ∃ f, asc f ∧ f.length ≤ 700 ∧ ((z.cps.toList = 45 :: f.cps.toList ∧ f ≠ z) ∨ (f = z ∧ ∀ r, z.cps.toList ≠ 45 :: r)) ∧ σ' = [some (V.str z), some (V.str f), none, none, none]) (fun R hR => ?_) ?_
    · have e1 : StrLaws.sliceText z none (some 1) = mkS (z.cps.toList.take 1) := sl_to (i := 1)
      have e2 : StrLaws.sliceText z (some 1) none = mkS (z.cps.toList.drop 1) := sl_from (i := 1)
      simp only [tNext, tIfS, tTest, tOp, tC, cVar, tAsg, gName, cEq, eqv, cPart, tNoPart, tSl, List.getElem?_cons_zero, List.set_cons_zero, List.set_cons_succ, V.int.injEq, V.bl.injEq, V.str.injEq, V.ref.injEq, V.ty.injEq, List.cons.injEq, Option.some.injEq, exists_eq_left', decide_eq_true_eq, cSlT, e1, e2]
      rw [show Str.ofString "-" = mkS [45] by decide +kernel]
      cases e : z.cps.toList with
      | nil =>
        rw [if_neg (fun y => by have := congrArg (fun s : Str => s.cps.toList) y; cases this)]
        exact ⟨big (Nat.zero_le _), hR _ _ ⟨rfl, z, az, lz, .inr ⟨rfl, fun r y => by rw [e] at y; cases y⟩, rfl⟩⟩
      | cons c r =>
        have hr : r.length + 1 ≤ 700 := by rw [len_cps, e] at lz; exact lz
        refine ⟨big (show 1 ≤ 1000 by decide), ?_⟩
        by_cases y : c = 45
        · subst y
          rw [if_pos (show mkS (List.take 1 (45 :: r)) = mkS [45] from rfl)]
          refine ⟨big (show r.length ≤ 1000 by omega), hR _ _ ⟨rfl, mkS r, fun c hc => az c (by rw [e]; exact List.mem_cons_of_mem _ hc), (show r.length ≤ 700 by omega), .inl ⟨e, fun y => ?_⟩, rfl⟩⟩
          have h1 := congrArg (fun s : Str => s.cps.toList.length) y
          have h2 : r.length = z.cps.toList.length := h1
          rw [e, List.length_cons] at h2; omega
        · rw [if_neg (fun w => by have := congrArg (fun s : Str => s.cps.toList) w; injection this with h1; exact y h1)]
          exact hR _ _ ⟨rfl, z, az, lz, .inr ⟨rfl, fun r' w => by rw [e] at w; injection w with h1; exact y h1⟩, rfl⟩
    rintro _ _ ⟨rfl, f, af, lf, hf, rfl⟩
    have ef : wrC z.cps.toList = wrL f.cps.toList := by
      rcases hf with ⟨e, _⟩ | ⟨e, h⟩
      · rw [e]; rfl
      · rw [e]
        cases e : z.cps.toList with
        | nil => rfl
        | cons c r =>
          unfold wrC; split
          · rename_i q' hq; injection hq with h1; exact absurd (by rw [e, h1]) (h r)
          · rfl
    have fz : z = Str.ofString "0" → f.cps.toList = [48] := fun y => by
      have hz : z.cps.toList = [48] := by rw [y]; decide +kernel
      rcases hf with ⟨e, _⟩ | ⟨e, _⟩
      · rw [hz] at e; injection e with h1; cases h1
      · rw [e]; exact hz
    have no : z ≠ Str.ofString "0" → wrL f.cps.toList = false → Q V.non H := fun z0 h => by
      rw [wr_not ef z0 h] at q; exact q
    refine seq_mid (fun σ' H' => H = H' ∧ f.cps.toList.length ≤ 60 ∧ f.cps.toList ≠ [] ∧ (f.cps.toList.head? = some 48 → z = Str.ofString "0") ∧ σ' = [some (V.str z), some (V.str f), none, none, none]) (fun R hR => ?_) ?_
    · simp only [tRet, tNext, tIfS, tTest, tOp, tAnd, tOr, tNot, tCB, tCons, tNil, tC, cVar, cLe, cCmp, cEq, cNe, eqv, tChain, Bool.not_eq_true', atI_0, decide_eq_false_iff_not, List.getElem?_cons_zero, List.getElem?_cons_succ, V.int.injEq, V.bl.injEq, V.str.injEq, V.ref.injEq, V.ty.injEq, List.cons.injEq, Option.some.injEq, exists_eq_left', ite_true, ite_false, Bool.false_eq_true, decide_eq_true_eq, cIxT, cLenT]
      refine ⟨big (by omega), ?_⟩
      rw [show (Str.ofString "0" : Str) = mkS [48] by decide +kernel] at no fz ⊢
      by_cases y1 : 1 ≤ f.length
      · rw [if_pos (by omega)]
        by_cases y2 : f.length ≤ 60
        · rw [if_neg (by omega)]
          cases e : f.cps.toList with
          | nil => rw [len_cps, e] at y1; exact absurd y1 (by decide)
          | cons c r =>
            dsimp only [List.getElem?_cons_zero]
            refine ⟨big (by omega), ?_⟩
            have hfin : (f.cps.toList.head? = some 48 → z = mkS [48]) → R [some (V.str z), some (V.str f), none, none, none] H := fun h => hR _ _ ⟨rfl, y2, by rw [e]; exact List.cons_ne_nil _ _, by rw [show (Str.ofString "0" : Str) = mkS [48] by decide +kernel]; exact h, rfl⟩
            by_cases y3 : c = 48
            · subst y3
              rw [if_pos (show (⟨#[48]⟩ : Str) = mkS [48] from rfl)]
              by_cases y4 : z = mkS [48]
              · rw [if_neg (fun n => n y4)]
                exact hfin fun _ => y4
              · rw [if_pos y4]
                refine no y4 ?_
                unfold wrL
                rw [e, show decide ((48 :: r).head? ≠ some 48) = false from decide_eq_false (fun n => n rfl), Bool.and_false, Bool.false_and]
            · rw [if_neg (fun w => by have := congrArg (fun s : Str => s.cps.toList) w; injection this with h1; exact y3 h1)]
              exact hfin fun h => by rw [e] at h; injection h with h1; exact absurd h1 y3
        · rw [if_pos (by omega)]
          refine no (fun y => ?_) ?_
          · have := fz y; rw [len_cps, this] at y2; exact y2 (by decide)
          · unfold wrL; rw [decide_eq_false (show ¬ f.cps.toList.length ≤ 60 from y2)]; rfl
      · rw [if_neg (by omega)]
        refine no (fun y => ?_) ?_
        · have := fz y; rw [len_cps, this] at y1; exact y1 (by decide)
        · cases e : f.cps.toList with
          | nil => rfl
          | cons c r => rw [len_cps, e, List.length_cons] at y1; omega
    rintro _ _ ⟨rfl, f60, fn, f0, rfl⟩
    refine seq_mid (fun σ' H' => H = H' ∧ σ' = [some (V.str z), some (V.str f), some (V.int 0), none, none]) (fun R hR => ?_) ?_
    · simp only [tC, tAsg, gName, List.set_cons_zero, List.set_cons_succ]
      exact hR _ _ ⟨rfl, rfl⟩
    rintro _ _ ⟨rfl, rfl⟩
    refine seq_mid (fun σ' H' => H = H' ∧ f.cps.toList.all dig = true ∧ ∃ v3 v4, σ' = [some (V.str z), some (V.str f), some (V.int ((NumText.digitsVal f.cps.toList : Nat) : Int)), v3, v4]) (fun R hR => ?_) ?_
    · simp only [cVar, cLt, tFor_eq, List.getElem?_cons_zero, List.getElem?_cons_succ, iStr]
      refine ⟨af.all, LoopW.str (fun i σ' H' => H = H' ∧ (f.cps.toList.take i).all dig = true ∧ ∃ v3 v4, σ' = [some (V.str z), some (V.str f), some (V.int ((NumText.digitsVal (f.cps.toList.take i) : Nat) : Int)), v3, v4]) ⟨rfl, rfl, _, _, rfl⟩ ?_ ?_⟩
      · rintro i c σ' _ hc ⟨rfl, hd, v3, v4, rfl⟩
        have hm := List.mem_of_getElem? hc
        have ec : f.cps.toList.take (i + 1) = f.cps.toList.take i ++ [c] := by rw [List.take_add_one, hc]; rfl
        have fd : Txt.find (Str.ofString "0123456789") ⟨#[c]⟩ = if dig c = true then ((c - 48 : Nat) : Int) else -1 := find_dig (af c hm)
        simp only [tRet, tNext, tSeq, tIfS, tTest, tOp, tCons, tNil, tC, cVar, tAsg, gName, cAdd, cMul, cCmp, CMul, true_or, Int.reduceLT, Nat.reduceLT, Int.reduceNeg, Int.reducePow, List.getElem?_cons_zero, List.getElem?_cons_succ, List.set_cons_zero, List.set_cons_succ, V.int.injEq, V.bl.injEq, V.str.injEq, V.ref.injEq, V.ty.injEq, List.cons.injEq, Option.some.injEq, and_true, true_and, exists_eq_left', exists_and_left, decide_eq_true_eq, cBMS, cFind, fd]
        cases hg : dig c with
        | true =>
          rw [if_pos rfl, if_neg (by omega)]
          refine ⟨by rw [ec, List.all_append, hd]; simp [hg], ?_, _, rfl⟩
          rw [ec, NumText.digitsVal_snoc]
          have := dig_is hg
          omega
        | false =>
          rw [show (if false = true then ((c - 48 : Nat) : Int) else -1) = -1 from rfl, if_pos (show (-1 : Int) < 0 by decide)]
          refine no (fun y => ?_) ?_
          · have := fz y
            rw [this, List.mem_singleton] at hm
            rw [hm] at hg; cases hg
          · unfold wrL
            have : f.cps.toList.all dig = false := List.all_eq_false.mpr ⟨c, hm, by rw [hg]; exact Bool.false_ne_true⟩
            rw [this, Bool.and_false]
      · rintro σ' _ ⟨rfl, hd, v3, v4, rfl⟩
        rw [List.take_length] at hd
        rw [List.take_length]
        exact hR _ _ ⟨rfl, hd, _, _, rfl⟩
    rintro _ _ ⟨rfl, fd, v3, v4, rfl⟩
    have hw : wr z = true := by
      by_cases y : z = Str.ofString "0"
      · rw [y]; decide +kernel
      · unfold wr
        rw [decide_eq_false y, Bool.false_or, ef]
        unfold wrL
        rw [decide_eq_true f60, show decide (f.cps.toList.head? ≠ some 48) = true from decide_eq_true (fun h => y (f0 h)), fd]
        cases e : f.cps.toList with
        | nil => exact absurd e fn
        | cons c r => rfl
    unfold nmV at q
    rw [if_pos hw] at q
    simp only [tRet, tTest, tOp, tIf, tC, cVar, cSub, cNe, eqv, Bool.not_eq_true', decide_eq_false_iff_not, List.getElem?_cons_zero, List.getElem?_cons_succ, V.int.injEq, V.bl.injEq, V.str.injEq, V.ref.injEq, V.ty.injEq, List.cons.injEq, Option.some.injEq, exists_eq_left']
    rcases hf with ⟨e, hne⟩ | ⟨e, h⟩
    · rw [if_pos hne]
      have ev : vl z = 0 - ((NumText.digitsVal f.cps.toList : Nat) : Int) := by unfold vl; rw [e]; show -_ = _; omega
      rw [← ev]; exact q
    · rw [if_neg (fun n => n e)]
      have ev : vl z = ((NumText.digitsVal f.cps.toList : Nat) : Int) := by
        unfold vl; rw [e]
        cases e : z.cps.toList with
        | nil => rfl
        | cons c r =>
          unfold vlC; split
          · rename_i q' hq; injection hq with h1; exact absurd (by rw [e, h1]) (h r)
          · rfl
      rw [← ev]; exact q
def sp_numbers_of : Sp := fun vs H Q _ => ∃ a, ∃ ts : List Str, vs = [.ref a] ∧ H a = some (.lst (ts.map V.str)) ∧ (∀ t ∈ ts, asc t ∧ t.length ≤ 700) ∧ ts.length ≤ 800 ∧
  (if ts.all wr = true then ∀ l H', Same H H' → H l = none → H' l = some (.lst ((ts.map vl).map V.int)) → Q (.ref l) H' else ∀ H', Same H H' → Q .non H')
theorem sc_numbers_of : FnScope ["texts"] ["texts"] (defScope s_numbers_of) := ⟨rfl, rfl, rfl, by decide +kernel, rfl, by decide +kernel, by decide +kernel⟩
theorem ok_numbers_of (T : Txt w K mg A) : FnOk P w K mg base (CXE P w) true 2 A.f_numbers_of A.d_numbers_of ["texts"] sp_numbers_of := by
  refine T.fn_numbers_of.okE sc_numbers_of (fun vs H Q E h => ?_) (fun cdv A' outer s H vs Q E hr hx h => ?_)
  · obtain ⟨a, ts, rfl, ea, ha, hl, q⟩ := h
    rfl
  · obtain ⟨a, ts, rfl, ea, ha, hl, q⟩ := h
    refine ex_run (B := fun t => t _ _ _) (j_pss_cons (j_ps_if (j_pt_not (j_pt_truth (j_pe_callBF (j_c_all (by rfl)) (by rfl) T.n_all PyProof.Rows.Boot.«all» (j_pa_c (j_pe_comp (fsc := defScope s_numbers_of) (N2 := []) (js := []) ⟨rfl, rfl, by decide +kernel, by decide +kernel, by decide +kernel, by decide +kernel, by decide +kernel, by decide +kernel, by decide +kernel⟩ rfl rfl (by rfl) (j_pi_list (j_cv 0)) (fun _ _ _ _ => j_pifs_nil) (fun _ _ _ _ => (j_pe_callF ((ok_is_written T).mono (by decide)) hr rfl T.g_is_written T.fn_is_written.kp T.b_is_written exc_blk (j_pa_c (j_cv 0) j_pa_nil)))) j_pa_nil)) (fun _ => rfl))) (j_pss_one (j_ps_ret j_pe_non)) j_pss_nil)
      (j_pss_one (j_ps_ret (j_pe_comp (fsc := defScope s_numbers_of) (N2 := []) (js := []) ⟨rfl, rfl, by decide +kernel, by decide +kernel, by decide +kernel, by decide +kernel, by decide +kernel, by decide +kernel, by decide +kernel⟩ rfl rfl (by rfl) (j_pi_list (j_cv 0)) (fun _ _ _ _ => j_pifs_nil) (fun _ _ _ _ => (j_pe_callTyF j_c_intT (by rfl) T.n_int PyProof.Rows.Boot.«int» (j_pa_c (j_cv 0) j_pa_nil))))))) ?_
    show tSeq _ _ _ [some (V.ref a)] H
    refine seq_mid (fun σ' H' => Same H H' ∧ ts.all wr = true ∧ σ' = [some (V.ref a)]) (fun R hR => ?_) ?_
    · simp only [tRet, tNext, tIfS, tNot, tCB, tCons, tNil, tC, cVar, cxOf_K, TruV, Bool.not_eq_true', tComp, capt, cAll, iList, List.map_nil, List.getElem?_cons_zero, V.int.injEq, V.bl.injEq, V.str.injEq, V.ref.injEq, V.ty.injEq, List.cons.injEq, Option.some.injEq, exists_eq_left', exists_eq_left]
      have eb : ∀ l : List Bool, bools (l.map V.bl) = some l := fun l => by
        induction l with
        | nil => rfl
        | cons c l ih => rw [List.map_cons]; show (bools _).map _ = _; rw [ih]; rfl
      refine ⟨⟨_, SqL.of ea⟩, compW_listG (xs := ts.map V.str) (fun i ys H' => Same H H' ∧ i ≤ ts.length ∧ ys = ((ts.take i).map wr).map V.bl) ⟨Same.refl _, Nat.zero_le _, rfl⟩ (fun i ys H' h => SqL.of (h.1 _ _ ea)) (big (by rw [List.length_map]; omega)) (fun i ys H' h => by rw [h.2.2, List.length_map, List.length_map, List.length_take]; omega) ?_ ?_⟩
      · rintro i v ys H1 hv ⟨s1, hi, rfl⟩ K1 hK
        rw [List.getElem?_map] at hv
        obtain ⟨t, ht, rfl⟩ := Option.map_eq_some_iff.mp hv
        have hit : i < ts.length := (List.getElem?_eq_some_iff.mp ht).1
        have := ha t (List.mem_of_getElem? ht)
        simp only [tCons, tNil, cVar, tCallE, tYes, List.getElem?_cons_zero, V.int.injEq, V.bl.injEq, V.str.injEq, V.ref.injEq, V.ty.injEq, List.cons.injEq, Option.some.injEq, and_true, exists_eq_left', ite_true, sp_is_written]
        exact ⟨this.1, this.2, fun H' s' => hK _ _ ⟨s1.trans s', by omega, by rw [List.take_add_one, ht, List.map_append, List.map_append]; rfl⟩⟩
      · rintro ys H1 ⟨s1, _, rfl⟩ l hl'
        rw [List.length_map, List.take_length]
        dsimp only
        rw [upd_same]
        dsimp only
        rw [eb]
        dsimp only
        have e : (ts.map wr).all id = ts.all wr := by rw [List.all_map]; rfl
        rw [e]
        cases hw : ts.all wr with
        | true =>
          rw [if_neg (fun n => by cases n)]
          exact hR _ _ ⟨s1.trans (Same.upd hl'), hw, rfl⟩
        | false =>
          rw [if_pos rfl]
          rw [hw, if_neg (fun n => by cases n)] at q
          exact q _ (s1.trans (Same.upd hl'))
    rintro _ H1 ⟨s1, hw, rfl⟩
    rw [if_pos hw] at q
    simp only [tRet, cVar, cxOf_K, tComp, capt, iList, List.map_nil, List.getElem?_cons_zero, V.int.injEq, V.bl.injEq, V.str.injEq, V.ref.injEq, V.ty.injEq, List.cons.injEq, Option.some.injEq, exists_eq_left']
    refine ⟨⟨_, SqL.of (s1 _ _ ea)⟩, compW_listG (xs := ts.map V.str) (fun i ys H' => H1 = H' ∧ i ≤ ts.length ∧ ys = ((ts.take i).map vl).map V.int) ⟨rfl, Nat.zero_le _, rfl⟩ (fun i ys H' h => by rw [← h.1]; exact SqL.of (s1 _ _ ea)) (big (by rw [List.length_map]; omega)) (fun i ys H' h => by rw [h.2.2, List.length_map, List.length_map, List.length_take]; omega) ?_ ?_⟩
    · rintro i v ys _ hv ⟨rfl, hi, rfl⟩ K1 hK
      rw [List.getElem?_map] at hv
      obtain ⟨t, ht, rfl⟩ := Option.map_eq_some_iff.mp hv
      have hit : i < ts.length := (List.getElem?_eq_some_iff.mp ht).1
      have hwt := wr_int (List.all_eq_true.mp hw t (List.mem_of_getElem? ht))
      simp only [tCB, tCons, tNil, cVar, tYes, List.getElem?_cons_zero, ite_true, cIntT]
      exact ⟨_, hwt.1, hwt.2, hK _ _ ⟨rfl, by omega, by rw [List.take_add_one, ht, List.map_append, List.map_append]; rfl⟩⟩
    · rintro ys _ ⟨rfl, _, rfl⟩ l hl'
      rw [List.length_map, List.take_length]
      exact q _ _ (s1.trans (Same.upd hl')) (same_none s1 hl') upd_same
theorem spl_sp : ∀ {p : List Nat}, spl (p ++ [32]) = spl p ++ [[]]
  | [] => rfl
  | c :: p => by
    rw [List.cons_append, spl, spl, spl_sp (p := p)]
    split
    · rfl
    · cases e : spl p with
      | nil => exact absurd e spl_ne
      | cons q qs => rfl
theorem spl_sn {c : Nat} (hc : c ≠ 32) : ∀ {p : List Nat}, ∃ qs q, spl p = qs ++ [q] ∧ spl (p ++ [c]) = qs ++ [q ++ [c]]
  | [] => ⟨[], [], rfl, by show spl [c] = _; rw [spl, if_neg hc]; rfl⟩
  | a :: p => by
    obtain ⟨qs, q, h1, h2⟩ := spl_sn hc (p := p)
    rw [List.cons_append, spl, spl, h1, h2]
    split
    · exact ⟨[] :: qs, q, rfl, rfl⟩
    · cases qs with
      | nil => exact ⟨[], a :: q, rfl, rfl⟩
      | cons r rs => exact ⟨(a :: r) :: rs, q, rfl, rfl⟩
theorem inV_ws {x : Str} : ∀ {l : List Str}, inV (.str x) (l.map V.str) = decide (x ∈ l)
  | [] => rfl
  | y :: l => by
    have ih := inV_ws (x := x) (l := l)
    unfold inV at ih ⊢
    rw [List.map_cons, List.any_cons, ih]
    by_cases h : y = x
    · subst h; simp [eqV]
    · have h' : ¬ x = y := fun z => h z.symm
      simp [eqV, h, h']
theorem inV_nm : ∀ {l : List Str}, inV .non (l.map nmV) = !(l.all wr)
  | [] => rfl
  | y :: l => by
    have ih := inV_nm (l := l)
    unfold inV at ih ⊢
    rw [List.map_cons, List.any_cons, ih, List.all_cons]
    cases h : wr y with
    | true => rw [show nmV y = .int (vl y) by unfold nmV; rw [if_pos h]]; simp [eqV]
    | false => rw [show nmV y = .non by unfold nmV; rw [if_neg (by rw [h]; exact Bool.false_ne_true)]]; simp [eqV]
theorem nm_flat {l : List Str} : (l.map nmV).all flatV = true := by
  rw [List.all_eq_true]
  intro v hv
  obtain ⟨z, _, rfl⟩ := List.mem_map.mp hv
  unfold nmV; split <;> rfl
theorem str_flat {l : List Str} : (l.map V.str).all flatV = true := by
  rw [List.all_eq_true]
  intro v hv
  obtain ⟨z, _, rfl⟩ := List.mem_map.mp hv
  rfl
theorem nm_all {l : List Str} (h : l.all wr = true) : l.map nmV = (l.map vl).map V.int := by
  rw [List.map_map]
  refine List.map_congr_left fun z hz => ?_
  show nmV z = V.int (vl z)
  unfold nmV; rw [if_pos (List.all_eq_true.mp h z hz)]
theorem cut1 {v : V} {r : List V} : cutV (v :: r) (some 1) none = r := by
  unfold cutV HT.sIx
  dsimp only
  rw [if_neg (by decide)]
  have h1 : min (1 : Int).toNat (v :: r).length = 1 := by rw [List.length_cons]; show min 1 _ = 1; omega
  rw [h1, List.drop_succ_cons, List.drop_zero, List.length_cons]
  exact List.take_of_length_le (by omega)
theorem many_at {x : Str} (h : x ∈ ws) : atI (cn.map V.int) (ws.idxOf x : Nat) = some (.int (many x)) := by
  have hl : ws.idxOf x < cn.length := by have := List.idxOf_lt_length_iff.mpr h; exact this
  rw [atI_cast, List.getElem?_map, List.getElem?_eq_getElem hl]
  unfold many
  rw [List.getD_eq_getElem?_getD, List.getElem?_eq_getElem hl]; rfl
/-- what a line tells, as the law has it -/
def sp__law_deed : Sp := fun vs H Q _ => ∃ z, vs = [.str z] ∧ asc z ∧ z.length ≤ 690 ∧ (match dd z with
  | some (x, ns) => ∀ l H', Same H H' → H l = none → H' l = some (.tup (.str x :: ns.map V.int)) → Q (.ref l) H'
  | none => ∀ H', Same H H' → Q .non H')
theorem sc__law_deed : FnScope ["_law_line", "_law_parts", "_law_sign", "_law_words_here", "_law_counts", "_law_numbers"] ["_law_line"] (defScope s__law_deed) := ⟨rfl, rfl, rfl, by decide +kernel, rfl, by decide +kernel, by decide +kernel⟩
theorem ok__law_deed (T : Txt w K mg A) : FnOk P w K mg base (CXE P w) true 2 A.f__law_deed A.d__law_deed ["_law_line"] sp__law_deed := by
  refine T.fn__law_deed.okE sc__law_deed (fun vs H Q E h => ?_) (fun cdv A' outer s H vs Q E hr hx h => ?_)
  · obtain ⟨z, rfl, az, lz, q⟩ := h
    rfl
  · obtain ⟨z, rfl, az, lz, q⟩ := h
    refine ex_run (B := fun t => t _ _ _) (j_pss_cons (j_ps_set (i := 1) sc__law_deed.nd rfl (by first | exact Or.inl rfl | exact Or.inr rfl) (j_pe_lst (j_pa_c j_pe_str j_pa_nil)))
      (j_pss_cons (j_ps_for hx.own rfl (j_pi_str (j_cv 0)) (j_pg_name (i := 2) sc__law_deed.nd rfl (by first | exact Or.inl rfl | exact Or.inr rfl))
        (j_pss_one (j_ps_if (j_pt_cmpR j_c_eq (j_cv 2) j_pe_str (nomark _)) (j_pss_one (j_ps_expr (j_c_bm PySem.F.slot_list_append PySem.F.type_list_append j_c_append (j_cv 1) (j_pa_c j_pe_str j_pa_nil)))) (j_pss_one (j_ps_asg (j_pe_op j_c_add (j_pe_ix j_c_ix (j_cv 1) (j_pe_un j_c_neg j_pe_int) (fun _ _ => rfl)) (j_cv 2)) (j_pg_sub (j_cv 1) (j_pe_un j_c_neg j_pe_int) j_c_set))))))
      (j_pss_cons (j_ps_asg (j_pe_call0E ((ok__law_words T).mono (by decide)) hr rfl T.g__law_words T.fn__law_words.kp T.b__law_words hx) (j_pg_tup (n := 2) (by rfl) (j_pgs_cons (j_pg_name (i := 3) sc__law_deed.nd rfl (by first | exact Or.inl rfl | exact Or.inr rfl)) (j_pgs_cons (j_pg_name (i := 4) sc__law_deed.nd rfl (by first | exact Or.inl rfl | exact Or.inr rfl)) j_pgs_nil))))
      (j_pss_cons (j_ps_if (j_PW_pt (j_pw_or (j_pt_cmpR j_op_notIn_seq (j_pe_ix j_c_ix (j_cv 1) j_pe_int (fun _ _ => rfl)) (j_cv 3) (by with_unfolding_all rfl)) (j_pw_or1 (j_pt_cmpR j_c_ne (j_pe_ix j_c_ix (j_cv 4) (j_c_bm PySem.F.slot_list_index PySem.F.type_list_index j_c_indexS (j_cv 3) (j_pa_c (j_pe_ix j_c_ix (j_cv 1) j_pe_int (fun _ _ => rfl)) j_pa_nil)) (fun _ _ => rfl)) (j_pe_op j_c_sub (j_pe_callBF j_c_len (by rfl) T.n_len PyProof.Rows.Boot.«len» (j_pa_c (j_cv 1) j_pa_nil)) j_pe_int) (nomark _))))) (j_pss_one (j_ps_ret j_pe_non)) j_pss_nil)
      (j_pss_cons (j_ps_setcomp (i := 5) (fsc := defScope s__law_deed) (N2 := []) (js := []) sc__law_deed.nd rfl (by first | exact Or.inl rfl | exact Or.inr rfl) ⟨rfl, rfl, by decide +kernel, by decide +kernel, by decide +kernel, by decide +kernel, by decide +kernel, by decide +kernel, by decide +kernel⟩ rfl rfl (by rfl) (j_pi_list (j_pe_slice j_c_sl (j_cv 1) (j_c_part j_pe_int) j_po_none)) (fun _ _ _ _ => j_pifs_nil) (fun _ _ _ _ => (j_pe_callF ((ok__law_number T).mono (by decide)) hr rfl T.g__law_number T.fn__law_number.kp T.b__law_number exc_blk (j_pa_c (j_cv 0) j_pa_nil))))
      (j_pss_cons (j_ps_if (j_pt_cmpR j_op_in_seq j_pe_non (j_cv 5) (by with_unfolding_all rfl)) (j_pss_one (j_ps_ret j_pe_non)) j_pss_nil)
      (j_pss_one (j_ps_ret (j_pe_callTyF j_c_tupleOf (by rfl) T.n_tuple PyProof.Rows.Boot.«tuple» (j_pa_c (j_pe_op j_c_cat (j_pe_lst (j_pa_c (j_pe_ix j_c_ix (j_cv 1) j_pe_int (fun _ _ => rfl)) j_pa_nil)) (j_cv 5)) j_pa_nil)))))))))) ?_
    show tSeq _ _ _ [some (V.str z), none, none, none, none, none] H
    refine seq_mid (fun σ' H' => ∃ lp, H lp = none ∧ Same H H' ∧ H' lp = some (.lst [V.str (mkS [])]) ∧ σ' = [some (V.str z), some (V.ref lp), none, none, none, none]) (fun R hR => ?_) ?_
    · simp only [tCons, tNil, tC, tLst, tAsg, gName, Int.reduceAdd, List.length_cons, List.length_nil, List.set_cons_zero, List.set_cons_succ, true_and, Nat.reduceAdd, sz1]
      exact fun p hp => hR _ _ ⟨p, hp, Same.upd hp, by rw [upd_same, show Str.ofString "" = mkS [] by decide +kernel], rfl⟩
    rintro _ H1 ⟨lp, hlp, s1, ep, rfl⟩
    refine seq_mid (fun σ' H' => Same H H' ∧ H' lp = some (.lst ((prts z).map V.str)) ∧ ∃ v2, σ' = [some (V.str z), some (V.ref lp), v2, none, none, none]) (fun R hR => ?_) ?_
    · simp only [cVar, tFor_eq, List.getElem?_cons_zero, iStr]
      refine ⟨az.all, LoopW.str (fun i σ' H' => i ≤ z.cps.toList.length ∧ Same H H' ∧ H' lp = some (.lst ((spl (z.cps.toList.take i)).map fun p => V.str (mkS p))) ∧ ∃ v2, σ' = [some (V.str z), some (V.ref lp), v2, none, none, none]) ⟨Nat.zero_le _, s1, ep, _, rfl⟩ ?_ ?_⟩
      · rintro i c σ' H2 hc ⟨hi, s2, ep2, v2, rfl⟩
        have hi' : i < z.cps.toList.length := (List.getElem?_eq_some_iff.mp hc).1
        have ec : z.cps.toList.take (i + 1) = z.cps.toList.take i ++ [c] := by rw [List.take_add_one, hc]; rfl
        have hsl := (spl_len (cs := z.cps.toList.take i)).1
        rw [List.length_take] at hsl
        have hz : z.cps.toList.length ≤ 690 := lz
        simp only [tDrop, tIfS, tTest, tOp, tUn, tCons, tNil, tC, cVar, tAsg, gName, cAdd, cEq, eqv, cNeg, cIx, Int.reduceNeg, upd_same, cSetL, cAppend, cBM, gSub, List.getElem?_cons_zero, List.getElem?_cons_succ, List.set_cons_zero, List.set_cons_succ, V.int.injEq, V.bl.injEq, V.str.injEq, V.ref.injEq, V.ty.injEq, List.cons.injEq, Option.some.injEq, and_true, true_and, exists_eq_left', decide_eq_true_eq, ep2]
        rw [show Str.ofString " " = (⟨#[32]⟩ : Str) by decide +kernel, show Str.ofString "" = mkS [] by decide +kernel]
        by_cases y : c = 32
        · subst y
          rw [if_pos rfl]
          refine ⟨Nat.lt_of_le_of_lt (show _ ≤ 700 by rw [List.length_map]; omega) (by decide), by omega, s2.put hlp, ?_, _, rfl⟩
          rw [ec, spl_sp, List.map_append]; rfl
        · rw [if_neg (fun w => by have := congrArg (fun s : Str => s.cps.toList) w; injection this with h1; exact y h1)]
          obtain ⟨qs, q', h1, h2⟩ := spl_sn y (p := z.cps.toList.take i)
          have hq' := (spl_len (cs := z.cps.toList.take i)).2 q' (by rw [h1]; exact List.mem_append_right _ List.mem_cons_self)
          rw [List.length_take] at hq'
          rw [h1, List.map_append]
          have hlen : ((qs.map fun p => V.str (mkS p)) ++ [V.str (mkS q')]).length = qs.length + 1 := by rw [List.length_append, List.length_map]; rfl
          have ixl : ixN ((qs.map fun p => V.str (mkS p)) ++ [V.str (mkS q')]).length (-1) = some qs.length := by
            rw [hlen]; unfold ixN
            rw [if_neg (by decide), if_pos (by omega), show ((-1 : Int) + ((qs.length + 1 : Nat) : Int)).toNat = qs.length by omega]
          have atl : atI ((qs.map fun p => V.str (mkS p)) ++ [V.str (mkS q')]) (-1) = some (V.str (mkS q')) := by
            unfold atI; rw [ixl, Option.bind_some, List.getElem?_append_right (by rw [List.length_map]; exact Nat.le_refl _), List.length_map, Nat.sub_self]; rfl
          show match atI ((qs.map fun p => V.str (mkS p)) ++ [V.str (mkS q')]) (-1) with | some v => _ | none => False
          rw [atl]
          dsimp only
          refine ⟨big (show q'.length + 1 ≤ 1000 by omega), ?_⟩
          show match ixN ((qs.map fun p => V.str (mkS p)) ++ [V.str (mkS q')]).length (-1) with | some j => _ | none => False
          rw [ixl]
          refine ⟨by omega, s2.put hlp, ?_, _, rfl⟩
          rw [ec, h2, List.map_append]
          show HO.lst (((qs.map fun p => V.str (mkS p)) ++ [V.str (mkS q')]).set qs.length (V.str (mkS q' ++ ⟨#[c]⟩))) = _
          rw [List.set_append_right _ _ (by rw [List.length_map]; exact Nat.le_refl _), List.length_map, Nat.sub_self]
          rw [show mkS q' ++ (⟨#[c]⟩ : Str) = mkS (q' ++ [c]) from str_ext (by rw [app_cps]; rfl)]
          rfl
      · rintro σ' H2 ⟨_, s2, ep2, v2, rfl⟩
        rw [List.take_length] at ep2
        exact hR _ _ ⟨s2, by rw [ep2]; unfold prts; rw [List.map_map]; rfl, _, rfl⟩
    rintro _ H2 ⟨s2, ep2, v2, rfl⟩
    refine seq_mid (fun σ' H' => ∃ l m, Same H2 H' ∧ H' l = some (.lst (ws.map V.str)) ∧ H' m = some (.lst (cn.map V.int)) ∧ σ' = [some (V.str z), some (V.ref lp), v2, some (V.ref l), some (V.ref m), none]) (fun R hR => ?_) ?_
    · simp only [tNil, tAsg, tCallE, cxOf_K, true_and, sp__law_words]
      exact fun t l m H' s' et el em => ⟨t, [V.ref l, V.ref m], rfl, SqT.of et, rfl, _, _, rfl, _, _, rfl, rfl, hR _ _ ⟨l, m, s', el, em, rfl⟩⟩
    rintro _ H3 ⟨l, m, s3, el, em, rfl⟩
    have ep3 := s3 _ _ ep2
    have hps := prts_asc az
    have hpl := prts_len (z := z)
    unfold dd at q
    cases hp : prts z with
    | nil => exact absurd hp prts_ne
    | cons x r =>
      rw [hp] at q hps hpl ep3
      dsimp only at q
      refine seq_mid (fun σ' H' => H3 = H' ∧ x ∈ ws ∧ (r.length : Int) = many x ∧ σ' = [some (V.str z), some (V.ref lp), v2, some (V.ref l), some (V.ref m), none]) (fun R hR => ?_) ?_
      · have no : ¬ (x ∈ ws ∧ (r.length : Int) = many x) → Q V.non H3 := fun h => by
          rw [if_neg (fun w => h ⟨w.1, w.2.1⟩)] at q
          exact q _ (s2.trans s3)
        simp only [tRet, tNext, tIfS, tTest, tOp, tOr, tCB, tCons, tNil, tC, cVar, cSub, cNe, eqv, cIx, cLen, cxOf_K, Bool.not_eq_true', cBM, atI_0, List.map_cons, List.getElem?_cons_zero, List.getElem?_cons_succ, V.int.injEq, V.bl.injEq, V.str.injEq, V.ref.injEq, V.ty.injEq, List.cons.injEq, Option.some.injEq, exists_eq_left', ite_true, cIndexS, ep3]
        refine ⟨l, ws.map V.str, rfl, .inl (SqL.of el), rfl, str_flat, _, rfl, ?_⟩
        rw [inV_ws, if_pos rfl]
        by_cases hx : x ∈ ws
        · rw [decide_eq_true hx, if_neg (fun n => by cases n)]
          simp only [List.map_cons, List.length_cons, List.getElem?_cons_zero, el, em, ep3]
          refine ⟨ws, rfl, hx, ?_⟩
          rw [many_at hx]
          dsimp only
          rw [List.length_map]
          by_cases hr : (r.length : Int) = many x
          · rw [if_neg (by rw [decide_eq_false_iff_not]; omega)]
            exact hR _ _ ⟨rfl, hx, hr, rfl⟩
          · rw [if_pos (decide_eq_false (by omega))]
            exact no fun h => hr h.2
        · rw [decide_eq_false hx, if_pos (show (!false) = true from rfl)]
          exact no fun h => hx h.1
      rintro _ _ ⟨rfl, hx, hr, rfl⟩
      refine seq_mid (fun σ' H' => ∃ ln, Same H3 H' ∧ H3 ln = none ∧ H' ln = some (.lst (r.map nmV)) ∧ σ' = [some (V.str z), some (V.ref lp), v2, some (V.ref l), some (V.ref m), some (V.ref ln)]) (fun R hR => ?_) ?_
      · simp only [tC, cVar, tAsg, gName, cxOf_K, tComp, capt, iList, cSl, cPart, tNoPart, tSl, List.map_cons, List.map_nil, List.getElem?_cons_zero, List.getElem?_cons_succ, List.set_cons_zero, List.set_cons_succ, V.int.injEq, V.bl.injEq, V.str.injEq, V.ref.injEq, V.ty.injEq, List.cons.injEq, Option.some.injEq, exists_eq_left', ep3]
        intro p hp
        rw [cut1]
        have a1 := Same.upd (o := .lst (r.map V.str)) hp
        have epp : upd H3 p (.lst (r.map V.str)) p = some (.lst (r.map V.str)) := upd_same
        generalize upd H3 p (.lst (r.map V.str)) = G at *
        have hr3 : r.length ≤ 3 := by have := many_le x; omega
        refine ⟨⟨_, SqL.of epp⟩, compW_listG (xs := r.map V.str) (fun i ys H' => G = H' ∧ i ≤ r.length ∧ ys = (r.take i).map nmV) ⟨rfl, Nat.zero_le _, rfl⟩ (fun i ys H' h => by rw [← h.1]; exact SqL.of epp) (big (by rw [List.length_map]; omega)) (fun i ys H' h => by rw [h.2.2, List.length_map, List.length_take]; omega) ?_ ?_⟩
        · rintro i v ys _ hv ⟨rfl, hi, rfl⟩ K1 hK
          rw [List.getElem?_map] at hv
          obtain ⟨t, ht, rfl⟩ := Option.map_eq_some_iff.mp hv
          have hit : i < r.length := (List.getElem?_eq_some_iff.mp ht).1
          have := hps t (List.mem_cons_of_mem _ (List.mem_of_getElem? ht))
          simp only [tCons, tNil, cVar, tCallE, tYes, List.getElem?_cons_zero, V.int.injEq, V.bl.injEq, V.str.injEq, V.ref.injEq, V.ty.injEq, List.cons.injEq, Option.some.injEq, and_true, exists_eq_left', ite_true, sp__law_number]
          exact ⟨this.1, by omega, hK _ _ ⟨rfl, by omega, by rw [List.take_add_one, ht, List.map_append]; rfl⟩⟩
        · rintro ys _ ⟨rfl, _, rfl⟩ l' hl'
          rw [List.length_map, List.take_length]
          exact hR _ _ ⟨l', a1.trans (Same.upd hl'), same_none a1 hl', upd_same, rfl⟩
      rintro _ H4 ⟨ln, s4, hln, eln, rfl⟩
      refine seq_mid (fun σ' H' => H4 = H' ∧ r.all wr = true ∧ σ' = [some (V.str z), some (V.ref lp), v2, some (V.ref l), some (V.ref m), some (V.ref ln)]) (fun R hR => ?_) ?_
      · simp only [tRet, tNext, tIfS, tTest, tOp, tC, cVar, cxOf_K, List.getElem?_cons_zero, List.getElem?_cons_succ]
        refine ⟨ln, r.map nmV, rfl, .inl (SqL.of eln), rfl, nm_flat, _, rfl, ?_⟩
        rw [inV_nm, show (if false = true then !(!(r.all wr)) else !(r.all wr)) = !(r.all wr) from rfl]
        cases hw : r.all wr with
        | true =>
          rw [if_neg (show ¬ ((!true) = true) by decide)]
          exact hR _ _ ⟨rfl, hw, rfl⟩
        | false =>
          rw [if_pos (show (!false) = true from rfl)]
          rw [if_neg (fun w => by rw [hw] at w; cases w.2.2)] at q
          exact q _ (s2.trans (s3.trans s4))
      rintro _ _ ⟨rfl, hw, rfl⟩
      rw [if_pos ⟨hx, hr, hw⟩] at q
      dsimp only at q
      simp only [tRet, tOp, tCB, tCons, tNil, tC, cVar, tLst, cIx, Int.reduceAdd, upd_same, atI_0, cCat, List.map_cons, List.length_cons, List.length_nil, List.getElem?_cons_zero, List.getElem?_cons_succ, true_and, Nat.reduceAdd, sz1, cTupleOf, s4 _ _ ep3]
      intro p hp
      have a1 := Same.upd (o := .lst [V.str x]) hp
      rw [a1 _ _ eln]
      dsimp only
      rw [nm_all hw]
      refine ⟨Nat.le_trans (show _ ≤ 10 by have := many_le x; rw [List.length_map, List.length_map]; simp only [List.length_cons, List.length_nil]; omega) (by decide), fun p1 hp1 p2 hp2 => ?_⟩
      have a2 := Same.upd (o := .lst ([V.str x] ++ (r.map vl).map V.int)) hp1
      have a3 := Same.upd (o := .tup ([V.str x] ++ (r.map vl).map V.int)) hp2
      have sA := s2.trans (s3.trans (s4.trans (a1.trans (a2.trans a3))))
      exact q p2 _ sA (same_none (s2.trans (s3.trans (s4.trans (a1.trans a2)))) hp2) upd_same
def sp__law_changed : Sp := fun vs H Q _ => ∃ z a b, vs = [.str z, .int a, .int b] ∧ asc z ∧ z.length ≤ 300 ∧ ∀ y H', asc y → y.length ≤ 310 → Same H H' → Q (.str y) H'
theorem sc__law_changed : FnScope ["_law_line", "_law_cell", "_law_more", "_law_at", "_law_sign"] ["_law_line", "_law_cell", "_law_more"] (defScope s__law_changed) := ⟨rfl, rfl, rfl, by decide +kernel, rfl, by decide +kernel, by decide +kernel⟩
theorem ok__law_changed (T : Txt w K mg A) : FnOk P w K mg base (CXE P w) true 2 A.f__law_changed A.d__law_changed ["_law_line", "_law_cell", "_law_more"] sp__law_changed := by
  refine T.fn__law_changed.okE sc__law_changed (fun vs H Q E h => ?_) (fun cdv A' outer s H vs Q E hr hx h => ?_)
  · obtain ⟨z, a, b, rfl, az, lz, q⟩ := h
    rfl
  · obtain ⟨z, a, b, rfl, az, lz, q⟩ := h
    refine ex_run (B := fun t => t _ _ _) (j_pss_cons (j_ps_set (i := 3) sc__law_changed.nd rfl (by first | exact Or.inl rfl | exact Or.inr rfl) (j_pe_op j_c_mod (j_pe_op j_c_fdiv (j_cv 1) j_pe_int) (j_pe_op j_c_add (j_pe_callBF j_c_lenT (by rfl) T.n_len PyProof.Rows.Boot.«len» (j_pa_c (j_cv 0) j_pa_nil)) j_pe_int)))
      (j_pss_cons (j_ps_set (i := 4) sc__law_changed.nd rfl (by first | exact Or.inl rfl | exact Or.inr rfl) (j_pe_callF ((ok__law_sign_by T).mono (by decide)) hr rfl T.g__law_sign_by T.fn__law_sign_by.kp T.b__law_sign_by hx (j_pa_c (j_cv 2) j_pa_nil)))
      (j_pss_cons (j_ps_if (j_pt_cmpR j_c_eq (j_pe_op j_c_mod (j_pe_op j_c_fdiv (j_cv 2) j_pe_int) j_pe_int) j_pe_int (nomark _)) (j_pss_one (j_ps_set (i := 4) sc__law_changed.nd rfl (by first | exact Or.inl rfl | exact Or.inr rfl) (j_pe_ix j_c_ixT j_pe_str (j_pe_op j_c_mod (j_pe_op j_c_fdiv (j_cv 2) j_pe_int) j_pe_int) (fun _ _ => rfl)))) j_pss_nil)
      (j_pss_cons (j_ps_if (j_pt_cmpR j_c_eq (j_pe_op j_c_mod (j_cv 1) j_pe_int) j_pe_int (nomark _)) (j_pss_one (j_ps_ret (j_pe_op j_c_add (j_pe_op j_c_add (j_pe_slice j_c_slT (j_cv 0) j_po_none (j_c_part (j_cv 3))) (j_cv 4)) (j_pe_slice j_c_slT (j_cv 0) (j_c_part (j_cv 3)) j_po_none)))) j_pss_nil)
      (j_pss_cons (j_ps_if (j_pt_cmpR j_c_eq (j_pe_op j_c_mod (j_cv 1) j_pe_int) j_pe_int (nomark _)) (j_pss_one (j_ps_ret (j_pe_op j_c_add (j_pe_slice j_c_slT (j_cv 0) j_po_none (j_c_part (j_cv 3))) (j_pe_slice j_c_slT (j_cv 0) (j_c_part (j_pe_op j_c_add (j_cv 3) j_pe_int)) j_po_none)))) j_pss_nil)
      (j_pss_cons (j_ps_if (j_pt_cmpR j_c_eq (j_pe_op j_c_mod (j_cv 1) j_pe_int) j_pe_int (nomark _)) (j_pss_one (j_ps_ret (j_pe_op j_c_add (j_pe_op j_c_add (j_pe_slice j_c_slT (j_cv 0) j_po_none (j_c_part (j_cv 3))) (j_cv 4)) (j_pe_slice j_c_slT (j_cv 0) (j_c_part (j_pe_op j_c_add (j_cv 3) j_pe_int)) j_po_none)))) j_pss_nil)
      (j_pss_cons (j_ps_if (j_pt_cmpR j_c_eq (j_pe_op j_c_mod (j_cv 2) j_pe_int) j_pe_int (nomark _)) (j_pss_one (j_ps_ret (j_pe_menu (j_pa_cst (by rfl)) (j_pe_op j_c_mod (j_pe_op j_c_fdiv (j_cv 2) j_pe_int) j_pe_int) (fun _ _ => rfl)))) j_pss_nil)
      (j_pss_one (j_ps_ret (j_pe_op j_c_add (j_pe_op j_c_add (j_pe_op j_c_add j_pe_str (j_pe_op j_c_mulT j_pe_str (j_pe_op j_c_mod (j_cv 2) j_pe_int))) (j_pe_op j_c_mulT j_pe_str j_pe_int)) (j_pe_op j_c_mulT j_pe_str (j_pe_op j_c_mod (j_pe_op j_c_fdiv (j_cv 2) j_pe_int) j_pe_int)))))))))))) ?_
    have tk : ∀ k, asc (mkS (z.cps.toList.take k)) := fun k c hc => az c (List.mem_of_mem_take hc)
    have dk : ∀ k, asc (mkS (z.cps.toList.drop k)) := fun k c hc => az c (List.mem_of_mem_drop hc)
    have one : ∀ c, c < 128 → asc (⟨#[c]⟩ : Str) := fun c h d hd => by
      have : d ∈ [c] := hd
      rw [List.mem_singleton] at this; omega
    have lt' : ∀ k, (mkS (z.cps.toList.take k)).length = min k z.length := fun k => List.length_take
    have ld' : ∀ k, (mkS (z.cps.toList.drop k)).length = z.length - k := fun k => List.length_drop
    have l1 : ∀ c, (⟨#[c]⟩ : Str).length = 1 := fun c => rfl
    show tSeq _ _ _ [some (V.str z), some (V.int a), some (V.int b), none, none] H
    refine seq_mid (fun σ' H' => H = H' ∧ ∃ k : Nat, k ≤ z.length ∧ σ' = [some (V.str z), some (V.int a), some (V.int b), some (V.int k), none]) (fun R hR => ?_) ?_
    · simp only [tOp, tCB, tCons, tNil, tC, cVar, tAsg, gName, cAdd, cFdiv, cMod, CDiv, Int.reduceLT, Nat.reduceLT, List.getElem?_cons_zero, List.getElem?_cons_succ, List.set_cons_zero, List.set_cons_succ, and_true, true_and, cLenT]
      refine ⟨big (by omega), by omega, hR _ _ ⟨rfl, (a / 4 % ((z.length : Int) + 1)).toNat, ?_, ?_⟩⟩
      · have := Int.emod_lt_of_pos (a / 4) (show (0 : Int) < (z.length : Int) + 1 by omega); have := Int.emod_nonneg (a / 4) (show (z.length : Int) + 1 ≠ 0 by omega); omega
      · rw [Int.toNat_of_nonneg (Int.emod_nonneg _ (by omega))]
    rintro _ _ ⟨rfl, k, hk, rfl⟩
    refine seq_mid (fun σ' H' => H = H' ∧ ∃ c : Nat, c < 128 ∧ σ' = [some (V.str z), some (V.int a), some (V.int b), some (V.int k), some (V.str ⟨#[c]⟩)]) (fun R hR => ?_) ?_
    · simp only [tCons, tNil, cVar, tAsg, gName, tCallE, List.getElem?_cons_zero, List.getElem?_cons_succ, List.set_cons_zero, List.set_cons_succ, V.int.injEq, V.bl.injEq, V.str.injEq, V.ref.injEq, V.ty.injEq, List.cons.injEq, Option.some.injEq, and_true, exists_eq_left', sp__law_sign_by]
      exact fun c hc => hR _ _ ⟨rfl, c, hc, rfl⟩
    rintro _ _ ⟨rfl, c, hc, rfl⟩
    refine seq_mid (fun σ' H' => H = H' ∧ ∃ c : Nat, c < 128 ∧ σ' = [some (V.str z), some (V.int a), some (V.int b), some (V.int k), some (V.str ⟨#[c]⟩)]) (fun R hR => ?_) ?_
    · simp only [tNext, tIfS, tTest, tOp, tC, cVar, tAsg, gName, cFdiv, cMod, cEq, eqv, CDiv, Int.reduceLT, Nat.reduceLT, List.getElem?_cons_zero, List.getElem?_cons_succ, List.set_cons_zero, List.set_cons_succ, V.int.injEq, V.bl.injEq, V.str.injEq, V.ref.injEq, V.ty.injEq, List.cons.injEq, Option.some.injEq, and_true, true_and, exists_eq_left', decide_eq_true_eq, sz3, ln_3, cIxT]
      by_cases y : b / 96 % 3 = 1
      · rw [if_pos y]
        have h3 : ∀ i : Nat, i < 3 → ∃ c, c < 128 ∧ atI (Str.ofString " -0").cps.toList (i : Int) = some c := fun i hi => by
          rcases (show i = 0 ∨ i = 1 ∨ i = 2 by omega) with rfl | rfl | rfl
          · exact ⟨32, by decide, by decide +kernel⟩
          · exact ⟨45, by decide, by decide +kernel⟩
          · exact ⟨48, by decide, by decide +kernel⟩
        obtain ⟨d, hd, ed⟩ := h3 (b / 288 % 3).toNat (by omega)
        rw [Int.toNat_of_nonneg (by omega)] at ed
        rw [ed]
        exact hR _ _ ⟨rfl, d, hd, rfl⟩
      · rw [if_neg y]
        exact hR _ _ ⟨rfl, c, hc, rfl⟩
    clear hc c
    rintro _ _ ⟨rfl, c, hc, rfl⟩
    have t1 : StrLaws.sliceText z none (some (k : Int)) = mkS (z.cps.toList.take k) := sl_to
    have t2 : StrLaws.sliceText z (some (k : Int)) none = mkS (z.cps.toList.drop k) := sl_from
    have t3 : StrLaws.sliceText z (some ((k : Int) + 1)) none = mkS (z.cps.toList.drop (k + 1)) := sl_from (i := k + 1)
    refine seq_mid (fun σ' H' => H = H' ∧ σ' = [some (V.str z), some (V.int a), some (V.int b), some (V.int k), some (V.str ⟨#[c]⟩)]) (fun R hR => ?_) ?_
    · simp only [tRet, tNext, tIfS, tTest, tOp, tC, cVar, cAdd, cMod, cEq, eqv, Int.reduceLT, Nat.reduceLT, cPart, tNoPart, tSl, List.getElem?_cons_zero, List.getElem?_cons_succ, V.int.injEq, V.bl.injEq, V.str.injEq, V.ref.injEq, V.ty.injEq, List.cons.injEq, Option.some.injEq, true_and, exists_eq_left', decide_eq_true_eq, cSlT, t1, t2]
      by_cases y : a % 4 = 0
      · rw [if_pos y]
        have h1 := lt' k; have h2 := ld' k; have h3 := l1 c
        exact ⟨big (by omega), big (by omega), big (by omega), big (by rw [str_len]; omega), q _ _ (((tk k).app (one c hc)).app (dk k)) (by rw [str_len, str_len]; omega) (Same.refl _)⟩
      · rw [if_neg y]
        exact hR _ _ ⟨rfl, rfl⟩
    rintro _ _ ⟨rfl, rfl⟩
    refine seq_mid (fun σ' H' => H = H' ∧ σ' = [some (V.str z), some (V.int a), some (V.int b), some (V.int k), some (V.str ⟨#[c]⟩)]) (fun R hR => ?_) ?_
    · simp only [tRet, tNext, tIfS, tTest, tOp, tC, cVar, cAdd, cMod, cEq, eqv, Int.reduceLT, Nat.reduceLT, cPart, tNoPart, tSl, List.getElem?_cons_zero, List.getElem?_cons_succ, V.int.injEq, V.bl.injEq, V.str.injEq, V.ref.injEq, V.ty.injEq, List.cons.injEq, Option.some.injEq, true_and, exists_eq_left', decide_eq_true_eq, cSlT, t1, t3]
      by_cases y : a % 4 = 1
      · rw [if_pos y]
        have h1 := lt' k; have h2 := ld' (k + 1)
        exact ⟨big (by omega), big (by omega), big (by omega), q _ _ ((tk k).app (dk (k + 1))) (by rw [str_len]; omega) (Same.refl _)⟩
      · rw [if_neg y]
        exact hR _ _ ⟨rfl, rfl⟩
    rintro _ _ ⟨rfl, rfl⟩
    refine seq_mid (fun σ' H' => H = H' ∧ σ' = [some (V.str z), some (V.int a), some (V.int b), some (V.int k), some (V.str ⟨#[c]⟩)]) (fun R hR => ?_) ?_
    · simp only [tRet, tNext, tIfS, tTest, tOp, tC, cVar, cAdd, cMod, cEq, eqv, Int.reduceLT, Nat.reduceLT, cPart, tNoPart, tSl, List.getElem?_cons_zero, List.getElem?_cons_succ, V.int.injEq, V.bl.injEq, V.str.injEq, V.ref.injEq, V.ty.injEq, List.cons.injEq, Option.some.injEq, true_and, exists_eq_left', decide_eq_true_eq, cSlT, t1, t3]
      by_cases y : a % 4 = 2
      · rw [if_pos y]
        have h1 := lt' k; have h2 := ld' (k + 1); have h3 := l1 c
        exact ⟨big (by omega), big (by omega), big (by omega), big (by rw [str_len]; omega), q _ _ (((tk k).app (one c hc)).app (dk (k + 1))) (by rw [str_len, str_len]; omega) (Same.refl _)⟩
      · rw [if_neg y]
        exact hR _ _ ⟨rfl, rfl⟩
    rintro _ _ ⟨rfl, rfl⟩
    refine seq_mid (fun σ' H' => H = H' ∧ σ' = [some (V.str z), some (V.int a), some (V.int b), some (V.int k), some (V.str ⟨#[c]⟩)]) (fun R hR => ?_) ?_
    · simp only [tRet, tNext, tIfS, tTest, tOp, tC, cVar, tLst, cFdiv, cMod, cEq, eqv, rIxM, CDiv, Int.reduceLT, Nat.reduceLT, Int.reduceAdd, upd_same, List.length_cons, List.length_nil, List.getElem?_cons_zero, List.getElem?_cons_succ, V.int.injEq, V.bl.injEq, V.str.injEq, V.ref.injEq, V.ty.injEq, List.cons.injEq, Option.some.injEq, and_true, true_and, exists_eq_left', decide_eq_true_eq, Nat.reduceAdd, sz6, tCst]
      by_cases y : b % 3 = 0
      · rw [if_pos y]
        intro p hp
        have h6 : ∀ i : Nat, i < 6 → ∃ y, asc y ∧ y.length ≤ 310 ∧ atI [V.str (Str.ofString "drop -0"), V.str (Str.ofString "find 0 -0"), V.str (Str.ofString "keep 1 00"), V.str (Str.ofString "keep 1 -01"), V.str (Str.ofString "drop -"), V.str (Str.ofString "drop --1")] (i : Int) = some (V.str y) := fun i hi => by
          rcases (show i = 0 ∨ i = 1 ∨ i = 2 ∨ i = 3 ∨ i = 4 ∨ i = 5 by omega) with rfl | rfl | rfl | rfl | rfl | rfl
          · exact ⟨Str.ofString "drop -0", by unfold asc; decide +kernel, by decide +kernel, rfl⟩
          · exact ⟨Str.ofString "find 0 -0", by unfold asc; decide +kernel, by decide +kernel, rfl⟩
          · exact ⟨Str.ofString "keep 1 00", by unfold asc; decide +kernel, by decide +kernel, rfl⟩
          · exact ⟨Str.ofString "keep 1 -01", by unfold asc; decide +kernel, by decide +kernel, rfl⟩
          · exact ⟨Str.ofString "drop -", by unfold asc; decide +kernel, by decide +kernel, rfl⟩
          · exact ⟨Str.ofString "drop --1", by unfold asc; decide +kernel, by decide +kernel, rfl⟩
        obtain ⟨u, au, lu, eu⟩ := h6 (b / 3 % 6).toNat (by omega)
        rw [Int.toNat_of_nonneg (by omega)] at eu
        rw [eu]
        refine q u _ au lu fun b' o eb => ?_
        have nb := ne_of_none eb hp
        rw [rm_ne nb, upd_ne nb]; exact eb
      · rw [if_neg y]
        exact hR _ _ ⟨rfl, rfl⟩
    rintro _ _ ⟨rfl, rfl⟩
    simp only [tRet, tOp, tC, cVar, cAdd, cFdiv, cMod, CDiv, Int.reduceLT, Nat.reduceLT, Int.reduceLE, Nat.reduceLeDiff, List.getElem?_cons_zero, List.getElem?_cons_succ, and_true, true_and, ln_4, ln_7, ln_8, ln_16, cMulT]
    rcases (show b % 2 = 0 ∨ b % 2 = 1 by omega) with h1 | h1 <;> rcases (show b / 2 % 2 = 0 ∨ b / 2 % 2 = 1 by omega) with h2 | h2 <;> rw [h1, h2] <;>
      exact ⟨by decide, by decide, big (by decide +kernel), big (by decide +kernel), by decide, by decide, big (by decide +kernel), q _ _ (by unfold asc; decide +kernel) (by decide +kernel) (Same.refl _)⟩
def NS (H : Hp) (v : V) : Prop := v = .non ∨ (∃ i, v = .int i) ∨ (∃ b, v = .bl b) ∨ (∃ a xs, v = .ref a ∧ H a = some (.lst xs)) ∨ (∃ a xs, v = .ref a ∧ H a = some (.tup xs))
def sp_deed_of (A : Ad) : Sp := fun vs H Q E => ∃ v, vs = [v] ∧ ((∃ z, v = .str z ∧ asc z ∧ z.length ≤ 690 ∧ (match dd z with
  | some (x, ns) => ∀ l H', Same H H' → H l = none → H' l = some (.tup (.str x :: ns.map V.int)) → Q (.ref l) H'
  | none => ∀ H', Same H H' → E (.ref A.c_NoDeed) none H')) ∨ (NS H v ∧ E (.ref A.c_NoDeed) none H))
theorem sc_deed_of : FnScope ["line", "parts", "word", "numbers"] ["line"] (defScope s_deed_of) := ⟨rfl, rfl, rfl, by decide +kernel, rfl, by decide +kernel, by decide +kernel⟩
theorem ok_deed_of (T : Txt w K mg A) : FnOk P w K mg base (CXE P w) true 3 A.f_deed_of A.d_deed_of ["line"] (sp_deed_of A) := by
  refine T.fn_deed_of.okE sc_deed_of (fun vs H Q E h => ?_) (fun cdv A' outer s H vs Q E hr hx h => ?_)
  · obtain ⟨v, rfl, h⟩ := h
    rfl
  · obtain ⟨v, rfl, h⟩ := h
    refine ex_run (B := fun t => t _ _ _) (j_pss_cons (j_ps_if (j_pt_not (j_pt_truth (j_pe_callBF j_call_isi (by rfl) T.n_isinstance PyProof.Rows.Boot.«isinstance» (j_pa_c (j_cv 0) (j_pa_c (j_pe_ty T.n_str PyProof.Rows.Boot.«str») j_pa_nil))) (fun _ => rfl))) (j_pss_one (j_ps_raiseF hx rfl T.g_NoDeed T.x_NoDeed rfl (j_pa_c j_pe_str j_pa_nil))) j_pss_nil)
      (j_pss_cons (j_ps_set (i := 1) sc_deed_of.nd rfl (by first | exact Or.inl rfl | exact Or.inr rfl) (j_c_bmS PySem.F.slot_str_split PySem.F.type_str_split j_c_split (j_cv 0) (j_pa_c j_pe_str j_pa_nil)))
      (j_pss_cons (j_ps_set (i := 2) sc_deed_of.nd rfl (by first | exact Or.inl rfl | exact Or.inr rfl) (j_pe_ix j_c_ix (j_cv 1) j_pe_int (fun _ _ => rfl)))
      (j_pss_cons (j_ps_if (j_PW_pt (j_pw_or (j_pt_cmpR j_c_notInK (j_cv 2) (j_pe_gv T.v_NUMBERS_BEHIND) (by with_unfolding_all rfl)) (j_pw_or1 (j_pt_cmpR j_c_ne (j_pe_op j_c_sub (j_pe_callBF j_c_len (by rfl) T.n_len PyProof.Rows.Boot.«len» (j_pa_c (j_cv 1) j_pa_nil)) j_pe_int) (j_c_kget (j_pe_gv T.v_NUMBERS_BEHIND) (j_cv 2) (fun _ _ => rfl)) (nomark _))))) (j_pss_one (j_ps_raiseF hx rfl T.g_NoDeed T.x_NoDeed rfl (j_pa_c j_pe_str j_pa_nil))) j_pss_nil)
      (j_pss_cons (j_ps_set (i := 3) sc_deed_of.nd rfl (by first | exact Or.inl rfl | exact Or.inr rfl) (j_pe_callF ((ok_numbers_of T).mono (by decide)) hr rfl T.g_numbers_of T.fn_numbers_of.kp T.b_numbers_of hx (j_pa_c (j_pe_slice j_c_sl (j_cv 1) (j_c_part j_pe_int) j_po_none) j_pa_nil)))
      (j_pss_cons (j_ps_if (j_pt_cmpR j_c_is (j_cv 3) j_pe_non (nomark _)) (j_pss_one (j_ps_raiseF hx rfl T.g_NoDeed T.x_NoDeed rfl (j_pa_c j_pe_str j_pa_nil))) j_pss_nil)
      (j_pss_one (j_ps_ret (j_pe_callTyF j_c_tupleOf (by rfl) T.n_tuple PyProof.Rows.Boot.«tuple» (j_pa_c (j_pe_op j_c_cat (j_pe_lst (j_pa_c (j_cv 2) j_pa_nil)) (j_cv 3)) j_pa_nil)))))))))) ?_
    show tSeq _ _ _ [some v, none, none, none] H
    refine seq_mid (fun σ' H' => H = H' ∧ (∃ z, v = .str z ∧ asc z ∧ z.length ≤ 690 ∧ (match dd z with | some (x, ns) => ∀ l H', Same H H' → H l = none → H' l = some (.tup (.str x :: ns.map V.int)) → Q (.ref l) H' | none => ∀ H', Same H H' → E (.ref A.c_NoDeed) none H')) ∧ σ' = [some v, none, none, none]) (fun R hR => ?_) ?_
    · rcases h with ⟨z, rfl, h⟩ | ⟨hs, h⟩
      · simp only [tNext, tIfS, tNot, tCB, tCons, tNil, tC, cVar, tRaise, rIsi, kitV, cxOf_K, TruV, Int.reduceAdd, Bool.not_eq_true', Bool.true_eq_false, List.length_cons, List.length_nil, List.getElem?_cons_zero, true_and, exists_eq_left, ite_false, Nat.reduceAdd, sz1, tyo, OkTy, T.kt_str_str]
        exact hR _ _ ⟨rfl, ⟨z, rfl, h⟩, rfl⟩
      · rcases hs with rfl | ⟨i, rfl⟩ | ⟨b, rfl⟩ | ⟨a, xs, rfl, ea⟩ | ⟨a, xs, rfl, ea⟩
        · simp only [tNext, tIfS, tNot, tCB, tCons, tNil, tC, cVar, tRaise, rIsi, kitV, cxOf_K, TruV, Int.reduceAdd, Bool.not_eq_true', List.length_cons, List.length_nil, List.getElem?_cons_zero, true_and, exists_eq_left, ite_true, Nat.reduceAdd, sz1, tyo, OkTy, T.kt_NoneType_str]
          exact h
        · simp only [tNext, tIfS, tNot, tCB, tCons, tNil, tC, cVar, tRaise, rIsi, kitV, cxOf_K, TruV, Int.reduceAdd, Bool.not_eq_true', List.length_cons, List.length_nil, List.getElem?_cons_zero, true_and, exists_eq_left, ite_true, Nat.reduceAdd, sz1, tyo, OkTy, T.kt_int_str]
          exact h
        · simp only [tNext, tIfS, tNot, tCB, tCons, tNil, tC, cVar, tRaise, rIsi, kitV, cxOf_K, TruV, Int.reduceAdd, Bool.not_eq_true', List.length_cons, List.length_nil, List.getElem?_cons_zero, true_and, exists_eq_left, ite_true, Nat.reduceAdd, sz1, tyo, OkTy, T.kt_bool_str]
          exact h
        · simp only [tNext, tIfS, tNot, tCB, tCons, tNil, tC, cVar, tRaise, rIsi, kitV, cxOf_K, TruV, Int.reduceAdd, Bool.not_eq_true', List.length_cons, List.length_nil, List.getElem?_cons_zero, true_and, exists_eq_left, ite_true, Nat.reduceAdd, sz1, tyo, OkTy, T.kt_list_str, ea]
          exact h
        · simp only [tNext, tIfS, tNot, tCB, tCons, tNil, tC, cVar, tRaise, rIsi, kitV, cxOf_K, TruV, Int.reduceAdd, Bool.not_eq_true', List.length_cons, List.length_nil, List.getElem?_cons_zero, true_and, exists_eq_left, ite_true, Nat.reduceAdd, sz1, tyo, OkTy, T.kt_tuple_str, ea]
          exact h
    rintro _ _ ⟨rfl, ⟨z, rfl, az, lz, q⟩, rfl⟩
    refine seq_mid (fun σ' H' => ∃ lp, Same H H' ∧ H' lp = some (.lst ((prts z).map V.str)) ∧ σ' = [some (V.str z), some (V.ref lp), none, none]) (fun R hR => ?_) ?_
    · simp only [tCons, tNil, tC, cVar, tAsg, gName, Nat.reduceLeDiff, List.getElem?_cons_zero, List.set_cons_zero, List.set_cons_succ, true_and, ln_1, cBMS, cSplit]
      exact ⟨by omega, fun l hl => hR _ _ ⟨l, Same.upd hl, by rw [upd_same, show Txt.split z (Str.ofString " ") = prts z from split_is], rfl⟩⟩
    rintro _ H1 ⟨lp, s1, ep, rfl⟩
    have hps := prts_asc az
    have hpl := prts_len (z := z)
    unfold dd at q
    cases hp : prts z with
    | nil => exact absurd hp prts_ne
    | cons x r =>
      rw [hp] at q hps hpl ep
      dsimp only at q
      refine seq_mid (fun σ' H' => H1 = H' ∧ σ' = [some (V.str z), some (V.ref lp), some (V.str x), none]) (fun R hR => ?_) ?_
      · simp only [tOp, tC, cVar, tAsg, gName, cIx, atI_0, List.map_cons, List.getElem?_cons_zero, List.getElem?_cons_succ, List.set_cons_zero, List.set_cons_succ, ep]
        exact hR _ _ ⟨rfl, rfl⟩
      rintro _ _ ⟨rfl, rfl⟩
      refine seq_mid (fun σ' H' => H1 = H' ∧ x ∈ ws ∧ (r.length : Int) = many x ∧ σ' = [some (V.str z), some (V.ref lp), some (V.str x), none]) (fun R hR => ?_) ?_
      · have no : ¬ (x ∈ ws ∧ (r.length : Int) = many x) → E (.ref A.c_NoDeed) none H1 := fun h => by
          rw [if_neg (fun w => h ⟨w.1, w.2.1⟩)] at q
          exact q _ s1
        simp only [tNext, tIfS, tTest, tOp, tOr, tCB, tCons, tNil, tC, cVar, tRaise, cSub, cNe, eqv, cLen, cxOf_K, Int.reduceAdd, Bool.not_eq_true', decide_eq_false_iff_not, List.map_cons, List.length_cons, List.length_nil, List.getElem?_cons_zero, List.getElem?_cons_succ, V.int.injEq, V.bl.injEq, V.str.injEq, V.ref.injEq, V.ty.injEq, List.cons.injEq, Option.some.injEq, true_and, exists_eq_left', ite_true, Nat.reduceAdd, sz1, cNotInK, cKGet, cxOf_w, ep]
        refine ⟨Dt, T.tb_NUMBERS_BEHIND, ?_⟩
        by_cases hx : x ∈ ws
        · rw [(tab_in hx).1, if_neg (fun n => by cases n)]
          refine ⟨Dt, T.tb_NUMBERS_BEHIND, (tab_in hx).1, ?_⟩
          rw [(tab_in hx).2, List.length_map]
          by_cases hr : (r.length : Int) = many x
          · rw [if_neg (by omega)]
            exact hR _ _ ⟨rfl, hx, hr, rfl⟩
          · rw [if_pos (by omega)]
            exact no fun h => hr h.2
        · rw [tab_out hx, if_pos rfl]
          exact no fun h => hx h.1
      rintro _ _ ⟨rfl, hx, hr, rfl⟩
      have hr3 : r.length ≤ 3 := by have := many_le x; omega
      refine seq_mid (fun σ' H' => ∃ v3, Same H1 H' ∧ ((r.all wr = true ∧ ∃ ln, v3 = V.ref ln ∧ H' ln = some (.lst ((r.map vl).map V.int))) ∨ (r.all wr = false ∧ v3 = V.non)) ∧ σ' = [some (V.str z), some (V.ref lp), some (V.str x), some v3]) (fun R hR => ?_) ?_
      · simp only [tCons, tNil, tC, cVar, tAsg, gName, tCallE, upd_same, cSl, cPart, tNoPart, tSl, List.map_cons, List.getElem?_cons_zero, List.getElem?_cons_succ, List.set_cons_zero, List.set_cons_succ, V.int.injEq, V.bl.injEq, V.str.injEq, V.ref.injEq, V.ty.injEq, List.cons.injEq, Option.some.injEq, and_true, exists_eq_left', exists_and_left, ep, sp_numbers_of]
        intro p hp
        rw [cut1]
        have a1 := Same.upd (o := .lst (r.map V.str)) hp
        refine ⟨r, rfl, fun t ht => ?_, by omega, ?_⟩
        · have := hps t (List.mem_cons_of_mem _ ht)
          exact ⟨this.1, by omega⟩
        · cases hw : r.all wr with
          | true =>
            rw [if_pos rfl]
            exact fun l H' s' _ el => hR _ _ ⟨_, a1.trans s', .inl ⟨hw, l, rfl, el⟩, rfl⟩
          | false =>
            rw [if_neg (fun n => by cases n)]
            exact fun H' s' => hR _ _ ⟨_, a1.trans s', .inr ⟨hw, rfl⟩, rfl⟩
      rintro _ H2 ⟨v3, s2, hv, rfl⟩
      rcases hv with ⟨hw, ln, rfl, eln⟩ | ⟨hw, rfl⟩
      · rw [if_pos ⟨hx, hr, hw⟩] at q
        dsimp only at q
        simp only [tRet, tNext, tSeq, tIfS, tTest, tOp, tCB, tCons, tNil, tC, cVar, tLst, tRaise, cIs, isNon, Int.reduceAdd, upd_same, cCat, List.length_cons, List.length_nil, List.getElem?_cons_zero, List.getElem?_cons_succ, V.int.injEq, V.bl.injEq, V.str.injEq, V.ref.injEq, V.ty.injEq, List.cons.injEq, Option.some.injEq, true_and, exists_eq_left', ite_false, Bool.false_eq_true, Nat.reduceAdd, sz1, cTupleOf]
        intro p hp
        have a1 := Same.upd (o := .lst [V.str x]) hp
        rw [a1 _ _ eln]
        dsimp only
        refine ⟨Nat.le_trans (show _ ≤ 10 by rw [List.length_map, List.length_map]; simp only [List.length_cons, List.length_nil]; omega) (by decide), fun p1 hp1 p2 hp2 => ?_⟩
        have a2 := Same.upd (o := .lst ([V.str x] ++ (r.map vl).map V.int)) hp1
        have a3 := Same.upd (o := .tup ([V.str x] ++ (r.map vl).map V.int)) hp2
        have sA := s1.trans (s2.trans (a1.trans (a2.trans a3)))
        exact q p2 _ sA (same_none (s1.trans (s2.trans (a1.trans a2))) hp2) upd_same
      · rw [if_neg (fun w => by rw [hw] at w; cases w.2.2)] at q
        simp only [tRet, tNext, tSeq, tIfS, tTest, tOp, tCB, tCons, tNil, tC, cVar, tLst, tRaise, cIs, isNon, Int.reduceAdd, cCat, List.length_cons, List.length_nil, List.getElem?_cons_zero, List.getElem?_cons_succ, V.int.injEq, V.bl.injEq, V.str.injEq, V.ref.injEq, V.ty.injEq, List.cons.injEq, Option.some.injEq, true_and, exists_eq_left', ite_true, Nat.reduceAdd, sz1]
        exact q _ (s1.trans s2)
theorem jh_ist {X : Cx} {a : Addr} : JCall (X.hnd a) (.builtin "isinstance") (rIsT X.K) := j_call_ist
theorem exc_end {H H' : Hp} {a : Addr} {c : Value} {x : V} {Q : VK} (ha : H a = none) (s1 : Same (upd H a (.exc c)) H') (q : ∀ H', Same H H' → Q x H') : H' a = some (.exc c) ∧ Q x (rm H' a) := by
  refine ⟨s1 a _ upd_same, q _ fun b o eb => ?_⟩
  rw [rm_ne (ne_of_none eb ha)]
  exact ((Same.upd ha).trans s1) b o eb
def sp__law_read : Sp := fun vs H Q _ => ∃ v, vs = [v] ∧ ((∃ z, v = .str z ∧ asc z ∧ z.length ≤ 690 ∧ (match dd z with
  | some (x, ns) => ∀ l H', Same H H' → H l = none → H' l = some (.tup (.str x :: ns.map V.int)) → Q (.ref l) H'
  | none => ∀ H', Same H H' → Q (.bl true) H')) ∨ (NS H v ∧ ∀ H', Same H H' → Q (.bl true) H'))
theorem sc__law_read : FnScope ["_law_line", "e"] ["_law_line"] (defScope s__law_read) := ⟨rfl, rfl, rfl, by decide +kernel, rfl, by decide +kernel, by decide +kernel⟩
theorem ok__law_read (T : Txt w K mg A) : FnOk P w K mg base (CXE P w) true 4 A.f__law_read A.d__law_read ["_law_line"] sp__law_read := by
  refine T.fn__law_read.okE sc__law_read (fun vs H Q E h => ?_) (fun cdv A' outer s H vs Q E hr hx h => ?_)
  · obtain ⟨v, rfl, h⟩ := h
    rfl
  · obtain ⟨v, rfl, h⟩ := h
    refine ex_run (B := fun t => t _ _ _) (j_pss_one (j_ps_try rfl rfl (fun E1 W1 pins1 hx1 => (j_pss_one (j_ps_ret (j_pe_callF ((ok_deed_of T).mono (by decide)) hr rfl T.g_deed_of T.fn_deed_of.kp T.b_deed_of hx1 (j_pa_c (j_cv 0) j_pa_nil))))) (j_ph_as rfl rfl T.g_KeepError sc__law_read.nd (i := 1) rfl rfl (fun a => (j_pss_cons (j_ps_if (jh_truth (j_pe_callBF jh_ist (by rfl) T.n_isinstance PyProof.Rows.Boot.«isinstance» (j_pa_c (j_cv 1) (j_pa_c (j_pe_tup (j_pa_c (j_pe_gv T.v_BadCount) (j_pa_c (j_pe_gv T.v_BadNumber) (j_pa_c (j_pe_gv T.v_BadWord) (j_pa_c (j_pe_gv T.v_NoCell) (j_pa_c (j_pe_gv T.v_NoHand) (j_pa_c (j_pe_gv T.v_NoImage) (j_pa_c (j_pe_gv T.v_NoName) (j_pa_c (j_pe_gv T.v_NoPlace) j_pa_nil))))))))) j_pa_nil))) (fun _ => rfl)) (j_pss_one (j_ps_ret j_pe_bl)) j_pss_nil)
      (j_pss_cons (j_ps_if (jh_truth (j_pe_callBF jh_ist (by rfl) T.n_isinstance PyProof.Rows.Boot.«isinstance» (j_pa_c (j_cv 1) (j_pa_c (j_pe_tup (j_pa_c (j_pe_gv T.v_NoProgram) (j_pa_c (j_pe_gv T.v_NoRoom) (j_pa_c (j_pe_gv T.v_NoSlot) (j_pa_c (j_pe_gv T.v_NothingHeld) j_pa_nil))))) j_pa_nil))) (fun _ => rfl)) (j_pss_one (j_ps_ret j_pe_bl)) j_pss_nil)
      (j_pss_one (j_ps_ret (j_pe_and (j_pe_callBF jh_isi (by rfl) T.n_isinstance PyProof.Rows.Boot.«isinstance» (j_pa_c (j_cv 1) (j_pa_c (j_pe_gv T.v_NoDeed) j_pa_nil))) (j_pe_one (j_pe_callBF jh_isi (by rfl) T.n_isinstance PyProof.Rows.Boot.«isinstance» (j_pa_c (j_cv 1) (j_pa_c (j_pe_ty T.n_ValueError PyProof.Rows.Boot.«ValueError») j_pa_nil)))))))))) j_ph_nil))) ?_
    simp only [tRet, tCB, tCons, tNil, tC, cVar, tTup, tCallE, tTry, cxOf_K, TruV, Int.reduceAdd, Int.reduceSub, rIsT, L2.start, List.map_cons, List.map_nil, List.length_cons, List.length_nil, List.replicate, List.cons_append, List.nil_append, List.getElem?_cons_zero, V.int.injEq, V.bl.injEq, V.str.injEq, V.ref.injEq, V.ty.injEq, List.cons.injEq, Option.some.injEq, and_true, true_and, exists_eq_left', exists_eq_left, Nat.reduceSub, Nat.reduceAdd, sz4, sz8, sp_deed_of]
    rcases h with ⟨z, rfl, az, lz, q⟩ | ⟨hs, q⟩
    · refine .inl ⟨z, rfl, az, lz, ?_⟩
      cases hd : dd z with
      | some xn =>
        rw [hd] at q
        exact q
      | none =>
        rw [hd] at q
        dsimp only at q ⊢
        intro H1 s1
        simp only [tRet, tNext, tSeq, tIfS, tAndV, tCB, tCons, tNil, tC, cVar, rIsi, kitV, upd_same, List.getElem?_cons_zero, List.getElem?_cons_succ, List.set_cons_zero, List.set_cons_succ, V.int.injEq, V.bl.injEq, V.str.injEq, V.ref.injEq, V.ty.injEq, List.cons.injEq, Option.some.injEq, exists_eq_left', hAs, T.em_NoDeed_KeepError]
        intro a ha p hp
        have ki : ∃ C, Value.ref A.c_NoDeed = Value.ref C ∧ KiE K C := ⟨_, rfl, T.ki_NoDeed⟩
        have a1 := Same.upd (o := (HO.tup [V.ref A.c_BadCount, V.ref A.c_BadNumber, V.ref A.c_BadWord, V.ref A.c_NoCell, V.ref A.c_NoHand, V.ref A.c_NoImage, V.ref A.c_NoName, V.ref A.c_NoPlace])) hp
        have e1 := a1 a _ upd_same
        generalize upd (upd H1 a (HO.exc (Value.ref A.c_NoDeed))) p (HO.tup [V.ref A.c_BadCount, V.ref A.c_BadNumber, V.ref A.c_BadWord, V.ref A.c_NoCell, V.ref A.c_NoHand, V.ref A.c_NoImage, V.ref A.c_NoName, V.ref A.c_NoPlace]) = G at *
        rw [e1]
        dsimp only
        refine ⟨T.ki_NoDeed, ?_⟩
        simp only [kitV, kitVs, true_and, ite_false, Bool.false_eq_true, T.k2_NoDeed_BadCount, T.k2_NoDeed_BadNumber, T.k2_NoDeed_BadWord, T.k2_NoDeed_NoCell, T.k2_NoDeed_NoHand, T.k2_NoDeed_NoImage, T.k2_NoDeed_NoName, T.k2_NoDeed_NoPlace]
        intro p1 hp1
        have a2 := Same.upd (o := (HO.tup [V.ref A.c_NoProgram, V.ref A.c_NoRoom, V.ref A.c_NoSlot, V.ref A.c_NothingHeld])) hp1
        have e2 := a2 _ _ e1
        generalize upd G p1 (HO.tup [V.ref A.c_NoProgram, V.ref A.c_NoRoom, V.ref A.c_NoSlot, V.ref A.c_NothingHeld]) = G2 at *
        rw [e2]
        dsimp only
        refine ⟨T.ki_NoDeed, ?_⟩
        simp only [kitV, kitVs, true_and, ite_true, ite_false, Bool.false_eq_true, T.k2_NoDeed_NoProgram, T.k2_NoDeed_NoRoom, T.k2_NoDeed_NoSlot, T.k2_NoDeed_NothingHeld, T.k2_NoDeed_NoDeed, T.k2_NoDeed_ValueError, tyo, OkTy, e2, ki]
        exact (exc_end ha (a1.trans a2) fun H' s' => q _ (s1.trans s')).2
    · refine .inr ⟨hs, ?_⟩
      obtain ⟨H1, eH⟩ : ∃ H1, H1 = H := ⟨_, rfl⟩
      have s1 : Same H H1 := by rw [eH]; exact Same.refl _
      rw [← eH]
      simp only [tRet, tNext, tSeq, tIfS, tAndV, tCB, tCons, tNil, tC, cVar, rIsi, kitV, upd_same, List.getElem?_cons_zero, List.getElem?_cons_succ, List.set_cons_zero, List.set_cons_succ, V.int.injEq, V.bl.injEq, V.str.injEq, V.ref.injEq, V.ty.injEq, List.cons.injEq, Option.some.injEq, exists_eq_left', hAs, T.em_NoDeed_KeepError]
      intro a ha p hp
      have ki : ∃ C, Value.ref A.c_NoDeed = Value.ref C ∧ KiE K C := ⟨_, rfl, T.ki_NoDeed⟩
      have a1 := Same.upd (o := (HO.tup [V.ref A.c_BadCount, V.ref A.c_BadNumber, V.ref A.c_BadWord, V.ref A.c_NoCell, V.ref A.c_NoHand, V.ref A.c_NoImage, V.ref A.c_NoName, V.ref A.c_NoPlace])) hp
      have e1 := a1 a _ upd_same
      generalize upd (upd H1 a (HO.exc (Value.ref A.c_NoDeed))) p (HO.tup [V.ref A.c_BadCount, V.ref A.c_BadNumber, V.ref A.c_BadWord, V.ref A.c_NoCell, V.ref A.c_NoHand, V.ref A.c_NoImage, V.ref A.c_NoName, V.ref A.c_NoPlace]) = G at *
      rw [e1]
      dsimp only
      refine ⟨T.ki_NoDeed, ?_⟩
      simp only [kitV, kitVs, true_and, ite_false, Bool.false_eq_true, T.k2_NoDeed_BadCount, T.k2_NoDeed_BadNumber, T.k2_NoDeed_BadWord, T.k2_NoDeed_NoCell, T.k2_NoDeed_NoHand, T.k2_NoDeed_NoImage, T.k2_NoDeed_NoName, T.k2_NoDeed_NoPlace]
      intro p1 hp1
      have a2 := Same.upd (o := (HO.tup [V.ref A.c_NoProgram, V.ref A.c_NoRoom, V.ref A.c_NoSlot, V.ref A.c_NothingHeld])) hp1
      have e2 := a2 _ _ e1
      generalize upd G p1 (HO.tup [V.ref A.c_NoProgram, V.ref A.c_NoRoom, V.ref A.c_NoSlot, V.ref A.c_NothingHeld]) = G2 at *
      rw [e2]
      dsimp only
      refine ⟨T.ki_NoDeed, ?_⟩
      simp only [kitV, kitVs, true_and, ite_true, ite_false, Bool.false_eq_true, T.k2_NoDeed_NoProgram, T.k2_NoDeed_NoRoom, T.k2_NoDeed_NoSlot, T.k2_NoDeed_NothingHeld, T.k2_NoDeed_NoDeed, T.k2_NoDeed_ValueError, tyo, OkTy, e2, ki]
      exact (exc_end ha (a1.trans a2) fun H' s' => q _ (s1.trans s')).2
theorem deq_deed {H : Hp} {x : Str} {ns : List Int} : allO (List.zipWith (deq H 2) (V.str x :: ns.map V.int) (V.str x :: ns.map V.int)) = some true := by
  have hi : ∀ l : List Int, allO (List.zipWith (deq H 2) (l.map V.int) (l.map V.int)) = some true := fun l => by
    induction l with
    | nil => rfl
    | cons n l ih =>
      rw [List.map_cons, List.zipWith_cons_cons, show deq H 2 (V.int n) (V.int n) = some true by simp [deq, flatV, eqV]]
      show (allO _).map _ = _
      rw [ih]; rfl
  rw [List.zipWith_cons_cons, show deq H 2 (V.str x) (V.str x) = some true by simp [deq, flatV, eqV]]
  show (allO _).map _ = _
  rw [hi]; rfl
def sp__law_right : Sp := fun vs H Q _ => ∃ v u, vs = [v, u] ∧ ((u = .non ∧ ((∃ z, v = .str z ∧ asc z ∧ z.length ≤ 690 ∧ dd z = none) ∨ NS H v)) ∨ (∃ z l x, ∃ ns : List Int, v = .str z ∧ asc z ∧ z.length ≤ 690 ∧ dd z = some (x, ns) ∧ u = .ref l ∧ H l = some (.tup (.str x :: ns.map V.int)) ∧ ns.length ≤ 3)) ∧ ∀ H', Same H H' → Q (.bl true) H'
theorem sc__law_right : FnScope ["_law_line", "_law_due", "_law_found"] ["_law_line", "_law_due"] (defScope s__law_right) := ⟨rfl, rfl, rfl, by decide +kernel, rfl, by decide +kernel, by decide +kernel⟩
theorem ok__law_right (T : Txt w K mg A) : FnOk P w K mg base (CXE P w) true 5 A.f__law_right A.d__law_right ["_law_line", "_law_due"] sp__law_right := by
  refine T.fn__law_right.okE sc__law_right (fun vs H Q E h => ?_) (fun cdv A' outer s H vs Q E hr hx h => ?_)
  · obtain ⟨v, u, rfl, h, q⟩ := h
    rfl
  · obtain ⟨v, u, rfl, h, q⟩ := h
    refine ex_run (B := fun t => t _ _ _) (j_pss_cons (j_ps_set (i := 2) sc__law_right.nd rfl (by first | exact Or.inl rfl | exact Or.inr rfl) (j_pe_callF ((ok__law_read T).mono (by decide)) hr rfl T.g__law_read T.fn__law_read.kp T.b__law_read hx (j_pa_c (j_cv 0) j_pa_nil)))
      (j_pss_cons (j_ps_if (j_pt_cmpR j_c_is (j_cv 1) j_pe_non (nomark _)) (j_pss_one (j_ps_ret (j_pe_cmpR j_c_isA (j_cv 2) j_pe_bl (nomark _)))) j_pss_nil)
      (j_pss_cons (j_ps_if (j_PW_pt (j_pw_or (j_pt_not (j_pt_truth (j_pe_callBF j_call_isi (by rfl) T.n_isinstance PyProof.Rows.Boot.«isinstance» (j_pa_c (j_cv 2) (j_pa_c (j_pe_ty T.n_tuple PyProof.Rows.Boot.«tuple») j_pa_nil))) (fun _ => rfl))) (j_pw_or (j_pt_cmpR (j_c_neT (hu8 hr)) (j_cv 2) (j_cv 1) (nomark _)) (j_pw_or1 (j_pt_not (j_pt_truth (j_pe_callBF j_call_isi (by rfl) T.n_isinstance PyProof.Rows.Boot.«isinstance» (j_pa_c (j_pe_ix j_c_ix (j_cv 2) j_pe_int (fun _ _ => rfl)) (j_pa_c (j_pe_ty T.n_str PyProof.Rows.Boot.«str») j_pa_nil))) (fun _ => rfl))))))) (j_pss_one (j_ps_ret j_pe_bl)) j_pss_nil)
      (j_pss_one (j_ps_ret (j_pe_callBF (j_c_all (by rfl)) (by rfl) T.n_all PyProof.Rows.Boot.«all» (j_pa_c (j_pe_comp (fsc := defScope s__law_right) (N2 := []) (js := []) ⟨rfl, rfl, by decide +kernel, by decide +kernel, by decide +kernel, by decide +kernel, by decide +kernel, by decide +kernel, by decide +kernel⟩ rfl rfl (by rfl) (j_pi_tup (j_pe_slice j_c_slU (j_cv 2) (j_c_part j_pe_int) j_po_none)) (fun _ _ _ _ => j_pifs_nil) (fun _ _ _ _ => (j_pe_callF ((ok__law_whole T).mono (by decide)) hr rfl T.g__law_whole T.fn__law_whole.kp T.b__law_whole exc_blk (j_pa_c (j_cv 0) j_pa_nil)))) j_pa_nil))))))) ?_
    rcases h with ⟨rfl, h⟩ | ⟨z, l, x, ns, rfl, az, lz, hd, rfl, el, h3⟩
    · have h' : ((∃ z, v = .str z ∧ asc z ∧ z.length ≤ 690 ∧ dd z = none) ∨ NS H v) := h
      show tSeq _ _ _ [some v, some V.non, none] H
      refine seq_mid (fun σ' H' => Same H H' ∧ σ' = [some v, some V.non, some (V.bl true)]) (fun R hR => ?_) ?_
      · simp only [tCons, tNil, cVar, tAsg, gName, tCallE, List.getElem?_cons_zero, List.set_cons_zero, List.set_cons_succ, V.int.injEq, V.bl.injEq, V.str.injEq, V.ref.injEq, V.ty.injEq, List.cons.injEq, Option.some.injEq, and_true, exists_eq_left', sp__law_read]
        rcases h with ⟨z, rfl, az, lz, hd⟩ | hs
        · exact .inl ⟨z, rfl, az, lz, by rw [hd]; exact fun H' s' => hR _ _ ⟨s', rfl⟩⟩
        · exact .inr ⟨hs, fun H' s' => hR _ _ ⟨s', rfl⟩⟩
      rintro _ H1 ⟨s1, rfl⟩
      simp only [tRet, tNext, tSeq, tIfS, tTest, tOp, tOr, tNot, tCB, tCons, tNil, tC, cVar, eqv, cIs, isNon, rIsi, kitV, cIx, cxOf_K, TruV, Bool.not_eq_true', Bool.not_false, decide_true, tComp, cNeA, iTup, cPart, tNoPart, tSl, cIsA, isBl, List.getElem?_cons_zero, List.getElem?_cons_succ, V.int.injEq, V.bl.injEq, V.str.injEq, V.ref.injEq, V.ty.injEq, List.cons.injEq, Option.some.injEq, exists_eq_left', exists_eq_left, ite_true, cNeT, cSlU]
      exact q _ s1
    · show tSeq _ _ _ [some (V.str z), some (V.ref l), none] H
      refine seq_mid (fun σ' H' => ∃ f, Same H H' ∧ H' f = some (.tup (.str x :: ns.map V.int)) ∧ σ' = [some (V.str z), some (V.ref l), some (V.ref f)]) (fun R hR => ?_) ?_
      · simp only [tCons, tNil, cVar, tAsg, gName, tCallE, List.getElem?_cons_zero, List.set_cons_zero, List.set_cons_succ, V.int.injEq, V.bl.injEq, V.str.injEq, V.ref.injEq, V.ty.injEq, List.cons.injEq, Option.some.injEq, and_true, exists_eq_left', sp__law_read]
        exact .inl ⟨az, lz, by rw [hd]; exact fun f H' s' _ ef => hR _ _ ⟨f, s', ef, rfl⟩⟩
      rintro _ H1 ⟨f, s1, ef, rfl⟩
      have el1 := s1 _ _ el
      refine seq_mid (fun σ' H' => H1 = H' ∧ σ' = [some (V.str z), some (V.ref l), some (V.ref f)]) (fun R hR => ?_) ?_
      · simp only [tRet, tNext, tIfS, tTest, tOp, tC, cVar, cIs, isNon, cIsA, isBl, List.getElem?_cons_zero, List.getElem?_cons_succ, V.int.injEq, V.bl.injEq, V.str.injEq, V.ref.injEq, V.ty.injEq, List.cons.injEq, Option.some.injEq, exists_eq_left', ite_false, Bool.false_eq_true]
        exact hR _ _ ⟨rfl, rfl⟩
      rintro _ _ ⟨rfl, rfl⟩
      refine seq_mid (fun σ' H' => H1 = H' ∧ σ' = [some (V.str z), some (V.ref l), some (V.ref f)]) (fun R hR => ?_) ?_
      · simp only [tRet, tNext, tIfS, tTest, tOp, tOr, tNot, tCB, tCons, tNil, tC, cVar, rIsi, kitV, cIx, cxOf_K, TruV, Bool.not_eq_true', Bool.true_eq_false, atI_0, List.length_cons, List.getElem?_cons_zero, List.getElem?_cons_succ, V.int.injEq, V.bl.injEq, V.str.injEq, V.ref.injEq, V.ty.injEq, List.cons.injEq, Option.some.injEq, true_and, exists_eq_left', exists_eq_left, ite_true, ite_false, cNeT, tyo, OkTy, ef, el1, T.kt_tuple_tuple, T.kt_str_str]
        rw [deq_deed]
        dsimp only
        rw [if_neg (fun n => by cases n)]
        exact hR _ _ ⟨rfl, rfl⟩
      rintro _ _ ⟨rfl, rfl⟩
      simp only [tRet, tCB, tCons, tNil, tC, cVar, cxOf_K, tComp, capt, cAll, iTup, cPart, tNoPart, tSl, List.map_nil, List.length_cons, List.getElem?_cons_zero, List.getElem?_cons_succ, V.int.injEq, V.bl.injEq, V.str.injEq, V.ref.injEq, V.ty.injEq, List.cons.injEq, Option.some.injEq, exists_eq_left', cSlU, ef]
      rw [List.length_map]
      refine ⟨fun h => ?_, fun p hp => ?_⟩
      · have h1 := h.1
        unfold HT.sIx at h1
        dsimp only at h1
        rw [if_neg (by decide)] at h1
        have : min (1 : Int).toNat (ns.length + 1) = 1 := by show min 1 _ = 1; omega
        rw [this] at h1; cases h1
      rw [cut1]
      have a1 := Same.upd (o := .tup (ns.map V.int)) hp
      have epp : upd H1 p (.tup (ns.map V.int)) p = some (.tup (ns.map V.int)) := upd_same
      generalize upd H1 p (.tup (ns.map V.int)) = G at *
      have eb : ∀ k, bools (List.replicate k (V.bl true)) = some (List.replicate k true) := fun k => by
        induction k with
        | zero => rfl
        | succ k ih => rw [List.replicate_succ]; show (bools _).map _ = _; rw [ih]; rfl
      refine ⟨⟨_, SqT.of epp⟩, compW_tupG (xs := ns.map V.int) (fun i ys H' => G = H' ∧ ys = List.replicate i (V.bl true)) ⟨rfl, rfl⟩ (fun i ys H' h => by rw [← h.1]; exact SqT.of epp) (big (by rw [List.length_map]; omega)) (fun i ys H' h => by rw [h.2, List.length_replicate]; exact Nat.le_refl _) ?_ ?_⟩
      · rintro i v ys _ hv ⟨rfl, rfl⟩ K1 hK
        rw [List.getElem?_map] at hv
        obtain ⟨t, ht, rfl⟩ := Option.map_eq_some_iff.mp hv
        simp only [tCons, tNil, cVar, tCallE, tYes, List.getElem?_cons_zero, V.int.injEq, V.bl.injEq, V.str.injEq, V.ref.injEq, V.ty.injEq, List.cons.injEq, Option.some.injEq, and_true, exists_eq_left', ite_true, sp__law_whole]
        exact hK _ _ ⟨rfl, by rw [List.replicate_succ']⟩
      · rintro ys _ ⟨rfl, rfl⟩ l' hl'
        dsimp only
        rw [upd_same]
        dsimp only
        rw [eb]
        dsimp only
        rw [show ∀ k, (List.replicate k true).all id = true from fun k => by rw [List.all_eq_true]; intro b hb; rw [(List.mem_replicate.mp hb).2]; rfl]
        exact q _ (s1.trans (a1.trans (Same.upd hl')))
theorem lineT_asc {x : Str} {ns : List Int} (hx : x ∈ ws) : asc (lineT x ns) := by
  unfold lineT Txt.join
  rw [StrLaws.glued_eq_join, blank_is]
  intro c hc
  rw [join_jn] at hc
  have h : ∀ (ps : List (List Nat)), (∀ p ∈ ps, ∀ c ∈ p, c < 128) → ∀ c ∈ jn ps, c < 128 := fun ps => by
    induction ps with
    | nil => intro _ c hc; cases hc
    | cons p ps ih =>
      intro h c hc
      cases ps with
      | nil => exact h p List.mem_cons_self c hc
      | cons q qs =>
        rcases List.mem_append.mp (show c ∈ p ++ 32 :: jn (q :: qs) from hc) with m | m
        · exact h p List.mem_cons_self c m
        · rcases List.mem_cons.mp m with rfl | m
          · decide
          · exact ih (fun p hp => h p (List.mem_cons_of_mem _ hp)) c m
  refine h _ (fun p hp d hd => ?_) c hc
  obtain ⟨q, hq, rfl⟩ := List.mem_map.mp hp
  rcases List.mem_cons.mp hq with rfl | m
  · exact (ws_free hx).2.1 d hd
  · obtain ⟨n, _, rfl⟩ := List.mem_map.mp m; exact numT_asc n d hd
theorem lineT_len {x : Str} {ns : List Int} (hx : x ∈ ws) (hl : ns.length ≤ 3) (hn : ∀ n ∈ ns, n.natAbs < 10 ^ 60) : (lineT x ns).length ≤ 200 := by
  have h1 := line_ok hx hl hn
  have h2 := StrLaws.join_length_le blank (x :: ns.map numT)
  unfold lineT Txt.join
  rw [StrLaws.glued_eq_join]
  rw [blank_len] at h2
  omega
theorem dd_len {z x : Str} {ns : List Int} (h : dd z = some (x, ns)) : ns.length ≤ 3 := by
  unfold dd at h
  split at h
  · cases h
  · rename_i x' r _
    split at h
    · rename_i hc
      cases h
      have := many_le x
      rw [List.length_map]
      have := hc.2.1
      omega
    · cases h
def sp_law (K : PySem.W.Frag) : Sp := fun vs H Q _ => ∃ (a : Addr) (ns : List Int), vs = [.ref a] ∧ SqL K H a (ns.map V.int) ∧ ns.length ≤ 63 ∧ ∀ H', Q (.bl true) H'
theorem sc_law : FnScope ["_law_script", "_law_words_here", "_law_counts", "_law_which", "_law_numbers", "_law_deed_here", "_law_line", "_law_found", "_law_odd", "_law_changed_here"] ["_law_script"] (defScope s_law) := ⟨rfl, rfl, rfl, by decide +kernel, rfl, by decide +kernel, by decide +kernel⟩
theorem ok_law (T : Txt w K mg A) : FnOk P w K mg base (CXE P w) true 6 A.f_law A.d_law ["_law_script"] (sp_law K) := by
  refine T.fn_law.okE sc_law (fun vs H Q E h => ?_) (fun cdv A' outer s H vs Q E hr hx h => ?_)
  · obtain ⟨a, cs, rfl, hS, hL, h⟩ := h
    rfl
  · obtain ⟨a, cs, rfl, hS, hL, h⟩ := h
    refine ex_run (B := fun t => t _ _ _) (j_pss_cons (j_ps_asg (j_pe_call0E ((ok__law_words T).mono (by decide)) hr rfl T.g__law_words T.fn__law_words.kp T.b__law_words hx) (j_pg_tup (n := 2) (by rfl) (j_pgs_cons (j_pg_name (i := 1) sc_law.nd rfl (by first | exact Or.inl rfl | exact Or.inr rfl)) (j_pgs_cons (j_pg_name (i := 2) sc_law.nd rfl (by first | exact Or.inl rfl | exact Or.inr rfl)) j_pgs_nil))))
      (j_pss_cons (j_ps_set (i := 3) sc_law.nd rfl (by first | exact Or.inl rfl | exact Or.inr rfl) (j_pe_op j_c_mod (j_pe_callF ((ok__law_cell_at T).mono (by decide)) hr rfl T.g__law_cell_at T.fn__law_cell_at.kp T.b__law_cell_at hx (j_pa_c (j_cv 0) (j_pa_c j_pe_int j_pa_nil))) j_pe_int))
      (j_pss_cons (j_ps_setcomp (i := 4) (fsc := defScope s_law) (N2 := ["_law_script"]) (js := [0]) sc_law.nd rfl (by first | exact Or.inl rfl | exact Or.inr rfl) ⟨rfl, rfl, by decide +kernel, by decide +kernel, by decide +kernel, by decide +kernel, by decide +kernel, by decide +kernel, by decide +kernel⟩ rfl rfl (by rfl) (j_pi_range1 rfl T.n_range (j_pa_c (j_pe_ix j_c_ix (j_cv 2) (j_cv 3) (fun _ _ => rfl)) j_pa_nil)) (fun _ _ _ _ => j_pifs_nil) (fun _ _ _ _ => (j_pe_callF ((ok__law_number_by T).mono (by decide)) hr rfl T.g__law_number_by T.fn__law_number_by.kp T.b__law_number_by exc_blk (j_pa_c (j_pe_callF ((ok__law_cell_at T).mono (by decide)) hr rfl T.g__law_cell_at T.fn__law_cell_at.kp T.b__law_cell_at exc_blk (j_pa_c (j_cv 1) (j_pa_c (j_pe_op j_c_add j_pe_int (j_cv 0)) j_pa_nil))) j_pa_nil))))
      (j_pss_cons (j_ps_set (i := 5) sc_law.nd rfl (by first | exact Or.inl rfl | exact Or.inr rfl) (j_pe_callTyF j_c_tupleOf (by rfl) T.n_tuple PyProof.Rows.Boot.«tuple» (j_pa_c (j_pe_op j_c_cat (j_pe_lst (j_pa_c (j_pe_ix j_c_ix (j_cv 1) (j_cv 3) (fun _ _ => rfl)) j_pa_nil)) (j_cv 4)) j_pa_nil)))
      (j_pss_cons (j_ps_set (i := 6) sc_law.nd rfl (by first | exact Or.inl rfl | exact Or.inr rfl) (j_c_bmS PySem.F.slot_str_join PySem.F.type_str_join j_c_join j_pe_str (j_pa_c (j_pe_op j_c_cat (j_pe_lst (j_pa_c (j_pe_ix j_c_ix (j_cv 1) (j_cv 3) (fun _ _ => rfl)) j_pa_nil)) (j_pe_comp (fsc := defScope s_law) (N2 := []) (js := []) ⟨rfl, rfl, by decide +kernel, by decide +kernel, by decide +kernel, by decide +kernel, by decide +kernel, by decide +kernel, by decide +kernel⟩ rfl rfl (by rfl) (j_pi_list (j_cv 4)) (fun _ _ _ _ => j_pifs_nil) (fun _ _ _ _ => (j_pe_callF ((ok__law_figures T).mono (by decide)) hr rfl T.g__law_figures T.fn__law_figures.kp T.b__law_figures exc_blk (j_pa_c (j_cv 0) j_pa_nil))))) j_pa_nil)))
      (j_pss_cons (j_ps_set (i := 7) sc_law.nd rfl (by first | exact Or.inl rfl | exact Or.inr rfl) (j_pe_callF ((ok_line_of T).mono (by decide)) hr rfl T.g_line_of T.fn_line_of.kp T.b_line_of hx (j_pa_c (j_cv 5) j_pa_nil)))
      (j_pss_cons (j_ps_if (j_PW_pt (j_pw_or (j_pt_not (j_pt_truth (j_pe_callBF j_call_isi (by rfl) T.n_isinstance PyProof.Rows.Boot.«isinstance» (j_pa_c (j_cv 7) (j_pa_c (j_pe_ty T.n_str PyProof.Rows.Boot.«str») j_pa_nil))) (fun _ => rfl))) (j_pw_or (j_pt_cmpR j_c_ne (j_cv 7) (j_cv 6) (nomark _)) (j_pw_or1 (j_pt_not (j_pt_truth (j_pe_callF ((ok__law_right T).mono (by decide)) hr rfl T.g__law_right T.fn__law_right.kp T.b__law_right hx (j_pa_c (j_cv 6) (j_pa_c (j_cv 5) j_pa_nil))) (fun _ => rfl))))))) (j_pss_one (j_ps_ret j_pe_bl)) j_pss_nil)
      (j_pss_cons (j_ps_set (i := 8) sc_law.nd rfl (by first | exact Or.inl rfl | exact Or.inr rfl) (j_pe_menu (j_pa_c j_pe_non (j_pa_c j_pe_int (j_pa_c (j_pe_lst (j_pa_c j_pe_str j_pa_nil)) (j_pa_c (j_pe_tup (j_pa_c j_pe_str j_pa_nil)) (j_pa_c j_pe_bl (j_pa_c (j_cv 5) j_pa_nil)))))) (j_pe_op j_c_mod (j_pe_callF ((ok__law_cell_at T).mono (by decide)) hr rfl T.g__law_cell_at T.fn__law_cell_at.kp T.b__law_cell_at hx (j_pa_c (j_cv 0) (j_pa_c j_pe_int j_pa_nil))) j_pe_int) (fun _ _ => rfl)))
      (j_pss_cons (j_ps_if (j_pt_not (j_pt_truth (j_pe_callF ((ok__law_right T).mono (by decide)) hr rfl T.g__law_right T.fn__law_right.kp T.b__law_right hx (j_pa_c (j_cv 8) (j_pa_c j_pe_non j_pa_nil))) (fun _ => rfl))) (j_pss_one (j_ps_ret j_pe_bl)) j_pss_nil)
      (j_pss_cons (j_ps_set (i := 9) sc_law.nd rfl (by first | exact Or.inl rfl | exact Or.inr rfl) (j_pe_callF ((ok__law_changed T).mono (by decide)) hr rfl T.g__law_changed T.fn__law_changed.kp T.b__law_changed hx (j_pa_c (j_cv 6) (j_pa_c (j_pe_callF ((ok__law_cell_at T).mono (by decide)) hr rfl T.g__law_cell_at T.fn__law_cell_at.kp T.b__law_cell_at hx (j_pa_c (j_cv 0) (j_pa_c j_pe_int j_pa_nil))) (j_pa_c (j_pe_callF ((ok__law_cell_at T).mono (by decide)) hr rfl T.g__law_cell_at T.fn__law_cell_at.kp T.b__law_cell_at hx (j_pa_c (j_cv 0) (j_pa_c j_pe_int j_pa_nil))) j_pa_nil)))))
      (j_pss_one (j_ps_ret (j_pe_callF ((ok__law_right T).mono (by decide)) hr rfl T.g__law_right T.fn__law_right.kp T.b__law_right hx (j_pa_c (j_cv 9) (j_pa_c (j_pe_callF ((ok__law_deed T).mono (by decide)) hr rfl T.g__law_deed T.fn__law_deed.kp T.b__law_deed hx (j_pa_c (j_cv 9) j_pa_nil)) j_pa_nil))))))))))))))) ?_
    show tSeq _ _ _ [some (V.ref a), none, none, none, none, none, none, none, none, none] H
    refine seq_mid (fun σ' H' => ∃ l m, Same H H' ∧ H' l = some (.lst (ws.map V.str)) ∧ H' m = some (.lst (cn.map V.int)) ∧ σ' = [some (V.ref a), some (V.ref l), some (V.ref m), none, none, none, none, none, none, none]) (fun R hR => ?_) ?_
    · simp only [tNil, tAsg, tCallE, cxOf_K, true_and, sp__law_words]
      exact fun t l m H' s' et el em => ⟨t, [V.ref l, V.ref m], rfl, SqT.of et, rfl, _, _, rfl, _, _, rfl, rfl, hR _ _ ⟨l, m, s', el, em, rfl⟩⟩
    rintro _ H1 ⟨l, m, s1, el, em, rfl⟩
    refine seq_mid (fun σ' H' => H1 = H' ∧ ∃ k : Nat, k < 13 ∧ σ' = [some (V.ref a), some (V.ref l), some (V.ref m), some (V.int k), none, none, none, none, none, none]) (fun R hR => ?_) ?_
    · simp only [tOp, tCons, tNil, tC, cVar, tAsg, gName, tCallE, cMod, and_assoc, Int.reduceLT, Nat.reduceLT, Int.reduceLE, List.getElem?_cons_zero, List.set_cons_zero, List.set_cons_succ, V.int.injEq, V.bl.injEq, V.str.injEq, V.ref.injEq, V.ty.injEq, List.cons.injEq, Option.some.injEq, and_true, true_and, exists_eq_left', exists_and_left, sp__law_cell_at]
      exact ⟨cs, s1.seq hS, hR _ _ ⟨rfl, (cat cs 0 % 13).toNat, by omega, by rw [Int.toNat_of_nonneg (by omega)]⟩⟩
    rintro _ _ ⟨rfl, k, hk, rfl⟩
    obtain ⟨x, hx⟩ : ∃ x, x = ws.getD k default := ⟨_, rfl⟩
    have kx : k < ws.length := hk
    have exw : ws[k]? = some x := by rw [hx, List.getD_eq_getElem?_getD, List.getElem?_eq_getElem kx]; rfl
    have xw : x ∈ ws := List.mem_of_getElem? exw
    have axl : atI (ws.map V.str) (k : Int) = some (V.str x) := by rw [atI_cast, List.getElem?_map, exw]; rfl
    have ndw : ws.Nodup := by decide +kernel
    have ixk : ws.idxOf x = k := by
      have := (List.getElem?_eq_some_iff.mp exw).2
      rw [← this]; exact List.Nodup.idxOf_getElem ndw k kx
    have axm : atI (cn.map V.int) (k : Int) = some (V.int (many x)) := by have := many_at xw; rw [ixk] at this; exact this
    have mx := many_le x
    refine seq_mid (fun σ' H' => ∃ ln, ∃ ns : List Int, Same H1 H' ∧ H' ln = some (.lst (ns.map V.int)) ∧ (ns.length : Int) = many x ∧ (∀ n ∈ ns, n.natAbs < 10 ^ 60) ∧ σ' = [some (V.ref a), some (V.ref l), some (V.ref m), some (V.int k), some (V.ref ln), none, none, none, none, none]) (fun R hR => ?_) ?_
    · simp only [tOp, tCons, tNil, cVar, tAsg, gName, cIx, Int.reduceNeg, Int.reducePow, tComp, capt, iRng1, List.map_cons, List.map_nil, List.getElem?_cons_zero, List.getElem?_cons_succ, List.set_cons_zero, List.set_cons_succ, V.int.injEq, V.bl.injEq, V.str.injEq, V.ref.injEq, V.ty.injEq, List.cons.injEq, Option.some.injEq, and_true, exists_eq_left', em, axm]
      refine ⟨by omega, by omega, compW_rangeG (fun i ys H' => H1 = H' ∧ ∃ ns : List Int, ys = ns.map V.int ∧ ns.length = i ∧ ∀ n ∈ ns, n.natAbs < 10 ^ 60) ⟨rfl, [], rfl, rfl, fun n hn => by cases hn⟩ (big (by omega)) (fun i ys H' ⟨_, ns, e, hl, _⟩ => by rw [e, List.length_map, hl]; exact Nat.le_refl _) ?_ ?_⟩
      · rintro i ys _ hi ⟨rfl, ns, rfl, hl, hn⟩ K1 hK
        simp only [tOp, tCons, tNil, tC, cVar, tCallE, cAdd, and_assoc, tYes, List.getElem?_cons_zero, List.getElem?_cons_succ, V.int.injEq, V.bl.injEq, V.str.injEq, V.ref.injEq, V.ty.injEq, List.cons.injEq, Option.some.injEq, and_true, exists_eq_left', exists_and_left, ite_true, sp__law_number_by, sp__law_cell_at, Option.join_some]
        refine ⟨cs, s1.seq hS, by omega, fun n hn' => hK _ _ ⟨rfl, ns ++ [n], by rw [List.map_append]; rfl, by rw [List.length_append, hl]; rfl, fun m' hm => ?_⟩⟩
        rcases List.mem_append.mp hm with q | q
        · exact hn m' q
        · rw [List.mem_singleton] at q; rw [q]; exact hn'
      · rintro ys _ ⟨rfl, ns, rfl, hl, hn⟩ l' hl'
        exact hR _ _ ⟨l', ns, Same.upd hl', upd_same, by omega, hn, rfl⟩
    rintro _ H2 ⟨ln, ns, s2, eln, hnl, hn, rfl⟩
    have n3 : ns.length ≤ 3 := by omega
    have el2 := s2 _ _ el
    refine seq_mid (fun σ' H' => ∃ ld, Same H2 H' ∧ H' ld = some (.tup (.str x :: ns.map V.int)) ∧ σ' = [some (V.ref a), some (V.ref l), some (V.ref m), some (V.int k), some (V.ref ln), some (V.ref ld), none, none, none, none]) (fun R hR => ?_) ?_
    · simp only [tOp, tCB, tCons, tNil, cVar, tLst, tAsg, gName, cIx, Int.reduceAdd, upd_same, cCat, List.length_cons, List.length_nil, List.getElem?_cons_zero, List.getElem?_cons_succ, List.set_cons_zero, List.set_cons_succ, true_and, Nat.reduceAdd, sz1, cTupleOf, el2, axl]
      intro p hp
      have a1 := Same.upd (o := .lst [V.str x]) hp
      rw [a1 _ _ eln]
      dsimp only
      refine ⟨Nat.le_trans (show _ ≤ 10 by rw [List.length_map]; simp only [List.length_cons, List.length_nil]; omega) (by decide), fun p1 hp1 p2 hp2 => ?_⟩
      have a2 := Same.upd (o := .lst ([V.str x] ++ ns.map V.int)) hp1
      have a3 := Same.upd (o := .tup ([V.str x] ++ ns.map V.int)) hp2
      exact hR _ _ ⟨p2, a1.trans (a2.trans a3), upd_same, rfl⟩
    rintro _ H3 ⟨ld, s3, eld, rfl⟩
    have el3 := s3 _ _ el2
    have eln3 := s3 _ _ eln
    refine seq_mid (fun σ' H' => Same H3 H' ∧ σ' = [some (V.ref a), some (V.ref l), some (V.ref m), some (V.int k), some (V.ref ln), some (V.ref ld), some (V.str (lineT x ns)), none, none, none]) (fun R hR => ?_) ?_
    · simp only [tOp, tCons, tNil, tC, cVar, tLst, tAsg, gName, cIx, cxOf_K, Int.reduceAdd, upd_same, tComp, capt, iList, cCat, List.map_nil, List.length_cons, List.length_nil, List.getElem?_cons_zero, List.getElem?_cons_succ, List.set_cons_zero, List.set_cons_succ, V.int.injEq, V.bl.injEq, V.str.injEq, V.ref.injEq, V.ty.injEq, List.cons.injEq, Option.some.injEq, true_and, exists_eq_left', Nat.reduceAdd, sz1, cJoin, cBMS, el3, axl]
      intro p hp
      have a1 := Same.upd (o := .lst [V.str x]) hp
      have epp : upd H3 p (.lst [V.str x]) p = some (.lst [V.str x]) := upd_same
      have eln4 := a1 _ _ eln3
      generalize upd H3 p (.lst [V.str x]) = G at *
      refine ⟨⟨_, SqL.of eln4⟩, compW_listG (xs := ns.map V.int) (fun i ys H' => G = H' ∧ i ≤ ns.length ∧ ys = ((ns.take i).map numT).map V.str) ⟨rfl, Nat.zero_le _, rfl⟩ (fun i ys H' h => by rw [← h.1]; exact SqL.of eln4) (big (by rw [List.length_map]; omega)) (fun i ys H' h => by rw [h.2.2, List.length_map, List.length_map, List.length_take]; omega) ?_ ?_⟩
      · rintro i v ys _ hv ⟨rfl, hi, rfl⟩ K1 hK
        rw [List.getElem?_map] at hv
        obtain ⟨n, ht, rfl⟩ := Option.map_eq_some_iff.mp hv
        have hit : i < ns.length := (List.getElem?_eq_some_iff.mp ht).1
        simp only [tCons, tNil, cVar, tCallE, tYes, List.getElem?_cons_zero, V.int.injEq, V.bl.injEq, V.str.injEq, V.ref.injEq, V.ty.injEq, List.cons.injEq, Option.some.injEq, and_true, exists_eq_left', ite_true, sp__law_figures]
        exact ⟨hn n (List.mem_of_getElem? ht), hK _ _ ⟨rfl, by omega, by rw [List.take_add_one, ht, List.map_append, List.map_append]; rfl⟩⟩
      · rintro ys _ ⟨rfl, _, rfl⟩ l' hl'
        rw [List.length_map, List.take_length]
        dsimp only
        rw [Same.upd hl' _ _ epp, upd_same]
        dsimp only
        refine ⟨big (by rw [List.length_map, List.length_map]; simp only [List.length_cons, List.length_nil]; omega), fun p2 hp2 => ⟨x :: ns.map numT, rfl, line_join xw n3 hn, hR _ _ ⟨a1.trans ((Same.upd hl').trans (Same.upd hp2)), rfl⟩⟩⟩
    rintro _ H4 ⟨s4, rfl⟩
    have al := lineT_asc (ns := ns) xw
    have ll := lineT_len xw n3 hn
    refine seq_mid (fun σ' H' => Same H4 H' ∧ σ' = [some (V.ref a), some (V.ref l), some (V.ref m), some (V.int k), some (V.ref ln), some (V.ref ld), some (V.str (lineT x ns)), some (V.str (lineT x ns)), none, none]) (fun R hR => ?_) ?_
    · simp only [tCons, tNil, cVar, tAsg, gName, tCallE, List.getElem?_cons_zero, List.getElem?_cons_succ, List.set_cons_zero, List.set_cons_succ, V.int.injEq, V.bl.injEq, V.str.injEq, V.ref.injEq, V.ty.injEq, List.cons.injEq, Option.some.injEq, and_true, exists_eq_left', exists_and_left, sp_line_of]
      exact ⟨x, ns, s4 _ _ eld, xw, n3, hn, fun H' s' => hR _ _ ⟨s', rfl⟩⟩
    rintro _ H5 ⟨s5, rfl⟩
    have eld5 := s5 _ _ (s4 _ _ eld)
    refine seq_mid (fun σ' H' => Same H5 H' ∧ σ' = [some (V.ref a), some (V.ref l), some (V.ref m), some (V.int k), some (V.ref ln), some (V.ref ld), some (V.str (lineT x ns)), some (V.str (lineT x ns)), none, none]) (fun R hR => ?_) ?_
    · simp only [tRet, tNext, tIfS, tTest, tOp, tOr, tNot, tCB, tCons, tNil, tC, cVar, tCallE, cNe, eqv, rIsi, kitV, cxOf_K, TruV, and_assoc, Bool.not_eq_true', Bool.not_true, decide_true, Bool.true_eq_false, List.getElem?_cons_zero, List.getElem?_cons_succ, V.int.injEq, V.bl.injEq, V.str.injEq, V.ref.injEq, V.ty.injEq, List.cons.injEq, Option.some.injEq, and_true, true_and, exists_eq_left', exists_and_left, exists_eq_left, reduceCtorEq, false_and, ite_true, ite_false, Bool.false_eq_true, tyo, OkTy, T.kt_str_str, sp__law_right]
      exact ⟨.inr ⟨al, by omega, ld, x, ns, lineT_dd xw hnl hn, rfl, eld5, n3⟩, fun H' s' => hR _ _ ⟨s', rfl⟩⟩
    rintro _ H6 ⟨s6, rfl⟩
    have sA := s1.trans (s2.trans (s3.trans (s4.trans (s5.trans s6))))
    refine seq_mid (fun σ' H' => ∃ v8, Same H6 H' ∧ NS H' v8 ∧ σ' = [some (V.ref a), some (V.ref l), some (V.ref m), some (V.int k), some (V.ref ln), some (V.ref ld), some (V.str (lineT x ns)), some (V.str (lineT x ns)), some v8, none]) (fun R hR => ?_) ?_
    · simp only [tOp, tCons, tNil, tC, cVar, tLst, tTup, tAsg, gName, tCallE, cMod, rIxM, and_assoc, Int.reduceLT, Nat.reduceLT, Int.reduceLE, Int.reduceAdd, upd_same, List.length_cons, List.length_nil, List.getElem?_cons_zero, List.getElem?_cons_succ, List.set_cons_zero, List.set_cons_succ, V.int.injEq, V.bl.injEq, V.str.injEq, V.ref.injEq, V.ty.injEq, List.cons.injEq, Option.some.injEq, and_true, true_and, exists_eq_left', exists_and_left, Nat.reduceAdd, sz1, sz6, sp__law_cell_at]
      intro p hp p1 hp1 p2 hp2
      have a1 := Same.upd (o := .lst [V.str (Str.ofString "young")]) hp
      have a2 := Same.upd (o := .tup [V.str (Str.ofString "all")]) hp1
      have e1 := a2 _ _ (show upd H6 p (.lst [V.str (Str.ofString "young")]) p = some (.lst [V.str (Str.ofString "young")]) from upd_same)
      have e2 : upd (upd H6 p (.lst [V.str (Str.ofString "young")])) p1 (.tup [V.str (Str.ofString "all")]) p1 = some (.tup [V.str (Str.ofString "all")]) := upd_same
      have e3 := a2 _ _ (a1 _ _ (s6 _ _ eld5))
      have sG := a1.trans a2
      generalize upd (upd H6 p (.lst [V.str (Str.ofString "young")])) p1 (.tup [V.str (Str.ofString "all")]) = G at *
      refine ⟨cs, (sA.trans (sG.trans (Same.upd hp2))).seq hS, ?_⟩
      rw [rm_upd hp2]
      rcases (show cat cs 4 % 6 = 0 ∨ cat cs 4 % 6 = 1 ∨ cat cs 4 % 6 = 2 ∨ cat cs 4 % 6 = 3 ∨ cat cs 4 % 6 = 4 ∨ cat cs 4 % 6 = 5 by omega) with h0 | h0 | h0 | h0 | h0 | h0 <;> rw [h0]
      · exact hR _ _ ⟨_, sG, .inl rfl, rfl⟩
      · exact hR _ _ ⟨_, sG, .inr (.inl ⟨_, rfl⟩), rfl⟩
      · exact hR _ _ ⟨_, sG, .inr (.inr (.inr (.inl ⟨_, _, rfl, e1⟩))), rfl⟩
      · exact hR _ _ ⟨_, sG, .inr (.inr (.inr (.inr ⟨_, _, rfl, e2⟩))), rfl⟩
      · exact hR _ _ ⟨_, sG, .inr (.inr (.inl ⟨_, rfl⟩)), rfl⟩
      · exact hR _ _ ⟨_, sG, .inr (.inr (.inr (.inr ⟨_, _, rfl, e3⟩))), rfl⟩
    rintro _ H7 ⟨v8, s7, hv8, rfl⟩
    refine seq_mid (fun σ' H' => Same H7 H' ∧ σ' = [some (V.ref a), some (V.ref l), some (V.ref m), some (V.int k), some (V.ref ln), some (V.ref ld), some (V.str (lineT x ns)), some (V.str (lineT x ns)), some v8, none]) (fun R hR => ?_) ?_
    · simp only [tRet, tNext, tIfS, tNot, tCons, tNil, tC, cVar, tCallE, TruV, and_assoc, Bool.not_eq_true', Bool.true_eq_false, List.getElem?_cons_zero, List.getElem?_cons_succ, V.int.injEq, V.bl.injEq, V.str.injEq, V.ref.injEq, V.ty.injEq, List.cons.injEq, Option.some.injEq, and_true, true_and, exists_eq_left', exists_and_left, exists_eq_left, exists_const, reduceCtorEq, false_and, and_false, ite_false, sp__law_right]
      exact ⟨.inl (.inr hv8), fun H' s' => hR _ _ ⟨s', rfl⟩⟩
    rintro _ H8 ⟨s8, rfl⟩
    have sB := sA.trans (s7.trans s8)
    refine seq_mid (fun σ' H' => ∃ y, Same H8 H' ∧ asc y ∧ y.length ≤ 310 ∧ σ' = [some (V.ref a), some (V.ref l), some (V.ref m), some (V.int k), some (V.ref ln), some (V.ref ld), some (V.str (lineT x ns)), some (V.str (lineT x ns)), some v8, some (V.str y)]) (fun R hR => ?_) ?_
    · simp only [tCons, tNil, tC, cVar, tAsg, gName, tCallE, and_assoc, Int.reduceLE, List.getElem?_cons_zero, List.getElem?_cons_succ, List.set_cons_zero, List.set_cons_succ, V.int.injEq, V.bl.injEq, V.str.injEq, V.ref.injEq, V.ty.injEq, List.cons.injEq, Option.some.injEq, and_true, true_and, exists_eq_left', exists_and_left, sp__law_cell_at, sp__law_changed]
      exact ⟨cs, sB.seq hS, cs, sB.seq hS, al, by omega, fun y H' ay ly s' => hR _ _ ⟨y, s', ay, ly, rfl⟩⟩
    rintro _ H9 ⟨y, s9, ay, ly, rfl⟩
    simp only [tRet, tCons, tNil, cVar, tCallE, and_assoc, List.getElem?_cons_zero, List.getElem?_cons_succ, V.int.injEq, V.bl.injEq, V.str.injEq, V.ref.injEq, V.ty.injEq, List.cons.injEq, Option.some.injEq, and_true, true_and, exists_eq_left', exists_and_left, exists_const, reduceCtorEq, false_and, and_false, sp__law_deed, sp__law_right]
    refine ⟨ay, by omega, ?_⟩
    cases hd : dd y with
    | none => exact fun H' s' => ⟨.inl (.inl ⟨ay, by omega, rfl⟩), fun H2 _ => h _⟩
    | some xn =>
      obtain ⟨x', ns'⟩ := xn
      exact fun l' H' s' _ el' => ⟨.inr ⟨ay, by omega, l', x', ns', rfl, rfl, el', dd_len hd⟩, fun H2 _ => h _⟩

theorem all_mk {l : PySem.W.OpenLaw} {w : World} {K : PySem.W.Frag} {h : Heap} {mg : Str → Option Value} {fa f_line_of f_is_written f__law_cell_at f__law_whole f__law_sign_by f__law_words f__law_figures f__law_number_by f__law_number f_numbers_of f__law_deed f__law_changed f_deed_of f__law_read f__law_right f_law c_KeepError c_BadNumber c_BadWord c_BadCount c_NoPlace c_NoRoom c_NoSlot c_NoCell c_NoHand c_NothingHeld c_NoName c_NoDeed c_NoImage c_NoProgram t_NUMBERS_BEHIND : Addr} {oc_line_of kV_line_of dc_line_of pm_line_of cd_line_of ct_line_of oc_is_written kV_is_written dc_is_written pm_is_written cd_is_written ct_is_written oc__law_cell_at kV__law_cell_at dc__law_cell_at pm__law_cell_at cd__law_cell_at ct__law_cell_at oc__law_whole kV__law_whole dc__law_whole pm__law_whole cd__law_whole ct__law_whole oc__law_sign_by kV__law_sign_by dc__law_sign_by pm__law_sign_by cd__law_sign_by ct__law_sign_by oc__law_words kV__law_words dc__law_words pm__law_words cd__law_words ct__law_words oc__law_figures kV__law_figures dc__law_figures pm__law_figures cd__law_figures ct__law_figures oc__law_number_by kV__law_number_by dc__law_number_by pm__law_number_by cd__law_number_by ct__law_number_by oc__law_number kV__law_number dc__law_number pm__law_number cd__law_number ct__law_number oc_numbers_of kV_numbers_of dc_numbers_of pm_numbers_of cd_numbers_of ct_numbers_of oc__law_deed kV__law_deed dc__law_deed pm__law_deed cd__law_deed ct__law_deed oc__law_changed kV__law_changed dc__law_changed pm__law_changed cd__law_changed ct__law_changed oc_deed_of kV_deed_of dc_deed_of pm_deed_of cd_deed_of ct_deed_of oc__law_read kV__law_read dc__law_read pm__law_read cd__law_read ct__law_read oc__law_right kV__law_right dc__law_right pm__law_right cd__law_right ct__law_right oc_law kV_law dc_law pm_law cd_law ct_law : Value} {od_line_of an_line_of : Option Addr} {sl_line_of : Array (Option Value)} {od_is_written an_is_written : Option Addr} {sl_is_written : Array (Option Value)} {od__law_cell_at an__law_cell_at : Option Addr} {sl__law_cell_at : Array (Option Value)} {od__law_whole an__law_whole : Option Addr} {sl__law_whole : Array (Option Value)} {od__law_sign_by an__law_sign_by : Option Addr} {sl__law_sign_by : Array (Option Value)} {od__law_words an__law_words : Option Addr} {sl__law_words : Array (Option Value)} {od__law_figures an__law_figures : Option Addr} {sl__law_figures : Array (Option Value)} {od__law_number_by an__law_number_by : Option Addr} {sl__law_number_by : Array (Option Value)} {od__law_number an__law_number : Option Addr} {sl__law_number : Array (Option Value)} {od_numbers_of an_numbers_of : Option Addr} {sl_numbers_of : Array (Option Value)} {od__law_deed an__law_deed : Option Addr} {sl__law_deed : Array (Option Value)} {od__law_changed an__law_changed : Option Addr} {sl__law_changed : Array (Option Value)} {od_deed_of an_deed_of : Option Addr} {sl_deed_of : Array (Option Value)} {od__law_read an__law_read : Option Addr} {sl__law_read : Array (Option Value)} {od__law_right an__law_right : Option Addr} {sl__law_right : Array (Option Value)} {od_law an_law : Option Addr} {sl_law : Array (Option Value)} {t_FIGURES : Tok} {t_MOST_FIGURES : Tok}
    (X : K.In h) (G : h.Ns mainGlobals mg) (hfa : mg "law" = some (.ref fa))
    (g_KeepError : PySem.W.nsIn K mainGlobals "KeepError" = some (some (.ref c_KeepError)))
    (g_BadNumber : PySem.W.nsIn K mainGlobals "BadNumber" = some (some (.ref c_BadNumber)))
    (g_BadWord : PySem.W.nsIn K mainGlobals "BadWord" = some (some (.ref c_BadWord)))
    (g_BadCount : PySem.W.nsIn K mainGlobals "BadCount" = some (some (.ref c_BadCount)))
    (g_NoPlace : PySem.W.nsIn K mainGlobals "NoPlace" = some (some (.ref c_NoPlace)))
    (g_NoRoom : PySem.W.nsIn K mainGlobals "NoRoom" = some (some (.ref c_NoRoom)))
    (g_NoSlot : PySem.W.nsIn K mainGlobals "NoSlot" = some (some (.ref c_NoSlot)))
    (g_NoCell : PySem.W.nsIn K mainGlobals "NoCell" = some (some (.ref c_NoCell)))
    (g_NoHand : PySem.W.nsIn K mainGlobals "NoHand" = some (some (.ref c_NoHand)))
    (g_NothingHeld : PySem.W.nsIn K mainGlobals "NothingHeld" = some (some (.ref c_NothingHeld)))
    (g_NoName : PySem.W.nsIn K mainGlobals "NoName" = some (some (.ref c_NoName)))
    (g_NoDeed : PySem.W.nsIn K mainGlobals "NoDeed" = some (some (.ref c_NoDeed)))
    (g_NoImage : PySem.W.nsIn K mainGlobals "NoImage" = some (some (.ref c_NoImage)))
    (g_NoProgram : PySem.W.nsIn K mainGlobals "NoProgram" = some (some (.ref c_NoProgram)))
    (g_line_of : PySem.W.nsIn K mainGlobals "line_of" = some (some (.ref f_line_of)))
    (l_line_of : K.lookup f_line_of = some ⟨oc_line_of, od_line_of, .func (PySem.W.fnOf "line_of" "line_of" (defArgs s_line_of) (defBody s_line_of) (defScope s_line_of) .none kV_line_of dc_line_of pm_line_of an_line_of cd_line_of ct_line_of), sl_line_of⟩)
    (d_line_of : PySem.W.codeIn K cd_line_of "line_of" = true)
    (k_line_of : PySem.W.keepIn K (.ref f_line_of) = true)
    (g_is_written : PySem.W.nsIn K mainGlobals "is_written" = some (some (.ref f_is_written)))
    (l_is_written : K.lookup f_is_written = some ⟨oc_is_written, od_is_written, .func (PySem.W.fnOf "is_written" "is_written" (defArgs s_is_written) (defBody s_is_written) (defScope s_is_written) .none kV_is_written dc_is_written pm_is_written an_is_written cd_is_written ct_is_written), sl_is_written⟩)
    (d_is_written : PySem.W.codeIn K cd_is_written "is_written" = true)
    (k_is_written : PySem.W.keepIn K (.ref f_is_written) = true)
    (g__law_cell_at : PySem.W.nsIn K mainGlobals "_law_cell_at" = some (some (.ref f__law_cell_at)))
    (l__law_cell_at : K.lookup f__law_cell_at = some ⟨oc__law_cell_at, od__law_cell_at, .func (PySem.W.fnOf "_law_cell_at" "_law_cell_at" (defArgs s__law_cell_at) (defBody s__law_cell_at) (defScope s__law_cell_at) .none kV__law_cell_at dc__law_cell_at pm__law_cell_at an__law_cell_at cd__law_cell_at ct__law_cell_at), sl__law_cell_at⟩)
    (d__law_cell_at : PySem.W.codeIn K cd__law_cell_at "_law_cell_at" = true)
    (k__law_cell_at : PySem.W.keepIn K (.ref f__law_cell_at) = true)
    (g__law_whole : PySem.W.nsIn K mainGlobals "_law_whole" = some (some (.ref f__law_whole)))
    (l__law_whole : K.lookup f__law_whole = some ⟨oc__law_whole, od__law_whole, .func (PySem.W.fnOf "_law_whole" "_law_whole" (defArgs s__law_whole) (defBody s__law_whole) (defScope s__law_whole) .none kV__law_whole dc__law_whole pm__law_whole an__law_whole cd__law_whole ct__law_whole), sl__law_whole⟩)
    (d__law_whole : PySem.W.codeIn K cd__law_whole "_law_whole" = true)
    (k__law_whole : PySem.W.keepIn K (.ref f__law_whole) = true)
    (g__law_sign_by : PySem.W.nsIn K mainGlobals "_law_sign_by" = some (some (.ref f__law_sign_by)))
    (l__law_sign_by : K.lookup f__law_sign_by = some ⟨oc__law_sign_by, od__law_sign_by, .func (PySem.W.fnOf "_law_sign_by" "_law_sign_by" (defArgs s__law_sign_by) (defBody s__law_sign_by) (defScope s__law_sign_by) .none kV__law_sign_by dc__law_sign_by pm__law_sign_by an__law_sign_by cd__law_sign_by ct__law_sign_by), sl__law_sign_by⟩)
    (d__law_sign_by : PySem.W.codeIn K cd__law_sign_by "_law_sign_by" = true)
    (k__law_sign_by : PySem.W.keepIn K (.ref f__law_sign_by) = true)
    (g__law_words : PySem.W.nsIn K mainGlobals "_law_words" = some (some (.ref f__law_words)))
    (l__law_words : K.lookup f__law_words = some ⟨oc__law_words, od__law_words, .func (PySem.W.fnOf "_law_words" "_law_words" (defArgs s__law_words) (defBody s__law_words) (defScope s__law_words) .none kV__law_words dc__law_words pm__law_words an__law_words cd__law_words ct__law_words), sl__law_words⟩)
    (d__law_words : PySem.W.codeIn K cd__law_words "_law_words" = true)
    (k__law_words : PySem.W.keepIn K (.ref f__law_words) = true)
    (g__law_figures : PySem.W.nsIn K mainGlobals "_law_figures" = some (some (.ref f__law_figures)))
    (l__law_figures : K.lookup f__law_figures = some ⟨oc__law_figures, od__law_figures, .func (PySem.W.fnOf "_law_figures" "_law_figures" (defArgs s__law_figures) (defBody s__law_figures) (defScope s__law_figures) .none kV__law_figures dc__law_figures pm__law_figures an__law_figures cd__law_figures ct__law_figures), sl__law_figures⟩)
    (d__law_figures : PySem.W.codeIn K cd__law_figures "_law_figures" = true)
    (k__law_figures : PySem.W.keepIn K (.ref f__law_figures) = true)
    (g__law_number_by : PySem.W.nsIn K mainGlobals "_law_number_by" = some (some (.ref f__law_number_by)))
    (l__law_number_by : K.lookup f__law_number_by = some ⟨oc__law_number_by, od__law_number_by, .func (PySem.W.fnOf "_law_number_by" "_law_number_by" (defArgs s__law_number_by) (defBody s__law_number_by) (defScope s__law_number_by) .none kV__law_number_by dc__law_number_by pm__law_number_by an__law_number_by cd__law_number_by ct__law_number_by), sl__law_number_by⟩)
    (d__law_number_by : PySem.W.codeIn K cd__law_number_by "_law_number_by" = true)
    (k__law_number_by : PySem.W.keepIn K (.ref f__law_number_by) = true)
    (g__law_number : PySem.W.nsIn K mainGlobals "_law_number" = some (some (.ref f__law_number)))
    (l__law_number : K.lookup f__law_number = some ⟨oc__law_number, od__law_number, .func (PySem.W.fnOf "_law_number" "_law_number" (defArgs s__law_number) (defBody s__law_number) (defScope s__law_number) .none kV__law_number dc__law_number pm__law_number an__law_number cd__law_number ct__law_number), sl__law_number⟩)
    (d__law_number : PySem.W.codeIn K cd__law_number "_law_number" = true)
    (k__law_number : PySem.W.keepIn K (.ref f__law_number) = true)
    (g_numbers_of : PySem.W.nsIn K mainGlobals "numbers_of" = some (some (.ref f_numbers_of)))
    (l_numbers_of : K.lookup f_numbers_of = some ⟨oc_numbers_of, od_numbers_of, .func (PySem.W.fnOf "numbers_of" "numbers_of" (defArgs s_numbers_of) (defBody s_numbers_of) (defScope s_numbers_of) .none kV_numbers_of dc_numbers_of pm_numbers_of an_numbers_of cd_numbers_of ct_numbers_of), sl_numbers_of⟩)
    (d_numbers_of : PySem.W.codeIn K cd_numbers_of "numbers_of" = true)
    (k_numbers_of : PySem.W.keepIn K (.ref f_numbers_of) = true)
    (g__law_deed : PySem.W.nsIn K mainGlobals "_law_deed" = some (some (.ref f__law_deed)))
    (l__law_deed : K.lookup f__law_deed = some ⟨oc__law_deed, od__law_deed, .func (PySem.W.fnOf "_law_deed" "_law_deed" (defArgs s__law_deed) (defBody s__law_deed) (defScope s__law_deed) .none kV__law_deed dc__law_deed pm__law_deed an__law_deed cd__law_deed ct__law_deed), sl__law_deed⟩)
    (d__law_deed : PySem.W.codeIn K cd__law_deed "_law_deed" = true)
    (k__law_deed : PySem.W.keepIn K (.ref f__law_deed) = true)
    (g__law_changed : PySem.W.nsIn K mainGlobals "_law_changed" = some (some (.ref f__law_changed)))
    (l__law_changed : K.lookup f__law_changed = some ⟨oc__law_changed, od__law_changed, .func (PySem.W.fnOf "_law_changed" "_law_changed" (defArgs s__law_changed) (defBody s__law_changed) (defScope s__law_changed) .none kV__law_changed dc__law_changed pm__law_changed an__law_changed cd__law_changed ct__law_changed), sl__law_changed⟩)
    (d__law_changed : PySem.W.codeIn K cd__law_changed "_law_changed" = true)
    (k__law_changed : PySem.W.keepIn K (.ref f__law_changed) = true)
    (g_deed_of : PySem.W.nsIn K mainGlobals "deed_of" = some (some (.ref f_deed_of)))
    (l_deed_of : K.lookup f_deed_of = some ⟨oc_deed_of, od_deed_of, .func (PySem.W.fnOf "deed_of" "deed_of" (defArgs s_deed_of) (defBody s_deed_of) (defScope s_deed_of) .none kV_deed_of dc_deed_of pm_deed_of an_deed_of cd_deed_of ct_deed_of), sl_deed_of⟩)
    (d_deed_of : PySem.W.codeIn K cd_deed_of "deed_of" = true)
    (k_deed_of : PySem.W.keepIn K (.ref f_deed_of) = true)
    (g__law_read : PySem.W.nsIn K mainGlobals "_law_read" = some (some (.ref f__law_read)))
    (l__law_read : K.lookup f__law_read = some ⟨oc__law_read, od__law_read, .func (PySem.W.fnOf "_law_read" "_law_read" (defArgs s__law_read) (defBody s__law_read) (defScope s__law_read) .none kV__law_read dc__law_read pm__law_read an__law_read cd__law_read ct__law_read), sl__law_read⟩)
    (d__law_read : PySem.W.codeIn K cd__law_read "_law_read" = true)
    (k__law_read : PySem.W.keepIn K (.ref f__law_read) = true)
    (g__law_right : PySem.W.nsIn K mainGlobals "_law_right" = some (some (.ref f__law_right)))
    (l__law_right : K.lookup f__law_right = some ⟨oc__law_right, od__law_right, .func (PySem.W.fnOf "_law_right" "_law_right" (defArgs s__law_right) (defBody s__law_right) (defScope s__law_right) .none kV__law_right dc__law_right pm__law_right an__law_right cd__law_right ct__law_right), sl__law_right⟩)
    (d__law_right : PySem.W.codeIn K cd__law_right "_law_right" = true)
    (k__law_right : PySem.W.keepIn K (.ref f__law_right) = true)
    (g_law : PySem.W.nsIn K mainGlobals "law" = some (some (.ref f_law)))
    (l_law : K.lookup f_law = some ⟨oc_law, od_law, .func (PySem.W.fnOf "law" "law" (defArgs s_law) (defBody s_law) (defScope s_law) .none kV_law dc_law pm_law an_law cd_law ct_law), sl_law⟩)
    (d_law : PySem.W.codeIn K cd_law "law" = true)
    (k_law : PySem.W.keepIn K (.ref f_law) = true)
    (v_NUMBERS_BEHIND : PySem.W.nsIn K mainGlobals "NUMBERS_BEHIND" = some (some (.ref t_NUMBERS_BEHIND)))
    (lk_NUMBERS_BEHIND : PyProof.Rows.KTD.tabLook PyProof.Rows.KTD.flatLooks (fun b => K.lookup b) t_NUMBERS_BEHIND [(Str.ofString "make", PyData.int 2), (Str.ofString "keep", PyData.int 2), (Str.ofString "share", PyData.int 2), (Str.ofString "drop", PyData.int 1), (Str.ofString "read", PyData.int 1), (Str.ofString "take", PyData.int 3), (Str.ofString "put", PyData.int 3), (Str.ofString "name", PyData.int 1), (Str.ofString "find", PyData.int 2), (Str.ofString "last", PyData.int 2), (Str.ofString "young", PyData.int 0), (Str.ofString "all", PyData.int 0), (Str.ofString "said", PyData.int 0)] = true)
    (hs_NUMBERS_BEHIND : PyProof.Rows.KTD.hashesOf (fun b => K.lookup b) t_NUMBERS_BEHIND = [hashStr w (Str.ofString "make"), hashStr w (Str.ofString "keep"), hashStr w (Str.ofString "share"), hashStr w (Str.ofString "drop"), hashStr w (Str.ofString "read"), hashStr w (Str.ofString "take"), hashStr w (Str.ofString "put"), hashStr w (Str.ofString "name"), hashStr w (Str.ofString "find"), hashStr w (Str.ofString "last"), hashStr w (Str.ofString "young"), hashStr w (Str.ofString "all"), hashStr w (Str.ofString "said")])
    (v_FIGURES : PySem.W.nsIn K mainGlobals "FIGURES" = some (some (.str "0123456789" t_FIGURES)))
    (v_MOST_FIGURES : PySem.W.nsIn K mainGlobals "MOST_FIGURES" = some (some (.int (60) t_MOST_FIGURES)))
    (x_NoDeed : PySem.W.excIn K c_NoDeed bmV "ValueError.__new__" = true)
    (kiga_NoDeed : PySem.W.findIn K (.ref c_NoDeed) "__getattribute__" = some (some (.builtin "BaseException.__getattribute__")))
    (kigt_NoDeed : PySem.W.findIn K (.ref c_NoDeed) "__getattr__" = some none)
    (kicl_NoDeed : PySem.W.findIn K (.ref c_NoDeed) "__class__" = some (some (.builtin "object.__class__")))
    (kimb_NoDeed : PySem.W.mroIn K c_NoDeed (.type "BaseException") = some true)
    (kimo_NoDeed : PySem.W.mroIn K c_NoDeed (.type "object") = some true)
    (em_NoDeed_KeepError : PySem.W.exmOne K (.ref c_NoDeed) (.ref c_KeepError) = some true)
    (k2_NoDeed_BadCount : PySem.W.kitOne K (.ref c_NoDeed) (.ref c_BadCount) = some false)
    (k2_NoDeed_BadNumber : PySem.W.kitOne K (.ref c_NoDeed) (.ref c_BadNumber) = some false)
    (k2_NoDeed_BadWord : PySem.W.kitOne K (.ref c_NoDeed) (.ref c_BadWord) = some false)
    (k2_NoDeed_NoCell : PySem.W.kitOne K (.ref c_NoDeed) (.ref c_NoCell) = some false)
    (k2_NoDeed_NoHand : PySem.W.kitOne K (.ref c_NoDeed) (.ref c_NoHand) = some false)
    (k2_NoDeed_NoImage : PySem.W.kitOne K (.ref c_NoDeed) (.ref c_NoImage) = some false)
    (k2_NoDeed_NoName : PySem.W.kitOne K (.ref c_NoDeed) (.ref c_NoName) = some false)
    (k2_NoDeed_NoPlace : PySem.W.kitOne K (.ref c_NoDeed) (.ref c_NoPlace) = some false)
    (k2_NoDeed_NoProgram : PySem.W.kitOne K (.ref c_NoDeed) (.ref c_NoProgram) = some false)
    (k2_NoDeed_NoRoom : PySem.W.kitOne K (.ref c_NoDeed) (.ref c_NoRoom) = some false)
    (k2_NoDeed_NoSlot : PySem.W.kitOne K (.ref c_NoDeed) (.ref c_NoSlot) = some false)
    (k2_NoDeed_NothingHeld : PySem.W.kitOne K (.ref c_NoDeed) (.ref c_NothingHeld) = some false)
    (k2_NoDeed_NoDeed : PySem.W.kitOne K (.ref c_NoDeed) (.ref c_NoDeed) = some true)
    (k2_NoDeed_ValueError : PySem.W.kitOne K (.ref c_NoDeed) (.type "ValueError") = some true)
    (kihn : PySem.W.specialIn K (.builtin "object.__class__") "__get__" = some (some (.builtin "getset_descriptor.__get__")))
    (kitk : PySem.W.takesIn K (.builtin "object.__class__") = some true)
    (kt_NoneType_int : PySem.W.kitOne K (.type "NoneType") (.type "int") = some false)
    (kt_NoneType_bool : PySem.W.kitOne K (.type "NoneType") (.type "bool") = some false)
    (kt_NoneType_tuple : PySem.W.kitOne K (.type "NoneType") (.type "tuple") = some false)
    (kt_NoneType_str : PySem.W.kitOne K (.type "NoneType") (.type "str") = some false)
    (kt_bool_int : PySem.W.kitOne K (.type "bool") (.type "int") = some true)
    (kt_bool_bool : PySem.W.kitOne K (.type "bool") (.type "bool") = some true)
    (kt_bool_tuple : PySem.W.kitOne K (.type "bool") (.type "tuple") = some false)
    (kt_bool_str : PySem.W.kitOne K (.type "bool") (.type "str") = some false)
    (kt_int_int : PySem.W.kitOne K (.type "int") (.type "int") = some true)
    (kt_int_bool : PySem.W.kitOne K (.type "int") (.type "bool") = some false)
    (kt_int_tuple : PySem.W.kitOne K (.type "int") (.type "tuple") = some false)
    (kt_int_str : PySem.W.kitOne K (.type "int") (.type "str") = some false)
    (kt_str_int : PySem.W.kitOne K (.type "str") (.type "int") = some false)
    (kt_str_bool : PySem.W.kitOne K (.type "str") (.type "bool") = some false)
    (kt_str_tuple : PySem.W.kitOne K (.type "str") (.type "tuple") = some false)
    (kt_str_str : PySem.W.kitOne K (.type "str") (.type "str") = some true)
    (kt_list_int : PySem.W.kitOne K (.type "list") (.type "int") = some false)
    (kt_list_bool : PySem.W.kitOne K (.type "list") (.type "bool") = some false)
    (kt_list_tuple : PySem.W.kitOne K (.type "list") (.type "tuple") = some false)
    (kt_list_str : PySem.W.kitOne K (.type "list") (.type "str") = some false)
    (kt_tuple_int : PySem.W.kitOne K (.type "tuple") (.type "int") = some false)
    (kt_tuple_bool : PySem.W.kitOne K (.type "tuple") (.type "bool") = some false)
    (kt_tuple_tuple : PySem.W.kitOne K (.type "tuple") (.type "tuple") = some true)
    (kt_tuple_str : PySem.W.kitOne K (.type "tuple") (.type "str") = some false)
    (kt_dict_int : PySem.W.kitOne K (.type "dict") (.type "int") = some false)
    (kt_dict_bool : PySem.W.kitOne K (.type "dict") (.type "bool") = some false)
    (kt_dict_tuple : PySem.W.kitOne K (.type "dict") (.type "tuple") = some false)
    (kt_dict_str : PySem.W.kitOne K (.type "dict") (.type "str") = some false)
    (n_ValueError : PySem.W.nsIn K mainGlobals "ValueError" = some none)
    (n_abs : PySem.W.nsIn K mainGlobals "abs" = some none)
    (n_all : PySem.W.nsIn K mainGlobals "all" = some none)
    (n_bool : PySem.W.nsIn K mainGlobals "bool" = some none)
    (n_int : PySem.W.nsIn K mainGlobals "int" = some none)
    (n_isinstance : PySem.W.nsIn K mainGlobals "isinstance" = some none)
    (n_len : PySem.W.nsIn K mainGlobals "len" = some none)
    (n_range : PySem.W.nsIn K mainGlobals "range" = some none)
    (n_str : PySem.W.nsIn K mainGlobals "str" = some none)
    (n_tuple : PySem.W.nsIn K mainGlobals "tuple" = some none)
    : ∃ fd : FuncData, (∀ (s : Shared) (v : Value), BindsTo s fd ⟨[v], []⟩ [("_law_script", v)]) ∧ ∀ base : Heap, K.In base → base.Ns mainGlobals mg → FnOk l.prog w K mg base (CXE l.prog w) true 6 fa fd ["_law_script"] (sp_law K) := by
  have e := hfa.symm.trans (PySem.W.mg_of X G g_law)
  cases e
  let A : Ad := ⟨f_line_of, (PySem.W.fnOf "line_of" "line_of" (defArgs s_line_of) (defBody s_line_of) (defScope s_line_of) .none kV_line_of dc_line_of pm_line_of an_line_of cd_line_of ct_line_of), f_is_written, (PySem.W.fnOf "is_written" "is_written" (defArgs s_is_written) (defBody s_is_written) (defScope s_is_written) .none kV_is_written dc_is_written pm_is_written an_is_written cd_is_written ct_is_written), f__law_cell_at, (PySem.W.fnOf "_law_cell_at" "_law_cell_at" (defArgs s__law_cell_at) (defBody s__law_cell_at) (defScope s__law_cell_at) .none kV__law_cell_at dc__law_cell_at pm__law_cell_at an__law_cell_at cd__law_cell_at ct__law_cell_at), f__law_whole, (PySem.W.fnOf "_law_whole" "_law_whole" (defArgs s__law_whole) (defBody s__law_whole) (defScope s__law_whole) .none kV__law_whole dc__law_whole pm__law_whole an__law_whole cd__law_whole ct__law_whole), f__law_sign_by, (PySem.W.fnOf "_law_sign_by" "_law_sign_by" (defArgs s__law_sign_by) (defBody s__law_sign_by) (defScope s__law_sign_by) .none kV__law_sign_by dc__law_sign_by pm__law_sign_by an__law_sign_by cd__law_sign_by ct__law_sign_by), f__law_words, (PySem.W.fnOf "_law_words" "_law_words" (defArgs s__law_words) (defBody s__law_words) (defScope s__law_words) .none kV__law_words dc__law_words pm__law_words an__law_words cd__law_words ct__law_words), f__law_figures, (PySem.W.fnOf "_law_figures" "_law_figures" (defArgs s__law_figures) (defBody s__law_figures) (defScope s__law_figures) .none kV__law_figures dc__law_figures pm__law_figures an__law_figures cd__law_figures ct__law_figures), f__law_number_by, (PySem.W.fnOf "_law_number_by" "_law_number_by" (defArgs s__law_number_by) (defBody s__law_number_by) (defScope s__law_number_by) .none kV__law_number_by dc__law_number_by pm__law_number_by an__law_number_by cd__law_number_by ct__law_number_by), f__law_number, (PySem.W.fnOf "_law_number" "_law_number" (defArgs s__law_number) (defBody s__law_number) (defScope s__law_number) .none kV__law_number dc__law_number pm__law_number an__law_number cd__law_number ct__law_number), f_numbers_of, (PySem.W.fnOf "numbers_of" "numbers_of" (defArgs s_numbers_of) (defBody s_numbers_of) (defScope s_numbers_of) .none kV_numbers_of dc_numbers_of pm_numbers_of an_numbers_of cd_numbers_of ct_numbers_of), f__law_deed, (PySem.W.fnOf "_law_deed" "_law_deed" (defArgs s__law_deed) (defBody s__law_deed) (defScope s__law_deed) .none kV__law_deed dc__law_deed pm__law_deed an__law_deed cd__law_deed ct__law_deed), f__law_changed, (PySem.W.fnOf "_law_changed" "_law_changed" (defArgs s__law_changed) (defBody s__law_changed) (defScope s__law_changed) .none kV__law_changed dc__law_changed pm__law_changed an__law_changed cd__law_changed ct__law_changed), f_deed_of, (PySem.W.fnOf "deed_of" "deed_of" (defArgs s_deed_of) (defBody s_deed_of) (defScope s_deed_of) .none kV_deed_of dc_deed_of pm_deed_of an_deed_of cd_deed_of ct_deed_of), f__law_read, (PySem.W.fnOf "_law_read" "_law_read" (defArgs s__law_read) (defBody s__law_read) (defScope s__law_read) .none kV__law_read dc__law_read pm__law_read an__law_read cd__law_read ct__law_read), f__law_right, (PySem.W.fnOf "_law_right" "_law_right" (defArgs s__law_right) (defBody s__law_right) (defScope s__law_right) .none kV__law_right dc__law_right pm__law_right an__law_right cd__law_right ct__law_right), fa, (PySem.W.fnOf "law" "law" (defArgs s_law) (defBody s_law) (defScope s_law) .none kV_law dc_law pm_law an_law cd_law ct_law), c_KeepError, c_BadNumber, c_BadWord, c_BadCount, c_NoPlace, c_NoRoom, c_NoSlot, c_NoCell, c_NoHand, c_NothingHeld, c_NoName, c_NoDeed, c_NoImage, c_NoProgram, t_NUMBERS_BEHIND⟩
  have T : Txt w K mg A := {
    g_KeepError := PySem.W.mg_of X G g_KeepError,
    g_BadNumber := PySem.W.mg_of X G g_BadNumber,
    g_BadWord := PySem.W.mg_of X G g_BadWord,
    g_BadCount := PySem.W.mg_of X G g_BadCount,
    g_NoPlace := PySem.W.mg_of X G g_NoPlace,
    g_NoRoom := PySem.W.mg_of X G g_NoRoom,
    g_NoSlot := PySem.W.mg_of X G g_NoSlot,
    g_NoCell := PySem.W.mg_of X G g_NoCell,
    g_NoHand := PySem.W.mg_of X G g_NoHand,
    g_NothingHeld := PySem.W.mg_of X G g_NothingHeld,
    g_NoName := PySem.W.mg_of X G g_NoName,
    g_NoDeed := PySem.W.mg_of X G g_NoDeed,
    g_NoImage := PySem.W.mg_of X G g_NoImage,
    g_NoProgram := PySem.W.mg_of X G g_NoProgram,
    v_KeepError := ⟨_, PySem.W.mg_of X G g_KeepError, rfl⟩,
    v_BadNumber := ⟨_, PySem.W.mg_of X G g_BadNumber, rfl⟩,
    v_BadWord := ⟨_, PySem.W.mg_of X G g_BadWord, rfl⟩,
    v_BadCount := ⟨_, PySem.W.mg_of X G g_BadCount, rfl⟩,
    v_NoPlace := ⟨_, PySem.W.mg_of X G g_NoPlace, rfl⟩,
    v_NoRoom := ⟨_, PySem.W.mg_of X G g_NoRoom, rfl⟩,
    v_NoSlot := ⟨_, PySem.W.mg_of X G g_NoSlot, rfl⟩,
    v_NoCell := ⟨_, PySem.W.mg_of X G g_NoCell, rfl⟩,
    v_NoHand := ⟨_, PySem.W.mg_of X G g_NoHand, rfl⟩,
    v_NothingHeld := ⟨_, PySem.W.mg_of X G g_NothingHeld, rfl⟩,
    v_NoName := ⟨_, PySem.W.mg_of X G g_NoName, rfl⟩,
    v_NoDeed := ⟨_, PySem.W.mg_of X G g_NoDeed, rfl⟩,
    v_NoImage := ⟨_, PySem.W.mg_of X G g_NoImage, rfl⟩,
    v_NoProgram := ⟨_, PySem.W.mg_of X G g_NoProgram, rfl⟩,
    g_line_of := PySem.W.mg_of X G g_line_of,
    fn_line_of := fun_mk (st := s_line_of) l_line_of d_line_of k_line_of,
    b_line_of := (fun_mk (st := s_line_of) l_line_of d_line_of k_line_of).binds (ps := ["deed"]) fun _ _ _ _ _ _ us hl => match us, hl with | [_], _ => rfl,
    g_is_written := PySem.W.mg_of X G g_is_written,
    fn_is_written := fun_mk (st := s_is_written) l_is_written d_is_written k_is_written,
    b_is_written := (fun_mk (st := s_is_written) l_is_written d_is_written k_is_written).binds (ps := ["text"]) fun _ _ _ _ _ _ us hl => match us, hl with | [_], _ => rfl,
    g__law_cell_at := PySem.W.mg_of X G g__law_cell_at,
    fn__law_cell_at := fun_mk (st := s__law_cell_at) l__law_cell_at d__law_cell_at k__law_cell_at,
    b__law_cell_at := (fun_mk (st := s__law_cell_at) l__law_cell_at d__law_cell_at k__law_cell_at).binds (ps := ["_law_script", "_law_k"]) fun _ _ _ _ _ _ us hl => match us, hl with | [_, _], _ => rfl,
    g__law_whole := PySem.W.mg_of X G g__law_whole,
    fn__law_whole := fun_mk (st := s__law_whole) l__law_whole d__law_whole k__law_whole,
    b__law_whole := (fun_mk (st := s__law_whole) l__law_whole d__law_whole k__law_whole).binds (ps := ["_law_found"]) fun _ _ _ _ _ _ us hl => match us, hl with | [_], _ => rfl,
    g__law_sign_by := PySem.W.mg_of X G g__law_sign_by,
    fn__law_sign_by := fun_mk (st := s__law_sign_by) l__law_sign_by d__law_sign_by k__law_sign_by,
    b__law_sign_by := (fun_mk (st := s__law_sign_by) l__law_sign_by d__law_sign_by k__law_sign_by).binds (ps := ["_law_cell"]) fun _ _ _ _ _ _ us hl => match us, hl with | [_], _ => rfl,
    g__law_words := PySem.W.mg_of X G g__law_words,
    fn__law_words := fun_mk (st := s__law_words) l__law_words d__law_words k__law_words,
    b__law_words := (fun_mk (st := s__law_words) l__law_words d__law_words k__law_words).binds (ps := []) fun _ _ _ _ _ _ us hl => match us, hl with | [], _ => rfl,
    g__law_figures := PySem.W.mg_of X G g__law_figures,
    fn__law_figures := fun_mk (st := s__law_figures) l__law_figures d__law_figures k__law_figures,
    b__law_figures := (fun_mk (st := s__law_figures) l__law_figures d__law_figures k__law_figures).binds (ps := ["_law_number_here"]) fun _ _ _ _ _ _ us hl => match us, hl with | [_], _ => rfl,
    g__law_number_by := PySem.W.mg_of X G g__law_number_by,
    fn__law_number_by := fun_mk (st := s__law_number_by) l__law_number_by d__law_number_by k__law_number_by,
    b__law_number_by := (fun_mk (st := s__law_number_by) l__law_number_by d__law_number_by k__law_number_by).binds (ps := ["_law_cell"]) fun _ _ _ _ _ _ us hl => match us, hl with | [_], _ => rfl,
    g__law_number := PySem.W.mg_of X G g__law_number,
    fn__law_number := fun_mk (st := s__law_number) l__law_number d__law_number k__law_number,
    b__law_number := (fun_mk (st := s__law_number) l__law_number d__law_number k__law_number).binds (ps := ["_law_part"]) fun _ _ _ _ _ _ us hl => match us, hl with | [_], _ => rfl,
    g_numbers_of := PySem.W.mg_of X G g_numbers_of,
    fn_numbers_of := fun_mk (st := s_numbers_of) l_numbers_of d_numbers_of k_numbers_of,
    b_numbers_of := (fun_mk (st := s_numbers_of) l_numbers_of d_numbers_of k_numbers_of).binds (ps := ["texts"]) fun _ _ _ _ _ _ us hl => match us, hl with | [_], _ => rfl,
    g__law_deed := PySem.W.mg_of X G g__law_deed,
    fn__law_deed := fun_mk (st := s__law_deed) l__law_deed d__law_deed k__law_deed,
    b__law_deed := (fun_mk (st := s__law_deed) l__law_deed d__law_deed k__law_deed).binds (ps := ["_law_line"]) fun _ _ _ _ _ _ us hl => match us, hl with | [_], _ => rfl,
    g__law_changed := PySem.W.mg_of X G g__law_changed,
    fn__law_changed := fun_mk (st := s__law_changed) l__law_changed d__law_changed k__law_changed,
    b__law_changed := (fun_mk (st := s__law_changed) l__law_changed d__law_changed k__law_changed).binds (ps := ["_law_line", "_law_cell", "_law_more"]) fun _ _ _ _ _ _ us hl => match us, hl with | [_, _, _], _ => rfl,
    g_deed_of := PySem.W.mg_of X G g_deed_of,
    fn_deed_of := fun_mk (st := s_deed_of) l_deed_of d_deed_of k_deed_of,
    b_deed_of := (fun_mk (st := s_deed_of) l_deed_of d_deed_of k_deed_of).binds (ps := ["line"]) fun _ _ _ _ _ _ us hl => match us, hl with | [_], _ => rfl,
    g__law_read := PySem.W.mg_of X G g__law_read,
    fn__law_read := fun_mk (st := s__law_read) l__law_read d__law_read k__law_read,
    b__law_read := (fun_mk (st := s__law_read) l__law_read d__law_read k__law_read).binds (ps := ["_law_line"]) fun _ _ _ _ _ _ us hl => match us, hl with | [_], _ => rfl,
    g__law_right := PySem.W.mg_of X G g__law_right,
    fn__law_right := fun_mk (st := s__law_right) l__law_right d__law_right k__law_right,
    b__law_right := (fun_mk (st := s__law_right) l__law_right d__law_right k__law_right).binds (ps := ["_law_line", "_law_due"]) fun _ _ _ _ _ _ us hl => match us, hl with | [_, _], _ => rfl,
    g_law := PySem.W.mg_of X G g_law,
    fn_law := fun_mk (st := s_law) l_law d_law k_law,
    b_law := (fun_mk (st := s_law) l_law d_law k_law).binds (ps := ["_law_script"]) fun _ _ _ _ _ _ us hl => match us, hl with | [_], _ => rfl,
    v_NUMBERS_BEHIND := ⟨_, PySem.W.mg_of X G v_NUMBERS_BEHIND, rfl⟩,
    tb_NUMBERS_BEHIND := ⟨lk_NUMBERS_BEHIND, by decide +kernel, hs_NUMBERS_BEHIND⟩,
    v_FIGURES := ⟨_, PySem.W.mg_of X G v_FIGURES, ⟨_, rfl⟩⟩,
    v_MOST_FIGURES := ⟨_, PySem.W.mg_of X G v_MOST_FIGURES, ⟨_, rfl⟩⟩,
    x_NoDeed := x_NoDeed,
    ki_NoDeed := ⟨kiga_NoDeed, kigt_NoDeed, kicl_NoDeed, kihn, kitk, kimb_NoDeed, kimo_NoDeed⟩,
    em_NoDeed_KeepError := em_NoDeed_KeepError,
    k2_NoDeed_BadCount := k2_NoDeed_BadCount,
    k2_NoDeed_BadNumber := k2_NoDeed_BadNumber,
    k2_NoDeed_BadWord := k2_NoDeed_BadWord,
    k2_NoDeed_NoCell := k2_NoDeed_NoCell,
    k2_NoDeed_NoHand := k2_NoDeed_NoHand,
    k2_NoDeed_NoImage := k2_NoDeed_NoImage,
    k2_NoDeed_NoName := k2_NoDeed_NoName,
    k2_NoDeed_NoPlace := k2_NoDeed_NoPlace,
    k2_NoDeed_NoProgram := k2_NoDeed_NoProgram,
    k2_NoDeed_NoRoom := k2_NoDeed_NoRoom,
    k2_NoDeed_NoSlot := k2_NoDeed_NoSlot,
    k2_NoDeed_NothingHeld := k2_NoDeed_NothingHeld,
    k2_NoDeed_NoDeed := k2_NoDeed_NoDeed,
    k2_NoDeed_ValueError := k2_NoDeed_ValueError,
    kt_NoneType_int := kt_NoneType_int,
    kt_NoneType_bool := kt_NoneType_bool,
    kt_NoneType_tuple := kt_NoneType_tuple,
    kt_NoneType_str := kt_NoneType_str,
    kt_bool_int := kt_bool_int,
    kt_bool_bool := kt_bool_bool,
    kt_bool_tuple := kt_bool_tuple,
    kt_bool_str := kt_bool_str,
    kt_int_int := kt_int_int,
    kt_int_bool := kt_int_bool,
    kt_int_tuple := kt_int_tuple,
    kt_int_str := kt_int_str,
    kt_str_int := kt_str_int,
    kt_str_bool := kt_str_bool,
    kt_str_tuple := kt_str_tuple,
    kt_str_str := kt_str_str,
    kt_list_int := kt_list_int,
    kt_list_bool := kt_list_bool,
    kt_list_tuple := kt_list_tuple,
    kt_list_str := kt_list_str,
    kt_tuple_int := kt_tuple_int,
    kt_tuple_bool := kt_tuple_bool,
    kt_tuple_tuple := kt_tuple_tuple,
    kt_tuple_str := kt_tuple_str,
    kt_dict_int := kt_dict_int,
    kt_dict_bool := kt_dict_bool,
    kt_dict_tuple := kt_dict_tuple,
    kt_dict_str := kt_dict_str,
    n_ValueError := PySem.W.mg_none_of X G n_ValueError,
    n_abs := PySem.W.mg_none_of X G n_abs,
    n_all := PySem.W.mg_none_of X G n_all,
    n_bool := PySem.W.mg_none_of X G n_bool,
    n_int := PySem.W.mg_none_of X G n_int,
    n_isinstance := PySem.W.mg_none_of X G n_isinstance,
    n_len := PySem.W.mg_none_of X G n_len,
    n_range := PySem.W.mg_none_of X G n_range,
    n_str := PySem.W.mg_none_of X G n_str,
    n_tuple := PySem.W.mg_none_of X G n_tuple }
  exact ⟨_, fun s v => .of_eq rfl, fun base _ _ => ok_law T⟩
theorem walk {l : PySem.W.OpenLaw} {q : Program} {loose : List Str} {XP : (Str → Option Value) → Heap → Prop} {YP : World → Heap → Prop} {d : DefRec} {K : Params → PySem.W.Frag} (hn : l.most = some 63) (hdf : d.params.defaults = [])
    (hY : ∀ (w : World) (h : Heap), YP w h → (K w.params).In h)
    (F : ∀ (w : World) (mg : Str → Option Value) (fa : Addr) (h : Heap), (K w.params).In h → h.Ns mainGlobals mg → mg d.name = some (.ref fa) →
      ∃ fd : FuncData, (∀ (s : Shared) (u : Value), BindsTo s fd ⟨[u], []⟩ [("_law_script", u)]) ∧ ∀ base : Heap, (K w.params).In base → base.Ns mainGlobals mg → FnOk l.prog w (K w.params) mg base (CXE l.prog w) true 6 fa fd ["_law_script"] (sp_law (K w.params))) :
    PySem.W.WalkO q loose XP YP l.row.toRowW d [] (fun f vs => PySem.call f vs) :=
  L2.walk_of (n := 63) (k := 6) (x := "_law_script") (ca := true) (CX := fun w => CXE l.prog w) (sp := fun w => sp_law (K w.params)) hn (by decide) hdf ⟨fun _ => rfl, by decide, by decide⟩ hY F (fun _ _ a ns hl _ hS => ⟨a, ns, rfl, hS, hl, fun _ => rfl⟩)
    fun _ _ _ _ _ ⟨_, _, _, _, _, _, _, _, _, _, _, _, z⟩ => z
theorem walkZ {l : PySem.W.OpenLaw} {q : Program} {loose : List Str} {XP : (Str → Option Value) → Heap → Prop} {d : DefRec} {K : Params → PySem.W.Frag} (hn : l.most = some 63) (hdf : d.params.defaults = [])
    (F : ∀ (w : World) (mg : Str → Option Value) (fa : Addr) (h : Heap), (K w.params).In h → h.Ns mainGlobals mg → mg d.name = some (.ref fa) →
      ∃ fd : FuncData, (∀ (s : Shared) (u : Value), BindsTo s fd ⟨[u], []⟩ [("_law_script", u)]) ∧ ∀ base : Heap, (K w.params).In base → base.Ns mainGlobals mg → FnOk l.prog w (K w.params) mg base (CXE l.prog w) true 6 fa fd ["_law_script"] (sp_law (K w.params))) :
    PySem.W.WalkO q loose XP (PySem.W.InK K) l.row.toRowW d [] (fun f vs => PySem.call f vs) := walk hn hdf (fun _ _ Y => Y) F
end
end K22
def PySem.W.Fast.tw1460215117774376861 : Unit := ()
def PySem.W.Fast.tw6543308321064944277 : Unit := ()
def PySem.W.Fast.tw12038769949337975191 : Unit := ()
def PySem.W.Fast.tw16655142188397268620 : Unit := ()
def PySem.W.Fast.tw1373362024401481759 : Unit := ()
def PySem.W.Fast.tw14102504578707606824 : Unit := ()
def PySem.W.Fast.tw5677891037964804929 : Unit := ()
def PySem.W.Fast.tw5135904237458710805 : Unit := ()
def PySem.W.Fast.tw14771123365117214279 : Unit := ()
def PySem.W.Fast.tw10503348986254641129 : Unit := ()
def PySem.W.Fast.tw3033503520836420130 : Unit := ()
def PySem.W.Fast.tw6884779947292968260 : Unit := ()
def PySem.W.Fast.tw16138974227976635865 : Unit := ()
def PySem.W.Fast.tw3160383836515835382 : Unit := ()
def PySem.W.Fast.tw4815312282709040769 : Unit := ()
def PySem.W.Fast.tw18277691730126881962 : Unit := ()
def PySem.W.Fast.tw12592353249367281826 : Unit := ()
def PySem.W.Fast.tw18008886784698387407 : Unit := ()
def PySem.W.Fast.tw11906966801309014317 : Unit := ()
def PySem.W.Fast.tw1697492972282612492 : Unit := ()
open PySem PySem.W PySem.W.X PySem.W.ZRun PyProof.Rows
set_option maxRecDepth 100000 in
set_option maxHeartbeats 0 in
theorem PySem.Challenge.cw_cellkeep_k22_notes_holds : PySem.Challenge.rw_cellkeep_k22_notes.Holds := by
  w_on; o_law; z_head; (case hw => w_witness2)
  k_fill
  intro w s₀ s₁ mg mb G y fa o pm cd doc dV kV ho hd hcd hD hmg hg args vals as L hpre hlay hrd hwl hlo
  z_open y L KX ZH ZN ZT
  refine K22.walkZ (l := PySem.Challenge.rw_cellkeep_k22_notes) rfl rfl ?F w s₀ s₁ mg mb G KX fa o pm cd doc dV kV ho hd hcd hD hmg hg args vals as hpre hlay hrd hwl hlo
  case F =>
    intro w mg fa h KX G hmg
    refine' K22.all_mk KX G hmg ?g_KeepError ?g_BadNumber ?g_BadWord ?g_BadCount ?g_NoPlace ?g_NoRoom ?g_NoSlot ?g_NoCell ?g_NoHand ?g_NothingHeld ?g_NoName ?g_NoDeed ?g_NoImage ?g_NoProgram ?g_line_of ?l_line_of ?d_line_of ?k_line_of ?g_is_written ?l_is_written ?d_is_written ?k_is_written ?g__law_cell_at ?l__law_cell_at ?d__law_cell_at ?k__law_cell_at ?g__law_whole ?l__law_whole ?d__law_whole ?k__law_whole ?g__law_sign_by ?l__law_sign_by ?d__law_sign_by ?k__law_sign_by ?g__law_words ?l__law_words ?d__law_words ?k__law_words ?g__law_figures ?l__law_figures ?d__law_figures ?k__law_figures ?g__law_number_by ?l__law_number_by ?d__law_number_by ?k__law_number_by ?g__law_number ?l__law_number ?d__law_number ?k__law_number ?g_numbers_of ?l_numbers_of ?d_numbers_of ?k_numbers_of ?g__law_deed ?l__law_deed ?d__law_deed ?k__law_deed ?g__law_changed ?l__law_changed ?d__law_changed ?k__law_changed ?g_deed_of ?l_deed_of ?d_deed_of ?k_deed_of ?g__law_read ?l__law_read ?d__law_read ?k__law_read ?g__law_right ?l__law_right ?d__law_right ?k__law_right ?g_law ?l_law ?d_law ?k_law ?v_NUMBERS_BEHIND ?lk_NUMBERS_BEHIND ?hs_NUMBERS_BEHIND ?v_FIGURES ?v_MOST_FIGURES ?x_NoDeed ?kiga_NoDeed ?kigt_NoDeed ?kicl_NoDeed ?kimb_NoDeed ?kimo_NoDeed ?em_NoDeed_KeepError ?k2_NoDeed_BadCount ?k2_NoDeed_BadNumber ?k2_NoDeed_BadWord ?k2_NoDeed_NoCell ?k2_NoDeed_NoHand ?k2_NoDeed_NoImage ?k2_NoDeed_NoName ?k2_NoDeed_NoPlace ?k2_NoDeed_NoProgram ?k2_NoDeed_NoRoom ?k2_NoDeed_NoSlot ?k2_NoDeed_NothingHeld ?k2_NoDeed_NoDeed ?k2_NoDeed_ValueError ?kihn ?kitk ?kt_NoneType_int ?kt_NoneType_bool ?kt_NoneType_tuple ?kt_NoneType_str ?kt_bool_int ?kt_bool_bool ?kt_bool_tuple ?kt_bool_str ?kt_int_int ?kt_int_bool ?kt_int_tuple ?kt_int_str ?kt_str_int ?kt_str_bool ?kt_str_tuple ?kt_str_str ?kt_list_int ?kt_list_bool ?kt_list_tuple ?kt_list_str ?kt_tuple_int ?kt_tuple_bool ?kt_tuple_tuple ?kt_tuple_str ?kt_dict_int ?kt_dict_bool ?kt_dict_tuple ?kt_dict_str ?n_ValueError ?n_abs ?n_all ?n_bool ?n_int ?n_isinstance ?n_len ?n_range ?n_str ?n_tuple
    (case g_KeepError => k_is)
    (case g_BadNumber => k_is)
    (case g_BadWord => k_is)
    (case g_BadCount => k_is)
    (case g_NoPlace => k_is)
    (case g_NoRoom => k_is)
    (case g_NoSlot => k_is)
    (case g_NoCell => k_is)
    (case g_NoHand => k_is)
    (case g_NothingHeld => k_is)
    (case g_NoName => k_is)
    (case g_NoDeed => k_is)
    (case g_NoImage => k_is)
    (case g_NoProgram => k_is)
    (case g_line_of => k_is)
    (case l_line_of => k_is)
    (case d_line_of => k_is)
    (case k_line_of => k_is)
    (case g_is_written => k_is)
    (case l_is_written => k_is)
    (case d_is_written => k_is)
    (case k_is_written => k_is)
    (case g__law_cell_at => k_is)
    (case l__law_cell_at => k_is)
    (case d__law_cell_at => k_is)
    (case k__law_cell_at => k_is)
    (case g__law_whole => k_is)
    (case l__law_whole => k_is)
    (case d__law_whole => k_is)
    (case k__law_whole => k_is)
    (case g__law_sign_by => k_is)
    (case l__law_sign_by => k_is)
    (case d__law_sign_by => k_is)
    (case k__law_sign_by => k_is)
    (case g__law_words => k_is)
    (case l__law_words => k_is)
    (case d__law_words => k_is)
    (case k__law_words => k_is)
    (case g__law_figures => k_is)
    (case l__law_figures => k_is)
    (case d__law_figures => k_is)
    (case k__law_figures => k_is)
    (case g__law_number_by => k_is)
    (case l__law_number_by => k_is)
    (case d__law_number_by => k_is)
    (case k__law_number_by => k_is)
    (case g__law_number => k_is)
    (case l__law_number => k_is)
    (case d__law_number => k_is)
    (case k__law_number => k_is)
    (case g_numbers_of => k_is)
    (case l_numbers_of => k_is)
    (case d_numbers_of => k_is)
    (case k_numbers_of => k_is)
    (case g__law_deed => k_is)
    (case l__law_deed => k_is)
    (case d__law_deed => k_is)
    (case k__law_deed => k_is)
    (case g__law_changed => k_is)
    (case l__law_changed => k_is)
    (case d__law_changed => k_is)
    (case k__law_changed => k_is)
    (case g_deed_of => k_is)
    (case l_deed_of => k_is)
    (case d_deed_of => k_is)
    (case k_deed_of => k_is)
    (case g__law_read => k_is)
    (case l__law_read => k_is)
    (case d__law_read => k_is)
    (case k__law_read => k_is)
    (case g__law_right => k_is)
    (case l__law_right => k_is)
    (case d__law_right => k_is)
    (case k__law_right => k_is)
    (case g_law => k_is)
    (case l_law => k_is)
    (case d_law => k_is)
    (case k_law => k_is)
    (case v_NUMBERS_BEHIND => k_is)
    (case lk_NUMBERS_BEHIND => kernel_rfl)
    (case hs_NUMBERS_BEHIND => kernel_rfl)
    (case v_FIGURES => k_is)
    (case v_MOST_FIGURES => k_is)
    (case x_NoDeed => k_exc)
    (case kiga_NoDeed => k_is)
    (case kigt_NoDeed => k_is)
    (case kicl_NoDeed => k_is)
    (case kimb_NoDeed => k_is)
    (case kimo_NoDeed => k_is)
    (case em_NoDeed_KeepError => kts_exm)
    (case k2_NoDeed_BadCount => kit_is)
    (case k2_NoDeed_BadNumber => kit_is)
    (case k2_NoDeed_BadWord => kit_is)
    (case k2_NoDeed_NoCell => kit_is)
    (case k2_NoDeed_NoHand => kit_is)
    (case k2_NoDeed_NoImage => kit_is)
    (case k2_NoDeed_NoName => kit_is)
    (case k2_NoDeed_NoPlace => kit_is)
    (case k2_NoDeed_NoProgram => kit_is)
    (case k2_NoDeed_NoRoom => kit_is)
    (case k2_NoDeed_NoSlot => kit_is)
    (case k2_NoDeed_NothingHeld => kit_is)
    (case k2_NoDeed_NoDeed => kit_is)
    (case k2_NoDeed_ValueError => kit_is)
    (case kihn => k_is)
    (case kitk => k_is)
    (case kt_NoneType_int => kit_is)
    (case kt_NoneType_bool => kit_is)
    (case kt_NoneType_tuple => kit_is)
    (case kt_NoneType_str => kit_is)
    (case kt_bool_int => kit_is)
    (case kt_bool_bool => kit_is)
    (case kt_bool_tuple => kit_is)
    (case kt_bool_str => kit_is)
    (case kt_int_int => kit_is)
    (case kt_int_bool => kit_is)
    (case kt_int_tuple => kit_is)
    (case kt_int_str => kit_is)
    (case kt_str_int => kit_is)
    (case kt_str_bool => kit_is)
    (case kt_str_tuple => kit_is)
    (case kt_str_str => kit_is)
    (case kt_list_int => kit_is)
    (case kt_list_bool => kit_is)
    (case kt_list_tuple => kit_is)
    (case kt_list_str => kit_is)
    (case kt_tuple_int => kit_is)
    (case kt_tuple_bool => kit_is)
    (case kt_tuple_tuple => kit_is)
    (case kt_tuple_str => kit_is)
    (case kt_dict_int => kit_is)
    (case kt_dict_bool => kit_is)
    (case kt_dict_tuple => kit_is)
    (case kt_dict_str => kit_is)
    (case n_ValueError => k_is)
    (case n_abs => k_is)
    (case n_all => k_is)
    (case n_bool => k_is)
    (case n_int => k_is)
    (case n_isinstance => k_is)
    (case n_len => k_is)
    (case n_range => k_is)
    (case n_str => k_is)
    (case n_tuple => k_is)


