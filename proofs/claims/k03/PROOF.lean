import PyProof.Rows.All
import Wide.All
import OpenK.AllK
import Wide.FinOn
import Lean
import PyProof.EqAt
import PyProof.EqKinds
import PyProof.TupleCall
import PySem.Challenge.RW_cellkeep_k03_memory_copied
set_option Elab.async false
set_option linter.all false
set_option maxRecDepth 100000
set_option maxHeartbeats 4000000
/-! THE HAND LAYER, for ints, bools, texts, own classes, LISTS and tuples (index, slices, in, append, pop ..), calls, loops. Paste it whole ahead of your own text; what your proof does not reach may be deleted. -/
namespace L2
open PySem PySem.Spec PyProof.Rows

/-- a key: an int or a str -/
abbrev Key := Sum Int Str
def keyIs : Key → Value → Bool
  | .inl k, v => Value.isInt k v
  | .inr x, v => Value.isStrOf x v
def keyH (w : World) : Key → Int
  | .inl k => hashInt k
  | .inr x => hashStr w x
theorem keyIs_shape : ∀ {k : Key} {v : Value}, keyIs k v = true → (∃ i t, k = Sum.inl i ∧ v = Value.int i t) ∨ (∃ x t, k = Sum.inr x ∧ v = Value.str x t)
  | .inl i, v, h => by
    obtain ⟨t, e⟩ := Value.isInt_shape (k := i) (v := v) h
    exact .inl ⟨i, t, rfl, e⟩
  | .inr x, v, h => by
    obtain ⟨t, e⟩ := Value.isStrOf_shape (x := x) (v := v) h
    exact .inr ⟨x, t, rfl, e⟩
theorem key_ll (a b : Int) : decide ((Sum.inl a : Key) = Sum.inl b) = (a == b) := by
  by_cases e : a = b
  · subst e; simp
  · have h : ¬ (Sum.inl a : Key) = Sum.inl b := fun q => e (Sum.inl.inj q)
    rw [decide_eq_false h]
    exact (beq_eq_false_iff_ne.mpr e).symm
theorem key_rr (a b : Str) : decide ((Sum.inr a : Key) = Sum.inr b) = decide (a = b) := by
  by_cases e : a = b
  · subst e; simp
  · have h : ¬ (Sum.inr a : Key) = Sum.inr b := fun q => e (Sum.inr.inj q)
    rw [decide_eq_false h, decide_eq_false e]
theorem key_lr (a : Int) (b : Str) : decide ((Sum.inl a : Key) = Sum.inr b) = false := decide_eq_false (fun q => nomatch q)
theorem key_rl (a : Str) (b : Int) : decide ((Sum.inr a : Key) = Sum.inl b) = false := decide_eq_false (fun q => nomatch q)

def mixKind (prog : Program) (w : World) : PySem.KeyKind prog w Key where
  is := keyIs
  hash := keyH w
  inj := fun v a b ha hb => by
    rcases keyIs_shape ha with ⟨i, t, rfl, rfl⟩ | ⟨x, t, rfl, rfl⟩
    · rcases keyIs_shape hb with ⟨j, u, rfl, e⟩ | ⟨y, u, rfl, e⟩
      · injection e with e1 _; rw [e1]
      · exact nomatch e
    · rcases keyIs_shape hb with ⟨j, u, rfl, e⟩ | ⟨y, u, rfl, e⟩
      · exact nomatch e
      · injection e with e1 _; rw [e1]
  byValue := fun k v h => by
    rcases keyIs_shape h with ⟨i, t, rfl, rfl⟩ | ⟨x, t, rfl, rfl⟩ <;> rfl
  pyHash := fun hv h => by
    rcases keyIs_shape hv with ⟨i, t, rfl, rfl⟩ | ⟨x, t, rfl, rfl⟩
    · exact wpAny_pyHash_int h
    · exact wpAny_pyHash_str h
  eqBool := fun hu hv h => by
    rcases keyIs_shape hu with ⟨i, t, rfl, rfl⟩ | ⟨x, t, rfl, rfl⟩
    · rcases keyIs_shape hv with ⟨j, u, rfl, rfl⟩ | ⟨y, u, rfl, rfl⟩
      · rw [key_ll] at h; exact wpAny_eqBool_int h
      · rw [key_lr] at h; exact SeqAt.EqAt.int_str i t y u _ _ _ _ h
    · rcases keyIs_shape hv with ⟨j, u, rfl, rfl⟩ | ⟨y, u, rfl, rfl⟩
      · rw [key_rl] at h; exact SeqAt.EqAt.str_int x t j u _ _ _ _ h
      · rw [key_rr] at h; exact wpAny_eqBool_str h
  «strs» := fun k x t v h => by
    rcases keyIs_shape h with ⟨i, u, rfl, e⟩ | ⟨y, u, rfl, e⟩
    · exact nomatch e
    · injection e with e1 _
      subst e1
      cases v <;> rfl

end L2

namespace L2
open PySem PySem.Spec PyProof.Rows

/-- a value, without the heap -/
inductive V where
  | non | bl (b : Bool) | int (i : Int) | str (x : Str) | byt (b : Array UInt8) | flt (b : UInt64) | ref (a : Addr) | ty (n : String)
  deriving DecidableEq

def RelV : V → Value → Prop
  | .non, u => u = Value.none
  | .bl b, u => u = Value.bool b
  | .int i, u => ∃ t, u = Value.int i t
  | .str x, u => ∃ t, u = Value.str x t
  | .byt b, u => ∃ t, u = Value.bytes b t
  | .flt b, u => ∃ t, u = Value.float b t
  | .ref a, u => u = Value.ref a
  | .ty n, u => u = Value.type n

abbrev Vals : List V → List Value → Prop := Paired RelV
theorem Vals.length {xs : List V} {us : List Value} (r : Vals xs us) : xs.length = us.length := Paired.length r
theorem Vals.get : ∀ {xs : List V} {us : List Value} {i : Nat} {x : V}, Vals xs us → xs[i]? = some x → ∃ u, us[i]? = some u ∧ RelV x u
  | _, _, _, _, .nil, e => by simp at e
  | _, _, 0, _, .cons r _, e => by simp at e; subst e; exact ⟨_, rfl, r⟩
  | _, _, i + 1, x, .cons _ t, e => by
    obtain ⟨u, h1, h2⟩ := Vals.get (i := i) (x := x) t (by simpa using e)
    exact ⟨u, by simpa using h1, h2⟩
theorem Vals.set {x : V} {u : Value} (r : RelV x u) : ∀ {xs : List V} {us : List Value} (i : Nat), Vals xs us → Vals (xs.set i x) (us.set i u)
  | _, _, _, .nil => .nil
  | _, _, 0, .cons _ t => .cons r t
  | _, _, i + 1, .cons q t => .cons q (Vals.set r i t)
theorem Vals.append : ∀ {xs ys : List V} {us ws : List Value}, Vals xs us → Vals ys ws → Vals (xs ++ ys) (us ++ ws)
  | _, _, _, _, .nil, s => s
  | _, _, _, _, .cons r t, s => .cons r (Vals.append t s)
theorem Vals.take : ∀ {xs : List V} {us : List Value} (n : Nat), Vals xs us → Vals (xs.take n) (us.take n)
  | _, _, 0, _ => .nil
  | _, _, _ + 1, .nil => .nil
  | _, _, n + 1, .cons r t => .cons r (Vals.take n t)
theorem Vals.drop : ∀ {xs : List V} {us : List Value} (n : Nat), Vals xs us → Vals (xs.drop n) (us.drop n)
  | _, _, 0, r => r
  | _, _, _ + 1, .nil => .nil
  | _, _, n + 1, .cons _ t => Vals.drop n t
theorem Vals.none_of : ∀ {xs : List V} {us : List Value} {i : Nat}, Vals xs us → xs[i]? = none → us[i]? = none := fun {xs us i} r e => by
  have h1 := r.length
  have h2 : xs.length ≤ i := List.getElem?_eq_none_iff.mp e
  exact List.getElem?_eq_none_iff.mpr (by omega)

def RelO : Option V → Option Value → Prop
  | some v, some u => RelV v u
  | none, none => True
  | _, _ => False
def KV {κ : Type} : List (κ × V) → List (κ × Value) → Prop := Paired fun (p : κ × V) (q : κ × Value) => p.1 = q.1 ∧ RelV p.2 q.2

/-- a key of a dict (00_mix): an int or a text -/
def kV : Key → V
  | .inl i => .int i
  | .inr x => .str x

/-- what stands at a tracked address -/
inductive HO where
  /-- a list -/
  | lst (xs : List V)
  /-- a tuple (never changes) -/
  | tup (xs : List V)
  /-- a dict whose keys are ints and texts; one whose keys are tuples of ints and texts (the empty one is both) -/
  | dK (kvs : List (Key × V)) | dT (kvs : List (List Key × V))
  /-- a set of ints: its members, its size -/
  | set (S : Int → Bool) (n : Nat)
  /-- an instance of the class at C, its dict at dx, its attributes -/
  | ins (C dx : Addr) (fs : List (Str × V))
  /-- the dict of the instance at x -/
  | own (x : Addr)
  /-- the dict of an exception -/
  | xd (fs : List (Str × V))
  /-- a bound method, f of x -/
  | met (f x : Addr)
  /-- a range object lo, lo + 1, .. below hi -/
  | rng (lo hi : Int)
  /-- a thing that is known to the object (the script; a dict while a loop walks it): read, never written while it is so -/
  | frz (o : Obj) (u : HO)
  /-- a code object's table -/
  | tbl (ps : Array Value)
  /-- any other thing, by what is true of its one object (a def of one's own: SetO a S n := HO.ext fun h => ..) -/
  | ext (φ : Heap → Prop)
  /-- an exception that was caught, by its class -/
  | exc (cls : Value)

abbrev Hp := Addr → Option HO
def upd (H : Hp) (a : Addr) (o : HO) : Hp := fun b => if b = a then some o else H b
theorem upd_same {H : Hp} {a : Addr} {o : HO} : upd H a o a = some o := by unfold upd; rw [if_pos rfl]
theorem upd_ne {H : Hp} {a b : Addr} {o : HO} (h : b ≠ a) : upd H a o b = H b := by unfold upd; rw [if_neg h]
theorem ne_of_none {H : Hp} {a b : Addr} {o : HO} (h : H a = some o) (h' : H b = none) : a ≠ b := by
  intro e; subst e; rw [h] at h'; cases h'

section
variable (P : Program) (w : World)
def ObjOk (H : Hp) (h : Heap) (a : Addr) : HO → Prop
  | .lst xs => xs.length ≤ sizeLine ∧ ∃ (its : List Value) (n : Nat), Vals xs its ∧ h.get? a = some { cls := .type "list", data := .seq its.toArray n }
  | .tup xs => xs.length ≤ sizeLine ∧ ∃ its : List Value, Vals xs its ∧ IsTup h a its.toArray
  | .dK kvs => kvs.length ≤ sizeLine ∧ (a == sysModules) = false ∧ ∃ vs, KV kvs vs ∧ h.DictOf (mixKind P w) a vs
  | .dT kvs => kvs.length ≤ sizeLine ∧ (a == sysModules) = false ∧ ∃ xs : List (List Key × Addr × Value),
      Paired (fun (p : List Key × V) (q : List Key × Addr × Value) => p.1 = q.1 ∧ H q.2.1 = some (.tup (p.1.map kV)) ∧ RelV p.2 q.2.2) kvs xs ∧
      ∃ o es ep, h.get? a = some o ∧ o.ExactDict ∧ o.data = .dict es ep ∧ es.toList = xs.map (entryOfKey (tupleKind (mixKind P w))) ∧ (xs.map (·.1)).Nodup
  | .set S n => h.SetOf (intKind P w) a S n
  | .ins C dx fs => H dx = some (.own a) ∧ fs.length ≤ 1000 ∧ dx ≠ a ∧ h.get? a = some (PySem.W.instObj C dx) ∧
      ∃ mA, h.Ns1 dx mA ∧ (∀ f, RelO (fs.lookup f) (mA f)) ∧ PySem.Within mA (fs.map (·.1))
  | .own _ => ∃ o, h.get? a = some o
  | .xd fs => ∃ mA, h.Ns1 a mA ∧ ∀ f, RelO (fs.lookup f) (mA f)
  | .rng lo hi => ∃ t u v, h.get? a = some { cls := .type "range", data := .fields #[.int lo t, .int hi u, .int 1 v] }
  | .frz o u => h.get? a = some o ∧ ObjOk H h a u
  | .tbl ps => h.get? a = some { cls := .none, data := .fields ps }
  | .met f x => h.get? a = some (PySem.W.methodObj (.ref f) (.ref x))
  | .exc cls => ∃ o vs, h.get? a = some o ∧ o.cls = cls ∧ o.data = .fields vs
  | .ext φ => φ h ∧ (∃ o, h.get? a = some o) ∧ ∀ h1 h2 : Heap, φ h1 → (∀ o, h1.get? a = some o → h2.get? a = some o) → φ h2
/-- the abstract heap is held -/
def HOk (H : Hp) (h : Heap) : Prop := ∀ a o, H a = some o → ObjOk P w H h a o
end

section
variable {P : Program} {w : World} {H H' : Hp} {h h' : Heap} {a : Addr} {o : HO}
theorem ObjOk.lt (x : ObjOk P w H h a o) : a < h.objs.size := by
  cases o with
  | lst xs => obtain ⟨_, _, _, _, e⟩ := x; exact Heap.lt_size e
  | tup xs => obtain ⟨_, _, _, p⟩ := x; exact p.lt
  | dK kvs => obtain ⟨_, _, _, _, o, _, _, e, _⟩ := x; exact Heap.lt_size e
  | dT kvs => obtain ⟨_, _, _, _, o, _, _, e, _⟩ := x; exact Heap.lt_size e
  | set S n => obtain ⟨o, _, _, _, e, _⟩ := x; exact Heap.lt_size e
  | ins C dx fs => obtain ⟨_, _, _, e, _⟩ := x; exact Heap.lt_size e
  | own y => obtain ⟨_, e⟩ := x; exact Heap.lt_size e
  | xd fs => obtain ⟨_, ⟨_, _, _, e, _⟩, _⟩ := x; exact Heap.lt_size e
  | rng lo hi => obtain ⟨_, _, _, e⟩ := x; exact Heap.lt_size e
  | frz ob u => obtain ⟨e, _⟩ := x; exact Heap.lt_size e
  | tbl ps => exact Heap.lt_size (show h.get? a = some _ from x)
  | met f y => exact Heap.lt_size (show h.get? a = some _ from x)
  | ext φ => obtain ⟨_, ⟨_, e⟩, _⟩ := x; exact Heap.lt_size e
  | exc cls => obtain ⟨_, _, e, _⟩ := x; exact Heap.lt_size e
theorem Paired.mapP {α β : Type} {F G : α → β → Prop} : ∀ {l₁ : List α} {l₂ : List β}, Paired F l₁ l₂ → (∀ a b, F a b → G a b) → Paired G l₁ l₂
  | _, _, .nil, _ => .nil
  | _, _, .cons r t, f => .cons (f _ _ r) (Paired.mapP t f)
/-- what an object's description leans on: its own object, its own dict, the tuples -/
theorem ObjOk.stay (x : ObjOk P w H h a o) (k : ∀ b u, (b = a ∨ H b = some (.own a)) → h.get? b = some u → h'.get? b = some u)
    (ho : ∀ b, H b = some (.own a) → H' b = some (.own a)) (ht : ∀ b xs, H b = some (.tup xs) → H' b = some (.tup xs)) : ObjOk P w H' h' a o := by
  induction o with
  | lst xs => obtain ⟨z, its, n, r, e⟩ := x; exact ⟨z, its, n, r, k _ _ (.inl rfl) e⟩
  | tup xs => obtain ⟨z, its, r, ob, e, c⟩ := x; exact ⟨z, its, r, ob, k _ _ (.inl rfl) e, c⟩
  | dK kvs => obtain ⟨z, y, vs, r, ob, es, ep, e, c⟩ := x; exact ⟨z, y, vs, r, ob, es, ep, k _ _ (.inl rfl) e, c⟩
  | dT kvs =>
    obtain ⟨z, y, xs, r, ob, es, ep, e, c⟩ := x
    exact ⟨z, y, xs, Paired.mapP r fun p q z => ⟨z.1, ht _ _ z.2.1, z.2.2⟩, ob, es, ep, k _ _ (.inl rfl) e, c⟩
  | set S n => obtain ⟨ob, es, ep, t, e, c⟩ := x; exact ⟨ob, es, ep, t, k _ _ (.inl rfl) e, c⟩
  | ins C dx fs =>
    obtain ⟨d, z, ne, e, mA, ⟨od, es, ep, e2, c⟩, r⟩ := x
    exact ⟨ho _ d, z, ne, k _ _ (.inl rfl) e, mA, ⟨od, es, ep, k _ _ (.inr d) e2, c⟩, r⟩
  | own y => obtain ⟨ob, e⟩ := x; exact ⟨ob, k _ _ (.inl rfl) e⟩
  | xd fs => obtain ⟨mA, ⟨od, es, ep, e, c⟩, r⟩ := x; exact ⟨mA, ⟨od, es, ep, k _ _ (.inl rfl) e, c⟩, r⟩
  | rng lo hi => obtain ⟨t, u, v, e⟩ := x; exact ⟨t, u, v, k _ _ (.inl rfl) e⟩
  | frz ob u ih => obtain ⟨e, q⟩ := x; exact ⟨k _ _ (.inl rfl) e, ih q⟩
  | tbl ps =>
    have e : h.get? a = some { cls := .none, data := .fields ps } := x
    show h'.get? a = some { cls := .none, data := .fields ps }
    exact k a _ (.inl rfl) e
  | met f y =>
    have e : h.get? a = some (PySem.W.methodObj (.ref f) (.ref y)) := x
    show h'.get? a = some (PySem.W.methodObj (.ref f) (.ref y))
    exact k a _ (.inl rfl) e
  | exc cls => obtain ⟨o, vs, e, c⟩ := x; exact ⟨o, vs, k _ _ (.inl rfl) e, c⟩
  | ext φ => obtain ⟨p, ⟨o, e⟩, st⟩ := x; exact ⟨st _ _ p fun o q => k _ _ (.inl rfl) q, ⟨o, k _ _ (.inl rfl) e⟩, st⟩
theorem HOk.lt (x : HOk P w H h) (e : H a = some o) : a < h.objs.size := (x a o e).lt
theorem HOk.fresh (x : HOk P w H h) (e : h.objs.size ≤ a) : H a = none := by
  cases q : H a with
  | none => rfl
  | some u => exact absurd (Nat.lt_of_lt_of_le (x.lt q) e) (Nat.lt_irrefl _)
/-- every object of the heap is kept -/
theorem HOk.kept (x : HOk P w H h) (k : ∀ b u, h.get? b = some u → h'.get? b = some u) : HOk P w H h' := fun a o e =>
  (x a o e).stay (fun b u _ q => k b u q) (fun _ q => q) fun _ _ q => q
/-- a new object is laid and tracked -/
theorem HOk.laid (x : HOk P w H h) (k : ∀ b u, h.get? b = some u → h'.get? b = some u) (hp : h.objs.size ≤ a) (new : ObjOk P w (upd H a o) h' a o) : HOk P w (upd H a o) h' := fun b u e => by
  have hn := x.fresh hp
  by_cases hb : b = a
  · subst hb; rw [upd_same] at e; cases e; exact new
  · rw [upd_ne hb] at e
    exact (x b u e).stay (fun c v _ q => k c v q) (fun c q => by rw [upd_ne (ne_of_none q hn)]; exact q) fun c xs q => by rw [upd_ne (ne_of_none q hn)]; exact q
end

/-- what may be read as u: it is u, or a known u -/
def Rd (H : Hp) (a : Addr) (u : HO) : Prop := H a = some u ∨ ∃ o, H a = some (.frz o u)
theorem Rd.of {H : Hp} {a : Addr} {u : HO} (h : H a = some u) : Rd H a u := .inl h
theorem Rd.ok {P : Program} {w : World} {H : Hp} {h : Heap} {a : Addr} {u : HO} (r : Rd H a u) (x : HOk P w H h) : ObjOk P w H h a u := by
  rcases r with r | ⟨o, r⟩
  · exact x a u r
  · obtain ⟨_, q⟩ := x a _ r
    exact q
/-- what may be written -/
def Mut : Option HO → Prop
  | some (.lst _) => True
  | some (.dK _) => True
  | some (.dT _) => True
  | some (.set _ _) => True
  | some (.ins _ _ _) => True
  | some (.ext _) => True
  | _ => False
section
variable {P : Program} {w : World} {H : Hp} {h h' : Heap} {x e : Addr} {o' : HO}
/-- the object at e is changed: x itself, or the dict of the instance x -/
theorem HOk.write (ok : HOk P w H h) (mu : Mut (H x)) (he : e = x ∨ H e = some (.own x)) (k : ∀ b u, b ≠ e → h.get? b = some u → h'.get? b = some u) (heo : ∃ u, h'.get? e = some u)
    (new : ObjOk P w (upd H x o') h' x o') : HOk P w (upd H x o') h' := fun b u q => by
  have nown : ∀ c y, H c = some (.own y) → c ≠ x := fun c y r z => by subst z; rw [r] at mu; exact mu
  have ntup : ∀ c xs, H c = some (.tup xs) → c ≠ x := fun c xs r z => by subst z; rw [r] at mu; exact mu
  by_cases hb : b = x
  · subst hb; rw [upd_same] at q; cases q; exact new
  · rw [upd_ne hb] at q
    by_cases hbe : b = e
    · have q' : H b = some (.own x) := by
        rcases he with z | z
        · exact absurd (hbe.trans z) hb
        · rw [hbe]; exact z
      rw [q] at q'; cases q'
      obtain ⟨v, hv⟩ := heo
      exact ⟨v, by rw [hbe]; exact hv⟩
    · refine (ok b u q).stay (fun c v hc r => k c v ?_ r) (fun c r => by rw [upd_ne (nown c b r)]; exact r) fun c xs r => by rw [upd_ne (ntup c xs r)]; exact r
      rcases hc with rfl | hc
      · exact hbe
      · rintro rfl
        rcases he with z | z
        · exact nown c b hc z
        · rw [hc] at z; cases z; exact hb rfl
end

/-! ### kept unless tracked; of the frames at fs (the callers') the slots may change (an exception that passes writes there); of the records at ex (iterators) nothing is said -/
structure Un (fs ex : List Addr) (H H' : Hp) (h h' : Heap) : Prop where
  keep : ∀ b o, h.get? b = some o → H b = none → b ∉ fs → b ∉ ex → h'.get? b = some o
  slot : ∀ b o, h.get? b = some o → H b = none → b ∈ fs → b ∉ ex → ∃ sl, h'.get? b = some { o with slots := sl }
  free : ∀ b o, h.get? b = some o → H b = none → b ∉ ex → H' b = none
  there : ∀ b o, h.get? b = some o → b ∉ ex → ∃ o', h'.get? b = some o'
  tups : ∀ b xs, H b = some (.tup xs) → H' b = some (.tup xs)
  frzs : ∀ b o u, H b = some (.frz o u) → H' b = some (.frz o u)
  tbls : ∀ b ps, H b = some (.tbl ps) → ∃ more, H' b = some (.tbl (ps ++ more))
section
variable {fs fs' ex ex' : List Addr} {H H1 H2 : Hp} {h h1 h2 h' : Heap} {a x e : Addr} {o : HO}
theorem Un.any (u : Un fs ex H H1 h h1) {b : Addr} {ob : Obj} (q : h.get? b = some ob) (n : H b = none) (hx : b ∉ ex) : ∃ sl, h1.get? b = some { ob with slots := sl } := by
  by_cases hb : b ∈ fs
  · exact u.slot b ob q n hb hx
  · exact ⟨ob.slots, u.keep b ob q n hb hx⟩
theorem Un.trans (a : Un fs ex H H1 h h1) (b : Un fs ex H1 H2 h1 h2) : Un fs ex H H2 h h2 where
  keep := fun c ob q n hc hx => b.keep c ob (a.keep c ob q n hc hx) (a.free c ob q n hx) hc hx
  slot := fun c ob q n hc hx => by
    obtain ⟨sl, e1⟩ := a.slot c ob q n hc hx
    obtain ⟨sl', e2⟩ := b.slot c _ e1 (a.free c ob q n hx) hc hx
    exact ⟨sl', e2⟩
  free := fun c ob q n hx => by
    obtain ⟨o', e1⟩ := a.there c ob q hx
    exact b.free c o' e1 (a.free c ob q n hx) hx
  there := fun c ob q hx => by
    obtain ⟨o', e1⟩ := a.there c ob q hx
    exact b.there c o' e1 hx
  tups := fun c xs q => b.tups c xs (a.tups c xs q)
  frzs := fun c ob xs q => b.frzs c ob xs (a.frzs c ob xs q)
  tbls := fun c ps q => by
    obtain ⟨m1, e1⟩ := a.tbls c ps q
    obtain ⟨m2, e2⟩ := b.tbls c _ e1
    exact ⟨m1 ++ m2, by rw [e2, Array.append_assoc]⟩
theorem Un.kept (k : ∀ b u, h.get? b = some u → h'.get? b = some u) : Un fs ex H H h h' :=
  ⟨fun b ob q _ _ _ => k b ob q, fun b ob q _ _ _ => ⟨ob.slots, k b ob q⟩, fun _ _ _ n _ => n, fun b ob q _ => ⟨ob, k b ob q⟩, fun _ _ q => q, fun _ _ _ q => q, fun _ ps q => ⟨#[], by rw [q]; simp⟩⟩
theorem Un.refl : Un fs ex H H h h := Un.kept fun _ _ q => q
theorem Un.laid (k : ∀ b u, h.get? b = some u → h'.get? b = some u) (hp : h.objs.size ≤ a) (hn : H a = none) : Un fs ex H (upd H a o) h h' where
  keep := fun b u q _ _ _ => k b u q
  slot := fun b u q _ _ _ => ⟨u.slots, k b u q⟩
  free := fun b u q n _ => by rw [upd_ne (Nat.ne_of_lt (Nat.lt_of_lt_of_le (Heap.lt_size q) hp))]; exact n
  there := fun b u q _ => ⟨u, k b u q⟩
  tups := fun b xs q => by rw [upd_ne (ne_of_none q hn)]; exact q
  frzs := fun b u xs q => by rw [upd_ne (ne_of_none q hn)]; exact q
  tbls := fun b ps q => ⟨#[], by rw [upd_ne (ne_of_none q hn), q]; simp⟩
theorem Un.write (mu : Mut (H x)) (he : e = x ∨ H e = some (.own x)) (k : ∀ b u, b ≠ e → h.get? b = some u → h'.get? b = some u) (heo : ∃ u, h'.get? e = some u) : Un fs ex H (upd H x o) h h' := by
  have hx : ∀ b, H b = none → b ≠ x := fun b n z => by subst z; rw [n] at mu; exact mu
  have hb : ∀ b, H b = none → b ≠ e := fun b n z => by
    subst z
    rcases he with r | r
    · exact hx b n r
    · rw [n] at r; cases r
  have hm : ∀ b u, H b = some u → ¬ Mut (some u) → b ≠ x := fun b u q nm z => by subst z; rw [q] at mu; exact nm mu
  refine ⟨fun b u q n _ _ => k b u (hb b n) q, fun b u q n _ _ => ⟨u.slots, k b u (hb b n) q⟩, fun b u q n _ => by rw [upd_ne (hx b n)]; exact n, fun b u q _ => ?_,
    fun b xs q => by rw [upd_ne (hm b _ q fun z => z)]; exact q, fun b u xs q => by rw [upd_ne (hm b _ q fun z => z)]; exact q, fun b ps q => ⟨#[], by rw [upd_ne (hm b _ q fun z => z), q]; simp⟩⟩
  by_cases hbe : b = e
  · subst hbe; exact heo
  · exact ⟨u, k b u hbe q⟩
theorem Un.mono (u : Un fs ex H H1 h h1) (hs : ∀ b ∈ fs, b ∈ fs') (hx : ∀ b ∈ ex, b ∈ ex') : Un fs' ex' H H1 h h1 :=
  ⟨fun b ob q n hb he => u.keep b ob q n (fun z => hb (hs b z)) fun z => he (hx b z), fun _ _ q n _ he => u.any q n fun z => he (hx _ z), fun b ob q n he => u.free b ob q n fun z => he (hx b z), fun b ob q he => u.there b ob q fun z => he (hx b z), u.tups, u.frzs, u.tbls⟩
end

/-! ### the heap without what is tracked -/
def trk (h : Heap) (H : Hp) : List Addr := (List.range h.objs.size).filter fun a => (H a).isSome
def hidT (h : Heap) (H : Hp) : Heap := PySem.W.hideAll h (trk h H)
theorem hidT_size (h : Heap) (H : Hp) : (hidT h H).objs.size = h.objs.size := PySem.W.hideAll_size _ _
theorem hidT_get {h : Heap} {H : Hp} {b : Addr} {o : Obj} (e : h.get? b = some o) (n : H b = none) : (hidT h H).get? b = some o :=
  PySem.W.hideAll_get _ e fun hm => by
    have q : (H b).isSome = true := (List.mem_filter.mp hm).2
    rw [n] at q; simp at q
theorem of_hidT {h : Heap} {H : Hp} {b : Addr} {o : Obj} (e : (hidT h H).get? b = some o) : h.get? b = some o ∧ H b = none := by
  have e' : h.get? b = some o := PySem.W.of_hideAll (trk h H) e
  refine ⟨e', ?_⟩
  cases q : H b with
  | none => rfl
  | some x =>
    have hm : b ∈ trk h H := List.mem_filter.mpr ⟨List.mem_range.mpr (Heap.lt_size e'), by simp [q]⟩
    have z : (hidT h H).get? b = none := PySem.W.hideAll_none (trk h H) hm
    rw [z] at e; cases e

/-! ### OpenK's ledger, filled with every new object but one -/
def allNews (g h : Heap) (L : Addr) : List (Addr × Obj) := (List.range h.objs.size).filterMap fun a => if a = L ∨ (g.get? a).isSome = true then none else (h.get? a).map fun o => (a, o)
def rest (g h : Heap) (L d : Addr) : List (Addr × Obj) := (allNews g h L).filter fun p => decide (p.1 ≠ d)
end L2

namespace L2
open PySem PySem.Spec PyProof.Rows

/-- the module's facts, over the base: the heap at the law's entry without what is tracked there -/
structure Mod (K : PySem.W.Frag) (mg : Str → Option Value) (base : Heap) : Prop where
  kin : K.In base
  glob : base.Ns mainGlobals mg
  blt : ∃ mb, base.Ns builtinsNs mb ∧ ∀ x : Str, x ≠ "__name__" → mb x = bootBuiltins x
  nolimit : base.NoLimit

/-- the context: a def's body (or a comprehension's block) running. base: fixed through the whole law; s₀, H₀: the entry; outer: the frames whose slots others may change (a def's callers); stack: all frames that run;
   ex: iterators that were made ahead of the entry and are walked here (a comprehension's); fn: the names whose cells were made at the entry (a def: all; a comprehension's block: its own); calm: not within an except suite; pn: pins that every state bears; xe: what is wanted of an exception that leaves the code -/
structure Cx where
  prog : Program
  w : World
  K : PySem.W.Frag
  mg : Str → Option Value
  base : Heap
  A : Around
  N : List Str
  s₀ : Shared
  H₀ : Hp
  env : Env
  outer : List Env
  stack : List Env
  ex : List Addr
  fn : Str → Bool
  calm : Bool
  pn : List (Addr × Obj)
  xe : Value → Shared → Prop
/-- the callers' frames -/
def frs (l : List Env) : List Addr := l.filterMap (·.frame)
abbrev Cx.fs (X : Cx) : List Addr := frs X.outer

def Vis (sc : Scope) (x : Str) : Prop := sc.names.lookup x = some .local ∨ sc.names.lookup x = some .cell ∨ sc.names.lookup x = some .free
def Loc (sc : Scope) (x : Str) : Prop := sc.names.lookup x = some .local ∨ sc.names.lookup x = some .cell
def Look (env : Env) (h : Heap) (m : Str → Option Value) (x : Str) (u : Value) : Prop :=
  (env.kindOf x = some .local ∧ m x = some u) ∨ ((env.kindOf x = some .cell ∨ env.kindOf x = some .free) ∧ ∃ c, env.cells.lookup x = some c ∧ h.IsCell c (some u))

structure Cx.Ok (X : Cx) : Prop where
  mod : Mod X.K X.mg X.base
  kind : X.env.scope.kind = .function
  glob : X.env.globals = mainGlobals
  blt : X.env.builtins = builtinsNs
  above : X.s₀.heap.objs.size ≤ X.env.locals
  inj : ∀ x y c, X.env.cells.lookup x = some c → X.env.cells.lookup y = some c → x = y
  has : ∀ x, (X.env.kindOf x = some .cell ∨ X.env.kindOf x = some .free) → ∃ c, X.env.cells.lookup x = some c
  cab : ∀ x c, X.fn x = true → X.env.cells.lookup x = some c → X.s₀.heap.objs.size ≤ c
  hd : X.calm = true → X.A.handled = none
  frames : X.A.frames = some X.stack
  stk : X.stack = X.outer ∨ (X.stack = X.env :: X.outer ∧ X.env.frame = some X.env.locals)
  exf : ∀ b ∈ X.ex, b ≠ X.env.locals ∧ ∀ x c, X.env.cells.lookup x = some c → c ≠ b
  bs : ∀ b o, X.base.get? b = some o → X.s₀.heap.get? b = some o ∧ X.H₀ b = none
  bsz : X.base.objs.size ≤ X.s₀.heap.objs.size
  noex : ∀ b o, X.base.get? b = some o → b ∉ X.ex
  exfs : ∀ b ∈ X.ex, b ∉ X.fs
  funs : X.s₀.heap.FunFrames X.base X.outer
  frf : ∀ b ∈ X.fs, X.H₀ b = none

structure Inv (X : Cx) (pins : List (Addr × Obj)) (σ : List (Option V)) (H : Hp) (s : Shared) : Prop where
  ok : X.Ok
  os : s.os = X.s₀.os
  bare : AllBare s.gens
  base : Un X.fs X.ex X.H₀ H X.s₀.heap s.heap
  loc : ∃ m, s.heap.Ns X.env.locals m ∧ ∀ (i : Nat) (x : Str) (v : V), X.N[i]? = some x → σ[i]? = some (some v) → Vis X.env.scope x → ∃ u, RelV v u ∧ Look X.env s.heap m x u
  cell : ∀ x c, X.env.cells.lookup x = some c → ∃ v, s.heap.IsCell c v
  free : H X.env.locals = none
  freeC : ∀ x c, X.env.cells.lookup x = some c → H c = none
  pin : ∀ p ∈ X.pn ++ pins, s.heap.get? p.1 = some p.2 ∧ H p.1 = none ∧ p.1 ≠ X.env.locals ∧ p.1 ∉ X.fs ∧ ∀ v, p.2.data ≠ .cell v
  hok : HOk X.prog X.w H s.heap
  len : σ.length = X.N.length

section
variable {X : Cx} {pins : List (Addr × Obj)} {σ : List (Option V)} {H H' : Hp} {s : Shared} {h' : Heap}

theorem Cx.Ok.nofr (ok : X.Ok) {b : Addr} {o : Obj} (e : X.base.get? b = some o) : b ∉ X.fs := fun hb => by
  have := (ok.funs.mem hb).1
  rw [e] at this; cases this
theorem Inv.bs (I : Inv X pins σ H s) : ∀ b o, X.base.get? b = some o → s.heap.get? b = some o ∧ H b = none := fun b o e =>
  ⟨I.base.keep b o (I.ok.bs b o e).1 (I.ok.bs b o e).2 (I.ok.nofr e) (I.ok.noex b o e), I.base.free b o (I.ok.bs b o e).1 (I.ok.bs b o e).2 (I.ok.noex b o e)⟩
theorem Inv.bk (I : Inv X pins σ H s) : ∀ b o, X.base.get? b = some o → s.heap.get? b = some o := fun b o e => (I.bs b o e).1
theorem Inv.mod (I : Inv X pins σ H s) : Mod X.K X.mg X.base := I.ok.mod
theorem Inv.kIn (I : Inv X pins σ H s) : X.K.In s.heap := I.ok.mod.kin.keeps I.bk
theorem Inv.nolimit (I : Inv X pins σ H s) : s.heap.NoLimit := I.ok.mod.nolimit.keeps I.bk
/-- the frame over the base: for OpenK's rules (K.In X.base is I.mod.kin) -/
theorem Inv.fr (I : Inv X pins σ H s) : ∃ m, Fr X.base X.env.locals s.heap m :=
  let ⟨m, hn, _⟩ := I.loc
  ⟨m, hn, I.bk, Nat.le_trans I.ok.bsz I.ok.above⟩
theorem Inv.lt (I : Inv X pins σ H s) : X.env.locals < s.heap.objs.size := let ⟨_, hn, _⟩ := I.loc; hn.lt
theorem Inv.sz (I : Inv X pins σ H s) : X.s₀.heap.objs.size ≤ s.heap.objs.size := Nat.le_trans I.ok.above (Nat.le_of_lt I.lt)
theorem Inv.nofs (I : Inv X pins σ H s) {a : Addr} (h : s.heap.objs.size ≤ a) : a ∉ X.fs := fun hb => by
  obtain ⟨_, o, ho, _⟩ := I.ok.funs.mem hb
  exact absurd (Nat.lt_of_lt_of_le (Heap.lt_size ho) (Nat.le_trans I.sz h)) (Nat.lt_irrefl _)
theorem Inv.cne (I : Inv X pins σ H s) : ∀ x c, X.env.cells.lookup x = some c → c ≠ X.env.locals := fun x c e z => by
  obtain ⟨v, o, ho, hd⟩ := I.cell x c e
  obtain ⟨m, ⟨o', es, ep, ho', hd', _⟩, _⟩ := I.loc
  rw [z, ho'] at ho; cases ho; rw [hd'] at hd; cases hd
theorem Inv.funs (I : Inv X pins σ H s) : s.heap.FunFrames X.base X.outer := by
  have all : ∀ (l : List Env), (∀ b ∈ frs l, b ∈ X.fs) → X.s₀.heap.FunFrames X.base l → s.heap.FunFrames X.base l := by
    intro l
    induction l with
    | nil => intro _ _; trivial
    | cons env r ih =>
      intro hs hl
      obtain ⟨hk, ⟨L, o, hf, hn, ho, hd⟩, hr⟩ := hl
      have hL : L ∈ X.fs := hs L (by unfold frs; rw [List.filterMap_cons, hf]; exact List.mem_cons_self)
      obtain ⟨sl, e⟩ := I.base.slot L o ho (I.ok.frf L hL) hL fun z => I.ok.exfs L z hL
      exact ⟨hk, ⟨L, _, hf, hn, e, hd⟩, ih (fun b hb => hs b (by unfold frs; rw [List.filterMap_cons, hf]; exact List.mem_cons_of_mem _ hb)) hr⟩
  exact all X.outer (fun _ hb => hb) I.ok.funs

/-- the frames that run, for a call -/
theorem Inv.stack (I : Inv X pins σ H s) : s.heap.FunFrames X.base X.stack := by
  rcases I.ok.stk with e | ⟨e, hf⟩
  · rw [e]; exact I.funs
  · rw [e]
    obtain ⟨m, hn, _⟩ := I.loc
    refine .cons (by rw [I.ok.kind]; decide) hf hn ?_ I.funs
    exact Heap.get?_none_of_le (Nat.le_trans I.ok.bsz I.ok.above)
theorem Inv.stkSub (I : Inv X pins σ H s) : ∀ b ∈ frs X.stack, b ∈ X.env.locals :: X.fs := fun b hb => by
  rcases I.ok.stk with e | ⟨e, hf⟩
  · rw [e] at hb; exact List.mem_cons_of_mem _ hb
  · rw [e] at hb
    unfold frs at hb
    rw [List.filterMap_cons, hf] at hb
    exact hb
theorem Inv.stkFree (I : Inv X pins σ H s) : ∀ b ∈ frs X.stack, H b = none := fun b hb => by
  rcases List.mem_cons.mp (I.stkSub b hb) with e | hb
  · rw [e]; exact I.free
  · obtain ⟨_, o, ho, _⟩ := I.ok.funs.mem hb
    exact I.base.free b o ho (I.ok.frf b hb) fun z => I.ok.exfs b z hb

/-- THE STEP: the untracked objects but the frame and the records at ch are kept (the callers' frames up to slots), the frame's map is kept, the new abstract heap is held -/
theorem Inv.step {g' : Array GenState} {t' : Nat} {d' : Drawn} {ch : List Addr} (I : Inv X pins σ H s)
    (hch : ∀ b ∈ ch, (b ∈ X.ex ∨ X.s₀.heap.objs.size ≤ b) ∧ b ≠ X.env.locals ∧ (∀ x c, X.env.cells.lookup x = some c → c ≠ b) ∧ ∀ p ∈ X.pn ++ pins, p.1 ≠ b)
    (keep : ∀ b o, b ≠ X.env.locals → b ∉ X.fs → b ∉ ch → s.heap.get? b = some o → H b = none → h'.get? b = some o)
    (slot : ∀ b o, b ≠ X.env.locals → b ∈ X.fs → b ∉ ch → s.heap.get? b = some o → H b = none → ∃ sl, h'.get? b = some { o with slots := sl }) (free : ∀ b o, b ∉ ch → s.heap.get? b = some o → H b = none → H' b = none)
    (there : ∀ b o, b ∉ ch → s.heap.get? b = some o → ∃ o', h'.get? b = some o')
    (tups : ∀ b xs, H b = some (.tup xs) → H' b = some (.tup xs)) (frzs : ∀ b o u, H b = some (.frz o u) → H' b = some (.frz o u)) (tbls : ∀ b ps, H b = some (.tbl ps) → ∃ more, H' b = some (.tbl (ps ++ more)))
    (ns : ∀ m, s.heap.Ns X.env.locals m → h'.Ns X.env.locals m) (hok : HOk X.prog X.w H' h') (hg : AllBare g') :
    Inv X pins σ H' { s with heap := h', gens := g', drawn := d', toks := t' } := by
  have neL : ∀ b o, X.s₀.heap.get? b = some o → b ≠ X.env.locals := fun b o e => Nat.ne_of_lt (Nat.lt_of_lt_of_le (Heap.lt_size e) I.ok.above)
  have neC : ∀ b o, X.s₀.heap.get? b = some o → b ∉ X.ex → b ∉ ch := fun b o e hx hb => by
    rcases (hch b hb).1 with z | z
    · exact hx z
    · exact absurd (Nat.lt_of_lt_of_le (Heap.lt_size e) z) (Nat.lt_irrefl _)
  have cellK : ∀ x c, X.env.cells.lookup x = some c → ∀ v, s.heap.IsCell c v → h'.IsCell c v := fun x c e v ⟨o, ho, hd⟩ => by
    have nch : c ∉ ch := fun z => (hch c z).2.2.1 x c e rfl
    by_cases hc : c ∈ X.fs
    · obtain ⟨sl, q⟩ := slot c o (I.cne x c e) hc nch ho (I.freeC x c e)
      exact ⟨_, q, hd⟩
    · exact ⟨o, keep c o (I.cne x c e) hc nch ho (I.freeC x c e), hd⟩
  refine ⟨I.ok, I.os, hg, ⟨fun b o e n hb hx => ?_, fun b o e n hb hx => ?_, fun b o e n hx => ?_, fun b o e hx => ?_, fun b xs e => tups b xs (I.base.tups b xs e), fun b o xs e => frzs b o xs (I.base.frzs b o xs e), fun b ps e => ?_⟩, ?_, fun x c e => ?_, ?_, fun x c e => ?_, fun p hp => ?_, hok, I.len⟩
  · exact keep b o (neL b o e) hb (neC b o e hx) (I.base.keep b o e n hb hx) (I.base.free b o e n hx)
  · obtain ⟨sl, e1⟩ := I.base.slot b o e n hb hx
    obtain ⟨sl', e2⟩ := slot b _ (neL b o e) hb (neC b o e hx) e1 (I.base.free b o e n hx)
    exact ⟨sl', e2⟩
  · obtain ⟨o', e1⟩ := I.base.there b o e hx
    exact free b o' (neC b o e hx) e1 (I.base.free b o e n hx)
  · obtain ⟨o', e1⟩ := I.base.there b o e hx
    exact there b o' (neC b o e hx) e1
  · obtain ⟨m1, e1⟩ := I.base.tbls b ps e
    obtain ⟨m2, e2⟩ := tbls b _ e1
    exact ⟨m1 ++ m2, by rw [e2, Array.append_assoc]⟩
  · obtain ⟨m, hn, hl⟩ := I.loc
    refine ⟨m, ns m hn, fun i x v e1 e2 e3 => ?_⟩
    obtain ⟨u, r, l⟩ := hl i x v e1 e2 e3
    refine ⟨u, r, ?_⟩
    rcases l with l | ⟨k, c, e, z⟩
    · exact .inl l
    · exact .inr ⟨k, c, e, cellK x c e _ z⟩
  · obtain ⟨v, z⟩ := I.cell x c e
    exact ⟨v, cellK x c e v z⟩
  · obtain ⟨m, ⟨o, _, _, ho, _⟩, _⟩ := I.loc
    exact free _ o (fun z => (hch _ z).2.1 rfl) ho I.free
  · obtain ⟨v, o, ho, hd⟩ := I.cell x c e
    exact free c o (fun z => (hch c z).2.2.1 x c e rfl) ho (I.freeC x c e)
  · obtain ⟨e, n, ne, nf, d⟩ := I.pin p hp
    have nch : p.1 ∉ ch := fun z => (hch p.1 z).2.2.2 p hp rfl
    exact ⟨keep p.1 p.2 ne nf nch e n, free p.1 p.2 nch e n, ne, nf, d⟩
/-- .. where the frame's own object is kept too -/
theorem Inv.un {t' : Nat} (I : Inv X pins σ H s) (u : Un X.fs [] H H' s.heap h') (hok : HOk X.prog X.w H' h') : Inv X pins σ H' { s with heap := h', toks := t' } := by
  obtain ⟨m, ⟨o, es, ep, ho, r⟩, _⟩ := id I.loc
  obtain ⟨sl, hL⟩ := u.any ho I.free (by simp)
  exact I.step (g' := s.gens) (d' := s.drawn) (ch := []) (fun _ z => nomatch z) (fun b o _ hb _ e n => u.keep b o e n hb (by simp)) (fun b o _ hb _ e n => u.slot b o e n hb (by simp)) (fun b o _ e n => u.free b o e n (by simp)) (fun b o _ e => u.there b o e (by simp)) u.tups u.frzs u.tbls (fun m' hm => by
    obtain ⟨o', es', ep', ho', r'⟩ := hm
    rw [ho] at ho'; cases ho'
    exact ⟨_, es', ep', hL, r'⟩) hok I.bare
/-- behind a call (or a comprehension's block): the slots of this frame may have changed too, the records at ch may have turned -/
theorem Inv.call {g' : Array GenState} {t' : Nat} {d' : Drawn} {ch : List Addr} (I : Inv X pins σ H s) (u : Un (frs X.stack) ch H H' s.heap h') (hok : HOk X.prog X.w H' h') (hg : AllBare g')
    (hch : ∀ b ∈ ch, (b ∈ X.ex ∨ X.s₀.heap.objs.size ≤ b) ∧ b ≠ X.env.locals ∧ (∀ x c, X.env.cells.lookup x = some c → c ≠ b) ∧ ∀ p ∈ X.pn ++ pins, p.1 ≠ b) :
    Inv X pins σ H' { s with heap := h', gens := g', drawn := d', toks := t' } := by
  obtain ⟨m, ⟨o, es, ep, ho, r⟩, _⟩ := id I.loc
  obtain ⟨sl, hL⟩ := u.any ho I.free fun z => (hch _ z).2.1 rfl
  exact I.step (ch := ch) hch (fun b o hL hb hc e n => u.keep b o e n (fun z => (List.mem_cons.mp (I.stkSub b z)).elim hL hb) hc) (fun b o _ _ hc e n => u.any e n hc) (fun b o hc e n => u.free b o e n hc) (fun b o hc e => u.there b o e hc) u.tups u.frzs u.tbls (fun m' hm => by
    obtain ⟨o', es', ep', ho', r'⟩ := hm
    rw [ho] at ho'; cases ho'
    exact ⟨_, es', ep', hL, r'⟩) hok hg
/-- an untracked record of ours (an iterator) has turned -/
theorem Inv.turned {t' : Nat} {it : Addr} (I : Inv X pins σ H s) (k : ∀ b o, b ≠ it → s.heap.get? b = some o → h'.get? b = some o) (hn : H it = none) (hL : it ≠ X.env.locals)
    (h1 : it ∈ X.ex ∨ X.s₀.heap.objs.size ≤ it) (h2 : ∀ x c, X.env.cells.lookup x = some c → c ≠ it) (h3 : ∀ p ∈ X.pn ++ pins, p.1 ≠ it) : Inv X pins σ H { s with heap := h', toks := t' } := by
  have nit : ∀ b u, H b = some u → b ≠ it := fun b u e z => by rw [z, hn] at e; cases e
  refine I.step (g' := s.gens) (d' := s.drawn) (ch := [it]) (fun b hb => ?_) (fun b o _ _ hc e _ => k b o (fun z => hc (by simp [z])) e) (fun b o _ _ hc e _ => ⟨o.slots, k b o (fun z => hc (by simp [z])) e⟩) (fun _ _ _ _ n => n)
    (fun b o hc e => ⟨o, k b o (fun z => hc (by simp [z])) e⟩) (fun _ _ e => e) (fun _ _ _ e => e) (fun b ps e => ⟨#[], by rw [e]; simp⟩) (fun m hm => ?_) (fun b u e => ?_) I.bare
  · have e : b = it := by simpa using hb
    subst e
    exact ⟨h1, hL, h2, h3⟩
  · obtain ⟨o, es, ep, ho, r⟩ := hm
    exact ⟨o, es, ep, k _ o (Ne.symm hL) ho, r⟩
  · refine (I.hok b u e).stay (fun c v hc q => k c v ?_ q) (fun _ q => q) fun _ _ q => q
    rcases hc with z | z
    · rw [z]; exact nit b u e
    · exact nit c _ z
theorem Inv.tok (I : Inv X pins σ H s) (t : Nat) : Inv X pins σ H { s with toks := t } := I.un (h' := s.heap) (t' := t) Un.refl I.hok
/-- all objects kept -/
theorem Inv.kept {t' : Nat} (I : Inv X pins σ H s) (k : ∀ b u, s.heap.get? b = some u → h'.get? b = some u) : Inv X pins σ H { s with heap := h', toks := t' } := I.un (Un.kept k) (I.hok.kept k)
/-- a new object laid and tracked -/
theorem Inv.laid {a : Addr} {o : HO} {t' : Nat} (I : Inv X pins σ H s) (k : ∀ b u, s.heap.get? b = some u → h'.get? b = some u) (hp : s.heap.objs.size ≤ a) (new : ObjOk X.prog X.w (upd H a o) h' a o) :
    Inv X pins σ (upd H a o) { s with heap := h', toks := t' } := I.un (Un.laid k hp (I.hok.fresh hp)) (I.hok.laid k hp new)
/-- an object written -/
theorem Inv.write {x e : Addr} {o : HO} {t' : Nat} (I : Inv X pins σ H s) (mu : Mut (H x)) (he : e = x ∨ H e = some (.own x)) (k : ∀ b u, b ≠ e → s.heap.get? b = some u → h'.get? b = some u) (heo : ∃ u, h'.get? e = some u)
    (new : ObjOk X.prog X.w (upd H x o) h' x o) : Inv X pins σ (upd H x o) { s with heap := h', toks := t' } := I.un (Un.write mu he k heo) (I.hok.write mu he k heo new)
theorem Inv.pins_of {pins' : List (Addr × Obj)} (I : Inv X pins σ H s) (h : ∀ p ∈ pins', s.heap.get? p.1 = some p.2 ∧ H p.1 = none ∧ p.1 ≠ X.env.locals ∧ p.1 ∉ X.fs ∧ ∀ v, p.2.data ≠ .cell v) : Inv X pins' σ H s :=
  ⟨I.ok, I.os, I.bare, I.base, I.loc, I.cell, I.free, I.freeC, fun p hp => (List.mem_append.mp hp).elim (fun z => I.pin p (List.mem_append_left _ z)) (h p), I.hok, I.len⟩

theorem nodup_ix {N : List Str} (hN : N.Nodup) {i j : Nat} {x : Str} (a : N[i]? = some x) (b : N[j]? = some x) : i = j := by
  obtain ⟨h1, e1⟩ := List.getElem?_eq_some_iff.mp a
  obtain ⟨h2, e2⟩ := List.getElem?_eq_some_iff.mp b
  exact (List.getElem_inj hN).mp (e1.trans e2.symm)

/-- a name is stored; what changed -/
theorem store_ok2 {M : Model} {A : Around} {E : Value → Shared → Prop} {i : Nat} {x : Str} {v : V} {u : Value} {Q : Unit → Shared → Prop} (I : Inv X pins σ H s) (hN : X.N.Nodup) (hi : X.N[i]? = some x) (hx : Loc X.env.scope x) (r : RelV v u)
    (h : ∀ s', Inv X pins (σ.set i (some v)) H s' → (∃ a, Heap.SameBut a s.heap s'.heap ∧ (a = X.env.locals ∨ X.env.cells.lookup x = some a)) → Q () s') (hf : X.fn x = true ∨ X.env.scope.names.lookup x = some .local := by first | exact .inl rfl | exact .inr rfl | assumption) : wpAny M A (storeName X.env x u) Q E s := by
  obtain ⟨m, hn, hl⟩ := id I.loc
  have hcls : (X.env.scope.kind == .class || (X.env.scope.kind == .module && X.env.locals != X.env.globals)) = false := by rw [I.ok.kind]; rfl
  have hiσ : i < σ.length := by rw [I.len]; exact (List.getElem?_eq_some_iff.mp hi).1
  have cne := I.cne
  have tracked : ∀ {a : Addr} {h' : Heap}, (∃ o, s.heap.get? a = some o ∧ H a = none) → Heap.SameBut a s.heap h' → HOk X.prog X.w H h' := fun {a h'} ha hs b ob e => by
    obtain ⟨_, _, hfree⟩ := ha
    refine (I.hok b ob e).stay (fun c w' hc q => (hs.2 c ?_).trans q) (fun _ q => q) fun _ _ q => q
    rintro rfl
    rcases hc with rfl | hc
    · rw [hfree] at e; cases e
    · rw [hfree] at hc; cases hc
  rcases hx with hk | hk
  · refine wpAny_storeName_local hk hn (fun h' hn' hs => ?_) hcls
    obtain ⟨oL, _, _, hoL, _⟩ := id hn
    refine h _ ⟨I.ok, I.os, I.bare, ⟨fun b o e n hb hx => ?_, fun b o e n hb hx => ?_, I.base.free, fun b o e hx => ?_, I.base.tups, I.base.frzs, I.base.tbls⟩, ⟨_, hn', fun j y v' e1 e2 e3 => ?_⟩, fun y c e => ?_, I.free, I.freeC, fun p hp => ?_, tracked ⟨oL, hoL, I.free⟩ hs, by simpa using I.len⟩ ⟨_, hs, .inl rfl⟩
    · exact (hs.2 b (Nat.ne_of_lt (Nat.lt_of_lt_of_le (Heap.lt_size e) I.ok.above))).trans (I.base.keep b o e n hb hx)
    · obtain ⟨sl, e1⟩ := I.base.slot b o e n hb hx
      exact ⟨sl, (hs.2 b (Nat.ne_of_lt (Nat.lt_of_lt_of_le (Heap.lt_size e) I.ok.above))).trans e1⟩
    · obtain ⟨o', e1⟩ := I.base.there b o e hx
      exact ⟨o', (hs.2 b (Nat.ne_of_lt (Nat.lt_of_lt_of_le (Heap.lt_size e) I.ok.above))).trans e1⟩
    · by_cases hj : j = i
      · subst hj
        rw [hi] at e1; cases e1
        rw [List.getElem?_set_self hiσ] at e2
        cases e2
        exact ⟨u, r, .inl ⟨hk, by simp⟩⟩
      · rw [List.getElem?_set_ne (Ne.symm hj)] at e2
        obtain ⟨u', r', q⟩ := hl j y v' e1 e2 e3
        refine ⟨u', r', ?_⟩
        rcases q with ⟨k, e⟩ | ⟨k, c, e, z⟩
        · refine .inl ⟨k, ?_⟩
          have : y ≠ x := fun e => hj (nodup_ix hN e1 (e ▸ hi))
          simp [this, e]
        · exact .inr ⟨k, c, e, z.sameBut hs (cne y c e)⟩
    · obtain ⟨w', z⟩ := I.cell y c e
      exact ⟨w', z.sameBut hs (cne y c e)⟩
    · obtain ⟨e, n, ne, nf, d⟩ := I.pin p hp
      exact ⟨(hs.2 p.1 ne).trans e, n, ne, nf, d⟩
  · have hfn : X.fn x = true := by
      rcases hf with z | z
      · exact z
      · rw [z] at hk; cases hk
    obtain ⟨c, hc⟩ := I.ok.has x (.inl hk)
    obtain ⟨w', z⟩ := I.cell x c hc
    refine wpAny_storeName_cell I.ok.kind hk hc z (fun h' hc' hs => ?_)
    obtain ⟨oc, hoc, hocd⟩ := id z
    refine h { s with heap := h' } ⟨I.ok, I.os, I.bare, ⟨fun b o e n hb hx => ?_, fun b o e n hb hx => ?_, I.base.free, fun b o e hx => ?_, I.base.tups, I.base.frzs, I.base.tbls⟩, ⟨m, hn.sameBut hs (Ne.symm (cne x c hc)), fun j y v' e1 e2 e3 => ?_⟩, fun y c' e => ?_, I.free, I.freeC, fun p hp => ?_, tracked ⟨oc, hoc, I.freeC x c hc⟩ hs, by simpa using I.len⟩ ⟨c, hs, .inr hc⟩
    · exact (hs.2 b (Nat.ne_of_lt (Nat.lt_of_lt_of_le (Heap.lt_size e) (I.ok.cab x c hfn hc)))).trans (I.base.keep b o e n hb hx)
    · obtain ⟨sl, e1⟩ := I.base.slot b o e n hb hx
      exact ⟨sl, (hs.2 b (Nat.ne_of_lt (Nat.lt_of_lt_of_le (Heap.lt_size e) (I.ok.cab x c hfn hc)))).trans e1⟩
    · obtain ⟨o', e1⟩ := I.base.there b o e hx
      exact ⟨o', (hs.2 b (Nat.ne_of_lt (Nat.lt_of_lt_of_le (Heap.lt_size e) (I.ok.cab x c hfn hc)))).trans e1⟩
    · by_cases hj : j = i
      · subst hj
        rw [hi] at e1; cases e1
        rw [List.getElem?_set_self hiσ] at e2
        cases e2
        exact ⟨u, r, .inr ⟨.inl hk, c, hc, hc'⟩⟩
      · rw [List.getElem?_set_ne (Ne.symm hj)] at e2
        obtain ⟨u', r', q⟩ := hl j y v' e1 e2 e3
        refine ⟨u', r', ?_⟩
        rcases q with q | ⟨k, c', e, z'⟩
        · exact .inl q
        · refine .inr ⟨k, c', e, z'.sameBut hs ?_⟩
          rintro rfl
          exact hj (nodup_ix hN e1 (I.ok.inj _ _ _ e hc ▸ hi))
    · by_cases hcc : c' = c
      · subst hcc; exact ⟨_, hc'⟩
      · obtain ⟨w2, z2⟩ := I.cell y c' e
        exact ⟨w2, z2.sameBut hs hcc⟩
    · obtain ⟨e, n, ne, nf, d⟩ := I.pin p hp
      refine ⟨(hs.2 p.1 ?_).trans e, n, ne, nf, d⟩
      intro q
      rw [q, hoc] at e
      have q' : oc = p.2 := Option.some.inj e
      exact d w' (by rw [← q']; exact hocd)
theorem store_ok {M : Model} {A : Around} {E : Value → Shared → Prop} {i : Nat} {x : Str} {v : V} {u : Value} {Q : Unit → Shared → Prop} (I : Inv X pins σ H s) (hN : X.N.Nodup) (hi : X.N[i]? = some x) (hx : Loc X.env.scope x) (r : RelV v u)
    (h : ∀ s', Inv X pins (σ.set i (some v)) H s' → Q () s') (hf : X.fn x = true ∨ X.env.scope.names.lookup x = some .local := by first | exact .inl rfl | exact .inr rfl | assumption) : wpAny M A (storeName X.env x u) Q E s :=
  store_ok2 I hN hi hx r (fun s' I' _ => h s' I') hf
/-- behind a call or a block, the state as it is -/
theorem Inv.call' {s' : Shared} {ch : List Addr} (I : Inv X pins σ H s) (ho : s'.os = s.os) (u : Un (frs X.stack) ch H H' s.heap s'.heap) (hok : HOk X.prog X.w H' s'.heap) (hg : AllBare s'.gens)
    (hch : ∀ b ∈ ch, (b ∈ X.ex ∨ X.s₀.heap.objs.size ≤ b) ∧ b ≠ X.env.locals ∧ (∀ x c, X.env.cells.lookup x = some c → c ≠ b) ∧ ∀ p ∈ X.pn ++ pins, p.1 ≠ b) : Inv X pins σ H' s' := by
  obtain ⟨h', g', d', t', o'⟩ := s'
  have e : o' = s.os := ho
  subst e
  exact I.call (g' := g') (t' := t') (d' := d') u hok hg hch
end

/-! ### the judgements -/
/-- an exception: its class, its own dict's address (where it has one), the abstract heap behind it -/
abbrev XK := Value → Option Addr → Hp → Prop
abbrev St := List (Option V)
abbrev VK := V → Hp → Prop
/-- an expression's reading; a test's; an argument list's -/
abbrev TE := St → Hp → VK → Prop
abbrev TT := St → Hp → (Bool → Hp → Prop) → Prop
abbrev TA := St → Hp → (List V → Hp → Prop) → Prop
/-- what is wanted behind a statement -/
structure Ends where
  nx : St → Hp → Prop
  rt : VK
  bk : St → Hp → Prop := fun _ _ => False
  ct : St → Hp → Prop := fun _ _ => False
abbrev TS := Ends → St → Hp → Prop

def EP (X : Cx) (pins : List (Addr × Obj)) (σ : St) (Q : VK) (u : Value) (s' : Shared) : Prop := ∃ v H', Inv X pins σ H' s' ∧ RelV v u ∧ Q v H'
def TP (X : Cx) (pins : List (Addr × Obj)) (σ : St) (Q : Bool → Hp → Prop) (b : Bool) (s' : Shared) : Prop := ∃ H', Inv X pins σ H' s' ∧ Q b H'
def AP (X : Cx) (pins : List (Addr × Obj)) (σ : St) (Q : List V → Hp → Prop) (us : List Value) (s' : Shared) : Prop := ∃ vs H', Inv X pins σ H' s' ∧ Vals vs us ∧ Q vs H'
def SP (X : Cx) (pins : List (Addr × Obj)) (D : Ends) (f : Flow) (s' : Shared) : Prop :=
  match f with
  | .next => ∃ σ' H', Inv X pins σ' H' s' ∧ D.nx σ' H'
  | .brk => ∃ σ' H', Inv X pins σ' H' s' ∧ D.bk σ' H'
  | .cont => ∃ σ' H', Inv X pins σ' H' s' ∧ D.ct σ' H'
  | .ret u => ∃ v σ' H', Inv X pins σ' H' s' ∧ RelV v u ∧ D.rt v H'

def PE (X : Cx) (e : Expr) (t : TE) : Prop :=
  ∀ (pins : List (Addr × Obj)) (s : Shared) (σ : St) (H : Hp) (Q : VK), Inv X pins σ H s → t σ H Q → wpAny (model X.prog X.w) X.A (eval e X.env) (EP X pins σ Q) X.xe s
def PT (X : Cx) (e : Expr) (t : TT) : Prop :=
  ∀ (pins : List (Addr × Obj)) (s : Shared) (σ : St) (H : Hp) (Q : Bool → Hp → Prop), Inv X pins σ H s → t σ H Q → wpAny (model X.prog X.w) X.A (isTrue e X.env (eval e X.env)) (TP X pins σ Q) X.xe s
/-- a test whatever its 'whole' is (and, or) -/
def PW (X : Cx) (e : Expr) (t : TT) : Prop :=
  ∀ (whole : Sem Value) (pins : List (Addr × Obj)) (s : Shared) (σ : St) (H : Hp) (Q : Bool → Hp → Prop), Inv X pins σ H s → t σ H Q → wpAny (model X.prog X.w) X.A (isTrue e X.env whole) (TP X pins σ Q) X.xe s
theorem PW.pt {X : Cx} {e : Expr} {t : TT} (h : PW X e t) : PT X e t := h _
/-- an argument list (no star), from the left -/
def PA (X : Cx) (es : List Expr) (t : TA) : Prop :=
  ∀ (pos : Pos) (pins : List (Addr × Obj)) (s : Shared) (σ : St) (H : Hp) (Q : List V → Hp → Prop), Inv X pins σ H s → t σ H Q → wpAny (model X.prog X.w) X.A (spliced (backTo pos (starEach es X.env))) (AP X pins σ Q) X.xe s
def PS (X : Cx) (st : Stmt) (t : TS) : Prop :=
  ∀ (pins : List (Addr × Obj)) (s : Shared) (σ : St) (H : Hp) (D : Ends), Inv X pins σ H s → t D σ H → wpAny (model X.prog X.w) X.A (exec st X.env) (SP X pins D) X.xe s
def PSs (X : Cx) (st : List Stmt) (t : TS) : Prop :=
  ∀ (pins : List (Addr × Obj)) (s : Shared) (σ : St) (H : Hp) (D : Ends), Inv X pins σ H s → t D σ H → wpAny (model X.prog X.w) X.A (execs st X.env) (SP X pins D) X.xe s
/-- weaken the end -/
theorem thn {α : Type} {t : Sem α} {Q Q' : α → Shared → Prop} {M : Model} {A : Around} {E : Value → Shared → Prop} {s : Shared} (h : wpAny M A t Q E s) (hQ : ∀ a s, Q a s → Q' a s) : wpAny M A t Q' E s := wpAny_mono h hQ fun _ _ x => x
end L2

namespace L2
open PySem PySem.Spec PyProof.Rows
section
variable {X : Cx}

/-! ### names and constants -/
def tVar (i : Nat) : TE := fun σ H Q => ∃ v, σ[i]? = some (some v) ∧ Q v H
def tC (v : V) : TE := fun _ H Q => Q v H
theorem pe_var {i : Nat} {x : Str} {pos : Pos} (hN : X.N[i]? = some x) (hv : Vis X.env.scope x) (hd : (x == ("__debug__" : Str)) = false := by decide) (hcd : (x == ("__classdict__" : Str)) = false := by decide) : PE X (.Name x pos) (tVar i) := by
  intro pins s σ H Q I h
  obtain ⟨v, e, h⟩ := h
  obtain ⟨m, hn, hl⟩ := I.loc
  obtain ⟨u, r, l⟩ := hl i x v hN e hv
  have fin : EP X pins σ Q u s := ⟨v, H, I, r, h⟩
  rcases l with ⟨hk, hm⟩ | ⟨hk, c, hc, hcell⟩
  · exact wpAny_Name (wpAny_loadName_local I.ok.kind hk hn hm fin) hd
  · rcases hk with hk | hk
    · exact wpAny_Name (wpAny_loadName_cell I.ok.kind hk hc hcell fin) hd
    · exact wpAny_Name (wpAny_loadName_free I.ok.kind hk hc hcell fin hcd) hd
theorem pe_int {i j pos} : PE X (.Constant (.int i) j pos) (tC (.int i)) := fun _ _ _ H _ I h => wpAny_Constant_int ⟨.int i, H, I.tok _, ⟨_, rfl⟩, h⟩
theorem pe_bl {b j pos} : PE X (.Constant (.bool b) j pos) (tC (.bl b)) := fun _ _ _ H _ I h => Constant_bool ⟨.bl b, H, I, rfl, h⟩
theorem pe_non {j pos} : PE X (.Constant .none j pos) (tC .non) := fun _ _ _ H _ I h => Constant_none ⟨.non, H, I, rfl, h⟩
theorem pe_str {x j pos} : PE X (.Constant (.str x) j pos) (tC (.str x)) := fun _ _ _ H _ I h => Calls.Constant_str ⟨.str x, H, I.tok _, ⟨_, rfl⟩, h⟩

/-- a global name of the def -/
def Gl (X : Cx) (x : Str) : Prop := X.env.kindOf x = some .globalImplicit
theorem ld_glob {E : Value → Shared → Prop} {pins : List (Addr × Obj)} {s : Shared} {σ : St} {H : Hp} {x : Str} {u : Value} {pos : Pos} {Q : Value → Shared → Prop} (I : Inv X pins σ H s) (hg : Gl X x) (hm : X.mg x = some u) (h : Q u s)
    (hd : (x == ("__debug__" : Str)) = false := by decide) : wpAny (model X.prog X.w) X.A (eval (.Name x pos) X.env) Q E s :=
  Calls.Name_function_global I.ok.kind hg (Calls.loadGlobal_global (by rw [I.ok.glob]; exact I.mod.glob.keeps I.bk) hm h) hd
theorem ld_blt {E : Value → Shared → Prop} {pins : List (Addr × Obj)} {s : Shared} {σ : St} {H : Hp} {x : Str} {u : Value} {pos : Pos} {Q : Value → Shared → Prop} (I : Inv X pins σ H s) (hg : Gl X x) (hm : X.mg x = none) (hv : bootBuiltins x = some u) (h : Q u s)
    (hn : x ≠ "__name__" := by decide) (hd : (x == ("__debug__" : Str)) = false := by decide) : wpAny (model X.prog X.w) X.A (eval (.Name x pos) X.env) Q E s := by
  obtain ⟨mb, h1, h2⟩ := I.mod.blt
  exact Calls.Name_function_global I.ok.kind hg (Calls.loadGlobal_builtin (by rw [I.ok.glob]; exact I.mod.glob.keeps I.bk) hm (by rw [I.ok.blt]; exact h1.keeps I.bk) ((h2 x hn).trans hv) h) hd
/-- a module's constant, a class, a function, as a value -/
theorem pe_glob {x : Str} {v : V} {u : Value} {pos : Pos} (hg : Gl X x) (hm : X.mg x = some u) (r : RelV v u) (hd : (x == ("__debug__" : Str)) = false := by decide) : PE X (.Name x pos) (tC v) :=
  fun _ _ _ H _ I h => ld_glob I hg hm ⟨v, H, I, r, h⟩ hd
theorem pe_bltn {x : Str} {v : V} {u : Value} {pos : Pos} (hg : Gl X x) (hm : X.mg x = none) (hv : bootBuiltins x = some u) (r : RelV v u) (hn : x ≠ "__name__" := by decide) (hd : (x == ("__debug__" : Str)) = false := by decide) : PE X (.Name x pos) (tC v) :=
  fun _ _ _ H _ I h => ld_blt I hg hm hv ⟨v, H, I, r, h⟩ hn hd

/-! ### arithmetic -/
variable {a b : Expr} {ta tb : TE} {pos : Pos}
/-! ### comparisons -/
/-- a comparison as a value, as a test -/
def tB (t : TE) : TT := fun σ H Q => t σ H fun x H1 => ∃ c, x = .bl c ∧ Q c H1
/-! ### and, or, not -/
variable {tA tB' : TT} {rest : List Expr}
def tAnd (t u : TT) : TT := fun σ H Q => t σ H fun c H1 => if c = true then u σ H1 Q else Q false H1
def tOr (t u : TT) : TT := fun σ H Q => t σ H fun c H1 => if c = true then Q true H1 else u σ H1 Q
def tNot (t : TT) : TT := fun σ H Q => t σ H fun c H1 => Q (!c) H1
theorem pw_and1 (ha : PT X a tA) : PW X (.BoolOp .And [a] pos) tA := by
  intro wh pins s σ H Q I h
  refine isTrue_and (thn (ha pins s σ H Q I h) fun c s1 e => ?_)
  cases c with
  | true => exact isTrue_and_nil e
  | false => exact e
theorem pw_or1 (ha : PT X a tA) : PW X (.BoolOp .Or [a] pos) tA := by
  intro wh pins s σ H Q I h
  refine isTrue_or (thn (ha pins s σ H Q I h) fun c s1 e => ?_)
  cases c with
  | false => exact isTrue_or_nil e
  | true => exact e
theorem pw_and (ha : PT X a tA) (hb : PW X (.BoolOp .And (b :: rest) pos) tB') : PW X (.BoolOp .And (a :: b :: rest) pos) (tAnd tA tB') := by
  intro wh pins s σ H Q I h
  refine isTrue_and (thn (ha pins s σ H _ I h) fun c s1 ⟨H1, I1, q1⟩ => ?_)
  cases c with
  | true => exact hb wh pins s1 σ H1 Q I1 q1
  | false => exact ⟨H1, I1, q1⟩
theorem pw_or (ha : PT X a tA) (hb : PW X (.BoolOp .Or (b :: rest) pos) tB') : PW X (.BoolOp .Or (a :: b :: rest) pos) (tOr tA tB') := by
  intro wh pins s σ H Q I h
  refine isTrue_or (thn (ha pins s σ H _ I h) fun c s1 ⟨H1, I1, q1⟩ => ?_)
  cases c with
  | true => exact ⟨H1, I1, q1⟩
  | false => exact hb wh pins s1 σ H1 Q I1 q1
theorem pt_not (ha : PT X a tA) : PT X (.UnaryOp .Not a pos) (tNot tA) := by
  intro pins s σ H Q I h
  exact isTrue_not (ha pins s σ H (fun c H1 => Q (!c) H1) I h)
/-- .. as values (bools) -/
def tAndV (ta tb : TE) : TE := fun σ H Q => ta σ H fun x H1 => ∃ c, x = .bl c ∧ if c = true then tb σ H1 Q else Q (.bl false) H1
def tOrV (ta tb : TE) : TE := fun σ H Q => ta σ H fun x H1 => ∃ c, x = .bl c ∧ if c = true then Q (.bl true) H1 else tb σ H1 Q
def tNotV (ta : TE) : TE := fun σ H Q => ta σ H fun x H1 => ∃ c, x = .bl c ∧ Q (.bl (!c)) H1
theorem pe_one {op} {t : TE} (h : PE X a t) : PE X (.BoolOp op [a] pos) t := fun pins s σ H Q I hw => BoolOp_one (h pins s σ H Q I hw)
theorem pe_and (ha : PE X a ta) (hb : PE X (.BoolOp .And (b :: rest) pos) tb) : PE X (.BoolOp .And (a :: b :: rest) pos) (tAndV ta tb) := by
  intro pins s σ H Q I h
  refine BoolOp_and (thn (ha pins s σ H _ I h) fun v s1 ⟨x, H1, I1, r1, q1⟩ => ?_)
  obtain ⟨c, rfl, q1⟩ := q1
  cases r1
  refine wpAny_truthy_bool ?_
  cases c with
  | true => exact hb pins s1 σ H1 Q I1 q1
  | false => exact ⟨.bl false, H1, I1, rfl, q1⟩
theorem pe_not (ha : PE X a ta) : PE X (.UnaryOp .Not a pos) (tNotV ta) := by
  intro pins s σ H Q I h
  refine UnaryOp_ (thn (ha pins s σ H _ I h) fun v s1 ⟨x, H1, I1, r1, q1⟩ => ?_)
  obtain ⟨c, rfl, q1⟩ := q1
  cases r1
  exact not_of (wpAny_truthy_bool ⟨.bl (!c), H1, I1, rfl, q1⟩)
/-- a if t else b -/
def tIf (t : TT) (ta tb : TE) : TE := fun σ H Q => t σ H fun c H1 => if c = true then ta σ H1 Q else tb σ H1 Q
end
end L2

namespace L2
open PySem PySem.Spec PyProof.Rows

/-! ### a list, a tuple that is read: tracked, frozen, or an object of the module -/
def SqL (K : PySem.W.Frag) (H : Hp) (a : Addr) (xs : List V) : Prop :=
  Rd H a (.lst xs) ∨
    ∃ (o : Obj) (its : Array Value) (n : Nat), K.lookup a = some o ∧ o.cls = .type "list" ∧ o.dict = none ∧ o.data = .seq its n ∧ its.size ≤ sizeLine ∧ Vals xs its.toList
def SqT (K : PySem.W.Frag) (H : Hp) (a : Addr) (xs : List V) : Prop :=
  Rd H a (.tup xs) ∨
    ∃ (o : Obj) (its : Array Value) (n : Nat), K.lookup a = some o ∧ o.cls = .type "tuple" ∧ o.data = .seq its n ∧ its.size ≤ sizeLine ∧ Vals xs its.toList
def absV : Value → Option V
  | .none => some .non
  | .bool b => some (.bl b)
  | .int i _ => some (.int i)
  | .str x _ => some (.str x)
  | .bytes b _ => some (.byt b)
  | .float b _ => some (.flt b)
  | .ref a => some (.ref a)
  | .type n => some (.ty n)
  | _ => none
theorem RelV.abs {x : V} {u : Value} (r : RelV x u) : absV u = some x := by
  cases x with
  | non => cases r; rfl
  | bl _ => cases r; rfl
  | int _ => obtain ⟨t, rfl⟩ := r; rfl
  | str _ => obtain ⟨t, rfl⟩ := r; rfl
  | byt _ => obtain ⟨t, rfl⟩ := r; rfl
  | flt _ => obtain ⟨t, rfl⟩ := r; rfl
  | ref _ => cases r; rfl
  | ty _ => cases r; rfl
theorem RelV.inj {x y : V} {u : Value} (r : RelV x u) (q : RelV y u) : x = y := Option.some.inj (r.abs.symm.trans q.abs)
theorem Vals.inj : ∀ {xs ys : List V} {us : List Value}, Vals xs us → Vals ys us → xs = ys
  | _, _, _, .nil, .nil => rfl
  | _, _, _, .cons r t, .cons r' t' => by rw [r.inj r', Vals.inj t t']
section
variable {X : Cx} {pins : List (Addr × Obj)} {σ : St} {H : Hp} {s : Shared} {a : Addr} {xs ys : List V}
theorem SqL.of {K : PySem.W.Frag} (h : H a = some (.lst xs)) : SqL K H a xs := .inl (.inl h)
theorem SqT.of {K : PySem.W.Frag} (h : H a = some (.tup xs)) : SqT K H a xs := .inl (.inl h)
theorem Inv.list (I : Inv X pins σ H s) (h : SqL X.K H a xs) : ∃ its : List Value, Vals xs its ∧ PlainL s.heap a its.toArray ∧ xs.length ≤ sizeLine := by
  rcases h with h | ⟨o, its, n, hk, hc, hd, hs, hz, r⟩
  · obtain ⟨z, its, n, r, e⟩ := h.ok I.hok
    exact ⟨its, r, ⟨_, n, e, rfl, rfl, rfl⟩, z⟩
  · refine ⟨its.toList, r, ⟨o, n, I.kIn a o hk, hc, hd, by simpa using hs⟩, ?_⟩
    have e := r.length
    simp only [Array.length_toList] at e
    omega
theorem Inv.tuple (I : Inv X pins σ H s) (h : SqT X.K H a xs) : ∃ its : List Value, Vals xs its ∧ IsTup s.heap a its.toArray ∧ xs.length ≤ sizeLine := by
  rcases h with h | ⟨o, its, n, hk, hc, hs, hz, r⟩
  · obtain ⟨z, its, r, p⟩ := h.ok I.hok
    exact ⟨its, r, p, z⟩
  · refine ⟨its.toList, r, ⟨o, I.kIn a o hk, hc, n, by simpa using hs⟩, ?_⟩
    have e := r.length
    simp only [Array.length_toList] at e
    omega
theorem Inv.tuple_inj (I : Inv X pins σ H s) (h : SqT X.K H a xs) (h' : SqT X.K H a ys) : xs = ys := by
  obtain ⟨its, r, ⟨o, e, _, n, d⟩, _⟩ := I.tuple h
  obtain ⟨its', r', ⟨o', e', _, n', d'⟩, _⟩ := I.tuple h'
  rw [e] at e'; cases e'
  rw [d] at d'
  injection d' with d1 _
  have : its = its' := by simpa using congrArg Array.toList d1
  subst this
  exact r.inj r'
end

/-! ### another wish about exceptions -/
abbrev Cx.wish (X : Cx) (E : Value → Shared → Prop) : Cx := { X with xe := E }
/-- no exception leaves -/
abbrev Cx.nox (X : Cx) : Cx := X.wish fun _ _ => False
theorem Cx.Ok.wish {X : Cx} (ok : X.Ok) (E : Value → Shared → Prop) : (X.wish E).Ok :=
  ⟨ok.mod, ok.kind, ok.glob, ok.blt, ok.above, ok.inj, ok.has, ok.cab, ok.hd, ok.frames, ok.stk, ok.exf, ok.bs, ok.bsz, ok.noex, ok.exfs, ok.funs, ok.frf⟩
theorem Cx.Ok.unwish {X : Cx} {E : Value → Shared → Prop} (ok : (X.wish E).Ok) : X.Ok :=
  ⟨ok.mod, ok.kind, ok.glob, ok.blt, ok.above, ok.inj, ok.has, ok.cab, ok.hd, ok.frames, ok.stk, ok.exf, ok.bs, ok.bsz, ok.noex, ok.exfs, ok.funs, ok.frf⟩
section
variable {X : Cx} {pins : List (Addr × Obj)} {σ : St} {H : Hp} {s : Shared} {E : Value → Shared → Prop}
theorem Inv.wish (I : Inv X pins σ H s) (E : Value → Shared → Prop) : Inv (X.wish E) pins σ H s := ⟨I.ok.wish E, I.os, I.bare, I.base, I.loc, I.cell, I.free, I.freeC, I.pin, I.hok, I.len⟩
theorem Inv.unwish (I : Inv (X.wish E) pins σ H s) : Inv X pins σ H s := ⟨I.ok.unwish, I.os, I.bare, I.base, I.loc, I.cell, I.free, I.freeC, I.pin, I.hok, I.len⟩
theorem SP.unwish {D : Ends} {f : Flow} {s' : Shared} (h : SP (X.wish E) pins D f s') : SP X pins D f s' := by
  cases f with
  | next => obtain ⟨σ', H', I, q⟩ := h; exact ⟨σ', H', I.unwish, q⟩
  | brk => obtain ⟨σ', H', I, q⟩ := h; exact ⟨σ', H', I.unwish, q⟩
  | cont => obtain ⟨σ', H', I, q⟩ := h; exact ⟨σ', H', I.unwish, q⟩
  | ret u => obtain ⟨v, σ', H', I, r, q⟩ := h; exact ⟨v, σ', H', I.unwish, r, q⟩
theorem PE.nox {e : Expr} {t : TE} (h : PE X.nox e t) : PE X e t := fun pins s σ H Q I hw =>
  wpAny_mono (h pins s σ H Q (I.wish _) hw) (fun _ _ ⟨v, H', I', r, q⟩ => ⟨v, H', I'.unwish, r, q⟩) fun _ _ z => False.elim z
theorem PT.nox {e : Expr} {t : TT} (h : PT X.nox e t) : PT X e t := fun pins s σ H Q I hw =>
  wpAny_mono (h pins s σ H Q (I.wish _) hw) (fun _ _ ⟨H', I', q⟩ => ⟨H', I'.unwish, q⟩) fun _ _ z => False.elim z
theorem PSs.nox {st : List Stmt} {t : TS} (h : PSs X.nox st t) : PSs X st t := fun pins s σ H D I hw =>
  wpAny_mono (h pins s σ H D (I.wish _) hw) (fun _ _ q => q.unwish) fun _ _ z => False.elim z
end

/-! ### blocks and small statements -/
section
variable {X : Cx} {st : Stmt} {rest : List Stmt} {t u : TS} {e : Expr} {te : TE} {pos : Pos}
def tNext : TS := fun D σ H => D.nx σ H
def tSeq (t u : TS) : TS := fun D σ H => t { D with nx := u D } σ H
theorem pss_nil : PSs X [] tNext := fun _ _ σ H _ I h => wpAny_execs_nil ⟨σ, H, I, h⟩
theorem pss_cons (h1 : PS X st t) (h2 : PSs X rest u) : PSs X (st :: rest) (tSeq t u) := by
  intro pins s σ H D I h
  refine wpAny_execs_cons (thn (h1 pins s σ H { D with nx := u D } I h) fun f s1 q => ?_)
  cases f with
  | next =>
    obtain ⟨σ', H', I', q⟩ := q
    exact h2 pins s1 σ' H' D I' q
  | ret v => exact q
  | brk => exact q
  | cont => exact q
theorem pss_one (h1 : PS X st t) : PSs X [st] t := by
  intro pins s σ H D I h
  refine wpAny_execs_cons (thn (h1 pins s σ H D I h) fun f s1 q => ?_)
  cases f with
  | next => exact wpAny_execs_nil q
  | ret v => exact q
  | brk => exact q
  | cont => exact q
/-- in a def's body nothing is shown -/
theorem Inv.quiet {pins : List (Addr × Obj)} {σ : St} {H : Hp} {s : Shared} (I : Inv X pins σ H s) : interactive X.env = false := by simp [interactive, I.ok.kind]
/-- an expression whose value is dropped -/
def tDrop (te : TE) : TS := fun D σ H => te σ H fun _ H1 => D.nx σ H1
theorem ps_expr (he : PE X e te) (hs : swapsWith e none pos.line X.env = pure false := by rfl) : PS X (.Expr e pos) (tDrop te) := by
  intro pins s σ H D I h
  exact wpAny_Expr_any (thn (he pins s σ H _ I h) fun v s1 ⟨x, H1, I1, r1, q1⟩ => ⟨σ, H1, I1, q1⟩) I.quiet hs
def tRet (te : TE) : TS := fun D σ H => te σ H D.rt
theorem ps_ret (he : PE X e te) : PS X (.Return (some e) pos) (tRet te) := by
  intro pins s σ H D I h
  exact wpAny_Return_some (thn (he pins s σ H _ I h) fun v s1 ⟨x, H1, I1, r1, q1⟩ => ⟨x, σ, H1, I1, r1, q1⟩)
def tRetN : TS := fun D _ H => D.rt .non H
def tIfS (c : TT) (t u : TS) : TS := fun D σ H => c σ H fun b H1 => if b = true then t D σ H1 else u D σ H1
theorem ps_if {c : Expr} {a b : List Stmt} {tc : TT} (hc : PT X c tc) (ha : PSs X a t) (hb : PSs X b u) : PS X (.If c a b pos) (tIfS tc t u) := by
  intro pins s σ H D I h
  refine wpAny_If (thn (hc pins s σ H _ I h) fun d s1 ⟨H1, I1, q1⟩ => ?_)
  cases d with
  | true => exact ha pins s1 σ H1 D I1 q1
  | false => exact hb pins s1 σ H1 D I1 q1
end

/-! ### targets -/
abbrev TG := V → St → Hp → (St → Hp → Prop) → Prop
abbrev TGs := List V → St → Hp → (St → Hp → Prop) → Prop
def PG (X : Cx) (target : Expr) (t : TG) : Prop :=
  ∀ (pins : List (Addr × Obj)) (s : Shared) (σ : St) (H : Hp) (v : V) (u : Value) (Q : St → Hp → Prop), Inv X pins σ H s → RelV v u → t v σ H Q →
    wpAny (model X.prog X.w) X.A (assign target X.env u) (fun _ s' => ∃ σ' H', Inv X pins σ' H' s' ∧ Q σ' H') X.xe s
/-- several targets, one after another -/
def PGs (X : Cx) (ts : List Expr) (t : TGs) : Prop :=
  ∀ (pins : List (Addr × Obj)) (s : Shared) (σ : St) (H : Hp) (vs : List V) (us : List Value) (Q : St → Hp → Prop), Inv X pins σ H s → Vals vs us → t vs σ H Q →
    wpAny (model X.prog X.w) X.A (assignInOrder ((assignEach ts X.env).map (·.2)) us) (fun _ s' => ∃ σ' H', Inv X pins σ' H' s' ∧ Q σ' H') X.xe s
/-- o[i] = v, by values -/
abbrev TSet := V → V → V → Hp → (Hp → Prop) → Prop
def PSet (X : Cx) (t : TSet) : Prop :=
  ∀ (pins : List (Addr × Obj)) (s : Shared) (σ : St) (H : Hp) (o i v : V) (ov iv u : Value) (Q : Hp → Prop), Inv X pins σ H s → RelV o ov → RelV i iv → RelV v u → t o i v H Q →
    wpAny (model X.prog X.w) X.A (setItem ov iv u) (fun _ s' => ∃ H', Inv X pins σ H' s' ∧ Q H') X.xe s
section
variable {X : Cx} {pos : Pos}
def gName (i : Nat) : TG := fun v σ H Q => Q (σ.set i (some v)) H
theorem pg_name {i : Nat} {x : Str} (hN : X.N.Nodup) (hi : X.N[i]? = some x) (hx : Loc X.env.scope x) (hf : X.fn x = true ∨ X.env.scope.names.lookup x = some .local := by first | exact .inl rfl | exact .inr rfl | assumption) : PG X (.Name x pos) (gName i) := by
  intro pins s σ H v u Q I r h
  exact wpAny_assign_Name (store_ok I hN hi hx r (fun s' I' => ⟨_, H, I', h⟩) hf)
def gNil : TGs := fun vs σ H Q => vs = [] ∧ Q σ H
def gCons (t : TG) (u : TGs) : TGs := fun vs σ H Q => ∃ v r, vs = v :: r ∧ t v σ H fun σ' H' => u r σ' H' Q
theorem pgs_nil : PGs X [] gNil := by
  intro pins s σ H vs us Q I r h
  obtain ⟨e, h⟩ := h
  subst e
  cases r
  exact assignInOrder_nil ⟨σ, H, I, h⟩
theorem pgs_cons {e : Expr} {es : List Expr} {t : TG} {u : TGs} (h1 : PG X e t) (h2 : PGs X es u)
    (hs : (assignEach (e :: es) X.env).map (·.2) = assign e X.env :: (assignEach es X.env).map (·.2) := by rfl) : PGs X (e :: es) (gCons t u) := by
  intro pins s σ H vs us Q I r h
  obtain ⟨v, vr, e1, h⟩ := h
  subst e1
  cases r with
  | cons r rr =>
    rw [hs]
    refine assignInOrder_cons (thn (h1 pins s σ H _ _ _ I r h) fun _ s1 ⟨σ1, H1, I1, q1⟩ => ?_)
    exact h2 pins s1 σ1 H1 _ _ Q I1 rr q1
/-- o[i] = .. -/
def gSub (to ti : TE) (t : TSet) : TG := fun v σ H Q => to σ H fun o H1 => ti σ H1 fun i H2 => t o i v H2 fun H3 => Q σ H3
theorem pg_sub {o i : Expr} {to ti : TE} {t : TSet} (ho : PE X o to) (hi : PE X i ti) (hs : PSet X t)
    (ha : ∀ v, assign (.Subscript o i pos) X.env v = (do
      let ov ← holding [v] (eval o X.env)
      let iv ← holding [v, ov] (eval i X.env)
      standAt pos
      holding [v, ov, iv] (setItem ov iv v)
      release [v, ov, iv] []) := by intro _; rfl) : PG X (.Subscript o i pos) (gSub to ti t) := by
  intro pins s σ H v u Q I r h
  rw [ha]
  refine wpAny_bind (wpAny_holding (thn (ho pins s σ H _ I h) fun ov s1 ⟨x, H1, I1, r1, q1⟩ => ?_))
  refine wpAny_bind (wpAny_holding (thn (hi pins s1 σ H1 _ I1 q1) fun iv s2 ⟨y, H2, I2, r2, q2⟩ => ?_))
  refine wpAny_bind (wpAny_standAt (wpAny_bind (wpAny_holding (thn (hs pins s2 σ H2 x y v ov iv u _ I2 r1 r2 r q2) fun _ s3 ⟨H3, I3, q3⟩ => ?_))))
  exact wpAny_release ⟨σ, H3, I3, q3⟩
/-- target = value -/
def tAsg (te : TE) (g : TG) : TS := fun D σ H => te σ H fun x H1 => g x σ H1 D.nx
theorem ps_asg {tg e : Expr} {te : TE} {g : TG} (he : PE X e te) (hg : PG X tg g) (hs : swapsWithSole [tg] e pos.line X.env = pure false := by rfl) (hw : swappedStores [tg] e X.env = pure none := by rfl)
    (h1 : (assignEach [tg] X.env).map (·.2) = [assign tg X.env] := by rfl) : PS X (.Assign [tg] e pos) (tAsg te g) := by
  intro pins s σ H D I h
  refine wpAny_Assign_stores (thn (he pins s σ H _ I h) fun v s1 ⟨x, H1, I1, r1, q1⟩ => ?_) hs hw
  rw [h1]
  exact thn (hg pins s1 σ H1 x v _ I1 r1 q1) fun _ s2 q => q
/-- name = value -/
theorem ps_set {i : Nat} {x : Str} {e : Expr} {te : TE} {pos' : Pos} (hN : X.N.Nodup) (hi : X.N[i]? = some x) (hx : Loc X.env.scope x) (he : PE X e te) (hs : swapsWith e (some (.Name x pos')) pos.line X.env = pure false := by rfl) (hf : X.fn x = true ∨ X.env.scope.names.lookup x = some .local := by first | exact .inl rfl | exact .inr rfl | assumption) :
    PS X (.Assign [.Name x pos'] e pos) (tAsg te (gName i)) := by
  intro pins s σ H D I h
  refine wpAny_Assign_Name (thn (he pins s σ H _ I h) fun v s1 ⟨y, H1, I1, r1, q1⟩ => ?_) hs
  exact store_ok I1 hN hi hx r1 (fun s2 I2 => ⟨_, H1, I2, q1⟩) hf
end

/-! ### while -/
section
variable {X : Cx} {pos : Pos}
end

/-! ### what a loop or a comprehension walks -/
/-- at turn i: it yields x (the heap may grow), or it stops -/
structure It where
  go : Nat → Hp → Prop
  yld : Nat → Hp → V → Hp → Prop
  stop : Nat → Hp → Prop
/-- the iterator's own objects may turn: they are not the frame's, not pinned, younger than the entry (or a comprehension's own) -/
def FpOk (X : Cx) (pins : List (Addr × Obj)) (H : Hp) (b : Addr) : Prop :=
  H b = none ∧ b ≠ X.env.locals ∧ b ∉ X.fs ∧ (b ∈ X.ex ∨ X.s₀.heap.objs.size ≤ b) ∧ (∀ x c, X.env.cells.lookup x = some c → c ≠ b) ∧ ∀ p ∈ X.pn ++ pins, p.1 ≠ b
theorem Inv.fpOk {X : Cx} {pins : List (Addr × Obj)} {σ : St} {H H' : Hp} {s : Shared} {b : Addr} (I : Inv X pins σ H s) (hb : s.heap.objs.size ≤ b) (hn : H' b = none) : FpOk X pins H' b := by
  refine ⟨hn, Nat.ne_of_gt (Nat.lt_of_lt_of_le I.lt hb), I.nofs hb, .inr (Nat.le_trans I.sz hb), fun x c e z => ?_, fun p hp z => ?_⟩
  · obtain ⟨v, q⟩ := I.cell x c e
    exact absurd (Nat.lt_of_lt_of_le q.lt (by rw [z]; exact hb)) (Nat.lt_irrefl _)
  · exact absurd (Nat.lt_of_lt_of_le (Heap.lt_size (I.pin p hp).1) (by rw [z]; exact hb)) (Nat.lt_irrefl _)
structure Turn (P : Program) (w : World) (K : PySem.W.Frag) (tg : Expr) (J : It) (fp : List Addr) (it : Addr) (tn : Nat → Heap → Prop) : Prop where
  mem : it ∈ fp
  obj : ∀ i h, tn i h → ∀ b ∈ fp, ∃ o, h.get? b = some o ∧ ∀ v, o.data ≠ .cell v
  keep : ∀ i h h', tn i h → (∀ b ∈ fp, ∀ o, h.get? b = some o → h'.get? b = some o) → tn i h'
  item : ∀ (X : Cx), X.prog = P → X.w = w → X.K = K → X.calm = true → ∀ (i : Nat) (pins : List (Addr × Obj)) (s : Shared) (σ : St) (H : Hp) (E : Value → Shared → Prop), Inv X pins σ H s → (∀ b ∈ fp, FpOk X pins H b) → tn i s.heap → J.go i H →
    wpAny (model P w) X.A (pyNext (.ref it)) (fun r s1 => ∃ u, r = some u ∧
      wpAny (model P w) X.A (letOwnedTupleGo tg (.ref it) u) (fun _ s2 => ∃ x H', Inv X pins σ H' s2 ∧ RelV x u ∧ J.yld i H x H' ∧ tn (i + 1) s2.heap ∧ ∀ b ∈ fp, H' b = none) E s1) E s
  done : ∀ (X : Cx), X.prog = P → X.w = w → X.K = K → X.calm = true → ∀ (i : Nat) (pins : List (Addr × Obj)) (s : Shared) (σ : St) (H : Hp) (E : Value → Shared → Prop), Inv X pins σ H s → (∀ b ∈ fp, FpOk X pins H b) → tn i s.heap → J.stop i H →
    wpAny (model P w) X.A (pyNext (.ref it)) (fun r s1 => r = none ∧ Inv X pins σ H s1) E s
  self : ∀ (A : Around) (i : Nat) (s : Shared) (Q : Value → Shared → Prop) (E : Value → Shared → Prop), tn i s.heap → Q (.ref it) s → wpAny (model P w) A (pyIter (.ref it)) Q E s
abbrev TI := St → Hp → (It → Hp → Prop) → Prop
/-- an iterator has come -/
def PIE (X : Cx) (pins : List (Addr × Obj)) (σ : St) (tg : Expr) (R : It → Hp → Prop) (itv : Value) (s2 : Shared) : Prop :=
  ∃ (it : Addr) (fp : List Addr) (tn : Nat → Heap → Prop) (J : It) (H' : Hp), itv = .ref it ∧ Inv X pins σ H' s2 ∧ Turn X.prog X.w X.K tg J fp it tn ∧ tn 0 s2.heap ∧ (∀ b ∈ fp, FpOk X pins H' b) ∧ R J H'
def PI (X : Cx) (tg iter : Expr) (wi : TI) : Prop :=
  ∀ (pins : List (Addr × Obj)) (s : Shared) (σ : St) (H : Hp) (R : It → Hp → Prop), Inv X pins σ H s → wi σ H R →
    wpAny (model X.prog X.w) X.A (eval iter X.env) (fun v s1 => wpAny (model X.prog X.w) X.A (pyIter v) (PIE X pins σ tg R) X.xe s1) X.xe s

/-- the step ahead of the store is nothing for an iterator that keeps no tuple -/
theorem go_of {M : Model} {A : Around} {E : Value → Shared → Prop} {s : Shared} {tg : Expr} {it : Addr} {u : Value} {o : Obj} {n : String} {vs : Array Value} {Q : Unit → Shared → Prop} (ho : s.heap.get? it = some o) (hc : o.cls = .type n) (hd : o.data = .fields vs)
    (hn : ["enumerate", "zip", "dict_itemiterator", "dict_reverseitemiterator", "odict_iterator", "itertools.zip_longest", "itertools.pairwise"].contains n = false) (hQ : Q () s) : wpAny M A (letOwnedTupleGo tg (.ref it) u) Q E s := by
  unfold letOwnedTupleGo
  cases tg <;> first
    | exact wpAny_pure hQ
    | (cases u <;> first
        | exact wpAny_pure hQ
        | (refine wpAny_bind (wpAny_load ho ?_)
           rw [hc, hd]
           show wpAny M A (if (["enumerate", "zip", "dict_itemiterator", "dict_reverseitemiterator", "odict_iterator", "itertools.zip_longest", "itertools.pairwise"].contains n && vs[0]? == some (rawInt _)) = true then _ else _) Q E s
           rw [if_neg (by intro h; rw [hn, Bool.false_and] at h; cases h)]
           exact wpAny_pure hQ))

/-- the list at a, as it stands at each turn (a loop may append to it) -/
def Itl (K : PySem.W.Frag) (a : Addr) : It :=
  ⟨fun i H => ∃ xs x, SqL K H a xs ∧ xs[i]? = some x, fun i H x H' => H' = H ∧ ∀ xs, SqL K H a xs → xs[i]? = some x, fun i H => ∃ xs, SqL K H a xs ∧ xs.length ≤ i⟩
def Itt (K : PySem.W.Frag) (a : Addr) : It :=
  ⟨fun i H => ∃ xs x, SqT K H a xs ∧ xs[i]? = some x, fun i H x H' => H' = H ∧ ∀ xs, SqT K H a xs → xs[i]? = some x, fun i H => ∃ xs, SqT K H a xs ∧ xs.length ≤ i⟩
/-- lo, lo + 1, .. (n of them) -/
def Itr (lo : Int) (n : Nat) : It := ⟨fun i _ => i < n, fun i H x H' => H' = H ∧ x = .int (lo + i), fun i _ => n ≤ i⟩
theorem turn_tuple {P : Program} {w : World} {K : PySem.W.Frag} {tg : Expr} (a it : Addr) : Turn P w K tg (Itt K a) [it] it (fun i h => h.IsTupleIter it a i) where
  mem := by simp
  obj := fun i h st b hb => by
    have e : b = it := by simpa using hb
    subst e
    obtain ⟨o, e, c, d⟩ := st
    exact ⟨o, e, fun v z => by rw [d] at z; cases z⟩
  keep := fun i h h' st k => st.at fun o e => k it (by simp) o e
  item := by
    intro X hP hw hK hc i pins s σ H E I hf st hg
    subst hP hw hK
    obtain ⟨xs, x, hq, hx⟩ := hg
    obtain ⟨its, rv, p, hz⟩ := I.tuple hq
    obtain ⟨u, hu, ru⟩ := rv.get hx
    obtain ⟨f0, f1, f2, f3, f4, f5⟩ := hf it (by simp)
    refine wpAny_pyNext_tuple_item st (show s.heap.IsTuple a its.toArray from p) (x := u) (by simpa using hu) fun h' st' sb => ?_
    have I1 : Inv X pins σ H { s with heap := h' } := I.turned (t' := s.toks) (fun b o hb e => (sb.2 b hb).trans e) f0 f1 f3 f4 f5
    obtain ⟨o, e, c, d⟩ := id st'
    exact ⟨u, rfl, go_of (s := { s with heap := h' }) e c d (by decide) ⟨x, H, I1, ru, ⟨rfl, fun ys hy => by rw [I.tuple_inj hy hq]; exact hx⟩, st', fun b hb => (hf b hb).1⟩⟩
  done := by
    intro X hP hw hK hc i pins s σ H E I hf st hg
    subst hP hw hK
    obtain ⟨xs, hq, hx⟩ := hg
    obtain ⟨its, rv, p, hz⟩ := I.tuple hq
    obtain ⟨f0, f1, f2, f3, f4, f5⟩ := hf it (by simp)
    have hl := rv.length
    exact wpAny_pyNext_tuple_end (I.ok.hd hc) st (show s.heap.IsTuple a its.toArray from p) (by simp; omega) fun h' eb => ⟨rfl, I.turned (t' := s.toks) (fun b o hb e => eb b o hb e) f0 f1 f3 f4 f5⟩
  self := fun _ _ _ _ _ st h => wpAny_pyIter_tupleiter st h
theorem turn_range {P : Program} {w : World} {K : PySem.W.Frag} {tg : Expr} (it : Addr) (lo : Int) (n : Nat) : Turn P w K tg (Itr lo n) [it] it (fun i h => IsRangeIter h it (lo + (i : Nat) * 1) ((n : Int) - (i : Nat)) 1) where
  mem := by simp
  obj := fun i h st b hb => by
    have e : b = it := by simpa using hb
    subst e
    exact ⟨_, st, fun v z => by
      have z' : Data.fields _ = Data.cell v := z
      cases z'⟩
  keep := fun i h h' st k => k it (by simp) _ st
  item := by
    intro X hP hw hK hc i pins s σ H E I hf st hg
    subst hP hw hK
    obtain ⟨f0, f1, f2, f3, f4, f5⟩ := hf it (by simp)
    have W := Walks.range (prog := X.prog) (w := X.w) (I.ok.hd hc) it lo 1 n
    refine W.item i s _ _ hg st fun v h' tk hv st' kk => ?_
    obtain ⟨t, rfl⟩ := hv
    have I1 : Inv X pins σ H { s with heap := h', toks := tk } := I.turned (fun b o hb e => kk b o (by simpa using hb) e) f0 f1 f3 f4 f5
    refine ⟨_, rfl, go_of (s := { s with heap := h', toks := tk }) (n := "range_iterator") st' rfl rfl (by decide) ⟨.int (lo + i), H, I1, ⟨t, ?_⟩, ⟨rfl, rfl⟩, st', fun b hb => (hf b hb).1⟩⟩
    rw [Int.mul_one]
  done := by
    intro X hP hw hK hc i pins s σ H E I hf st hg
    subst hP hw hK
    obtain ⟨f0, f1, f2, f3, f4, f5⟩ := hf it (by simp)
    exact wpAny_pyNext_range_end (I.ok.hd hc) st (by have : n ≤ i := hg; omega) fun h' eb => ⟨rfl, I.turned (t' := s.toks) (fun b o hb e => eb b o hb e) f0 f1 f3 f4 f5⟩
  self := fun _ _ _ _ _ st h => wpAny_pyIter_rangeiter st h
end L2

namespace L2
open PySem PySem.Spec PyProof.Rows
section
variable {X : Cx} {tg : Expr}
def iList (K : PySem.W.Frag) (tl : TE) : TI := fun σ H R => tl σ H fun x H1 => ∃ a, x = .ref a ∧ (∃ xs, SqL K H1 a xs) ∧ R (Itl K a) H1
def iTup (K : PySem.W.Frag) (tl : TE) : TI := fun σ H R => tl σ H fun x H1 => ∃ a, x = .ref a ∧ (∃ xs, SqT K H1 a xs) ∧ R (Itt K a) H1
theorem pi_tup {l : Expr} {tl : TE} (hl : PE X l tl) : PI X tg l (iTup X.K tl) := by
  intro pins s σ H R I h
  refine thn (hl pins s σ H _ I h) fun v s1 ⟨x, H1, I1, r1, q1⟩ => ?_
  obtain ⟨a, e, ⟨xs, hq⟩, q⟩ := q1
  subst e
  cases r1
  obtain ⟨its, rv, p, hz⟩ := I1.tuple hq
  refine wpAny_pyIter_tuple (show s1.heap.IsTuple a its.toArray from p) ?_
  refine ⟨s1.heap.objs.size, [s1.heap.objs.size], _, _, H1, rfl, I1.kept (t' := s1.toks) fun b o e => Heap.get?_push_of_some _ e, turn_tuple a _, ⟨_, Heap.get?_push_size _ rfl, rfl, rfl⟩, fun b hb => ?_, q⟩
  have e : b = s1.heap.objs.size := by simpa using hb
  subst e
  exact I1.fpOk (Nat.le_refl _) (I1.hok.fresh (Nat.le_refl _))
/-- a range object just made, walked -/
theorem range_it {pins : List (Addr × Obj)} {σ : St} {H : Hp} {s : Shared} {R : It → Hp → Prop} {E : Value → Shared → Prop} {lo hi : Int} {t u v : Tok} {tk : Nat} (I : Inv X pins σ H s) (h1 : -(2 ^ 62) ≤ lo) (h2 : lo < 2 ^ 62) (h3 : -(2 ^ 62) ≤ hi) (h4 : hi < 2 ^ 62)
    (q : R (Itr lo (hi - lo).toNat) H) : wpAny (model X.prog X.w) X.A (pyIter (.ref s.heap.objs.size)) (PIE X pins σ tg R) E { s with heap := s.heap.push { cls := .type "range", data := .fields #[.int lo t, .int hi u, .int 1 v] }, toks := tk } := by
  refine wpAny_pyIter_range (IsRange.new ..) (small_one h1 h2 h3 h4) ?_
  have I1 : Inv X pins σ H { s with heap := s.heap.push { cls := .type "range", data := .fields #[.int lo t, .int hi u, .int 1 v] }, toks := tk } := I.kept fun b o e => Heap.get?_push_of_some _ e
  refine ⟨(s.heap.push { cls := .type "range", data := .fields #[.int lo t, .int hi u, .int 1 v] }).objs.size, [(s.heap.push { cls := .type "range", data := .fields #[.int lo t, .int hi u, .int 1 v] }).objs.size], _, _, H, rfl,
    I1.kept (t' := tk) fun b o e => Heap.get?_push_of_some _ e, turn_range _ lo (hi - lo).toNat, ?_, fun b hb => ?_, q⟩
  · have e1 : lo + ((0 : Nat) : Int) * 1 = lo := by simp
    have e2 : (((hi - lo).toNat : Nat) : Int) - ((0 : Nat) : Int) = Builtin.Range.rangeSize lo hi 1 := by rw [rangeSize_one]; split <;> omega
    show IsRangeIter _ _ (lo + ((0 : Nat) : Int) * 1) ((((hi - lo).toNat : Nat) : Int) - ((0 : Nat) : Int)) 1
    rw [e1, e2]
    exact Heap.get?_push_size _ rfl
  · have e : b = (s.heap.push { cls := .type "range", data := .fields #[.int lo t, .int hi u, .int 1 v] }).objs.size := by simpa using hb
    subst e
    exact I1.fpOk (Nat.le_refl _) (I1.hok.fresh (Nat.le_refl _))
def iRng1 (ta : TA) : TI := fun σ H R => ta σ H fun vs H1 => ∃ j : Int, vs = [.int j] ∧ -(2 ^ 62) ≤ j ∧ j < 2 ^ 62 ∧ R (Itr 0 j.toNat) H1
def iRng2 (ta : TA) : TI := fun σ H R => ta σ H fun vs H1 => ∃ i j : Int, vs = [.int i, .int j] ∧ (-(2 ^ 62) ≤ i ∧ i < 2 ^ 62 ∧ -(2 ^ 62) ≤ j ∧ j < 2 ^ 62) ∧ R (Itr i (j - i).toNat) H1
theorem pi_range1 {a : Expr} {ta : TA} {p pos : Pos} (hg : Gl X "range") (hm : X.mg "range" = none) (ha : PA X [a] ta) (hs : starEach [a] X.env = [(false, eval a X.env)] := by rfl) : PI X tg (.Call (.Name "range" p) [a] [] pos) (iRng1 ta) := by
  intro pins s σ H R I h
  refine Call_ (ld_blt I hg hm boot_range (PyProof.Rows.callWith_type1 (thn (ha pos pins s σ H _ I h) fun us s1 ⟨vs, H1, I1, r1, q1⟩ => ?_) hs rfl))
  obtain ⟨j, e, q1, q2, q⟩ := q1
  subst e
  cases r1 with
  | cons r rr =>
    cases rr
    obtain ⟨t, rfl⟩ := r
    exact call_range_1 (range_it I1 (by omega) (by omega) q1 q2 (by simpa using q))
/-! ### for -/
/-- W: the invariant by the turn and a measure; N: what the body is to reach -/
def tFor (wi : TI) (g : TG) (tb : TS) : TS := fun D σ H => wi σ H fun J H1 => ∃ W : Nat → Nat → St → Hp → Prop, (∃ m, W 0 m σ H1) ∧ ∀ i m σ H, W i m σ H →
  (J.stop i H ∧ D.nx σ H) ∨ (J.go i H ∧ ∃ N : St → Hp → Prop, (∀ σ' H', N σ' H' → ∃ m', m' < m ∧ W (i + 1) m' σ' H') ∧ ∀ x H', J.yld i H x H' → g x σ H' fun σ2 H2 => tb { D with nx := N, ct := N, bk := D.nx } σ2 H2)
/-- the records at fp as they stand -/
def pinsAt (fp : List Addr) (h : Heap) : List (Addr × Obj) := fp.filterMap fun b => (h.get? b).map fun o => (b, o)
theorem mem_pinsAt {fp : List Addr} {h : Heap} {b : Addr} {o : Obj} (hb : b ∈ fp) (e : h.get? b = some o) : (b, o) ∈ pinsAt fp h := List.mem_filterMap.mpr ⟨b, hb, by rw [e]; rfl⟩
theorem of_pinsAt {fp : List Addr} {h : Heap} {p : Addr × Obj} (hp : p ∈ pinsAt fp h) : p.1 ∈ fp ∧ h.get? p.1 = some p.2 := by
  obtain ⟨b, hb, e⟩ := List.mem_filterMap.mp hp
  cases q : h.get? b with
  | none => rw [q] at e; cases e
  | some o =>
    rw [q] at e
    have e' : (b, o) = p := Option.some.inj e
    subst e'
    exact ⟨hb, q⟩
theorem Inv.pinned {pins : List (Addr × Obj)} {σ : St} {H : Hp} {s : Shared} {fp : List Addr} (I : Inv X pins σ H s) (hf : ∀ b ∈ fp, FpOk X pins H b) (ho : ∀ b ∈ fp, ∃ o, s.heap.get? b = some o ∧ ∀ v, o.data ≠ .cell v) : Inv X (pins ++ pinsAt fp s.heap) σ H s :=
  I.pins_of fun p hp => (List.mem_append.mp hp).elim (fun z => I.pin p (List.mem_append_right _ z)) fun z => by
    obtain ⟨hb, e⟩ := of_pinsAt z
    obtain ⟨f0, f1, f2, _⟩ := hf p.1 hb
    obtain ⟨o, e', d⟩ := ho p.1 hb
    rw [e] at e'; cases e'
    exact ⟨e, f0, f1, f2, d⟩
theorem Inv.unpinned {pins pl : List (Addr × Obj)} {σ : St} {H : Hp} {s : Shared} (I : Inv X (pins ++ pl) σ H s) : Inv X pins σ H s := I.pins_of fun p hp => I.pin p (List.mem_append_right _ (List.mem_append_left _ hp))
theorem ps_for {iter : Expr} {body : List Stmt} {wi : TI} {g : TG} {tb : TS} {pos : Pos} (hp : PassesOwn (model X.prog X.w) X.A X.env X.xe) (hc : X.calm = true) (hi : PI X tg iter wi) (hg : PG X tg g) (hb : PSs X body tb)
    (hs : ∀ x, foldedSetIterable iter X.env x = pure x := by intro _; rfl) : PS X (.For tg iter body [] pos) (tFor wi g tb) := by
  intro pins s σ H D I h
  refine wpAny_For (thn (hi pins s σ H _ I h) fun v s1 h1 => thn h1 fun itv s2 h2 => ?_) hs
  obtain ⟨it, fp, tn, J, H2, e, I2, T, st2, f2, W, ⟨m0, w0⟩, turn⟩ := h2
  subst e
  -- what stays true of the iterator's objects through the loop
  have stat : ∀ {H' : Hp}, (∀ b ∈ fp, H' b = none) → ∀ b ∈ fp, FpOk X pins H' b := fun hn b hb => ⟨hn b hb, (f2 b hb).2⟩
  refine codeAny_forLoop_any (fun n s' => ∃ i σ' H', Inv X pins σ' H' s' ∧ tn i s'.heap ∧ (∀ b ∈ fp, H' b = none) ∧ W i n σ' H') ?_ m0 ⟨0, σ, H2, I2, st2, fun b hb => (f2 b hb).1, w0⟩
  rintro n s3 ⟨i, σ3, H3, I3, st3, fr3, w3⟩
  rcases turn i n σ3 H3 w3 with ⟨stop, qn⟩ | ⟨go, N, hN, step⟩
  · refine wpAny_passesOwn hp (thn (T.done X rfl rfl rfl hc i pins s3 σ3 H3 X.xe I3 (stat fr3) st3 stop) fun r s4 ⟨hr, I4⟩ => ?_)
    subst hr
    exact wpAny_execs_nil ⟨σ3, H3, I4, qn⟩
  · refine wpAny_passesOwn hp (thn (T.item X rfl rfl rfl hc i pins s3 σ3 H3 X.xe I3 (stat fr3) st3 go) fun r s4 ⟨u, hr, h4⟩ => ?_)
    subst hr
    refine wpAny_passesOwn hp (thn h4 fun _ s5 ⟨x, H5, I5, r5, y5, st5, fr5⟩ => ?_)
    have I5' := I5.pinned (stat fr5) (T.obj _ _ st5)
    refine wpAny_passesOwn hp (thn (hg _ s5 σ3 H5 x u _ I5' r5 (step x H5 y5)) fun _ s6 ⟨σ6, H6, I6, q6⟩ => ?_)
    refine wpAny_passesOwn hp (thn (hb _ s6 σ6 H6 _ I6 q6) fun f s7 q7 => ?_)
    have again : ∀ {σ7 : St} {H7 : Hp}, Inv X (pins ++ pinsAt fp s5.heap) σ7 H7 s7 → N σ7 H7 → ∃ m, m < n ∧ ∃ i σ' H', Inv X pins σ' H' s7 ∧ tn i s7.heap ∧ (∀ b ∈ fp, H' b = none) ∧ W i m σ' H' := fun {σ7 H7} I7 n7 => by
      obtain ⟨m', hm, w7⟩ := hN σ7 H7 n7
      refine ⟨m', hm, i + 1, σ7, H7, I7.unpinned, T.keep _ _ _ st5 fun b hb o e => (I7.pin (b, o) (List.mem_append_right _ (List.mem_append_right _ (mem_pinsAt hb e)))).1, fun b hb => ?_, w7⟩
      obtain ⟨o, e, d⟩ := T.obj _ _ st5 b hb
      exact (I7.pin (b, o) (List.mem_append_right _ (List.mem_append_right _ (mem_pinsAt hb e)))).2.1
    cases f with
    | next => obtain ⟨σ7, H7, I7, n7⟩ := q7; exact again I7 n7
    | cont => obtain ⟨σ7, H7, I7, n7⟩ := q7; exact again I7 n7
    | brk => obtain ⟨σ7, H7, I7, q7⟩ := q7; exact ⟨σ7, H7, I7.unpinned, q7⟩
    | ret v => obtain ⟨x7, σ7, H7, I7, r7, q7⟩ := q7; exact ⟨x7, σ7, H7, I7.unpinned, r7, q7⟩
end

/-! ### the forms one uses -/
/-- over a list that the body leaves as it is -/
theorem for_list {K : PySem.W.Frag} {a : Addr} {xs : List V} {g : TG} {tb : TS} {D : Ends} {σ : St} {H : Hp} (Pv : Nat → St → Hp → Prop) (h0 : Pv 0 σ H) (hl : ∀ i σ H, i ≤ xs.length → Pv i σ H → SqL K H a xs)
    (hs : ∀ i x σ H, xs[i]? = some x → Pv i σ H → g x σ H fun σ2 H2 => tb { D with nx := Pv (i + 1), ct := Pv (i + 1), bk := D.nx } σ2 H2) (hd : ∀ σ H, Pv xs.length σ H → D.nx σ H) :
    ∃ W : Nat → Nat → St → Hp → Prop, (∃ m, W 0 m σ H) ∧ ∀ i m σ H, W i m σ H →
      ((Itl K a).stop i H ∧ D.nx σ H) ∨ ((Itl K a).go i H ∧ ∃ N : St → Hp → Prop, (∀ σ' H', N σ' H' → ∃ m', m' < m ∧ W (i + 1) m' σ' H') ∧ ∀ x H', (Itl K a).yld i H x H' → g x σ H' fun σ2 H2 => tb { D with nx := N, ct := N, bk := D.nx } σ2 H2) := by
  refine ⟨fun i m σ H => m = xs.length - i ∧ i ≤ xs.length ∧ Pv i σ H, ⟨xs.length, by simp, Nat.zero_le _, h0⟩, ?_⟩
  rintro i m σ H ⟨rfl, hi, p⟩
  have q := hl i σ H hi p
  by_cases hlt : i < xs.length
  · refine .inr ⟨⟨xs, xs[i], q, by simp [hlt]⟩, Pv (i + 1), fun σ' H' p' => ⟨xs.length - (i + 1), by omega, rfl, hlt, p'⟩, fun x H' y => ?_⟩
    obtain ⟨e, y⟩ := y
    subst e
    exact hs i x σ _ (y xs q) p
  · have e : i = xs.length := by omega
    subst e
    exact .inl ⟨⟨xs, q, Nat.le_refl _⟩, hd σ H p⟩
theorem for_tup {K : PySem.W.Frag} {a : Addr} {xs : List V} {g : TG} {tb : TS} {D : Ends} {σ : St} {H : Hp} (Pv : Nat → St → Hp → Prop) (h0 : Pv 0 σ H) (hl : ∀ i σ H, i ≤ xs.length → Pv i σ H → SqT K H a xs)
    (hs : ∀ i x σ H, xs[i]? = some x → Pv i σ H → g x σ H fun σ2 H2 => tb { D with nx := Pv (i + 1), ct := Pv (i + 1), bk := D.nx } σ2 H2) (hd : ∀ σ H, Pv xs.length σ H → D.nx σ H) :
    ∃ W : Nat → Nat → St → Hp → Prop, (∃ m, W 0 m σ H) ∧ ∀ i m σ H, W i m σ H →
      ((Itt K a).stop i H ∧ D.nx σ H) ∨ ((Itt K a).go i H ∧ ∃ N : St → Hp → Prop, (∀ σ' H', N σ' H' → ∃ m', m' < m ∧ W (i + 1) m' σ' H') ∧ ∀ x H', (Itt K a).yld i H x H' → g x σ H' fun σ2 H2 => tb { D with nx := N, ct := N, bk := D.nx } σ2 H2) := by
  refine ⟨fun i m σ H => m = xs.length - i ∧ i ≤ xs.length ∧ Pv i σ H, ⟨xs.length, by simp, Nat.zero_le _, h0⟩, ?_⟩
  rintro i m σ H ⟨rfl, hi, p⟩
  have q := hl i σ H hi p
  by_cases hlt : i < xs.length
  · refine .inr ⟨⟨xs, xs[i], q, by simp [hlt]⟩, Pv (i + 1), fun σ' H' p' => ⟨xs.length - (i + 1), by omega, rfl, hlt, p'⟩, fun x H' y => ?_⟩
    obtain ⟨e, y⟩ := y
    subst e
    exact hs i x σ _ (y xs q) p
  · have e : i = xs.length := by omega
    subst e
    exact .inl ⟨⟨xs, q, Nat.le_refl _⟩, hd σ H p⟩
theorem for_range {lo : Int} {n : Nat} {g : TG} {tb : TS} {D : Ends} {σ : St} {H : Hp} (Pv : Nat → St → Hp → Prop) (h0 : Pv 0 σ H)
    (hs : ∀ i σ H, i < n → Pv i σ H → g (.int (lo + i)) σ H fun σ2 H2 => tb { D with nx := Pv (i + 1), ct := Pv (i + 1), bk := D.nx } σ2 H2) (hd : ∀ σ H, Pv n σ H → D.nx σ H) :
    ∃ W : Nat → Nat → St → Hp → Prop, (∃ m, W 0 m σ H) ∧ ∀ i m σ H, W i m σ H →
      ((Itr lo n).stop i H ∧ D.nx σ H) ∨ ((Itr lo n).go i H ∧ ∃ N : St → Hp → Prop, (∀ σ' H', N σ' H' → ∃ m', m' < m ∧ W (i + 1) m' σ' H') ∧ ∀ x H', (Itr lo n).yld i H x H' → g x σ H' fun σ2 H2 => tb { D with nx := N, ct := N, bk := D.nx } σ2 H2) := by
  refine ⟨fun i m σ H => m = n - i ∧ i ≤ n ∧ Pv i σ H, ⟨n, by simp, Nat.zero_le _, h0⟩, ?_⟩
  rintro i m σ H ⟨rfl, hi, p⟩
  by_cases hlt : i < n
  · refine .inr ⟨hlt, Pv (i + 1), fun σ' H' p' => ⟨n - (i + 1), by omega, rfl, hlt, p'⟩, fun x H' y => ?_⟩
    obtain ⟨e, y⟩ := y
    subst e y
    exact hs i σ _ hlt p
  · have e : i = n := by omega
    subst e
    exact .inl ⟨Nat.le_refl _, hd σ H p⟩
end L2

namespace L2
open PySem PySem.Spec PyProof.Rows

abbrev R2 := V → V → Hp → VK → Prop
/-- a two-place operation on values: f is binaryOp op, inplaceOp op or compareOp op -/
def OpR (X : Cx) (f : Value → Value → Sem Value) (r : R2) : Prop :=
  ∀ (pins : List (Addr × Obj)) (s : Shared) (σ : St) (H : Hp) (x y : V) (v u : Value) (Q : VK), Inv X pins σ H s → RelV x v → RelV y u → r x y H Q →
    wpAny (model X.prog X.w) X.A (f v u) (EP X pins σ Q) X.xe s
/-- a one-place operation -/
def UnR (X : Cx) (f : Value → Sem Value) (r : V → Hp → VK → Prop) : Prop :=
  ∀ (pins : List (Addr × Obj)) (s : Shared) (σ : St) (H : Hp) (x : V) (v : Value) (Q : VK), Inv X pins σ H s → RelV x v → r x H Q →
    wpAny (model X.prog X.w) X.A (f v) (EP X pins σ Q) X.xe s
/-- a call of a value that is known (a builtin, a type) with values -/
def CallR (X : Cx) (f : Value) (r : List V → Hp → VK → Prop) : Prop :=
  ∀ (pins : List (Addr × Obj)) (s : Shared) (σ : St) (H : Hp) (xs : List V) (us : List Value) (Q : VK), Inv X pins σ H s → Vals xs us → r xs H Q →
    wpAny (model X.prog X.w) X.A (call f us) (EP X pins σ Q) X.xe s
/-- a value's truth -/
def TruR (X : Cx) (r : V → Hp → (Bool → Hp → Prop) → Prop) : Prop :=
  ∀ (pins : List (Addr × Obj)) (s : Shared) (σ : St) (H : Hp) (x : V) (v : Value) (Q : Bool → Hp → Prop), Inv X pins σ H s → RelV x v → r x H Q →
    wpAny (model X.prog X.w) X.A (truthy v) (TP X pins σ Q) X.xe s

def tOp (r : R2) (ta tb : TE) : TE := fun σ H Q => ta σ H fun x H1 => tb σ H1 fun y H2 => r x y H2 Q
def tUn (r : V → Hp → VK → Prop) (ta : TE) : TE := fun σ H Q => ta σ H fun x H1 => r x H1 Q
/-- ints in, under C, and a value out -/
def rI (C : Int → Int → Prop) (g : Int → Int → V) : R2 := fun x y H Q => ∃ i j, x = .int i ∧ y = .int j ∧ C i j ∧ Q (g i j) H
def rI0 (g : Int → Int → V) : R2 := fun x y H Q => ∃ i j, x = .int i ∧ y = .int j ∧ Q (g i j) H
def rU (g : Int → V) : V → Hp → VK → Prop := fun x H Q => ∃ i, x = .int i ∧ Q (g i) H

section
variable {X : Cx} {a b c : Expr} {ta tb tc : TE} {pos : Pos}

theorem binT (ha : PE X a ta) (hb : PE X b tb) {pins : List (Addr × Obj)} {s : Shared} {σ : St} {H : Hp} {R : V → V → Hp → Prop} (I : Inv X pins σ H s)
    (h : ta σ H fun x H1 => tb σ H1 fun y H2 => R x y H2) {Q : Value → Shared → Prop} {f : Value → Value → Sem Value}
    (hf : ∀ v u s2 x y H2, Inv X pins σ H2 s2 → RelV x v → RelV y u → R x y H2 → wpAny (model X.prog X.w) X.A (f v u) Q X.xe s2) :
    wpAny (model X.prog X.w) X.A (eval a X.env) (fun v s₁ => wpAny (model X.prog X.w) X.A (eval b X.env) (fun u s₂ => wpAny (model X.prog X.w) X.A (f v u) Q X.xe s₂) X.xe s₁) X.xe s := by
  refine thn (ha pins s σ H _ I h) fun v s1 ⟨x, H1, I1, r1, q1⟩ => ?_
  refine thn (hb pins s1 σ H1 _ I1 q1) fun u s2 ⟨y, H2, I2, r2, q2⟩ => ?_
  exact hf v u s2 x y H2 I2 r1 r2 q2

theorem pe_op {op : Operator} {r : R2} (ho : OpR X (binaryOp op) r) (ha : PE X a ta) (hb : PE X b tb) : PE X (.BinOp a op b pos) (tOp r ta tb) := by
  intro pins s σ H Q I h
  exact wpAny_BinOp (binT ha hb I h fun v u s2 x y H2 I2 rx ry q => ho pins s2 σ H2 x y v u Q I2 rx ry q)
theorem pe_un {op : UnaryOp} {r : V → Hp → VK → Prop} (ho : UnR X (unaryOp op) r) (ha : PE X a ta) : PE X (.UnaryOp op a pos) (tUn r ta) := by
  intro pins s σ H Q I h
  exact UnaryOp_ (thn (ha pins s σ H _ I h) fun v s1 ⟨x, H1, I1, r1, q1⟩ => ho pins s1 σ H1 x v Q I1 r1 q1)
/-! ### ints -/
theorem opI {f : Value → Value → Sem Value} {C : Int → Int → Prop} {g : Int → Int → Int}
    (rule : ∀ (i j : Int) (t u : Tok) (s : Shared) (Q : Value → Shared → Prop) (E : Value → Shared → Prop), C i j → Q (.int (g i j) s.toks) { s with toks := s.toks + 1 } → wpAny (model X.prog X.w) X.A (f (.int i t) (.int j u)) Q E s) :
    OpR X f (rI C fun i j => .int (g i j)) := by
  intro pins s σ H x y v u Q I rx ry h
  obtain ⟨i, j, rfl, rfl, hc, q⟩ := h
  obtain ⟨t, rfl⟩ := rx
  obtain ⟨t', rfl⟩ := ry
  exact rule i j t t' s _ _ hc ⟨.int (g i j), H, I.tok _, ⟨_, rfl⟩, q⟩
theorem opI0 {f : Value → Value → Sem Value} {g : Int → Int → Int}
    (rule : ∀ (i j : Int) (t u : Tok) (s : Shared) (Q : Value → Shared → Prop) (E : Value → Shared → Prop), Q (.int (g i j) s.toks) { s with toks := s.toks + 1 } → wpAny (model X.prog X.w) X.A (f (.int i t) (.int j u)) Q E s) :
    OpR X f (rI0 fun i j => .int (g i j)) := by
  intro pins s σ H x y v u Q I rx ry h
  obtain ⟨i, j, rfl, rfl, q⟩ := h
  obtain ⟨t, rfl⟩ := rx
  obtain ⟨t', rfl⟩ := ry
  exact rule i j t t' s _ _ ⟨.int (g i j), H, I.tok _, ⟨_, rfl⟩, q⟩
theorem opB0 {f : Value → Value → Sem Value} {g : Int → Int → Bool}
    (rule : ∀ (i j : Int) (t u : Tok) (s : Shared) (Q : Value → Shared → Prop) (E : Value → Shared → Prop), Q (.bool (g i j)) s → wpAny (model X.prog X.w) X.A (f (.int i t) (.int j u)) Q E s) :
    OpR X f (rI0 fun i j => .bl (g i j)) := by
  intro pins s σ H x y v u Q I rx ry h
  obtain ⟨i, j, rfl, rfl, q⟩ := h
  obtain ⟨t, rfl⟩ := rx
  obtain ⟨t', rfl⟩ := ry
  exact rule i j t t' s _ _ ⟨.bl (g i j), H, I, rfl, q⟩

def CDiv (i j : Int) : Prop := 0 < j ∧ j < 1073741824
def CPow (i j : Int) : Prop := 0 ≤ j ∧ j ≤ 1000000 ∧ i.natAbs < 2 ^ 64
def CMul (i j : Int) : Prop := (-(2 ^ 64) < i ∧ i < 2 ^ 64) ∨ (-(2 ^ 64) < j ∧ j < 2 ^ 64)
theorem CMul.ok {i j : Int} (h : CMul i j) : IntMulOk i j := by
  rcases h with ⟨h1, h2⟩ | ⟨h1, h2⟩
  · exact .of_left (intBits_le_64 h1 h2)
  · exact .of_right (intBits_le_64 h1 h2)
theorem op_add : OpR X (binaryOp .Add) (rI0 fun i j => .int (i + j)) := opI0 fun _ _ _ _ _ _ _ q => add_int q
theorem op_sub : OpR X (binaryOp .Sub) (rI0 fun i j => .int (i - j)) := opI0 fun _ _ _ _ _ _ _ q => sub_int q
theorem op_mul : OpR X (binaryOp .Mult) (rI CMul fun i j => .int (i * j)) := opI fun _ _ _ _ _ _ _ hc q => mul_int q hc.ok
/-- // by a positive divisor -/
theorem op_fdiv : OpR X (binaryOp .FloorDiv) (rI CDiv fun i j => .int (i / j)) := opI fun i j _ _ _ _ _ hc q => by
  have h1 : (0 : Int) < j := hc.1
  have h2 : j < 1073741824 := hc.2
  exact floordiv_int (by omega) (by rw [Int.fdiv_eq_ediv_of_nonneg i (by omega)]; exact q) (.inl (PyProof.noPylong_small (by omega)))
/-- % by a positive divisor of any size -/
theorem op_mod : OpR X (binaryOp .Mod) (rI (fun _ j => 0 < j) fun i j => .int (i % j)) := opI fun i j _ _ _ _ _ hc q => by
  have h1 : (0 : Int) < j := hc
  exact mod_int' (by omega) (by rw [Int.fmod_eq_emod_of_nonneg i (by omega)]; exact q)
theorem op_pow : OpR X (binaryOp .Pow) (rI CPow fun i j => .int (i ^ j.toNat)) := opI fun _ _ _ _ _ _ _ hc q => pow_int_small hc.1 hc.2.1 hc.2.2 q
theorem unI {f : Value → Sem Value} {g : Int → Int}
    (rule : ∀ (i : Int) (t : Tok) (s : Shared) (Q : Value → Shared → Prop) (E : Value → Shared → Prop), Q (.int (g i) s.toks) { s with toks := s.toks + 1 } → wpAny (model X.prog X.w) X.A (f (.int i t)) Q E s) :
    UnR X f (rU fun i => .int (g i)) := by
  intro pins s σ H x v Q I rx h
  obtain ⟨i, rfl, q⟩ := h
  obtain ⟨t, rfl⟩ := rx
  exact rule i t s _ _ ⟨.int (g i), H, I.tok _, ⟨_, rfl⟩, q⟩
theorem un_neg : UnR X (unaryOp .USub) (rU fun i => .int (-i)) := unI fun _ _ _ _ _ q => neg_int q
/-! ### bools among ints: n += (a < b) -/
end

/-! ### comparisons -/
/-- the scalars that == tells apart as data does -/
def scal : V → V → Bool
  | .non, .non => true | .non, .int _ => true | .int _, .non => true | .non, .bl _ => true | .bl _, .non => true | .non, .str _ => true | .str _, .non => true
  | .int _, .int _ => true | .bl _, .bl _ => true | .str _, .str _ => true | .byt _, .byt _ => true
  | .int _, .str _ => true | .str _, .int _ => true | .bl _, .str _ => true | .str _, .bl _ => true
  | _, _ => false
def rEq : R2 := fun x y H Q => scal x y = true ∧ Q (.bl (decide (x = y))) H
def rNe : R2 := fun x y H Q => scal x y = true ∧ Q (.bl (!decide (x = y))) H

theorem dec_int {i j : Int} : decide (V.int i = V.int j) = (i == j) := by
  rw [Bool.eq_iff_iff]
  simp
theorem dec_bl {i j : Bool} : decide (V.bl i = V.bl j) = (i == j) := by
  rw [Bool.eq_iff_iff]
  simp
theorem dec_str {i j : Str} : decide (V.str i = V.str j) = (i == j) := by
  rw [Bool.eq_iff_iff]
  simp
theorem dec_byt {i j : Array UInt8} : decide (V.byt i = V.byt j) = (i.toList == j.toList) := by
  rw [Bool.eq_iff_iff]
  cases i
  cases j
  simp

section
variable {X : Cx} {a b c : Expr} {ta tb tc : TE} {pos : Pos}
theorem fin_bl {pins : List (Addr × Obj)} {σ : St} {H : Hp} {s : Shared} {Q : VK} {k k' : Bool} (I : Inv X pins σ H s) (q : Q (.bl k) H) (e : k = k') : EP X pins σ Q (.bool k') s := by
  subst e
  exact ⟨.bl k, H, I, rfl, q⟩
theorem op_eq : OpR X (compareOp .Eq) rEq := by
  intro pins s σ H x y v u Q I rx ry h
  obtain ⟨hs, q⟩ := h
  cases x with
  | non =>
    cases rx
    cases y with
    | non => cases ry; exact PySem.EqNone.eq_none_none (fin_bl I q (by simp))
    | bl j => cases ry; exact PySem.EqNone.eq_none_bool (fin_bl I q (by simp))
    | int j => obtain ⟨t', rfl⟩ := ry; exact PySem.EqNone.eq_none_int (fin_bl I q (by simp))
    | str j => obtain ⟨t', rfl⟩ := ry; exact PySem.EqNone.eq_none_str (fin_bl I q (by simp))
    | _ => exact absurd (show false = true from hs) Bool.false_ne_true
  | bl i =>
    cases rx
    cases y with
    | non => cases ry; exact PySem.EqNone.eq_bool_none (fin_bl I q (by simp))
    | bl j => cases ry; exact eq_bool (fin_bl I q dec_bl)
    | str j => obtain ⟨t', rfl⟩ := ry; exact PySem.EqMixed.eq_bool_str (fin_bl I q (by simp))
    | _ => exact absurd (show false = true from hs) Bool.false_ne_true
  | int i =>
    obtain ⟨t, rfl⟩ := rx
    cases y with
    | non => cases ry; exact PySem.EqNone.eq_int_none (fin_bl I q (by simp))
    | int j => obtain ⟨t', rfl⟩ := ry; exact eq_int (fin_bl I q dec_int)
    | str j => obtain ⟨t', rfl⟩ := ry; exact PySem.EqMixed.eq_int_str (fin_bl I q (by simp))
    | _ => exact absurd (show false = true from hs) Bool.false_ne_true
  | str i =>
    obtain ⟨t, rfl⟩ := rx
    cases y with
    | non => cases ry; exact PySem.EqNone.eq_str_none (fin_bl I q (by simp))
    | bl j => cases ry; exact PySem.EqMixed.eq_str_bool (fin_bl I q (by simp))
    | int j => obtain ⟨t', rfl⟩ := ry; exact PySem.EqMixed.eq_str_int (fin_bl I q (by simp))
    | str j => obtain ⟨t', rfl⟩ := ry; exact eq_str (fin_bl I q dec_str)
    | _ => exact absurd (show false = true from hs) Bool.false_ne_true
  | byt i =>
    obtain ⟨t, rfl⟩ := rx
    cases y with
    | byt j => obtain ⟨t', rfl⟩ := ry; exact PySem.W.eq_bytes (fin_bl I q dec_byt)
    | _ => exact absurd (show false = true from hs) Bool.false_ne_true
  | _ => cases y <;> exact absurd (show false = true from hs) Bool.false_ne_true
theorem op_ne : OpR X (compareOp .NotEq) rNe := by
  intro pins s σ H x y v u Q I rx ry h
  obtain ⟨hs, q⟩ := h
  cases x with
  | non =>
    cases rx
    cases y with
    | non => cases ry; exact PySem.EqNone.ne_none_none (fin_bl I q (by simp))
    | bl j => cases ry; exact PySem.EqNone.ne_none_bool (fin_bl I q (by simp))
    | int j => obtain ⟨t', rfl⟩ := ry; exact PySem.EqNone.ne_none_int (fin_bl I q (by simp))
    | str j => obtain ⟨t', rfl⟩ := ry; exact PySem.EqNone.ne_none_str (fin_bl I q (by simp))
    | _ => exact absurd (show false = true from hs) Bool.false_ne_true
  | bl i =>
    cases rx
    cases y with
    | non => cases ry; exact PySem.EqNone.ne_bool_none (fin_bl I q (by simp))
    | bl j => cases ry; exact ne_bool (fin_bl I q (congrArg not dec_bl))
    | str j => obtain ⟨t', rfl⟩ := ry; exact PySem.EqMixed.ne_bool_str (fin_bl I q (by simp))
    | _ => exact absurd (show false = true from hs) Bool.false_ne_true
  | int i =>
    obtain ⟨t, rfl⟩ := rx
    cases y with
    | non => cases ry; exact PySem.EqNone.ne_int_none (fin_bl I q (by simp))
    | int j => obtain ⟨t', rfl⟩ := ry; exact ne_int (fin_bl I q (congrArg not dec_int))
    | str j => obtain ⟨t', rfl⟩ := ry; exact PySem.EqMixed.ne_int_str (fin_bl I q (by simp))
    | _ => exact absurd (show false = true from hs) Bool.false_ne_true
  | str i =>
    obtain ⟨t, rfl⟩ := rx
    cases y with
    | non => cases ry; exact PySem.EqNone.ne_str_none (fin_bl I q (by simp))
    | bl j => cases ry; exact PySem.EqMixed.ne_str_bool (fin_bl I q (by simp))
    | int j => obtain ⟨t', rfl⟩ := ry; exact PySem.EqMixed.ne_str_int (fin_bl I q (by simp))
    | str j => obtain ⟨t', rfl⟩ := ry; exact ne_str (fin_bl I q (congrArg not dec_str))
    | _ => exact absurd (show false = true from hs) Bool.false_ne_true
  | byt i =>
    obtain ⟨t, rfl⟩ := rx
    cases y with
    | byt j => obtain ⟨t', rfl⟩ := ry; exact PySem.W.ne_bytes (fin_bl I q (congrArg not dec_byt))
    | _ => exact absurd (show false = true from hs) Bool.false_ne_true
  | _ => cases y <;> exact absurd (show false = true from hs) Bool.false_ne_true

theorem op_lt : OpR X (compareOp .Lt) (rI0 fun i j => .bl (decide (i < j))) := opB0 fun _ _ _ _ _ _ _ q => lt_int q
theorem op_le : OpR X (compareOp .LtE) (rI0 fun i j => .bl (decide (i ≤ j))) := opB0 fun _ _ _ _ _ _ _ q => le_int q
theorem op_gt : OpR X (compareOp .Gt) (rI0 fun i j => .bl (decide (j < i))) := opB0 fun _ _ _ _ _ _ _ q => gt_int q
theorem op_notN : OpR X (compareOp .IsNot) (fun x y H Q => y = .non ∧ Q (.bl (!decide (x = .non))) H) := by
  intro pins s σ H x y v u Q I rx ry h
  obtain ⟨rfl, q⟩ := h
  cases ry
  refine isnot_none_gen (fin_bl I q ?_)
  cases x <;> first
    | (cases rx; rfl)
    | (obtain ⟨t, rfl⟩ := rx; rfl)

/-- two rules for one operation: by cases -/
theorem OpR.or {f : Value → Value → Sem Value} {r r' : R2} (h : OpR X f r) (h' : OpR X f r') : OpR X f (fun x y H Q => r x y H Q ∨ r' x y H Q) := by
  intro pins s σ H x y v u Q I rx ry q
  rcases q with q | q
  · exact h pins s σ H x y v u Q I rx ry q
  · exact h' pins s σ H x y v u Q I rx ry q

theorem nomark (b : Expr) {op : CmpOp} (h : op ≠ .In := by decide) (h2 : op ≠ .NotIn := by decide) : behindInMarks op b = false := by
  have e1 : (op == CmpOp.In) = false := by cases op <;> first | rfl | exact absurd rfl h
  have e2 : (op == CmpOp.NotIn) = false := by cases op <;> first | rfl | exact absurd rfl h2
  cases b <;> simp [behindInMarks, e1, e2]
/-- a comparison as a value; hm: nomark b, or (for in, not in) by with_unfolding_all rfl -/
theorem pe_cmpR {op : CmpOp} {r : R2} (ho : OpR X (compareOp op) r) (ha : PE X a ta) (hb : PE X b tb) (hm : behindInMarks op b = false) : PE X (.Compare a [op] [b] pos) (tOp r ta tb) := by
  intro pins s σ H Q I h
  exact wpAny_Compare1 (binT ha hb I h fun v u s2 x y H2 I2 rx ry q => ho pins s2 σ H2 x y v u Q I2 rx ry q) hm
/-- a reading of a value as a test -/
def tTest (t : TE) : TT := fun σ H Q => t σ H fun x H' => ∃ k, x = .bl k ∧ Q k H'
theorem pt_cmpR {op : CmpOp} {r : R2} (ho : OpR X (compareOp op) r) (ha : PE X a ta) (hb : PE X b tb) (hm : behindInMarks op b = false) : PT X (.Compare a [op] [b] pos) (tTest (tOp r ta tb)) := by
  intro pins s σ H Q I h
  refine wpAny_isTrue_Compare1 (thn (ha pins s σ H _ I h) fun v s1 ⟨x, H1, I1, r1, q1⟩ => thn (hb pins s1 σ H1 _ I1 q1) fun u s2 ⟨y, H2, I2, r2, q2⟩ =>
    thn (ho pins s2 σ H2 x y v u _ I2 r1 r2 q2) fun c s3 ⟨z, H3, I3, r3, k, e, q3⟩ => ?_) hm
  subst e
  cases r3
  exact wpAny_truthy_bool ⟨H3, I3, q3⟩
/-- a op1 b op2 c -/
def tChain (r r' : R2) (ta tb tc : TE) : TE := fun σ H Q => ta σ H fun x H1 => tb σ H1 fun y H2 => r x y H2 fun z H3 => ∃ k, z = .bl k ∧
  (if k = true then tc σ H3 fun w' H4 => r' y w' H4 Q else Q (.bl false) H3)
theorem pe_chain {op op' : CmpOp} {r r' : R2} (ho : OpR X (compareOp op) r) (ho' : OpR X (compareOp op') r') (ha : PE X a ta) (hb : PE X b tb) (hc : PE X c tc)
    (hm : lastMarks [op, op'] [b, c] = false := by with_unfolding_all rfl) : PE X (.Compare a [op, op'] [b, c] pos) (tChain r r' ta tb tc) := by
  intro pins s σ H Q I h
  refine Compare_chain (thn (ha pins s σ H _ I h) fun v s1 ⟨x, H1, I1, r1, q1⟩ => chain_link (thn (hb pins s1 σ H1 _ I1 q1) fun u s2 ⟨y, H2, I2, r2, q2⟩ =>
    thn (ho pins s2 σ H2 x y v u _ I2 r1 r2 q2) fun d s3 ⟨z, H3, I3, r3, k, e, q3⟩ => ?_)) hm
  subst e
  cases r3
  refine wpAny_truthy_bool ?_
  cases k with
  | false => exact ite_ff ⟨.bl false, H3, I3, rfl, q3⟩
  | true => exact ite_tt (chain_last (thn (hc pins s3 σ H3 _ I3 q3) fun w' s4 ⟨z', H4, I4, r4, q4⟩ => ho' pins s4 σ H4 y z' u w' Q I4 r2 r4 q4))
/-! ### truth -/
/-- a value's truth by the abstract heap -/
def TruV (K : PySem.W.Frag) (x : V) (H : Hp) (k : Bool) : Prop :=
  match x with
  | .non => k = false
  | .bl b => k = b
  | .int i => k = (i != 0)
  | .str y => y.length ≤ sizeLine ∧ k = ((y.length : Int) != 0)
  | .byt y => y.size ≤ sizeLine ∧ k = ((y.size : Int) != 0)
  | .ref p => (∃ xs, SqL K H p xs ∧ k = !xs.isEmpty) ∨ (∃ xs, SqT K H p xs ∧ k = !xs.isEmpty) ∨ ∃ kvs, H p = some (.dK kvs) ∧ k = !kvs.isEmpty
  | _ => False
theorem isEmpty_kv {κ : Type} {kvs : List (κ × V)} {vs : List (κ × Value)} (r : KV kvs vs) : (!vs.isEmpty) = !kvs.isEmpty := by
  cases r <;> rfl
theorem isEmpty_of {xs : List V} {its : List Value} (r : Vals xs its) : (!its.toArray.isEmpty) = !xs.isEmpty := by
  cases r <;> simp
theorem line63 : (sizeLine : Nat) < 2 ^ 63 := by rw [sizeLine_eq]; decide
theorem tru_ok : TruR X (fun x H Q => ∃ k, TruV X.K x H k ∧ Q k H) := by
  intro pins s σ H x v Q I rx h
  obtain ⟨k, e, q⟩ := h
  have hl := line63
  have hs : sizeLine = 16777216 := sizeLine_eq
  cases x with
  | non =>
    cases rx
    have e' : k = false := e
    subst e'
    exact truthy_none ⟨H, I, q⟩
  | bl b =>
    cases rx
    have e' : k = b := e
    subst e'
    exact wpAny_truthy_bool ⟨H, I, q⟩
  | int i =>
    obtain ⟨t, rfl⟩ := rx
    have e' : k = (i != 0) := e
    subst e'
    exact PySem.P.truthy_int ⟨H, I, q⟩
  | str y =>
    obtain ⟨t, rfl⟩ := rx
    obtain ⟨hy, e'⟩ : y.length ≤ sizeLine ∧ k = ((y.length : Int) != 0) := e
    subst e'
    exact PySem.P.truthy_str (by omega) ⟨H, I.tok _, q⟩
  | byt y =>
    obtain ⟨t, rfl⟩ := rx
    obtain ⟨hy, e'⟩ : y.size ≤ sizeLine ∧ k = ((y.size : Int) != 0) := e
    subst e'
    exact PySem.W.truthy_bytes (by omega) ⟨H, I.tok _, q⟩
  | ref p =>
    cases rx
    have e' : (∃ xs, SqL X.K H p xs ∧ k = !xs.isEmpty) ∨ (∃ xs, SqT X.K H p xs ∧ k = !xs.isEmpty) ∨ ∃ kvs, H p = some (.dK kvs) ∧ k = !kvs.isEmpty := e
    rcases e' with ⟨xs, hx, e'⟩ | ⟨xs, hx, e'⟩ | ⟨kvs, hx, e'⟩
    · subst e'
      obtain ⟨its, r, pl, hz⟩ := I.list hx
      have hlen := r.length
      exact wpAny_truthy_list pl.isList (by simp only [List.size_toArray]; omega) ⟨H, I.tok _, by rw [isEmpty_of r]; exact q⟩
    · subst e'
      obtain ⟨its, r, pl, hz⟩ := I.tuple hx
      have hlen := r.length
      exact truthy_tuple pl (by simp only [List.size_toArray]; omega) ⟨H, I.tok _, by rw [isEmpty_of r]; exact q⟩
    · subst e'
      obtain ⟨hz, hS, vs, r, m⟩ : kvs.length ≤ sizeLine ∧ (p == sysModules) = false ∧ ∃ vs, KV kvs vs ∧ s.heap.DictOf (mixKind X.prog X.w) p vs := I.hok p _ hx
      have hlen : kvs.length = vs.length := Paired.length r
      exact wpAny_truthy_dict hS m (by omega) ⟨H, I.tok _, by rw [isEmpty_kv r]; exact q⟩
  | _ => exact (show False from e).elim
/-- any expression whose test is its value's truth (a name, a call, a subscript, a field ..: he by fun _ => rfl) -/
theorem pt_truth (ha : PE X a ta) (he : ∀ whole, isTrue a X.env whole = (do let v ← whole; standAt a.pos; holding [v] (truthy v))) :
    PT X a (fun σ H Q => ta σ H fun x H' => ∃ k, TruV X.K x H' k ∧ Q k H') := by
  intro pins s σ H Q I h
  exact isTrue_plain (thn (ha pins s σ H _ I h) fun v s1 ⟨x, H1, I1, r1, q1⟩ => tru_ok pins s1 σ H1 x v Q I1 r1 q1) (he _)

/-! ### strs and bytes -/
theorem op_add_str : OpR X (binaryOp .Add) (fun x y H Q => ∃ i j, x = .str i ∧ y = .str j ∧ i.length + j.length ≤ sizeLine ∧ Q (.str (i ++ j)) H) := by
  intro pins s σ H x y v u Q I rx ry h
  obtain ⟨i, j, rfl, rfl, hz, q⟩ := h
  obtain ⟨t, rfl⟩ := rx
  obtain ⟨t', rfl⟩ := ry
  exact add_str (fun t' tk => ⟨.str (i ++ j), H, I.tok _, ⟨_, rfl⟩, q⟩) hz
/-! ### scalar builtins, by CallR -/
theorem vals1 {x : V} {us : List Value} (r : Vals [x] us) : ∃ u, us = [u] ∧ RelV x u := by
  cases r with
  | cons r1 r2 => cases r2; exact ⟨_, rfl, r1⟩
theorem vals2 {x y : V} {us : List Value} (r : Vals [x, y] us) : ∃ u w', us = [u, w'] ∧ RelV x u ∧ RelV y w' := by
  cases r with
  | cons r1 r2 =>
    cases r2 with
    | cons r3 r4 => cases r4; exact ⟨_, _, rfl, r1, r3⟩
theorem call_max2 (hc : X.calm = true) : CallR X (.builtin "max") (fun xs H Q => ∃ i j, xs = [.int i, .int j] ∧ Q (.int (if j > i then j else i)) H) := by
  intro pins s σ H xs us Q I r h
  obtain ⟨i, j, rfl, q⟩ := h
  obtain ⟨u, w', rfl, ⟨t, rfl⟩, ⟨t', rfl⟩⟩ := vals2 r
  refine max_two_ints (I.ok.hd hc) fun h' tk k => ⟨_, H, I.kept k, ?_, q⟩
  by_cases hj : j > i
  · rw [if_pos hj, if_pos hj]; exact ⟨_, rfl⟩
  · rw [if_neg hj, if_neg hj]; exact ⟨_, rfl⟩
theorem call_min2 (hc : X.calm = true) : CallR X (.builtin "min") (fun xs H Q => ∃ i j, xs = [.int i, .int j] ∧ Q (.int (if j < i then j else i)) H) := by
  intro pins s σ H xs us Q I r h
  obtain ⟨i, j, rfl, q⟩ := h
  obtain ⟨u, w', rfl, ⟨t, rfl⟩, ⟨t', rfl⟩⟩ := vals2 r
  refine min_two_ints (I.ok.hd hc) fun h' tk k => ⟨_, H, I.kept k, ?_, q⟩
  by_cases hj : j < i
  · rw [if_pos hj, if_pos hj]; exact ⟨_, rfl⟩
  · rw [if_neg hj, if_neg hj]; exact ⟨_, rfl⟩
theorem call_int1 : CallR X (.type "int") (fun xs H Q => (∃ i, xs = [.int i] ∧ Q (.int i) H) ∨ ∃ k, xs = [.bl k] ∧ Q (.int (if k then 1 else 0)) H) := by
  intro pins s σ H xs us Q I r h
  rcases h with ⟨i, rfl, q⟩ | ⟨k, rfl, q⟩
  · obtain ⟨u, rfl, t, rfl⟩ := vals1 r
    exact call_int_int ⟨.int i, H, I, ⟨_, rfl⟩, q⟩
  · obtain ⟨u, rfl, r1⟩ := vals1 r
    cases r1
    exact call_int_bool ⟨.int (if k then 1 else 0), H, I.tok _, ⟨_, rfl⟩, q⟩
end
end L2

namespace L2
open PySem PySem.Spec PyProof.Rows

/-! ### an instance, its attributes a map -/
structure ObjM (h : Heap) (x dx C : Addr) (mA : Str → Option Value) : Prop where
  obj : h.get? x = some (PySem.W.instObj C dx)
  ns : h.Ns1 dx mA
  ne : dx ≠ x

theorem lookIn_ns {h : Heap} {dx : Addr} {mA : Str → Option Value} (n : h.Ns1 dx mA) : ∃ od, h.get? dx = some od ∧ ∀ name, PySem.W.lookIn name od = some (mA name) := by
  obtain ⟨o, es, ep, ho, hd, hk, _, hm⟩ := n
  refine ⟨o, ho, fun name => ?_⟩
  have e := hm name
  unfold nsFind findBy at e
  rw [← Array.find?_toList] at e
  unfold PySem.W.lookIn
  rw [hd]
  dsimp only
  split
  · rename_i y q
    rw [q] at e
    exact congrArg some e
  · rename_i q
    rw [q] at e
    have a : es.toList.any (·.refKey) = false := by
      rw [List.any_eq_false]
      intro y hy
      obtain ⟨z, t, hkey⟩ := hk y (Array.mem_toList_iff.mp hy)
      simp [DictEntry.refKey, hkey]
    have a' : ¬ es.toList.any (·.refKey) = true := by rw [a]; exact Bool.false_ne_true
    rw [if_neg a']
    exact congrArg some e

theorem ObjM.look {h : Heap} {x dx C : Addr} {mA : Str → Option Value} (I : ObjM h x dx C mA) : ∃ od, PySem.W.InstAt h x (PySem.W.instObj C dx) C (some od) ∧ ∀ name, PySem.W.lookIn name od = some (mA name) :=
  let ⟨od, ho, hl⟩ := lookIn_ns I.ns
  ⟨od, ⟨I.obj, rfl, rfl, ho⟩, hl⟩

section
variable {prog : Program} {w : World} {A : Around} {E : Value → Shared → Prop} {s : Shared} {K : PySem.W.Frag} {x dx C f : Addr} {mA : Str → Option Value} {name : Str} {v : Value}

theorem get_map {expr : Bool} {Q : Value → Shared → Prop} (X : K.In s.heap) (I : ObjM s.heap x dx C mA) (hg : PySem.W.plainGet K C name = true) (hh : PySem.W.hasDictIn K C = true)
    (ha : PySem.W.findIn K (.ref C) name = some none) (hv : mA name = some v) (hv' : PySem.W.handedIn v = true) (h : Q v { s with toks := s.toks + 1 }) :
    wpAny (model prog w) A (getAttr (.ref x) name expr) Q E s := by
  obtain ⟨od, J, hl⟩ := I.look
  exact PySem.W.get_value X J (PySem.W.plainGet_of hg).1 (PySem.W.findObj_own hh ha rfl (by rw [hl, hv])) hv' h

theorem get_meth {pl : Sem Bool} {Q : Value × List Value → Shared → Prop} (X : K.In s.heap) (I : ObjM s.heap x dx C mA) (hg : PySem.W.plainGet K C name = true)
    (hf : PySem.W.findIn K (.ref C) name = some (some (.ref f))) (ht : PySem.W.isFn K (.ref f) = true) (hv : mA name = none) (h : Q (.ref f, [.ref x]) s) :
    wpAny (model prog w) A (getMethod (.ref x) name pl) Q E s := by
  obtain ⟨od, J, hl⟩ := I.look
  exact PySem.W.method_fn X J (PySem.W.plainGet_of hg).1 (PySem.W.plainGet_of hg).2 hf (beq_iff_eq.mp ht) (by show (PySem.W.lookIn name od).map (·.isSome) = some false; rw [hl, hv]; rfl) h

theorem set_map {ns : List Str} {Q : Unit → Shared → Prop} (X : K.In s.heap) (I : ObjM s.heap x dx C mA)
    (hs : PySem.W.findIn K (.ref C) "__setattr__" = some (some (.builtin "object.__setattr__"))) (hp : PySem.W.plainOver K C = true) (ht : PySem.W.takerIn K C name = some none) (hh : PySem.W.hasDictIn K C = true)
    (hw : PySem.Within mA ns) (hsz : ns.length ≤ sizeLine)
    (h : ∀ h', ObjM h' x dx C (fun y => if y = name then some v else mA y) → Heap.SameBut dx s.heap h' → Q () { s with heap := h', toks := s.toks + 2 }) :
    wpAny (model prog w) A (setAttr (.ref x) name v) Q E s := by
  obtain ⟨od, J, hl⟩ := I.look
  refine PySem.W.set_plain X J hs (PySem.W.osa_open (s := { s with toks := s.toks + 1 }) (r := none) X J hp ht fun b => ?_)
  obtain ⟨cd, hc, hd'⟩ := PySem.W.any_some hh
  have hx : s.heap.get? x = some ⟨.ref C, some dx, .plain, #[]⟩ := I.obj
  refine wpAny_bind (wpAny_pure (wpAny_bind (wpAny_bind (wpAny_loadPart hx (wpAny_bind (PySem.W.Looks.here (s := { s with toks := s.toks + 1 }) (PySem.W.looks_clsIn X hc) ?_))))))
  rw [hd']
  refine wpAny_pure (a := some dx) (wpAny_bind (wpAny_pure (wpAny_bind ?_)))
  refine wpAny_nsSet1 (s := { s with toks := s.toks + 1 }) I.ns fun h' hn2 hs2 => ?_
  obtain ⟨oD, esD, epD, hoD, hdD, hcD⟩ := hn2.count (PySem.Within.cons name v hw)
  refine wpAny_bind (wpAny_lookBehind hoD (by rw [hdD]; exact pastItsLine_dict (Nat.le_trans hcD (by rw [List.length_cons]; omega))) ?_)
  exact wpAny_pure (h _ ⟨(hs2.2 _ (Ne.symm I.ne)).trans I.obj, hn2, I.ne⟩ hs2)

/-- C(..): the dict at the heap's end, the instance behind it; then its __init__ -/
theorem make_map {R : Result → Shared → Prop} {vs : List Value} {kw : List (Str × Value)} (X : K.In s.heap) (hm : PySem.W.makesIn K C = true)
    (hi : PySem.W.findIn K (.ref C) "__init__" = some (some (.ref f))) (hf : PySem.W.typeIn K (.ref f) = some (.type "function"))
    (h : codeAny (model prog w) (A.under (.builtin "type.__call__" ⟨.ref C :: vs, kw⟩)) (.call (.ref f) ⟨.ref (s.heap.objs.size + 1) :: vs, kw⟩) (PySem.W.InitBack (s.heap.objs.size + 1) R)
      { s with heap := (s.heap.push PySem.W.emptyDict).push (PySem.W.instObj C s.heap.objs.size) }) :
    codeAny (model prog w) A (.call (.ref C) ⟨vs, kw⟩) R s := by
  obtain ⟨hh, g, d, t, os⟩ := s
  exact PySem.W.make_core (PySem.W.makes_of X hm) (PySem.W.looks_findIn X hi) (fun self => PySem.W.bind_fn X self hf) (.inl rfl) h
end

/-! ### the attributes as a list of pairs -/
def putF (f : Str) (v : V) : List (Str × V) → List (Str × V)
  | [] => [(f, v)]
  | (g, x) :: r => if g = f then (g, v) :: r else (g, x) :: putF f v r
theorem lookup_putF (f g : Str) (v : V) : ∀ fs : List (Str × V), (putF f v fs).lookup g = if g = f then some v else fs.lookup g
  | [] => by
    show List.lookup g [(f, v)] = _
    by_cases h : g = f
    · have hb : (g == f) = true := beq_iff_eq.mpr h
      simp only [List.lookup, hb, if_pos h]
    · have hb : (g == f) = false := beq_eq_false_iff_ne.mpr h
      simp only [List.lookup, hb, if_neg h]
  | (k, x) :: r => by
    have ih := lookup_putF f g v r
    rw [show putF f v ((k, x) :: r) = (if k = f then (k, v) :: r else (k, x) :: putF f v r) from rfl]
    by_cases hk : k = f
    · rw [if_pos hk]
      by_cases h : g = k
      · have hb : (g == k) = true := beq_iff_eq.mpr h
        simp only [List.lookup, hb, if_pos (h.trans hk)]
      · have hb : (g == k) = false := beq_eq_false_iff_ne.mpr h
        simp only [List.lookup, hb, if_neg (fun e : g = f => h (e.trans hk.symm))]
    · rw [if_neg hk]
      by_cases h : g = k
      · have hb : (g == k) = true := beq_iff_eq.mpr h
        simp only [List.lookup, hb, if_neg (fun e : g = f => hk (h.symm.trans e))]
      · have hb : (g == k) = false := beq_eq_false_iff_ne.mpr h
        simp only [List.lookup, hb]
        exact ih
theorem keys_putF (f : Str) (v : V) : ∀ fs : List (Str × V), f ∈ (putF f v fs).map (·.1) ∧ ∀ g, g ∈ fs.map (·.1) → g ∈ (putF f v fs).map (·.1)
  | [] => ⟨by simp [putF], fun g h => by simp at h⟩
  | (k, x) :: r => by
    obtain ⟨i1, i2⟩ := keys_putF f v r
    rw [show putF f v ((k, x) :: r) = (if k = f then (k, v) :: r else (k, x) :: putF f v r) from rfl]
    by_cases hk : k = f
    · rw [if_pos hk]
      subst hk
      exact ⟨by simp, fun g h => by simpa using h⟩
    · rw [if_neg hk]
      refine ⟨?_, fun g h => ?_⟩
      · rw [List.map_cons]
        exact List.mem_cons_of_mem _ i1
      · rw [List.map_cons] at h ⊢
        rcases List.mem_cons.mp h with e | e
        · exact List.mem_cons.mpr (.inl e)
        · exact List.mem_cons_of_mem _ (i2 g e)
theorem length_putF (f : Str) (v : V) : ∀ fs : List (Str × V), (putF f v fs).length ≤ fs.length + 1
  | [] => by simp [putF]
  | (k, x) :: r => by
    have ih := length_putF f v r
    rw [show putF f v ((k, x) :: r) = (if k = f then (k, v) :: r else (k, x) :: putF f v r) from rfl]
    by_cases hk : k = f
    · rw [if_pos hk, List.length_cons, List.length_cons]; omega
    · rw [if_neg hk, List.length_cons, List.length_cons]; omega

theorem RelO.some_of {v : V} {o : Option Value} (r : RelO (some v) o) : ∃ u, o = some u ∧ RelV v u := by
  cases o with
  | none => exact (show False from r).elim
  | some u => exact ⟨u, rfl, r⟩
theorem RelO.none_of {o : Option Value} (r : RelO none o) : o = none := by
  cases o with
  | none => rfl
  | some u => exact (show False from r).elim
theorem handed_of {v : V} {u : Value} (r : RelV v u) : PySem.W.handedIn u = true := by
  cases v with
  | non => cases (show u = Value.none from r); rfl
  | bl b => cases (show u = Value.bool b from r); rfl
  | int i => obtain ⟨t, e⟩ := (show ∃ t, u = Value.int i t from r); cases e; rfl
  | str x => obtain ⟨t, e⟩ := (show ∃ t, u = Value.str x t from r); cases e; rfl
  | byt b => obtain ⟨t, e⟩ := (show ∃ t, u = Value.bytes b t from r); cases e; rfl
  | flt b => obtain ⟨t, e⟩ := (show ∃ t, u = Value.float b t from r); cases e; rfl
  | ref a => cases (show u = Value.ref a from r); rfl
  | ty n => cases (show u = Value.type n from r); rfl

section
variable {P : Program} {w : World} {H H' : Hp} {h h' : Heap} {a C dx : Addr} {fs fs' : List (Str × V)}
theorem ins_get (hok : HOk P w H h) (e : H a = some (.ins C dx fs)) : ∃ mA, ObjM h a dx C mA ∧ (∀ f, RelO (fs.lookup f) (mA f)) ∧ PySem.Within mA (fs.map (·.1)) ∧ fs.length ≤ 1000 ∧ H dx = some (.own a) := by
  obtain ⟨d, z, ne, ob, mA, n, r, q⟩ := (show ObjOk P w H h a (.ins C dx fs) from hok a _ e)
  exact ⟨mA, ⟨ob, n, ne⟩, r, q, z, d⟩
end

/-! ### what of the text a class must have -/
structure Cls (K : PySem.W.Frag) (C : Addr) : Prop where
  pg : PySem.W.plainGet K C Str.empty = true
  hd : PySem.W.hasDictIn K C = true
  po : PySem.W.plainOver K C = true
  sa : PySem.W.findIn K (.ref C) "__setattr__" = some (some (.builtin "object.__setattr__"))
theorem Cls.get {K : PySem.W.Frag} {C : Addr} (c : Cls K C) (f : Str) : PySem.W.plainGet K C f = true := c.pg
/-- no class of it has the name -/
def NoAttr (K : PySem.W.Frag) (C : Addr) (f : Str) : Prop := PySem.W.findIn K (.ref C) f = some none
theorem NoAttr.taker {K : PySem.W.Frag} {C : Addr} {f : Str} (n : NoAttr K C f) : PySem.W.takerIn K C f = some none := by
  unfold PySem.W.takerIn
  rw [show PySem.W.findIn K (.ref C) f = some none from n]
  rfl
/-- a constant of the class -/
structure Con (K : PySem.W.Frag) (C : Addr) (f : Str) (v : V) (u : Value) : Prop where
  at_ : PySem.W.findIn K (.ref C) f = some (some u)
  rel : RelV v u
  get : PySem.W.specialIn K u "__get__" = some none
  cp : PySem.W.copiedNames.contains f = false
/-- a method: a plain def of the class or of one above it -/
structure Meth (K : PySem.W.Frag) (C : Addr) (m : Str) (f : Addr) : Prop where
  at_ : PySem.W.findIn K (.ref C) m = some (some (.ref f))
  fn : PySem.W.isFn K (.ref f) = true
  kp : PySem.W.keepIn K (.ref f) = true

section
variable {X : Cx} {pins : List (Addr × Obj)} {σ : St} {H : Hp} {s : Shared} {a C dx : Addr} {fs : List (Str × V)} {f : Str} {v : V} {A : Around} {E : Value → Shared → Prop}

theorem getattr_ok {b : Bool} {Q : Value → Shared → Prop} (I : Inv X pins σ H s) (e : H a = some (.ins C dx fs)) (c : Cls X.K C) (n : NoAttr X.K C f) (l : fs.lookup f = some v)
    (h : ∀ u s', Inv X pins σ H s' → RelV v u → Q u s') : wpAny (model X.prog X.w) A (getAttr (.ref a) f b) Q E s := by
  obtain ⟨mA, O, r, _, _, _⟩ := ins_get I.hok e
  obtain ⟨u, hu, ru⟩ := RelO.some_of (v := v) (o := mA f) (by rw [← l]; exact r f)
  exact get_map I.kIn O (c.get f) c.hd n hu (handed_of ru) (h u _ (I.tok _) ru)

theorem getmeth_ok {m : Str} {g : Addr} {pl : Sem Bool} {Q : Value × List Value → Shared → Prop} (I : Inv X pins σ H s) (e : H a = some (.ins C dx fs)) (c : Cls X.K C) (k : Meth X.K C m g) (l : fs.lookup m = none)
    (h : Q (.ref g, [.ref a]) s) : wpAny (model X.prog X.w) A (getMethod (.ref a) m pl) Q E s := by
  obtain ⟨mA, O, r, _, _, _⟩ := ins_get I.hok e
  have hn : mA m = none := RelO.none_of (by rw [← l]; exact r m)
  exact get_meth I.kIn O (c.get m) k.at_ k.fn hn h

theorem setattr_ok {y : V} {u : Value} {Q : Unit → Shared → Prop} (I : Inv X pins σ H s) (e : H a = some (.ins C dx fs)) (c : Cls X.K C) (n : NoAttr X.K C f) (hl : fs.length < 1000) (ry : RelV y u)
    (h : ∀ s', Inv X pins σ (upd H a (.ins C dx (putF f y fs))) s' → Q () s') : wpAny (model X.prog X.w) A (setAttr (.ref a) f u) Q E s := by
  obtain ⟨mA, O, r, wi, _, ho⟩ := ins_get I.hok e
  have hz : (fs.map (·.1)).length ≤ sizeLine := by rw [List.length_map, sizeLine_eq]; omega
  refine set_map I.kIn O c.sa c.po n.taker c.hd wi hz fun h' O' sb => h _ ?_
  have hd : ∃ o, h'.get? dx = some o := let ⟨o, _, _, e', _⟩ := O'.ns; ⟨o, e'⟩
  refine I.write (x := a) (e := dx) (by rw [e]; exact True.intro) (.inr ho) (fun b q hb z => (sb.2 b hb).trans z) hd ?_
  refine ⟨by rw [upd_ne O.ne]; exact ho, ?_, O.ne, O'.obj, _, O'.ns, fun g => ?_, fun g hg => ?_⟩
  · have := length_putF f y fs; omega
  · show RelO ((putF f y fs).lookup g) (if g = f then some u else mA g)
    rw [lookup_putF]
    by_cases q : g = f
    · rw [if_pos q, if_pos q]; exact ry
    · rw [if_neg q, if_neg q]; exact r g
  · by_cases q : g = f
    · rw [q]; exact (keys_putF f y fs).1
    · refine (keys_putF f y fs).2 g (wi g fun z => hg ?_)
      show (if g = f then some u else mA g) = none
      rw [if_neg q]; exact z

/-- a new instance, tracked, without attributes -/
theorem Inv.made (I : Inv X pins σ H s) : Inv X pins σ (upd (upd H s.heap.objs.size (.own (s.heap.objs.size + 1))) (s.heap.objs.size + 1) (.ins C s.heap.objs.size []))
    { s with heap := (s.heap.push PySem.W.emptyDict).push (PySem.W.instObj C s.heap.objs.size) } := by
  have e1 : (s.heap.push PySem.W.emptyDict).get? s.heap.objs.size = some PySem.W.emptyDict := Heap.get?_push_size s.heap rfl
  have e2 : ((s.heap.push PySem.W.emptyDict).push (PySem.W.instObj C s.heap.objs.size)).get? (s.heap.objs.size + 1) = some (PySem.W.instObj C s.heap.objs.size) := by
    have := Heap.get?_push_size (s.heap.push PySem.W.emptyDict) (o := PySem.W.instObj C s.heap.objs.size) rfl
    rwa [Heap.size_push] at this
  have e3 : (s.heap.push PySem.W.emptyDict).Ns s.heap.objs.size (fun _ => none) := ⟨PySem.W.emptyDict, #[], _, e1, rfl, (fun e he => absurd he (by simp)), fun _ => rfl⟩
  have I1 := I.laid (a := s.heap.objs.size) (o := .own (s.heap.objs.size + 1)) (h' := s.heap.push PySem.W.emptyDict) (t' := s.toks) (fun b u q => Heap.get?_push_of_some _ q) (Nat.le_refl _) ⟨_, e1⟩
  refine I1.laid (a := s.heap.objs.size + 1) (o := .ins C s.heap.objs.size []) (t' := s.toks) (fun b u q => Heap.get?_push_of_some _ q) (Nat.le_of_eq (Heap.size_push _ _)) ?_
  have ne : s.heap.objs.size ≠ s.heap.objs.size + 1 := Nat.ne_of_lt (Nat.lt_succ_self _)
  refine ⟨by rw [upd_ne ne, upd_same], Nat.zero_le _, ne, e2, fun _ => none, (Heap.Ns1.of_empty e3).at fun o q => Heap.get?_push_of_some _ q, fun _ => True.intro, fun y hy => absurd rfl hy⟩

/-- e.f where nothing but the object is asked: through attributeBase (super) and the last hold -/
theorem attr_of {prog : Program} {w : World} {env : Env} {e : Expr} {f : Str} {pos : Pos} {s : Shared} {Q : Value → Shared → Prop} (hb : attributeBase e f env (eval e env) = eval e env)
    (h : wpAny (model prog w) A (eval e env) (fun o s₁ => wpAny (model prog w) A (getAttr o f true) Q E s₁) E s) : wpAny (model prog w) A (eval (.Attribute e f pos) env) Q E s :=
  Attribute_any_ h (by rw [arm_eval_Attribute, hb])
end

/-! ### readings and rules -/
section
variable {X : Cx} {o e value : Expr} {f : Str} {pos pos' tpos : Pos} {ta tv : TE}
end

/-! ### isinstance -/
section
variable {X : Cx} {pins : List (Addr × Obj)} {σ : St} {H : Hp} {s : Shared} {A : Around} {E : Value → Shared → Prop} {Q : Value → Shared → Prop} {c : Value} {b : Bool}
/-- the type of a value, as the fragment's deciders take it; for an instance its class -/
inductive TyOf (K : PySem.W.Frag) (H : Hp) : V → Value → Prop where
  | non : TyOf K H .non (.type "NoneType")
  | bl (x : Bool) : TyOf K H (.bl x) (.type "bool")
  | int (i : Int) : TyOf K H (.int i) (.type "int")
  | str (x : Str) : TyOf K H (.str x) (.type "str")
  | flt (x : UInt64) : TyOf K H (.flt x) (.type "float")
  | lst {a : Addr} {xs : List V} (e : H a = some (.lst xs)) : TyOf K H (.ref a) (.type "list")
  | frz {a : Addr} {o : Obj} {xs : List V} (e : H a = some (.frz o (.lst xs))) : TyOf K H (.ref a) (.type "list")
  | tup {a : Addr} {xs : List V} (e : H a = some (.tup xs)) : TyOf K H (.ref a) (.type "tuple")
  | dK {a : Addr} {kvs : List (Key × V)} (e : H a = some (.dK kvs)) : TyOf K H (.ref a) (.type "dict")
  | dT {a : Addr} {kvs : List (List Key × V)} (e : H a = some (.dT kvs)) : TyOf K H (.ref a) (.type "dict")
  | ins {a C dx : Addr} {fs : List (Str × V)} (e : H a = some (.ins C dx fs)) (cl : Cls K C) (ha : PySem.W.findIn K (.ref C) "__class__" = some (some (.builtin "object.__class__")))
      (hn : PySem.W.specialIn K (.builtin "object.__class__") "__get__" = some (some (.builtin "getset_descriptor.__get__"))) (htk : PySem.W.takesIn K (.builtin "object.__class__") = some true)
      (hm : PySem.W.mroIn K C (.type "object") = some true) : TyOf K H (.ref a) (.ref C)
/-- isinstance(x, c) for one class c, a built-in or an own one: kitOne's answer -/
theorem isinst_ok {x : V} {u t : Value} (I : Inv X pins σ H s) (rx : RelV x u) (ty : TyOf X.K H x t) (e : PySem.W.kitOne X.K t c = some b) (h : ∀ tk, Q (.bool b) { s with toks := tk }) :
    wpAny (model X.prog X.w) A (call (.builtin "isinstance") [u, c]) Q E s := by
  cases ty with
  | non => cases (show u = Value.none from rx); exact PySem.W.kia_one PySem.W.kitx_none I.kIn True.intro e (fun z => nomatch z) h
  | bl y => cases (show u = Value.bool y from rx); exact PySem.W.kia_one PySem.W.kitx_bool I.kIn True.intro e (fun z => nomatch z) h
  | int i => obtain ⟨t, q⟩ := (show ∃ t, u = Value.int i t from rx); cases q; exact PySem.W.kia_one PySem.W.kitx_int I.kIn True.intro e (fun z => nomatch z) h
  | str y => obtain ⟨t, q⟩ := (show ∃ t, u = Value.str y t from rx); cases q; exact PySem.W.kia_one PySem.W.kitx_str I.kIn True.intro e (fun z => nomatch z) h
  | flt y => obtain ⟨t, q⟩ := (show ∃ t, u = Value.float y t from rx); cases q; exact PySem.W.kia_one PySem.W.kitx_float I.kIn True.intro e (fun z => nomatch z) h
  | @lst a xs ea =>
    cases (show u = Value.ref a from rx)
    obtain ⟨_, _, n, _, h1⟩ := (show ObjOk X.prog X.w H s.heap a (.lst xs) from I.hok a _ ea)
    exact PySem.W.kia_one PySem.W.kitx_list I.kIn ⟨_, h1, rfl⟩ e (fun z => nomatch z) h
  | @frz a ob xs ea =>
    cases (show u = Value.ref a from rx)
    obtain ⟨_, _, _, n, _, h1⟩ := (show ObjOk X.prog X.w H s.heap a (.frz ob (.lst xs)) from I.hok a _ ea)
    exact PySem.W.kia_one PySem.W.kitx_list I.kIn ⟨_, h1, rfl⟩ e (fun z => nomatch z) h
  | @tup a xs ea =>
    cases (show u = Value.ref a from rx)
    obtain ⟨_, _, _, p⟩ := (show ObjOk X.prog X.w H s.heap a (.tup xs) from I.hok a _ ea)
    obtain ⟨o, h1, h2, _⟩ := p
    exact PySem.W.kia_one PySem.W.kitx_tuple I.kIn ⟨o, h1, h2⟩ e (fun z => nomatch z) h
  | @dK a kvs ea =>
    cases (show u = Value.ref a from rx)
    obtain ⟨_, _, vs, _, p⟩ := (show ObjOk X.prog X.w H s.heap a (.dK kvs) from I.hok a _ ea)
    obtain ⟨o, es, ep, h1, h2, _⟩ := p
    exact PySem.W.kia_one PySem.W.kitx_dict I.kIn ⟨o, h1, h2.1⟩ e (fun z => nomatch z) h
  | @dT a kvs ea =>
    cases (show u = Value.ref a from rx)
    obtain ⟨_, _, xs, _, o, es, ep, h1, h2, _⟩ := (show ObjOk X.prog X.w H s.heap a (.dT kvs) from I.hok a _ ea)
    exact PySem.W.kia_one PySem.W.kitx_dict I.kIn ⟨o, h1, h2.1⟩ e (fun z => nomatch z) h
  | @ins a C dx fs ea cl ha hn htk hm =>
    cases (show u = Value.ref a from rx)
    obtain ⟨mA, O, _⟩ := ins_get I.hok ea
    obtain ⟨od, J, _⟩ := O.look
    exact PySem.W.kia_one (PySem.W.kitx_own (cl.get _) cl.hd ha hn htk hm) I.kIn J e (fun z => nomatch z) h
end
end L2

namespace L2
open PySem PySem.Spec PyProof.Rows

/-! ### room -/
structure Room (ca : Bool) (k : Nat) (A : Around) : Prop where
  hd : ca = true → A.handled = none
  dp : A.depth + 3 * k + 5 < recursionLimit
  un : A.units + 16 * k + 200 < cLine
theorem Room.mono {ca : Bool} {j k : Nat} {A : Around} (r : Room ca k A) (h : j ≤ k) : Room ca j A := ⟨r.hd, by have := r.dp; omega, by have := r.un; omega⟩
theorem Room.deeper {ca : Bool} {k : Nat} {A : Around} (r : Room ca (k + 1) A) (env : Env) : Room ca k (A.deeper env) :=
  ⟨r.hd, by have := r.dp; show A.depth + 1 + 3 * k + 5 < _; omega, by have := r.un; show A.units + 3 + 16 * k + 200 < _; omega⟩
theorem Room.in1 {ca : Bool} {k : Nat} {A : Around} (r : Room ca (k + 1) A) : Room ca k A.in1 :=
  ⟨r.hd, by have := r.dp; show A.depth + 3 * k + 5 < _; omega, by have := r.un; show A.units + 1 + 16 * k + 200 < _; omega⟩
theorem make_depth {A : Around} {C : Addr} {us : List Value} {kw : List (Str × Value)} : (A.under (.builtin "type.__call__" ⟨.ref C :: us, kw⟩)).depth = A.depth + 1 := by
  first | rfl | simp [Around.under, Code.weight, Code.isCreation, Code.isGuard, Code.isCaller, Code.frames, Code.isFrame, guardIds]
theorem make_units {A : Around} {C : Addr} {us : List Value} {kw : List (Str × Value)} : (A.under (.builtin "type.__call__" ⟨.ref C :: us, kw⟩)).units = A.units + 1 := by
  first | rfl | simp [Around.under, Code.cUnits, Code.frames, Code.isFrame]
theorem Room.make {ca : Bool} {k : Nat} {A : Around} (r : Room ca (k + 1) A) (C : Addr) (us : List Value) (kw : List (Str × Value)) : Room ca k (A.under (.builtin "type.__call__" ⟨.ref C :: us, kw⟩)) :=
  ⟨r.hd, by have := r.dp; rw [make_depth]; omega, by have := r.un; rw [make_units]; omega⟩
theorem Room.depth {ca : Bool} {k : Nat} {A : Around} (r : Room ca k A) : A.depth < recursionLimit := by have := r.dp; omega
theorem Room.units {ca : Bool} {k : Nat} {A : Around} (r : Room ca k A) : A.units + 64 < cLine := by have := r.un; omega
/-! ### argument lists and displays -/
def tNil : TA := fun _ H Q => Q [] H
def tCons (ta : TE) (tr : TA) : TA := fun σ H Q => ta σ H fun x H1 => tr σ H1 fun xs H2 => Q (x :: xs) H2
section
variable {X : Cx} {e : Expr} {es : List Expr} {te : TE} {t : TA} {pos : Pos}
theorem pa_nil : PA X [] tNil := fun _ _ _ _ H Q I h => Calls.spliced_nil ⟨[], H, I, .nil, h⟩
theorem pa_cons (ha : PE X e te) (hr : PA X es t) (hs : starEach (e :: es) X.env = (false, eval e X.env) :: starEach es X.env := by rfl) : PA X (e :: es) (tCons te t) := by
  intro pos pins s σ H Q I h
  rw [hs]
  show wpAny _ _ (spliced ((false, eval e X.env) :: backTo pos (starEach es X.env))) _ _ s
  refine Calls.spliced_cons (thn (ha pins s σ H _ I h) fun u s1 ⟨x, H1, I1, r1, q1⟩ => ?_)
  exact thn (hr pos pins s1 σ H1 _ I1 q1) fun us s2 ⟨xs, H2, I2, r2, q2⟩ => ⟨x :: xs, H2, I2, .cons r1 r2, q2⟩

/-- a tuple, a list of written items -/
def tTup (t : TA) : TE := fun σ H Q => t σ H fun xs H1 => xs.length ≤ sizeLine ∧ ∀ p, H1 p = none → Q (.ref p) (upd H1 p (.tup xs))
def tLst (t : TA) : TE := fun σ H Q => t σ H fun xs H1 => xs.length ≤ sizeLine ∧ ∀ p, H1 p = none → Q (.ref p) (upd H1 p (.lst xs))
theorem pe_tup {x1} (h : PA X es t) : PE X (.Tuple es x1 pos) (tTup t) := by
  intro pins s σ H Q I hq
  refine wpAny_Tuple_spliced (thn (h pos pins s σ H _ I hq) fun us s1 ⟨xs, H1, I1, r, z, q⟩ => ⟨by rw [← r.length]; exact z, ?_⟩)
  have hf : H1 s1.heap.objs.size = none := I1.hok.fresh (Nat.le_refl _)
  refine ⟨.ref s1.heap.objs.size, upd H1 s1.heap.objs.size (.tup xs), I1.laid (t' := s1.toks) (fun b u e => Heap.get?_push_of_some _ e) (Nat.le_refl _) ?_, rfl, q _ hf⟩
  exact ⟨z, us, r, ⟨_, Heap.get?_push_size _ rfl, rfl, _, rfl⟩⟩
theorem pe_lst (h : PA X es t) : PE X (.List es pos) (tLst t) := by
  intro pins s σ H Q I hq
  refine wpAny_List_spliced (thn (h pos pins s σ H _ I hq) fun us s1 ⟨xs, H1, I1, r, z, q⟩ => ⟨by rw [← r.length]; exact z, ?_⟩)
  have hf : H1 s1.heap.objs.size = none := I1.hok.fresh (Nat.le_refl _)
  refine ⟨.ref s1.heap.objs.size, upd H1 s1.heap.objs.size (.lst xs), I1.laid (t' := s1.toks) (fun b u e => Heap.get?_push_of_some _ e) (Nat.le_refl _) ?_, rfl, q _ hf⟩
  exact ⟨z, us, 0, r, Heap.get?_push_size _ rfl⟩
end

/-! ### what a def promises -/
/-- a def's promise: the bound arguments in the parameters' order, the heap, the wanted end, the wanted exception -/
abbrev Sp := List V → Hp → VK → XK → Prop
/-- how an exception lies behind a call (file 08 gives it): the callers' frames, abstract heap and state ahead of the call, the wish, the exception, the state -/
abbrev CXT := List Env → Hp → Shared → XK → Value → Shared → Prop

/-- the state at a call -/
structure Env0 (P : Program) (w : World) (K : PySem.W.Frag) (mg : Str → Option Value) (base : Heap) (A : Around) (outer : List Env) (s : Shared) (H : Hp) : Prop where
  frames : A.frames = some outer
  mod : Mod K mg base
  bs : ∀ b o, base.get? b = some o → s.heap.get? b = some o ∧ H b = none
  bsz : base.objs.size ≤ s.heap.objs.size
  funs : s.heap.FunFrames base outer
  frf : ∀ b ∈ frs outer, H b = none
  hok : HOk P w H s.heap
  bare : AllBare s.gens
/-- a call's end -/
def CE (outer : List Env) (P : Program) (w : World) (H : Hp) (s : Shared) (Q : VK) (u : Value) (s' : Shared) : Prop :=
  ∃ v H', s'.os = s.os ∧ AllBare s'.gens ∧ Un (frs outer) [] H H' s.heap s'.heap ∧ HOk P w H' s'.heap ∧ RelV v u ∧ Q v H'
def CR (CX : CXT) (outer : List Env) (P : Program) (w : World) (H : Hp) (s : Shared) (Q : VK) (E : XK) (r : Result) (s' : Shared) : Prop :=
  match r with
  | .ok (.ret u) => CE outer P w H s Q u s'
  | .ok _ => False
  | .error e => CX outer H s E e s'
structure FnOk (P : Program) (w : World) (K : PySem.W.Frag) (mg : Str → Option Value) (base : Heap) (CX : CXT) (ca : Bool) (k : Nat) (f : Addr) (fd : FuncData) (ps : List Str) (sp : Sp) : Prop where
  len : ∀ vs H Q E, sp vs H Q E → vs.length = ps.length
  run : ∀ (A : Around) (outer : List Env) (s : Shared) (H : Hp) (args : Args) (us : List Value) (vs : List V) (Q : VK) (E : XK), Room ca k A → Env0 P w K mg base A outer s H → BindsTo s fd args (ps.zip us) → Vals vs us → sp vs H Q E →
    codeAny (model P w) A (.call (.ref f) args) (CR CX outer P w H s Q E) s
theorem FnOk.mono {P : Program} {w : World} {K : PySem.W.Frag} {mg : Str → Option Value} {base : Heap} {CX : CXT} {ca : Bool} {j k : Nat} {f : Addr} {fd : FuncData} {ps : List Str} {sp : Sp} (F : FnOk P w K mg base CX ca j f fd ps sp) (h : j ≤ k) :
    FnOk P w K mg base CX ca k f fd ps sp := ⟨F.len, fun A outer s H args us vs Q E hr => F.run A outer s H args us vs Q E (hr.mono h)⟩
theorem Env0.make {P : Program} {w : World} {K : PySem.W.Frag} {mg : Str → Option Value} {base : Heap} {A : Around} {outer : List Env} {s : Shared} {H : Hp} (e : Env0 P w K mg base A outer s H) (C : Addr) (us : List Value) (kw : List (Str × Value)) :
    Env0 P w K mg base (A.under (.builtin "type.__call__" ⟨.ref C :: us, kw⟩)) outer s H := ⟨by first | exact e.frames | (simpa [Around.under, Code.envs, Code.isFrame, pushEnvs] using e.frames), e.mod, e.bs, e.bsz, e.funs, e.frf, e.hok, e.bare⟩
theorem Env0.in1 {P : Program} {w : World} {K : PySem.W.Frag} {mg : Str → Option Value} {base : Heap} {A : Around} {outer : List Env} {s : Shared} {H : Hp} (e : Env0 P w K mg base A outer s H) :
    Env0 P w K mg base A.in1 outer s H := ⟨e.frames, e.mod, e.bs, e.bsz, e.funs, e.frf, e.hok, e.bare⟩

section
variable {X : Cx} {pins : List (Addr × Obj)} {σ : St} {H : Hp} {s s' : Shared}
/-- from a body: what a callee wants -/
theorem Inv.env0 (I : Inv X pins σ H s) : Env0 X.prog X.w X.K X.mg X.base X.A X.stack s H :=
  ⟨I.ok.frames, I.ok.mod, I.bs, Nat.le_trans I.ok.bsz I.sz, I.stack, I.stkFree, I.hok, I.bare⟩
/-- behind a call -/
theorem Inv.after {Q : VK} {u : Value} (I : Inv X pins σ H s) (h : CE X.stack X.prog X.w H s Q u s') : EP X pins σ Q u s' := by
  obtain ⟨v, H', os, bare, un, hok, r, q⟩ := h
  obtain ⟨hh, g, d, t, os'⟩ := s'
  obtain rfl : os' = s.os := os
  exact ⟨v, H', I.call (h' := hh) (g' := g) (d' := d) (t' := t) (ch := []) un hok bare (fun b z => absurd z (by simp)), r, q⟩
end

/-! ### calls -/
/-- how the parameters are bound: us the positional arguments, kw the keywords' values by name, ds the defaults that fill up -/
def Binds (K : PySem.W.Frag) (fd : FuncData) (ps : List Str) (ds : List Value) : Prop :=
  ∀ (s : Shared) (us : List Value), K.In s.heap → (us ++ ds).length = ps.length → BindsTo s fd ⟨us, []⟩ (ps.zip (us ++ ds))
/-- every parameter is given -/
theorem Binds.all {K : PySem.W.Frag} {fd : FuncData} {ps : List Str} (h : ∀ us : List Value, us.length = ps.length → bindArgs fd ⟨us, []⟩ = pure (ps.zip us)) : Binds K fd ps [] := fun s us _ hl => by
  rw [List.append_nil] at hl ⊢
  exact .of_eq (h us hl)

section
variable {X : Cx} {CX : CXT} {ca : Bool} {k : Nat} {f C : Addr} {fd : FuncData} {ps : List Str} {sp : Sp} {dvs : List V} {ds : List Value} {E : XK} {x m : Str} {p pos apos : Pos} {e o : Expr} {es : List Expr} {ta : TE} {t : TA}

/-- what a class must have to be made -/
structure Mk (K : PySem.W.Frag) (C f : Addr) : Prop where
  makes : PySem.W.makesIn K C = true
  init : PySem.W.findIn K (.ref C) "__init__" = some (some (.ref f))
  fn : PySem.W.isFn K (.ref f) = true
  kp : PySem.W.keepIn K (.ref C) = true

end

/-! ### keywords -/
section
variable {X : Cx} {CX : CXT} {ca : Bool} {k : Nat} {f C : Addr} {fd : FuncData} {ps ks : List Str} {sp : Sp} {E : XK} {x m : Str} {p pos apos kpos : Pos} {e o : Expr} {es : List Expr} {kws : List Keyword} {te ta : TE} {t tk : TA} {nm : Option Str}
/-- how a call with keywords binds: g puts the positional values us and the keywords' values ws (names ks) in the parameters' order, defaults among them -/
structure KBinds (K : PySem.W.Frag) (fd : FuncData) (ps ks : List Str) (g : List Value → List Value → List Value) (gV : List V → List V → List V) : Prop where
  to : ∀ (s : Shared) (us ws : List Value), K.In s.heap → (g us ws).length = ps.length → BindsTo s fd ⟨us, ks.zip ws⟩ (ps.zip (g us ws))
  rel : ∀ {vs : List V} {us : List Value} {zs : List V} {ws : List Value}, Vals vs us → Vals zs ws → Vals (gV vs zs) (g us ws)
variable {g : List Value → List Value → List Value} {gV : List V → List V → List V}
end

/-! ### a def's body keeps its promise -/
/-- names: the parameters first -/
structure FnScope (N P : List Str) (sc : Scope) : Prop where
  kind : sc.kind = .function
  co : sc.isCoroutine = false
  gen : sc.isGenerator = false
  nd : N.Nodup
  pre : N.take P.length = P
  par : ∀ x ∈ P, sc.names.lookup x = some .local ∨ sc.names.lookup x = some .cell
  nofree : ∀ y ∈ sc.names, y.2 ≠ .free

theorem bindL_out {kindOf : Str → Option NameKind} {x : Str} : ∀ {binds : List (Str × Value)} {m : Str → Option Value}, (∀ v, (x, v) ∉ binds) → bindL kindOf binds m x = m x
  | [], _, _ => rfl
  | (n, v) :: r, m, h => by
    unfold bindL
    rw [bindL_out fun w hw => h w (List.mem_cons_of_mem _ hw)]
    split
    · have : x ≠ n := by rintro rfl; exact h v List.mem_cons_self
      simp [this]
    · rfl
theorem bindC_out {kindOf : Str → Option NameKind} {x : Str} : ∀ {binds : List (Str × Value)} {m : Str → Option Value}, (∀ v, (x, v) ∉ binds) → bindC kindOf binds m x = m x
  | [], _, _ => rfl
  | (n, v) :: r, m, h => by
    unfold bindC
    rw [bindC_out fun w hw => h w (List.mem_cons_of_mem _ hw)]
    split
    · rfl
    · have : x ≠ n := by rintro rfl; exact h v List.mem_cons_self
      simp [this]
theorem bindL_get {kindOf : Str → Option NameKind} {x : Str} {v : Value} : ∀ {P : List Str} {vs : List Value} {i : Nat} {m : Str → Option Value}, P.Nodup → P[i]? = some x → vs[i]? = some v → kindOf x = some .local →
    bindL kindOf (P.zip vs) m x = some v
  | [], _, _, _, _, h, _, _ => by simp at h
  | _ :: _, [], _, _, _, _, h, _ => by simp at h
  | p :: P, w :: vs, 0, m, nd, h1, h2, hk => by
    simp at h1 h2; subst h1; subst h2
    show bindL kindOf ((p, w) :: P.zip vs) m p = _
    unfold bindL
    rw [bindL_out fun v hv => (List.nodup_cons.mp nd).1 (List.of_mem_zip hv).1, if_pos hk]
    simp
  | p :: P, w :: vs, i + 1, m, nd, h1, h2, hk => by
    show bindL kindOf ((p, w) :: P.zip vs) m x = _
    unfold bindL
    exact bindL_get (i := i) (List.nodup_cons.mp nd).2 (by simpa using h1) (by simpa using h2) hk
theorem bindC_get {kindOf : Str → Option NameKind} {x : Str} {v : Value} : ∀ {P : List Str} {vs : List Value} {i : Nat} {m : Str → Option Value}, P.Nodup → P[i]? = some x → vs[i]? = some v → kindOf x ≠ some .local →
    bindC kindOf (P.zip vs) m x = some v
  | [], _, _, _, _, h, _, _ => by simp at h
  | _ :: _, [], _, _, _, _, h, _ => by simp at h
  | p :: P, w :: vs, 0, m, nd, h1, h2, hk => by
    simp at h1 h2; subst h1; subst h2
    show bindC kindOf ((p, w) :: P.zip vs) m p = _
    unfold bindC
    rw [bindC_out fun v hv => (List.nodup_cons.mp nd).1 (List.of_mem_zip hv).1, if_neg hk]
    simp
  | p :: P, w :: vs, i + 1, m, nd, h1, h2, hk => by
    show bindC kindOf ((p, w) :: P.zip vs) m x = _
    unfold bindC
    exact bindC_get (i := i) (List.nodup_cons.mp nd).2 (by simpa using h1) (by simpa using h2) hk

/-- the names' values at the entry -/
def start (N : List Str) (vs : List V) : St := vs.map some ++ List.replicate (N.length - vs.length) none

/-- the context of a def's body, at its entry; an exception leaves the frame, then lies as CX says -/
def cxOf (CX : CXT) (ca : Bool) (P : Program) (w : World) (K : PySem.W.Frag) (mg : Str → Option Value) (base : Heap) (N : List Str) (qual : Str) (scope : Scope) (f : Addr) (cd : Value) (A : Around) (outer : List Env) (s : Shared) (H : Hp) (E : XK) : Cx where
  prog := P
  w := w
  K := K
  mg := mg
  base := base
  A := A.deeper (envOfC qual scope s.heap.objs.size f cd)
  N := N
  s₀ := s
  H₀ := H
  env := envOfC qual scope s.heap.objs.size f cd
  outer := outer
  stack := envOfC qual scope s.heap.objs.size f cd :: outer
  ex := []
  calm := ca
  fn := fun _ => true
  pn := []
  xe := fun e s' => wpAny (model P w) (A.deeper (envOfC qual scope s.heap.objs.size f cd)) (leaving (envOfC qual scope s.heap.objs.size f cd) e) (fun _ s'' => CX outer H s E e s'') (fun e' s'' => CX outer H s E e' s'') s'

theorem cell_has {sc : Scope} {n : Nat} {x : Str} (h : sc.names.lookup x = some .cell) : ∃ c, (cellsFrom n sc.names []).lookup x = some c := by
  have q := PySem.W.cellsFrom_some sc.names n [] (.inl h)
  exact Option.isSome_iff_exists.mp q

theorem inv_start {CX : CXT} {ca : Bool} {P : Program} {w : World} {K : PySem.W.Frag} {mg : Str → Option Value} {base : Heap} {N ps : List Str} {qual : Str} {scope : Scope} {f : Addr} {cd : Value} {A : Around} {outer : List Env} {s s1 : Shared} {H : Hp} {E : XK} {us : List Value} {vs : List V}
    (S : FnScope N ps scope) (hd : ca = true → A.handled = none) (e0 : Env0 P w K mg base A outer s H) (hl : vs.length = ps.length) (r : Vals vs us)
    (x : InCallC s s.heap.objs.size (bindL (envOfC qual scope s.heap.objs.size f cd).kindOf (ps.zip us) fun _ => none) (cellsFrom (s.heap.objs.size + 1) scope.names []) (bindC (envOfC qual scope s.heap.objs.size f cd).kindOf (ps.zip us) fun _ => none) s1) :
    Inv (cxOf CX ca P w K mg base N qual scope f cd A outer s H E) [] (start N vs) H s1 := by
  have hpl : ps.length ≤ N.length := by have := congrArg List.length S.pre; rw [List.length_take] at this; omega
  obtain ⟨h1, tk, rfl, hk⟩ := x.done
  have noA : ∀ b : Addr, b ∉ (cxOf CX ca P w K mg base N qual scope f cd A outer s H E).ex := fun b z => absurd (show b ∈ ([] : List Addr) from z) (by simp)
  refine ⟨⟨e0.mod, S.kind, rfl, rfl, Nat.le_refl _, fun y z c h1 h2 => ?_, fun y hy => ?_, fun y c _ h => ?_, fun z => hd z, Around.frames_deeper e0.frames, .inr ⟨rfl, rfl⟩, fun b z => absurd z (noA b), e0.bs, e0.bsz, fun b _ _ => noA b, fun b z => absurd z (noA b), e0.funs, e0.frf⟩,
    rfl, e0.bare, Un.kept hk, ⟨_, x.toInCall.ns, fun i y v h1 h2 h3 => ?_⟩, fun y c h => ⟨_, x.cell y c h⟩, e0.hok.fresh (Nat.le_refl _), fun y c h => ?_, fun p hp => absurd (show p ∈ ([] : List (Addr × Obj)) from hp) (by simp), e0.hok.kept hk, ?_⟩
  · exact name_of_addr x.apart (PySem.mem_of_lookup h1) (PySem.mem_of_lookup h2)
  · have hy : scope.names.lookup y = some .cell ∨ scope.names.lookup y = some .free := hy
    rcases hy with hy | hy
    · exact cell_has hy
    · exact absurd rfl (S.nofree _ (PySem.mem_of_lookup hy))
  · exact Nat.le_of_lt (x.above y c (PySem.mem_of_lookup h))
  · have hi : i < vs.length := by
      unfold start at h2
      by_cases hi : i < vs.length
      · exact hi
      · rw [List.getElem?_append_right (by simpa using hi)] at h2
        rw [List.getElem?_replicate] at h2
        split at h2 <;> cases h2
    have ha : vs[i]? = some v := by
      unfold start at h2
      rw [List.getElem?_append_left (by simpa using hi), List.getElem?_map] at h2
      cases e : vs[i]? with
      | none => rw [e] at h2; cases h2
      | some a => rw [e] at h2; cases h2; rfl
    obtain ⟨u, hu, rv⟩ := r.get ha
    have hp : ps[i]? = some y := by
      rw [← S.pre, List.getElem?_take_of_lt (by omega)]; exact h1
    have ndP : ps.Nodup := by rw [← S.pre]; exact S.nd.sublist (List.take_sublist _ _)
    refine ⟨u, rv, ?_⟩
    rcases S.par y (List.mem_of_getElem? hp) with k | k
    · exact .inl ⟨k, bindL_get ndP hp hu k⟩
    · obtain ⟨c, e⟩ := cell_has (n := s.heap.objs.size + 1) k
      refine .inr ⟨.inl k, c, e, ?_⟩
      have q := x.cell y c e
      rw [bindC_get ndP hp hu (by show scope.names.lookup y ≠ _; rw [k]; decide)] at q
      exact q
  · exact e0.hok.fresh (Nat.le_of_lt (x.above y c (PySem.mem_of_lookup h)))
  · unfold start
    show _ = N.length
    rw [List.length_append, List.length_map, List.length_replicate]
    omega

/-- THE RULE: a def (or a method) of the text, by its body. The body's reading t is chosen for each entry; it is run at the parameters' values -/
theorem fn_of {CX : CXT} {ca : Bool} {P : Program} {w : World} {K : PySem.W.Frag} {mg : Str → Option Value} {base : Heap} {k : Nat} {f : Addr} {name qual : Str} {params : Arguments} {body : List Stmt} {scope : Scope} {dV kV doc pm cdv ct oc : Value} {an od : Option Addr}
    {osl : Array (Option Value)} {N ps : List Str} {sp : Sp} (lk : K.lookup f = some ⟨oc, od, .func (PySem.W.fnOf name qual params body scope dV kV doc pm an cdv ct), osl⟩) (hcd : PySem.W.codeIn K cdv qual = true) (S : FnScope N ps scope)
    (len : ∀ vs H Q E, sp vs H Q E → vs.length = ps.length)
    (hbody : ∀ (A : Around) (outer : List Env) (s : Shared) (H : Hp) (vs : List V) (Q : VK) (E : XK), Room ca k (A.deeper (envOfC qual scope s.heap.objs.size f cdv)) → sp vs H Q E →
      ∃ t, PSs (cxOf CX ca P w K mg base N qual scope f cdv A outer s H E) body t ∧ t { nx := fun _ H' => Q .non H', rt := Q } (start N vs) H) :
    FnOk P w K mg base CX ca (k + 1) f (PySem.W.fnOf name qual params body scope dV kV doc pm an cdv ct) ps sp := by
  refine ⟨len, fun A outer s H args us vs Q E hr e0 hb r hsp => ?_⟩
  have hl := len _ _ _ _ hsp
  have KX : K.In s.heap := e0.mod.kin.keeps fun b o e => (e0.bs b o e).1
  have lim : s.heap.NoLimit := e0.mod.nolimit.keeps fun b o e => (e0.bs b o e).1
  have hkind : ∀ y ∈ ps.zip us, scope.names.lookup y.1 = some .local ∨ (scope.names.lookup y.1 = some .cell ∧ ((cellsFrom (s.heap.objs.size + 1) scope.names []).lookup y.1).isSome = true) := fun ⟨n, v⟩ hy => by
    rcases S.par n (List.of_mem_zip hy).1 with q | q
    · exact .inl q
    · exact .inr ⟨q, PySem.W.cellsFrom_some _ _ _ (.inl q)⟩
  refine codeAny_call_function hr.depth (KX _ _ lk) rfl S.co S.gen rfl (PySem.W.codeRec_of KX hcd) (hb _ _ _ _ ?_)
  refine wpAny_newFunctionEnv_cells S.kind hkind fun env he s1 x => ?_
  subst he
  refine ⟨lim.keeps x.toInCall.keep, codeAny_func ?_⟩
  obtain ⟨t, ht, hq⟩ := hbody A outer s H vs Q E (hr.deeper _) hsp
  have I : Inv (cxOf CX ca P w K mg base N qual scope f cdv A outer s H E) [] (start N vs) H s1 := inv_start S hr.hd e0 hl r x
  refine wpAny_mono (ht [] s1 (start N vs) H _ I hq) (fun fl s' hs => ?_) fun e s' hs => hs
  have fin : ∀ {σ' : St} {H' : Hp} {v : V} {u : Value}, Inv (cxOf CX ca P w K mg base N qual scope f cdv A outer s H E) [] σ' H' s' → RelV v u → Q v H' → CE outer P w H s Q u s' :=
    fun {σ' H' v u} J rv q => ⟨v, H', J.os, J.bare, J.base, J.hok, rv, q⟩
  cases fl with
  | ret u =>
    obtain ⟨v, σ', H', J, rv, q⟩ := hs
    exact fin J rv q
  | next =>
    obtain ⟨σ', H', J, q⟩ := hs
    exact fin (v := V.non) (u := Value.none) J rfl q
  | brk =>
    obtain ⟨_, _, _, q⟩ := hs
    exact False.elim q
  | cont =>
    obtain ⟨_, _, _, q⟩ := hs
    exact False.elim q
end L2

namespace L2
open PySem PySem.Spec PyProof.Rows
section
variable {X : Cx} {x : Str} {p pos : Pos} {e : Expr} {es : List Expr} {t : TA} {id T : String} {r : List V → Hp → VK → Prop}

def tCB (r : List V → Hp → VK → Prop) (t : TA) : TE := fun σ H Q => t σ H fun vs H1 => r vs H1 Q
/-- f(e, ..), f a built-in function -/
theorem pe_callB (hc : CallR X (.builtin id) r) (hg : Gl X x) (hm : X.mg x = none) (hv : bootBuiltins x = some (.builtin id)) (ha : PA X (e :: es) t) (hn : x ≠ "__name__" := by decide) (hdb : (x == ("__debug__" : Str)) = false := by decide)
    (he : starEach (e :: es) X.env = (false, eval e X.env) :: starEach es X.env := by rfl) (hpl : (backTo pos (starEach es X.env)).any (·.1) = false := by rfl) : PE X (.Call (.Name x p) (e :: es) [] pos) (tCB r t) := by
  intro pins s σ H Q I h
  refine wpAny_Call_Name_kw (ld_blt I hg hm hv ?_ hn hdb)
  exact PyProof.Rows.callWith_builtin1 (thn (ha pos pins s σ H _ I h) fun us s1 ⟨vs, H1, I1, r1, q1⟩ => hc pins s1 σ H1 vs us Q I1 r1 q1) he hpl
/-- T(e, ..), T a built-in type -/
theorem pe_callTy (hc : CallR X (.type T) r) (hg : Gl X x) (hm : X.mg x = none) (hv : bootBuiltins x = some (.type T)) (ha : PA X (e :: es) t) (hn : x ≠ "__name__" := by decide) (hdb : (x == ("__debug__" : Str)) = false := by decide)
    (he : starEach (e :: es) X.env = (false, eval e X.env) :: starEach es X.env := by rfl) (hpl : (backTo pos (starEach es X.env)).any (·.1) = false := by rfl) : PE X (.Call (.Name x p) (e :: es) [] pos) (tCB r t) := by
  intro pins s σ H Q I h
  refine wpAny_Call_Name_kw (ld_blt I hg hm hv ?_ hn hdb)
  exact PyProof.Rows.callWith_type1 (thn (ha pos pins s σ H _ I h) fun us s1 ⟨vs, H1, I1, r1, q1⟩ => hc pins s1 σ H1 vs us Q I1 r1 q1) he hpl
end
end L2

namespace HT
open PySem PyProof.Rows

section
open PySem.SeqAt
open PySem.AutoSeq1 (wpAny_loadPart')
open PySem.MeetsSeq PySem.MeetsSeq2 PySem.MeetsSeq3

end

section
variable {prog : Program} {w : World} {A : Around} {E : Value → Shared → Prop} {s : Shared}

/-! ### t[a:b], not the whole -/
/-- a slice's bound as a place among n (d where it is left out) -/
def sIx (n d : Nat) : Option Int → Nat
  | none => d
  | some v => if v < 0 then (v + (n : Int)).toNat else min v.toNat n
theorem sIx_nat (n d k : Nat) : sIx n d (some (k : Int)) = min k n := by
  show (if (k : Int) < 0 then ((k : Int) + (n : Int)).toNat else min (k : Int).toNat n) = min k n
  rw [if_neg (by omega), Int.toNat_natCast]
end
end HT

namespace L2
open PySem PySem.Spec PyProof.Rows

/-! ### the parts of a slice -/
abbrev TO := St → Hp → (Option Int → Hp → Prop) → Prop
/-- a slice's part (left out, or an int) -/
def PO (X : Cx) (e : Option Expr) (t : TO) : Prop :=
  ∀ (pins : List (Addr × Obj)) (s : Shared) (σ : St) (H : Hp) (Q : Option Int → Hp → Prop), Inv X pins σ H s → t σ H Q →
    wpAny (model X.prog X.w) X.A (evalPart e X.env) (fun u s' => ∃ o H', Inv X pins σ H' s' ∧ IsPart u o ∧ Q o H') X.xe s
def tNoPart : TO := fun _ H Q => Q none H
section
variable {X : Cx} {e : Expr} {te : TE} {lo hi : Option Expr} {tl th : TO} {pos p2 : Pos}

/-- what a slice of a value is, by values: the slice object stands at sl -/
def SlR (X : Cx) (r : V → Option Int → Option Int → Hp → VK → Prop) : Prop :=
  ∀ (pins : List (Addr × Obj)) (s : Shared) (σ : St) (H : Hp) (x : V) (v vl vu : Value) (lo hi : Option Int) (sl : Addr) (Q : VK), Inv X pins σ H s → RelV x v → s.heap.IsSliceOf sl vl vu .none → IsPart vl lo → IsPart vu hi → r x lo hi H Q →
    ∃ T id, typeLookup (.type T) "__getitem__" = pure (some (.builtin id)) ∧ s.TypeIs v T ∧ wpAny (model X.prog X.w) X.A (getItem v (.ref sl)) (EP X pins σ Q) X.xe s
theorem SlR.or {r r' : V → Option Int → Option Int → Hp → VK → Prop} (h : SlR X r) (h' : SlR X r') : SlR X (fun x lo hi H Q => r x lo hi H Q ∨ r' x lo hi H Q) := by
  intro pins s σ H x v vl vu lo hi sl Q I rx hs pl pu q
  rcases q with q | q
  · exact h pins s σ H x v vl vu lo hi sl Q I rx hs pl pu q
  · exact h' pins s σ H x v vl vu lo hi sl Q I rx hs pl pu q
def tSl (r : V → Option Int → Option Int → Hp → VK → Prop) (te : TE) (tl th : TO) : TE := fun σ H Q => te σ H fun x H1 => tl σ H1 fun l H2 => th σ H2 fun u H3 => r x l u H3 Q
/-- a[lo:hi], any a -/
theorem pe_slice {r : V → Option Int → Option Int → Hp → VK → Prop} (hr : SlR X r) (he : PE X e te) (hl : PO X lo tl) (hu : PO X hi th) : PE X (.Subscript e (.Slice lo hi none p2) pos) (tSl r te tl th) := by
  intro pins s σ H Q I h
  refine Subscript_ (thn (he pins s σ H _ I h) fun v s1 ⟨x, H1, I1, r1, q1⟩ => ?_)
  refine wpAny_Slice (thn (hl pins s1 σ H1 _ I1 q1) fun vl s2 ⟨l, H2, I2, pl, q2⟩ => thn (hu pins s2 σ H2 _ I2 q2) fun vu s3 ⟨u, H3, I3, pu, q3⟩ => ?_)
  rw [evalPart_none]
  refine wpAny_pure ?_
  have I4 : Inv X pins σ H3 { s3 with heap := s3.heap.push { cls := .type "slice", data := .fields #[vl, vu, .none] } } := I3.kept (t' := s3.toks) fun b ob q => Heap.get?_push_of_some _ q
  obtain ⟨T, id, hT, ht, hg⟩ := hr pins { s3 with heap := s3.heap.push { cls := .type "slice", data := .fields #[vl, vu, .none] } } σ H3 x v vl vu l u s3.heap.objs.size Q I4 r1 (Heap.IsSliceOf.new ..) pl pu q3
  show wpAny (model X.prog X.w) X.A (subscriptTail e (.Slice lo hi none p2) v (.ref s3.heap.objs.size)) (EP X pins σ Q) X.xe { s3 with heap := s3.heap.push { cls := .type "slice", data := .fields #[vl, vu, .none] } }
  exact tail_any (ops := [.ref s3.heap.objs.size, v]) ht hT hg (by with_unfolding_all rfl)

/-- the items of xs[lo:hi] -/
def cutV (xs : List V) (lo hi : Option Int) : List V := (xs.drop (HT.sIx xs.length 0 lo)).take (HT.sIx xs.length xs.length hi - HT.sIx xs.length 0 lo)
theorem cutV_length (xs : List V) (lo hi : Option Int) : (cutV xs lo hi).length ≤ xs.length := by
  unfold cutV
  rw [List.length_take, List.length_drop]
  omega
/-! ### t < u, t + u -/
end
end L2

namespace L2
open PySem PySem.Spec PyProof.Rows

/-! ### places -/
/-- the place that an index of any sign means -/
def ixN (n : Nat) (i : Int) : Option Nat := if 0 ≤ i then (if i < n then some i.toNat else none) else if -(n : Int) ≤ i then some (i + n).toNat else none
def atI {α : Type} (xs : List α) (i : Int) : Option α := (ixN xs.length i).bind fun j => xs[j]?
theorem ixN_seq {n : Nat} {i : Int} {j : Nat} (h : ixN n i = some j) : seqIndex? i n = some j ∧ j < n ∧ -(n : Int) ≤ i ∧ i < n := by
  unfold ixN at h
  by_cases h0 : 0 ≤ i
  · rw [if_pos h0] at h
    by_cases h1 : i < n
    · rw [if_pos h1] at h
      have e : i.toNat = j := Option.some.inj h
      exact ⟨by rw [seqIndex_of h0 h1, e], by omega, by omega, h1⟩
    · rw [if_neg h1] at h; cases h
  · rw [if_neg h0] at h
    by_cases h1 : -(n : Int) ≤ i
    · rw [if_pos h1] at h
      have e : (i + n).toNat = j := Option.some.inj h
      exact ⟨by rw [seqIndex_neg (by omega) h1, e], by omega, h1, by omega⟩
    · rw [if_neg h1] at h; cases h
theorem atI_get {α : Type} {xs : List α} {i : Int} {v : α} (h : atI xs i = some v) : ∃ j, seqIndex? i xs.length = some j ∧ xs[j]? = some v ∧ j < xs.length ∧ -(xs.length : Int) ≤ i ∧ i < xs.length := by
  unfold atI at h
  cases e : ixN xs.length i with
  | none => rw [e] at h; cases h
  | some j =>
    rw [e] at h
    obtain ⟨h1, h2, h3, h4⟩ := ixN_seq e
    exact ⟨j, h1, h, h2, h3, h4⟩
theorem atI_nat {α : Type} {xs : List α} {j : Nat} {v : α} (h : xs[j]? = some v) : atI xs (j : Int) = some v := by
  have hj : j < xs.length := (List.getElem?_eq_some_iff.mp h).1
  have e : ixN xs.length (j : Int) = some j := by
    unfold ixN
    rw [if_pos (by omega), if_pos (by omega)]; simp
  unfold atI; rw [e]; exact h
/-! ### what may be subscripted -/
/-- what stands as an index of a plain subscript -/
def PlainIx (b : Expr) : Prop := ∀ o i, subscripted b false o i = operate [o, i] (getItem o i)
/-- a subscript by values -/
def IxR (X : Cx) (r : R2) : Prop :=
  ∀ (value slice : Expr) (pins : List (Addr × Obj)) (s : Shared) (σ : St) (H : Hp) (x y : V) (v u : Value) (Q : VK), Inv X pins σ H s → RelV x v → RelV y u → r x y H Q →
    subscripted slice false v u = operate [v, u] (getItem v u) → wpAny (model X.prog X.w) X.A (subscriptTail value slice v u) (EP X pins σ Q) X.xe s
/-- a call of a builtin's method by values: the receiver, the arguments -/
def MtR (X : Cx) (id : String) (r : V → List V → Hp → VK → Prop) : Prop :=
  ∀ (pins : List (Addr × Obj)) (s : Shared) (σ : St) (H : Hp) (x : V) (xs : List V) (v : Value) (us : List Value) (Q : VK), Inv X pins σ H s → RelV x v → Vals xs us → r x xs H Q →
    wpAny (model X.prog X.w) X.A (call (.builtin id) (v :: us)) (EP X pins σ Q) X.xe s
section
variable {X : Cx} {a b : Expr} {ta tb : TE} {pos : Pos}
theorem IxR.or {r r' : R2} (h : IxR X r) (h' : IxR X r') : IxR X (fun x y H Q => r x y H Q ∨ r' x y H Q) := by
  intro value slice pins s σ H x y v u Q I rx ry q hs
  rcases q with q | q
  · exact h value slice pins s σ H x y v u Q I rx ry q hs
  · exact h' value slice pins s σ H x y v u Q I rx ry q hs
theorem MtR.or {id : String} {r r' : V → List V → Hp → VK → Prop} (h : MtR X id r) (h' : MtR X id r') : MtR X id (fun x xs H Q => r x xs H Q ∨ r' x xs H Q) := by
  intro pins s σ H x xs v us Q I rx rs q
  rcases q with q | q
  · exact h pins s σ H x xs v us Q I rx rs q
  · exact h' pins s σ H x xs v us Q I rx rs q
/-- a[b] -/
theorem pe_ix {r : R2} (hr : IxR X r) (ha : PE X a ta) (hb : PE X b tb) (hs : PlainIx b) : PE X (.Subscript a b pos) (tOp r ta tb) := by
  intro pins s σ H Q I h
  exact Subscript_ (binT ha hb I h fun v u s2 x y H2 I2 rx ry q => hr a b pins s2 σ H2 x y v u Q I2 rx ry q (hs _ _))

def rIxL (K : PySem.W.Frag) : R2 := fun x y H Q => ∃ p xs i v, x = .ref p ∧ y = .int i ∧ SqL K H p xs ∧ atI xs i = some v ∧ Q v H
def rIxT (K : PySem.W.Frag) : R2 := fun x y H Q => ∃ p xs i v, x = .ref p ∧ y = .int i ∧ SqT K H p xs ∧ atI xs i = some v ∧ Q v H
theorem ix_list : IxR X (rIxL X.K) := by
  intro value slice pins s σ H x y v u Q I rx ry h hs
  obtain ⟨p, xs, i, z, rfl, rfl, hq, he, q⟩ := h
  cases rx
  obtain ⟨t, rfl⟩ := ry
  obtain ⟨its, r, pl, hz⟩ := I.list hq
  obtain ⟨j, h1, h2, h3, h4, h5⟩ := atI_get he
  obtain ⟨w, ew, rw'⟩ := r.get h2
  have hl := r.length
  have hn := line63
  have fin : EP X pins σ Q w s := ⟨z, H, I, rw', q⟩
  by_cases h0 : 0 ≤ i
  · have hj : i.toNat = j := by
      rw [seqIndex_of h0 h5] at h1
      exact Option.some.inj h1
    exact item_listR pl.isList h0 (by omega) (by rw [hj]; simpa using ew) fin hs
  · have hj : (i + (its.toArray.size : Int)).toNat = j := by
      rw [seqIndex_neg (by omega) h4] at h1
      rw [List.size_toArray, ← hl]
      exact Option.some.inj h1
    exact subscriptTail_builtinR (x := w) pl.isList.typeIs slot_list_getitem.lookup
      (wpAny_getItem_list_neg (Q := fun r s' => r = w ∧ EP X pins σ Q r s') pl.isList (by omega) (by rw [List.size_toArray] <;> omega) (by omega) (by rw [hj]; simpa using ew) ⟨rfl, fin⟩) hs
theorem ix_tup : IxR X (rIxT X.K) := by
  intro value slice pins s σ H x y v u Q I rx ry h hs
  obtain ⟨p, xs, i, z, rfl, rfl, hq, he, q⟩ := h
  cases rx
  obtain ⟨t, rfl⟩ := ry
  obtain ⟨its, r, pl, hz⟩ := I.tuple hq
  obtain ⟨j, h1, h2, h3, h4, h5⟩ := atI_get he
  obtain ⟨w, ew, rw'⟩ := r.get h2
  have hl := r.length
  have hn := line63
  have fin : EP X pins σ Q w s := ⟨z, H, I, rw', q⟩
  exact subscriptTail_builtinR (x := w) pl.typeIs slot_tuple_getitem.lookup
    (getItem_tuple (j := j) (Q := fun r s' => r = w ∧ EP X pins σ Q r s') pl (by omega) (by omega) (by rw [List.size_toArray, ← hl]; exact h1) (by simpa using ew) ⟨rfl, fin⟩) hs
/-! ### xs[i] = v, any sign -/
/-- the list's object behind a store -/
theorem mapSeq_set (its : List Value) (n j : Nat) (u : Value) : Obj.mapSeq (·.setIfInBounds j u) { cls := .type "list", data := .seq its.toArray n } = { cls := .type "list", data := .seq (its.set j u).toArray n } := by
  simp [Obj.mapSeq]
theorem Inv.lst {pins : List (Addr × Obj)} {σ : St} {H : Hp} {s : Shared} {p : Addr} {xs : List V} (I : Inv X pins σ H s) (h : H p = some (.lst xs)) :
    ∃ (its : List Value) (n : Nat), Vals xs its ∧ s.heap.get? p = some { cls := .type "list", data := .seq its.toArray n } ∧ xs.length ≤ sizeLine := by
  obtain ⟨z, its, n, r, e⟩ := I.hok p _ h
  exact ⟨its, n, r, e, z⟩
/-- the list at p is written by an update of its object -/
theorem Inv.lstUpd {pins : List (Addr × Obj)} {σ : St} {H : Hp} {s : Shared} {p : Addr} {xs ys : List V} {its its' : List Value} {n n' : Nat} {f : Obj → Obj} (I : Inv X pins σ H s) (h : H p = some (.lst xs))
    (ho : s.heap.get? p = some { cls := .type "list", data := .seq its.toArray n }) (hf : f { cls := .type "list", data := .seq its.toArray n } = { cls := .type "list", data := .seq its'.toArray n' }) (r : Vals ys its') (hz : ys.length ≤ sizeLine) (t : Nat) :
    Inv X pins σ (upd H p (.lst ys)) { s with heap := s.heap.update p f, toks := t } := by
  have e : (s.heap.update p f).get? p = some { cls := .type "list", data := .seq its'.toArray n' } := by
    rw [Heap.get?_update_self f ho (by rw [hf] <;> rfl), hf]
  refine I.write (x := p) (e := p) (by rw [h]; trivial) (.inl rfl) (fun b u hb q => (Heap.get?_update_other _ _ (Ne.symm hb)).trans q) ⟨_, e⟩ ?_
  exact ⟨hz, its', n', r, e⟩
def rSetL : V → V → V → Hp → (Hp → Prop) → Prop := fun o i v H Q => ∃ p xs k j, o = .ref p ∧ i = .int k ∧ H p = some (.lst xs) ∧ ixN xs.length k = some j ∧ Q (upd H p (.lst (xs.set j v)))
theorem set_list : PSet X rSetL := by
  intro pins s σ H o i v ov iv u Q I ro ri rv h
  obtain ⟨p, xs, k, j, rfl, rfl, hp, hj, q⟩ := h
  cases ro
  obtain ⟨t, rfl⟩ := ri
  obtain ⟨its, n, r, ho, hz⟩ := I.lst hp
  obtain ⟨h1, h2, h3, h4⟩ := ixN_seq hj
  have hl := r.length
  have hn := line63
  have I' : Inv X pins σ (upd H p (.lst (xs.set j v))) { s with heap := s.heap.update p (Obj.mapSeq (·.setIfInBounds j u)) } :=
    I.lstUpd hp ho (mapSeq_set its n j u) (r.set rv j) (by rw [List.length_set]; exact hz) s.toks
  by_cases h0 : 0 ≤ k
  · have hk : k.toNat = j := by
      rw [seqIndex_of h0 h4] at h1
      exact Option.some.inj h1
    exact PySem.W.ki_setAt ho h0 (by omega) (by rw [List.size_toArray, ← hl]; exact h4) (by rw [hk]; exact ⟨_, I', q⟩)
  · have hk : (k + (its.toArray.size : Int)).toNat = j := by
      rw [seqIndex_neg (by omega) h3] at h1
      rw [List.size_toArray, ← hl]
      exact Option.some.inj h1
    exact PySem.W.ki_setBack ho (by omega) (by rw [List.size_toArray, ← hl]; exact h3) (by omega) (by rw [hk]; exact ⟨_, I', q⟩)

/-! ### slices -/
theorem slice_bounds (lo hi : Option Int) (n : Nat) : (sliceBounds lo hi none n).1 = ((HT.sIx n 0 lo : Nat) : Int) ∧ (sliceBounds lo hi none n).2.1 = ((HT.sIx n n hi : Nat) : Int) ∧ (sliceBounds lo hi none n).2.2 = 1 := by
  refine ⟨?_, ?_, rfl⟩
  · cases lo with
    | none => simp [sliceBounds, HT.sIx]
    | some i =>
      simp only [sliceBounds, HT.sIx, Option.getD_none, show (1 : Int) > 0 by decide, if_true]
      by_cases h : i < 0
      · simp only [h, if_true] <;> omega
      · simp only [h, if_false] <;> omega
  · cases hi with
    | none => simp [sliceBounds, HT.sIx]
    | some i =>
      simp only [sliceBounds, HT.sIx, Option.getD_none, show (1 : Int) > 0 by decide, if_true]
      by_cases h : i < 0
      · simp only [h, if_true] <;> omega
      · simp only [h, if_false] <;> omega
theorem slicePick_cut (its : List Value) (lo hi : Option Int) : slicePick its.toArray lo hi none = ((its.drop (HT.sIx its.length 0 lo)).take (HT.sIx its.length its.length hi - HT.sIx its.length 0 lo)).toArray := by
  obtain ⟨h1, h2, h3⟩ := slice_bounds lo hi its.toArray.size
  unfold slicePick
  rw [h1, h2, h3]
  simp only [sliceRange_one, pick_run, List.size_toArray] <;> rfl
/-- xs[lo:hi] of a list: a new list -/
def rSlL (K : PySem.W.Frag) : V → Option Int → Option Int → Hp → VK → Prop := fun x lo hi H Q => ∃ a xs, x = .ref a ∧ SqL K H a xs ∧ ∀ p, H p = none → Q (.ref p) (upd H p (.lst (cutV xs lo hi)))
theorem sl_list : SlR X (rSlL X.K) := by
  intro pins s σ H x v vl vu lo hi sl Q I rx hs pl pu h
  obtain ⟨a, xs, rfl, hx, q⟩ := h
  cases rx
  obtain ⟨its, r, ht, hz⟩ := I.list hx
  have hlen := r.length
  refine ⟨"list", _, slot_list_getitem.lookup, ht.isList.typeIs, ?_⟩
  refine wpAny_getItem_list_slice ht.isList hs pl pu .none (by simp) ?_ (by rw [List.size_toArray] <;> omega)
  rw [slicePick_cut, ← hlen]
  refine ⟨.ref s.heap.objs.size, _, I.laid (t' := s.toks) (o := .lst (cutV xs lo hi)) (fun b ob q => Heap.get?_push_of_some _ q) (Nat.le_refl _) ?_, rfl, q _ (I.hok.fresh (Nat.le_refl _))⟩
  exact ⟨Nat.le_trans (cutV_length xs lo hi) hz, _, 0, (r.drop (HT.sIx xs.length 0 lo)).take (HT.sIx xs.length xs.length hi - HT.sIx xs.length 0 lo), Heap.get?_push_size _ rfl⟩

/-! ### in, not in: flat items -/
def flatV : V → Bool
  | .non => true
  | .bl _ => true
  | .int _ => true
  | .str _ => true
  | _ => false
/-- == of flat values -/
def eqV : V → V → Bool
  | .non, .non => true
  | .bl a, .bl b => a == b
  | .bl a, .int b => (if a then 1 else 0) == b
  | .int a, .bl b => a == (if b then 1 else 0)
  | .int a, .int b => a == b
  | .str a, .str b => a == b
  | _, _ => false
/-! ### len, list(x), tuple(x) of any list or tuple that is read -/
theorem call_len_seq : CallR X (.builtin "len") (fun xs H Q => ∃ p ys, xs = [.ref p] ∧ (SqL X.K H p ys ∨ SqT X.K H p ys) ∧ Q (.int ys.length) H) := by
  intro pins s σ H xs us Q I r h
  obtain ⟨p, ys, rfl, hq, q⟩ := h
  obtain ⟨u, rfl, rx⟩ := vals1 r
  cases rx
  have hn := line63
  rcases hq with hq | hq
  · obtain ⟨its, r', pl, hz⟩ := I.list hq
    have hlen := r'.length
    exact Calls.call_len_list pl.isList (by simp only [List.size_toArray] <;> omega) ⟨.int ys.length, H, I.tok _, ⟨s.toks + 1, by rw [List.size_toArray, hlen]⟩, q⟩
  · obtain ⟨its, r', pl, hz⟩ := I.tuple hq
    have hlen := r'.length
    exact len_tuple pl (by simp only [List.size_toArray] <;> omega) ⟨.int ys.length, H, I.tok _, ⟨s.toks + 1, by rw [List.size_toArray, hlen]⟩, q⟩
theorem CallR.or {f : Value} {r r' : List V → Hp → VK → Prop} (h : CallR X f r) (h' : CallR X f r') : CallR X f (fun xs H Q => r xs H Q ∨ r' xs H Q) := by
  intro pins s σ H xs us Q I rs q
  rcases q with q | q
  · exact h pins s σ H xs us Q I rs q
  · exact h' pins s σ H xs us Q I rs q
/-! ### the call of a builtin's method: o.m(..) -/
/-- the value is of that builtin type -/
def tyV (K : PySem.W.Frag) (T : String) (x : V) (H : Hp) : Prop := match x with
  | .str _ => T = "str"
  | .int _ => T = "int"
  | .ref p => (T = "list" ∧ ∃ xs, SqL K H p xs) ∨ (T = "tuple" ∧ ∃ o, K.lookup p = some o ∧ o.cls = .type "tuple" ∧ o.dict = none) ∨
      (T = "dict" ∧ ((∃ kvs, H p = some (.dK kvs)) ∨ ∃ kvs, H p = some (.dT kvs))) ∨ (T = "set" ∧ ∃ S n, H p = some (.set S n))
  | _ => False
theorem tyV_is {pins : List (Addr × Obj)} {σ : St} {H : Hp} {s : Shared} {T : String} {x : V} {v : Value} (I : Inv X pins σ H s) (r : RelV x v) (ty : tyV X.K T x H) :
    s.TypeIs v T ∧ ∀ a, v = .ref a → ∃ ob, s.heap.get? a = some ob ∧ ob.dict = none := by
  cases x with
  | str z =>
    obtain ⟨t, rfl⟩ := r
    cases (show T = "str" from ty)
    exact ⟨typeIs_str s z t, fun _ e => nomatch e⟩
  | int i =>
    obtain ⟨t, rfl⟩ := r
    cases (show T = "int" from ty)
    exact ⟨typeIs_int s i t, fun _ e => nomatch e⟩
  | ref p =>
    cases r
    rcases ty with ⟨rfl, xs, hq⟩ | ⟨rfl, o, hk, hc, hd⟩ | ⟨rfl, hk⟩ | ⟨rfl, S, n, hk⟩
    · obtain ⟨its, _, pl, _⟩ := I.list hq
      refine ⟨pl.isList.typeIs, fun a e => ?_⟩
      cases e
      obtain ⟨o, n, e, c, hd, _⟩ := pl
      exact ⟨o, e, hd⟩
    · refine ⟨⟨o, I.kIn p o hk, hc⟩, fun a e => ?_⟩
      cases e
      exact ⟨o, I.kIn _ o hk, hd⟩
    · have z : ∃ o, s.heap.get? p = some o ∧ o.ExactDict := by
        rcases hk with ⟨kvs, hk⟩ | ⟨kvs, hk⟩
        · obtain ⟨_, _, _, _, o, _, _, e, ex, _⟩ := I.hok p _ hk
          exact ⟨o, e, ex⟩
        · obtain ⟨_, _, _, _, o, _, _, e, ex, _⟩ := I.hok p _ hk
          exact ⟨o, e, ex⟩
      obtain ⟨o, e, ex⟩ := z
      refine ⟨⟨o, e, ex.1⟩, fun a e2 => ?_⟩
      cases e2
      exact ⟨o, e, ex.2.1⟩
    · obtain ⟨o, _, _, _, e, ex, _⟩ := I.hok p _ hk
      refine ⟨⟨o, e, ex.1⟩, fun a e2 => ?_⟩
      cases e2
      exact ⟨o, e, ex.2.1⟩
  | _ => exact False.elim ty
variable {o e : Expr} {es : List Expr} {to : TE} {t : TA} {name : Str} {apos cpos : Pos} {T id : String} {r : V → List V → Hp → VK → Prop}
end
end L2

namespace L2
open PySem PySem.Spec PyProof.Rows

def MtM (X : Cx) (id : String) (r : V → List V → Hp → VK → Prop) : Prop :=
  ∀ (pins : List (Addr × Obj)) (s : Shared) (σ : St) (H : Hp) (x : V) (xs : List V) (v : Value) (us : List Value) (Q : VK), Inv X pins σ H s → RelV x v → Vals xs us → r x xs H Q →
    wpAny (model X.prog X.w) X.A (call (.builtin id) (v :: us)) (EP X pins σ Q) X.xe s

/-! ### lists of values -/
theorem Vals.one : ∀ {x : V} {us : List Value}, Vals [x] us → ∃ u, us = [u] ∧ RelV x u
  | _, _, .cons r .nil => ⟨_, rfl, r⟩
theorem Vals.two : ∀ {x y : V} {us : List Value}, Vals [x, y] us → ∃ u v, us = [u, v] ∧ RelV x u ∧ RelV y v
  | _, _, _, .cons r (.cons q .nil) => ⟨_, _, rfl, r, q⟩
theorem Vals.zero : ∀ {us : List Value}, Vals [] us → us = []
  | _, .nil => rfl
theorem Vals.rep {xs : List V} {us : List Value} (h : Vals xs us) : ∀ k : Nat, Vals (List.replicate k xs).flatten (List.replicate k us).flatten
  | 0 => .nil
  | k + 1 => by
    rw [List.replicate_succ, List.replicate_succ, List.flatten_cons, List.flatten_cons]
    exact Vals.append h (Vals.rep h k)
theorem foldl_rep (its : List Value) : ∀ (k : Nat) (acc : List Value),
    List.foldl (fun x1 x2 => x1 ++ x2) acc.toArray (List.replicate k its.toArray) = (acc ++ (List.replicate k its).flatten).toArray
  | 0, acc => by simp
  | k + 1, acc => by
    have e : acc.toArray ++ its.toArray = (acc ++ its).toArray := by simp
    have e2 : (acc ++ its) ++ (List.replicate k its).flatten = acc ++ (List.replicate (k + 1) its).flatten := by
      rw [List.replicate_succ, List.flatten_cons, List.append_assoc]
    rw [← e2, ← foldl_rep its k (acc ++ its), ← e, List.replicate_succ, List.foldl_cons]

section
variable {X : Cx} {pins : List (Addr × Obj)} {σ : St} {H : Hp} {s : Shared} {l b : Addr} {xs ys zs : List V}

/-! ### the two steps: a tracked list is rewritten, a new list is laid -/
theorem Inv.lset {its its' : List Value} {n : Nat} {f : Array Value → Array Value} {t' : Nat} (I : Inv X pins σ H s) (hH : H l = some (.lst xs))
    (e : s.heap.get? l = some { cls := .type "list", data := .seq its.toArray n }) (hf : f its.toArray = its'.toArray) (hv : Vals ys its') (hz : ys.length ≤ sizeLine) :
    Inv X pins σ (upd H l (.lst ys)) { s with heap := s.heap.update l (Obj.mapSeq f), toks := t' } := by
  have q := PySem.IsL.update e f
  rw [hf] at q
  refine I.write (x := l) (e := l) (by rw [hH]; exact trivial) (.inl rfl) (fun b' u hb hu => (Heap.get?_update_other s.heap (Obj.mapSeq f) (Ne.symm hb)).trans hu) ⟨_, q⟩ ?_
  exact ⟨hz, its', _, hv, q⟩
theorem Inv.lnew {its : List Value} {t' : Nat} (I : Inv X pins σ H s) (hv : Vals ys its) (hz : ys.length ≤ sizeLine) :
    Inv X pins σ (upd H s.heap.objs.size (.lst ys)) { s with heap := s.heap.push { cls := .type "list", data := .seq its.toArray }, toks := t' } :=
  I.laid (fun _ _ q => Heap.get?_push_of_some _ q) (Nat.le_refl _) ⟨hz, its, 0, hv, Heap.get?_push_size _ rfl⟩
theorem Inv.fresh (I : Inv X pins σ H s) : H s.heap.objs.size = none := I.hok.fresh (Nat.le_refl _)
theorem Inv.lstM (I : Inv X pins σ H s) (hH : H l = some (.lst xs)) : xs.length ≤ sizeLine ∧ ∃ (its : List Value) (n : Nat), Vals xs its ∧ xs.length = its.length ∧ s.heap.get? l = some { cls := .type "list", data := .seq its.toArray n } := by
  obtain ⟨z, its, n, r, e⟩ := I.hok l _ hH
  exact ⟨z, its, n, r, r.length, e⟩

theorem notLongL {n : Nat} (h : n ≤ sizeLine) : Builtin.List.listTooLong n = false := by
  unfold Builtin.List.listTooLong
  exact decide_eq_false (by omega)
end

section
variable {X : Cx}

/-! ### methods -/
def rAppend : V → List V → Hp → VK → Prop := fun x vs H Q => ∃ l xs y, x = .ref l ∧ vs = [y] ∧ H l = some (.lst xs) ∧ xs.length < sizeLine ∧ Q .non (upd H l (.lst (xs ++ [y])))
theorem mt_append : MtM X "list.append" rAppend := by
  intro pins s σ H x vs v us Q I rx rv h
  obtain ⟨l, xs, y, rfl, rfl, hH, hz, q⟩ := h
  cases rx
  obtain ⟨u, rfl, ru⟩ := rv.one
  obtain ⟨z, its, n, r, hl, e⟩ := I.lstM hH
  refine call_meets F.slot_list_append ⟨_, e, rfl⟩ F.entry_list_append (F.args_list_append_2 _ _) (PySem.list_append l its.toArray n u (by rw [List.size_toArray]; omega)) ⟨e, ?_⟩
  refine ⟨.non, _, I.lset (its' := its ++ [u]) hH e (by simp) (r.append (.cons ru .nil)) ?_, rfl, q⟩
  rw [List.length_append, List.length_singleton]
  omega

/-! ### list + list, list += list, list * int -/
/-- a list times an int (a negative one is nothing) -/
def rRep : R2 := fun x y H Q => ∃ l k xs, x = .ref l ∧ y = .int k ∧ H l = some (.lst xs) ∧ -(2 ^ 63) ≤ k ∧ k < 2 ^ 63 ∧ xs.length * k.toNat ≤ sizeLine ∧
  ∀ p, H p = none → Q (.ref p) (upd H p (.lst (List.replicate k.toNat xs).flatten))
theorem len_rep {α : Type} (xs : List α) (k : Nat) : (List.replicate k xs).flatten.length = k * xs.length := by
  induction k with
  | zero => simp
  | succ k ih => rw [List.replicate_succ, List.flatten_cons, List.length_append, ih, Nat.succ_mul, Nat.add_comm]
theorem op_rep : OpR X (binaryOp .Mult) rRep := by
  intro pins s σ H x y v u Q I rx ry h
  obtain ⟨l, k, xs, rfl, rfl, hH, h1, h2, hz, q⟩ := h
  cases rx
  obtain ⟨t, rfl⟩ := ry
  obtain ⟨z, its, n, r, hl, e⟩ := I.lstM hH
  have hlen : its.toArray.size * k.toNat ≤ sizeLine := by rw [List.size_toArray, ← hl]; exact hz
  have hcap : ¬ its.toArray.size * k.toNat > (2 ^ 63 - 1) / 8 := by
    have : (sizeLine : Nat) ≤ (2 ^ 63 - 1) / 8 := by decide
    omega
  have hfit : ¬ (!Builtin.List.listFitsIndex k) = true := by
    rw [fitsIndex_both h1 h2]
    exact Bool.false_ne_true
  have hlong : ¬ Builtin.List.listTooLong (its.toArray.size * k.toNat) = true := by
    rw [notLongL hlen]
    exact Bool.false_ne_true
  have hnew : List.foldl (fun x1 x2 => x1 ++ x2) #[] (List.replicate (if its.toArray.isEmpty = true then 0 else k.toNat) its.toArray) = (List.replicate k.toNat its).flatten.toArray := by
    have f0 : ∀ m : Nat, List.foldl (fun x1 x2 => x1 ++ x2) #[] (List.replicate m its.toArray) = (List.replicate m its).flatten.toArray := fun m => by
      have := foldl_rep its m []
      rw [List.nil_append] at this
      exact this
    rw [f0]
    cases its with
    | nil => simp
    | cons a r' => rw [if_neg (by simp)]
  refine wpAny_binaryOp_repeat_ref (T := "list") (U := "int") (by decide) ⟨_, e, rfl⟩ (fun s' => typeIs_int s' k t) noFill_list_mul F.fills_int_mul F.slot_int_rmul repeat_list F.slot_int_index.lookup
    (call_meets F.slot_int_rmul (typeIs_int s k t) F.entry_int_rmul (F.args_int_rmul_2 _ _) (int___rmul___int_list k t l its.toArray n)
      ⟨e, rfl, ⟨_, e, rfl⟩, call_meets F.slot_list_mul ⟨_, e, rfl⟩ F.entry_list_mul (F.args_list_mul_2 _ _) (AutoListH.list___mul___list_int_3 l its.toArray n k t hfit hcap hlong) ⟨e, ?_⟩⟩)
  rw [hnew]
  exact ⟨.ref _, _, I.lnew (t' := s.toks) (r.rep k.toNat) (by rw [len_rep, Nat.mul_comm]; exact hz), rfl, q _ I.fresh⟩

/-! ### del xs[i] -/
end

/-! ### xs[a:b] = ys -/
section
variable {prog : Program} {w : World} {A : Around} {E : Value → Shared → Prop} {s : Shared}
set_option maxRecDepth 100000 in
end

section
variable {X : Cx}
end
end L2

namespace L2
open PySem PySem.Spec PyProof.Rows

/-! ### lists of pairs as tables -/
section
variable {κ : Type} [DecidableEq κ]
def valV (kvs : List (κ × V)) (k : κ) : Option V := (kvs.find? fun kv => decide (kv.1 = k)).map (·.2)
/-- in its place, or at the end -/
def putK (kvs : List (κ × V)) (k : κ) (v : V) : List (κ × V) :=
  if (kvs.any fun kv => decide (kv.1 = k)) = true then kvs.map (fun kv => if kv.1 = k then (kv.1, v) else kv) else kvs ++ [(k, v)]
def dropK (kvs : List (κ × V)) (k : κ) : List (κ × V) := kvs.filter fun kv => decide (kv.1 ≠ k)

theorem valV_pos {p : κ × V} {r : List (κ × V)} {k : κ} (e : p.1 = k) : valV (p :: r) k = some p.2 := by simp [valV, List.find?_cons, e]
theorem valV_neg {p : κ × V} {r : List (κ × V)} {k : κ} (e : ¬ p.1 = k) : valV (p :: r) k = valV r k := by simp [valV, List.find?_cons, e]
theorem valV_any (k : κ) : ∀ kvs : List (κ × V), (kvs.any fun kv => decide (kv.1 = k)) = (valV kvs k).isSome
  | [] => rfl
  | p :: r => by
    rw [List.any_cons]
    by_cases e : p.1 = k
    · simp only [valV_pos e, decide_eq_true e, Bool.true_or, Option.isSome_some]
    · rw [valV_neg e, decide_eq_false e, Bool.false_or]; exact valV_any k r
theorem RelO.isSome_eq {o : Option V} {u : Option Value} (r : RelO o u) : o.isSome = u.isSome := by
  cases o with
  | none => cases u with
    | none => rfl
    | some _ => exact (show False from r).elim
  | some _ => cases u with
    | none => exact (show False from r).elim
    | some _ => rfl
theorem RelO.getD {o : Option V} {u : Option Value} {d : V} {d' : Value} (r : RelO o u) (rd : RelV d d') : RelV (o.getD d) (u.getD d') := by
  cases o with
  | none => cases u with
    | none => exact rd
    | some _ => exact (show False from r).elim
  | some _ => cases u with
    | none => exact (show False from r).elim
    | some _ => exact r

/-- raw tables of the same keys -/
theorem KV.val {kvs : List (κ × V)} {vs : List (κ × Value)} (r : KV kvs vs) (k : κ) : RelO (valV kvs k) (valueAt vs k) := by
  unfold KV at r
  induction r with
  | nil => exact True.intro
  | @cons p q ps qs h t ih =>
    obtain ⟨h1, h2⟩ := h
    by_cases e : p.1 = k
    · have e' : q.1 = k := h1.symm.trans e
      have b : valueAt (q :: qs) k = some q.2 := by simp [valueAt, List.find?_cons, e']
      rw [valV_pos e, b]; exact h2
    · have e' : ¬ q.1 = k := fun z => e (h1.trans z)
      have b : valueAt (q :: qs) k = valueAt qs k := by simp [valueAt, List.find?_cons, e']
      rw [valV_neg e, b]; exact ih
theorem KV.any {kvs : List (κ × V)} {vs : List (κ × Value)} (r : KV kvs vs) (k : κ) : (kvs.any fun kv => decide (kv.1 = k)) = vs.any fun kv => decide (kv.1 = k) := by
  unfold KV at r
  induction r with
  | nil => rfl
  | cons h t ih => rw [List.any_cons, List.any_cons, ih, h.1]
theorem KV.repl {kvs : List (κ × V)} {vs : List (κ × Value)} (r : KV kvs vs) (k : κ) {y : V} {u : Value} (ry : RelV y u) :
    KV (kvs.map fun kv => if kv.1 = k then (kv.1, y) else kv) (vs.map fun kv => if kv.1 = k then (kv.1, u) else kv) := by
  unfold KV at r ⊢
  induction r with
  | nil => exact .nil
  | @cons p q ps qs h t ih =>
    rw [List.map_cons, List.map_cons]
    refine .cons ?_ ih
    obtain ⟨h1, h2⟩ := h
    by_cases e : p.1 = k
    · rw [if_pos e, if_pos (h1.symm.trans e)]; exact ⟨h1, ry⟩
    · rw [if_neg e, if_neg (fun z => e (h1.trans z))]; exact ⟨h1, h2⟩
theorem KV.put {kvs : List (κ × V)} {vs : List (κ × Value)} (r : KV kvs vs) (k : κ) {y : V} {u : Value} (ry : RelV y u) : KV (putK kvs k y) (stored vs k u) := by
  unfold putK stored
  rw [r.any k]
  by_cases e : (vs.any fun kv => decide (kv.1 = k)) = true
  · rw [if_pos e, if_pos e]; exact r.repl k ry
  · rw [if_neg e, if_neg e]; exact Paired.snoc r ⟨rfl, ry⟩
theorem KV.drop {kvs : List (κ × V)} {vs : List (κ × Value)} (r : KV kvs vs) (k : κ) : KV (dropK kvs k) (without vs k) := by
  unfold KV at r ⊢
  unfold dropK without
  induction r with
  | nil => exact .nil
  | @cons p q ps qs h t ih =>
    obtain ⟨h1, h2⟩ := h
    rw [List.filter_cons, List.filter_cons]
    by_cases e : p.1 = k
    · have a : ¬ decide (p.1 ≠ k) = true := by simp [e]
      have b : ¬ decide (q.1 ≠ k) = true := by simp [h1.symm.trans e]
      rw [if_neg a, if_neg b]; exact ih
    · have e' : ¬ q.1 = k := fun z => e (h1.trans z)
      have a : decide (p.1 ≠ k) = true := by simp [e]
      have b : decide (q.1 ≠ k) = true := by simp [e']
      rw [if_pos a, if_pos b]; exact .cons ⟨h1, h2⟩ ih
theorem KV.keys {kvs : List (κ × V)} {vs : List (κ × Value)} (r : KV kvs vs) : kvs.map (·.1) = vs.map (·.1) := by
  unfold KV at r
  induction r with
  | nil => rfl
  | cons h t ih => rw [List.map_cons, List.map_cons, ih, h.1]
theorem KV.length {kvs : List (κ × V)} {vs : List (κ × Value)} (r : KV kvs vs) : kvs.length = vs.length := Paired.length r
end


/-! ### a tracked dict, its keys ints and texts or tuples of these -/
/-- raw entries of a dict with tuple keys -/
abbrev KT (H : Hp) : List (List Key × V) → List (List Key × Addr × Value) → Prop := Paired fun p q => p.1 = q.1 ∧ H q.2.1 = some (.tup (p.1.map kV)) ∧ RelV p.2 q.2.2
theorem KT.val {H : Hp} {kvs : List (List Key × V)} {xs : List (List Key × Addr × Value)} (r : KT H kvs xs) (k : List Key) : RelO (valV kvs k) ((atKey xs k).map (·.2)) := by
  induction r with
  | nil => exact True.intro
  | @cons p q ps qs h t ih =>
    obtain ⟨h1, _, h2⟩ := h
    by_cases e : p.1 = k
    · have e' : q.1 = k := h1.symm.trans e
      have b : atKey (q :: qs) k = some q.2 := by simp [atKey, List.find?_cons, e']
      rw [valV_pos e, b]; exact h2
    · have e' : ¬ q.1 = k := fun z => e (h1.trans z)
      have b : atKey (q :: qs) k = atKey qs k := by simp [atKey, List.find?_cons, e']
      rw [valV_neg e, b]; exact ih
theorem KT.repl {H : Hp} {kvs : List (List Key × V)} {xs : List (List Key × Addr × Value)} (r : KT H kvs xs) (k : List Key) {y : V} {u : Value} (ry : RelV y u) :
    KT H (kvs.map fun kv => if kv.1 = k then (kv.1, y) else kv) (xs.map (putAt k u)) := by
  induction r with
  | nil => exact .nil
  | @cons p q ps qs h t ih =>
    rw [List.map_cons, List.map_cons]
    refine .cons ?_ ih
    obtain ⟨h1, h2, h3⟩ := h
    unfold putAt
    by_cases e : p.1 = k
    · rw [if_pos e, if_pos (h1.symm.trans e)]; exact ⟨h1, h2, ry⟩
    · rw [if_neg e, if_neg (fun z => e (h1.trans z))]; exact ⟨h1, h2, h3⟩
theorem KT.put {H : Hp} {kvs : List (List Key × V)} {xs : List (List Key × Addr × Value)} (r : KT H kvs xs) (k : List Key) {b : Addr} {y : V} {u : Value} (hb : H b = some (.tup (k.map kV))) (ry : RelV y u) :
    KT H (putK kvs k y) (storedH xs k b u) := by
  have e : (kvs.any fun kv => decide (kv.1 = k)) = (atKey xs k).isSome := by
    rw [valV_any, (r.val k).isSome_eq, Option.isSome_map]
  unfold putK storedH
  rw [e]
  by_cases q : (atKey xs k).isSome = true
  · rw [if_pos q, if_pos q]; exact r.repl k ry
  · rw [if_neg q, if_neg q]; exact Paired.snoc r ⟨rfl, hb, ry⟩
theorem KT.keeps {H H' : Hp} {kvs : List (List Key × V)} {xs : List (List Key × Addr × Value)} (r : KT H kvs xs) (ht : ∀ b ys, H b = some (.tup ys) → H' b = some (.tup ys)) : KT H' kvs xs :=
  Paired.mapP r fun _ _ z => ⟨z.1, ht _ _ z.2.1, z.2.2⟩

section
variable {P : Program} {w : World} {H : Hp} {h : Heap} {a : Addr}
end

/-- what the dict at a holds at the key y -/
def DGet (H : Hp) (a : Addr) (y : V) (r : Option V) : Prop :=
  (∃ kvs k, Rd H a (.dK kvs) ∧ y = kV k ∧ r = valV kvs k) ∨ ∃ kvs k b, Rd H a (.dT kvs) ∧ y = .ref b ∧ H b = some (.tup (k.map kV)) ∧ r = valV kvs k
/-- the heap behind a[y] = v -/
def DPut (H : Hp) (a : Addr) (y v : V) (H' : Hp) : Prop :=
  (∃ kvs k, H a = some (.dK kvs) ∧ y = kV k ∧ kvs.length < sizeLine ∧ H' = upd H a (.dK (putK kvs k v))) ∨
  ∃ kvs k b, H a = some (.dT kvs) ∧ y = .ref b ∧ H b = some (.tup (k.map kV)) ∧ kvs.length < sizeLine ∧ H' = upd H a (.dT (putK kvs k v))
theorem DGet.k {H : Hp} {a : Addr} {kvs : List (Key × V)} {k : Key} (e : H a = some (.dK kvs)) : DGet H a (kV k) (valV kvs k) := .inl ⟨kvs, k, .inl e, rfl, rfl⟩
theorem DGet.t {H : Hp} {a b : Addr} {kvs : List (List Key × V)} {k : List Key} (e : H a = some (.dT kvs)) (eb : H b = some (.tup (k.map kV))) : DGet H a (.ref b) (valV kvs k) := .inr ⟨kvs, k, b, .inl e, rfl, eb, rfl⟩
theorem DPut.k {H : Hp} {a : Addr} {kvs : List (Key × V)} {k : Key} {v : V} (e : H a = some (.dK kvs)) (hl : kvs.length < sizeLine) : DPut H a (kV k) v (upd H a (.dK (putK kvs k v))) := .inl ⟨kvs, k, e, rfl, hl, rfl⟩
theorem DPut.t {H : Hp} {a b : Addr} {kvs : List (List Key × V)} {k : List Key} {v : V} (e : H a = some (.dT kvs)) (eb : H b = some (.tup (k.map kV))) (hl : kvs.length < sizeLine) :
    DPut H a (.ref b) v (upd H a (.dT (putK kvs k v))) := .inr ⟨kvs, k, b, e, rfl, eb, hl, rfl⟩


section
variable {X : Cx} {pins : List (Addr × Obj)} {σ : St} {H : Hp} {s : Shared} {a : Addr} {y v : V} {u r : Value} {o : Option V} {A : Around} {E : Value → Shared → Prop}

end

section
variable {X : Cx} {pins : List (Addr × Obj)} {σ : St} {H : Hp} {s : Shared} {a : Addr} {kvs : List (Key × V)} {k : Key} {u : Value} {A : Around} {E : Value → Shared → Prop}
end


/-! ### readings and rules -/
section
variable {X : Cx} {o i e value : Expr} {pos pos' tpos : Pos} {td ty tv : TE}
end


/-! ### displays -/
/-- {}, to be a dict of the kind that is wanted -/
def tDNewK : TE := fun _ H Q => ∀ p, H p = none → Q (.ref p) (upd H p (.dK []))
section
variable {X : Cx} {pos : Pos}
end

/-! ### methods -/
/-- a method call o.m(e) of a built-in, with one argument: what must be seen of the text -/
structure M1 (X : Cx) (o : Expr) (m : Str) (apos : Pos) (e : Expr) (cpos : Pos) : Prop where
  base : attributeBase o m X.env (eval o X.env) = eval o X.env
  few : ((backTo cpos (starEach [e] X.env)).all (fun x => !x.1) && (backToKw cpos (keywordEach [] X.env)).all (fun x => x.1.isSome)
    && decide (([e] : List Expr).length + ([] : List Keyword).length + (if ([] : List Keyword).isEmpty then 0 else 1) < 30)) = true
  line : (apos.endLine == cpos.line) = true
  trees : backTo cpos (starEach [e] X.env) = [(false, eval e X.env)]
structure M2 (X : Cx) (o : Expr) (m : Str) (apos : Pos) (e f : Expr) (cpos : Pos) : Prop where
  base : attributeBase o m X.env (eval o X.env) = eval o X.env
  few : ((backTo cpos (starEach [e, f] X.env)).all (fun x => !x.1) && (backToKw cpos (keywordEach [] X.env)).all (fun x => x.1.isSome)
    && decide (([e, f] : List Expr).length + ([] : List Keyword).length + (if ([] : List Keyword).isEmpty then 0 else 1) < 30)) = true
  line : (apos.endLine == cpos.line) = true
  trees : backTo cpos (starEach [e, f] X.env) = [(false, eval e X.env), (false, eval f X.env)]

section
variable {X : Cx} {pins : List (Addr × Obj)} {σ : St} {H : Hp} {s : Shared} {a : Addr} {y d : V} {u r : Value} {o : Option V} {A : Around} {E : Value → Shared → Prop}
end

section
variable {X : Cx} {o e f : Expr} {apos cpos : Pos} {td ty tx : TE}
end

/-! ### dict(d): a copy -/
section
variable {X : Cx} {pins : List (Addr × Obj)} {σ : St} {H : Hp} {s : Shared} {a : Addr} {kvs : List (Key × V)} {A : Around} {E : Value → Shared → Prop}
end


section
variable {X : Cx} {pins : List (Addr × Obj)} {σ : St} {H : Hp} {s : Shared} {a : Addr} {y : V} {u : Value} {A : Around} {E : Value → Shared → Prop}
end
end L2

namespace Att
open PySem PySem.W PySem.Calls PyProof.Rows

/-! ### the script -/
theorem ints_of_wellAll {P : Params} {h : Heap} : ∀ (ns : List Int) (vs : List Value), WellAll P h vs (ns.map WData.int) → IntsAre vs ns := by
  intro ns
  induction ns with
  | nil =>
    intro vs w
    rw [List.map_nil] at w
    cases w
    exact .nil
  | cons n ns ih =>
    intro vs w
    rw [List.map_cons] at w
    cases w with
    | cons a b =>
      cases a
      exact .cons _ _ (ih _ b)

theorem script_of {l : OpenLaw} {n : Nat} (hn : l.most = some n) {P : Params} {h : Heap} {args : List WData} {vals : List Value}
    (hpre : l.row.toRowW.claim.pre args = true) (hwl : WellAll P h vals args) :
    ∃ a vs ns, vals = [Value.ref a] ∧ args = [WData.list (ns.map WData.int)] ∧ h.get? a = some { cls := .type "list", data := .seq vs.toArray } ∧ IntsAre vs ns ∧ ns.length ≤ n := by
  have hsh : WShape.hasAll [] args [.list .int] = true := (pre_splitW hpre).1
  have hc : l.pre.holds [] { args := args } = true := (pre_splitW hpre).2
  obtain ⟨d, r, rfl, h1, h2⟩ := hasAllW_cons hsh
  obtain rfl := hasAllW_nil h2
  obtain ⟨xs, rfl, h3⟩ := hasW_list h1
  obtain ⟨ns, rfl⟩ := items_int h3
  have hlen : ns.length ≤ n := by
    unfold OpenLaw.pre at hc
    have h4 : (WTm.not (.lt (.lit (.int (n : Int))) (.len (.arg 0)))).holds [] { args := [.list (ns.map .int)] } = true := by
      have h4 := (holds_andW hc).1
      rw [hn] at h4
      exact h4
    have h5 := condW_of h4 (w_not (w_lt w_lit (w_len_list (w_arg rfl))))
    rw [List.length_map] at h5
    refine Nat.le_of_not_lt fun q => ?_
    have q' : (n : Int) < ((ns.length : Nat) : Int) := by omega
    first
      | (rw [decide_eq_true q'] at h5; exact absurd h5 (by decide))
      | (simp at h5; omega)
  cases hwl with
  | cons w1 w2 =>
    cases w2
    cases w1 with
    | list ho hall => exact ⟨_, _, ns, rfl, rfl, ho, ints_of_wellAll ns _ hall, hlen⟩

theorem post_true (l : OpenLaw) (args : List WData) : l.row.toRowW.claim.post args (.bool true) args = true :=
  postW_of (r := l.row.toRowW) (X := (true == true))
    (show WShape.has [] (.bool true) .bool = true by first | rfl | decide | simp [WShape.has, WShape.arms, WShape.armsAll])
    (show (WTm.eq .res (.lit (.bool true))).value [] { args := args, res := some (.bool true), after := args } = some (.bool (true == true)) from w_eq_bool (w_res rfl) w_lit) rfl

/-! ### the attachment: holds_open's last premise (the goal 'hc' behind k_head) from a wpAny of the law's body -/
/-- the same from a codeAny of the CALL (for a layer whose function contracts speak of calls) -/
theorem attach_call {l : OpenLaw} {n : Nat} {q : Program} {loose : List Str} {XP : (Str → Option Value) → Heap → Prop} {YP : World → Heap → Prop} {d : DefRec}
    (hn : l.most = some n) (hdf : d.params.defaults = [])
    (call : ∀ (w : World) (s₀ s₁ : Shared) (mg mb : Str → Option Value) (fa : Addr) (o : Obj) (pm cd doc : Value) (a : Addr) (vs : List Value) (ns : List Int),
      Ground q loose [] XP w s₀ mg mb s₁.heap → YP w s₁.heap →
      s₁.heap.get? fa = some o → o.data = .func (docDef d.name d.params d.body d.scope pm cd doc) → s₁.heap.CodeRec cd d.name → mg d.name = some (.ref fa) →
      s₁.heap.get? a = some { cls := .type "list", data := .seq vs.toArray } → IntsAre vs ns → ns.length ≤ n → s₁.gens = #[] →
      codeAny (model l.prog w) callerA (.call (.ref fa) ⟨[.ref a], []⟩) (fun r s' => r = .ok (.ret (.bool true)) ∧ OldK s₁.heap s'.heap ∧ s'.os = s₁.os ∧ AllBare s'.gens) s₁) :
    WalkO q loose XP YP l.row.toRowW d [] (fun f vs => PySem.call f vs) := by
  intro w s₀ s₁ mg mb G Y fa o pm cd doc dV kV ho hd hcd hD hmg hg args vals as hpre hlay hrd hwl hlo
  obtain rfl : dV = .none := Dflts.none hD hdf
  obtain rfl : kV = .none := Dflts.noKw hD
  obtain ⟨a, vs, ns, rfl, rfl, hobj, hints, hlen⟩ := script_of hn hpre hwl
  refine enter_call (codeAny_mono (call w s₀ s₁ mg mb fa o pm cd doc a vs ns G Y ho (fd_plain hd) hcd hmg hobj hints hlen hg) fun r s' hq => ?_)
  obtain ⟨rfl, h2, h3, h4⟩ := hq
  exact ⟨.inl ⟨.bool true, .bool true, [], rfl, fun _ => rfl, .bool true, post_true l _, fun _ => ⟨List.Pairwise.nil, fun _ hm => (nomatch hm)⟩⟩, h2, h3, h4⟩

/-! ### rules over ANY heap (no ledger) from facts about the written part K: the library's own take a ledger (News) for what they write -/
section
variable {prog : Program} {w : World} {A : Around} {E : Value → Shared → Prop} {s : Shared} {K : Frag}

/-! the whole heap as the ledger: makes every rule that writes through a ledger a rule over any heap -/
def ledger (h : Heap) (L d : Addr) : List (Addr × Obj) := (List.range h.objs.size).filterMap fun a => if a = L ∨ a = d then none else (h.get? a).map fun o => (a, o)
end
end Att

namespace L2
open PySem PySem.Spec PyProof.Rows

theorem vals_ints : ∀ {vs : List Value} {ns : List Int}, IntsAre vs ns → Vals (ns.map V.int) vs
  | _, _, .nil => .nil
  | _, _, .cons n t h => .cons ⟨t, rfl⟩ (vals_ints h)

/-- nothing is tracked but the script, known to the object (or it is an object of the module) -/
def Only (H : Hp) : Prop := ∀ b, H b = none ∨ ∃ o xs, H b = some (.frz o (.lst xs))

/-- THE HEAD: the law's promise, at the heap behind the top. F, the promise of the law's def, may use that base is part of the heap (so K.In base, base.Ns mainGlobals mg stand in Mod) -/
theorem law_call {P : Program} {w : World} {K : PySem.W.Frag} {mg mb : Str → Option Value} {CX : CXT} {ca : Bool} {k : Nat} {fa a : Addr} {fd : FuncData} {x : Str} {sp : Sp} {s₁ : Shared} {vs : List Value} {ns : List Int}
    (KX : K.In s₁.heap) (hns : s₁.heap.Ns mainGlobals mg) (hb : s₁.heap.Ns builtinsNs mb) (hbb : ∀ x : Str, x ≠ "__name__" → mb x = bootBuiltins x) (hlim : s₁.heap.NoLimit) (hg : s₁.gens = #[])
    (ha : s₁.heap.get? a = some { cls := .type "list", data := .seq vs.toArray }) (hi : IntsAre vs ns) (hl : ns.length ≤ sizeLine) (hr : Room ca k callerA)
    (F : ∀ base : Heap, K.In base → base.Ns mainGlobals mg → FnOk P w K mg base CX ca k fa fd [x] sp) (hbind : ∀ (s : Shared) (u : Value), BindsTo s fd ⟨[u], []⟩ [(x, u)])
    (hsp : ∀ H : Hp, Only H → SqL K H a (ns.map V.int) → sp [.ref a] H (fun v _ => v = .bl true) fun _ _ _ => False)
    (hCX : ∀ H e s', CX [] H s₁ (fun _ _ _ => False) e s' → False) :
    codeAny (model P w) callerA (.call (.ref fa) ⟨[.ref a], []⟩) (fun r s' => r = .ok (.ret (.bool true)) ∧ OldK s₁.heap s'.heap ∧ s'.os = s₁.os ∧ AllBare s'.gens) s₁ := by
  have rv := vals_ints hi
  have lenV := hi.length
  -- from an abstract heap in which nothing but the script may be tracked
  have core : ∀ H : Hp, Only H → SqL K H a (ns.map V.int) → HOk P w H s₁.heap → (∀ b, H b ≠ none → b = a) → (H a ≠ none → K.lookup a = none) →
      codeAny (model P w) callerA (.call (.ref fa) ⟨[.ref a], []⟩) (fun r s' => r = .ok (.ret (.bool true)) ∧ OldK s₁.heap s'.heap ∧ s'.os = s₁.os ∧ AllBare s'.gens) s₁ := by
    intro H hO hS hok hA hK
    have base_of : ∀ {b : Addr} {o : Obj}, s₁.heap.get? b = some o → H b = none → (hidT s₁.heap H).get? b = some o := fun e n => hidT_get e n
    have noA : ∀ {b : Addr} {o : Obj} {es : Array DictEntry} {ep : Nat}, s₁.heap.get? b = some o → o.data = .dict es ep → H b = none := fun {b o es ep} e d => by
      cases q : H b with
      | none => rfl
      | some u =>
        have e' : b = a := hA b (by rw [q]; simp)
        subst e'
        rw [ha] at e; cases e
        have d' : Data.seq vs.toArray _ = Data.dict es ep := d
        cases d'
    have nsK : ∀ {b : Addr} {m : Str → Option Value}, s₁.heap.Ns b m → (hidT s₁.heap H).Ns b m := fun {b m} ⟨o, es, ep, e, d, r⟩ => ⟨o, es, ep, base_of e (noA e d), d, r⟩
    have hKb : K.In (hidT s₁.heap H) := fun b o e => base_of (KX b o e) (by
      cases q : H b with
      | none => rfl
      | some u =>
        have e' : b = a := hA b (by rw [q]; simp)
        subst e'
        rw [hK (by rw [q]; simp)] at e; cases e)
    have hM : Mod K mg (hidT s₁.heap H) := ⟨hKb, nsK hns, ⟨mb, nsK hb, hbb⟩, let ⟨mc, h1, h2⟩ := hlim; ⟨mc, nsK h1, h2⟩⟩
    have e0 : Env0 P w K mg (hidT s₁.heap H) callerA [] s₁ H := ⟨rfl, hM, fun b o e => of_hidT e, Nat.le_of_eq (hidT_size _ _), trivial, fun b hb => absurd (show b ∈ ([] : List Addr) from hb) (by simp), hok, .of_eq hg⟩
    refine codeAny_mono ((F _ hKb (nsK hns)).run callerA [] s₁ H ⟨[.ref a], []⟩ [.ref a] [.ref a] _ _ hr e0 (hbind s₁ (.ref a)) (.cons rfl .nil) (hsp H hO hS)) fun r s' h => ?_
    cases r with
    | error e => exact (hCX H e s' h).elim
    | ok fl =>
      cases fl with
      | next => exact False.elim h
      | brk => exact False.elim h
      | cont => exact False.elim h
      | ret u =>
        obtain ⟨v, H', os, bare, un, hok', r', q⟩ := h
        have q' : v = .bl true := q
        subst q'
        obtain rfl : u = Value.bool true := r'
        refine ⟨rfl, OldK.of_keep fun b o e => ?_, os, bare⟩
        cases q : H b with
        | none => exact un.keep b o e q (by intro z; exact absurd (show b ∈ ([] : List Addr) from z) (by simp)) (by simp)
        | some u =>
          rcases hO b with z | ⟨ob, xs, z⟩
          · rw [q] at z; cases z
          · have z2 := un.frzs b ob _ z
            obtain ⟨e1, _⟩ := hok b _ z
            obtain ⟨e2, _⟩ := hok' b _ z2
            rw [e] at e1; cases e1
            exact e2
  cases hk : K.lookup a with
  | some o =>
    -- the script is one of the module's own objects
    have e := KX a o hk
    rw [ha] at e
    cases e
    refine core (fun _ => none) (fun _ => .inl rfl) (.inr ⟨_, vs.toArray, _, hk, rfl, rfl, rfl, by rw [List.size_toArray, lenV]; exact hl, by simpa using rv⟩) (fun b u z => by have z' : (none : Option HO) = some u := z; cases z') (fun b z => absurd rfl z) fun z => absurd rfl z
  | none =>
    refine core (fun b => if b = a then some (.frz { cls := .type "list", data := .seq vs.toArray } (.lst (ns.map V.int))) else none) (fun b => ?_) (.inl (.inr ⟨{ cls := .type "list", data := .seq vs.toArray }, if_pos rfl⟩)) (fun b u z => ?_) (fun b z => ?_) fun _ => hk
    · by_cases hb : b = a
      · exact .inr ⟨_, _, if_pos hb⟩
      · exact .inl (if_neg hb)
    · by_cases hb : b = a
      · have z' := (if_pos hb).symm.trans z
        cases z'
        subst hb
        exact ⟨ha, by rw [List.length_map]; exact hl, vs, _, rv, ha⟩
      · have z' := (if_neg hb).symm.trans z
        cases z'
    · by_cases hb : b = a
      · exact hb
      · exact absurd (if_neg hb) z
end L2

namespace L2
open PySem PySem.Spec PyProof.Rows

/-- the goal that k_head leaves (case hc), from the law's promise. F gives the function object fd (K's own) once, then the promise over every base -/
theorem walk_of {l : PySem.W.OpenLaw} {n k : Nat} {q : Program} {loose : List Str} {XP : (Str → Option Value) → Heap → Prop} {YP : World → Heap → Prop} {d : DefRec} {K : Params → PySem.W.Frag} {CX : World → CXT} {ca : Bool} {sp : World → Sp} {x : Str}
    (hn : l.most = some n) (hn2 : n ≤ sizeLine) (hdf : d.params.defaults = []) (hr : Room ca k callerA)
    (hY : ∀ (w : World) (h : Heap), YP w h → (K w.params).In h)
    (F : ∀ (w : World) (mg : Str → Option Value) (fa : Addr) (h : Heap), (K w.params).In h → h.Ns mainGlobals mg → mg d.name = some (.ref fa) →
      ∃ fd : FuncData, (∀ (s : Shared) (u : Value), BindsTo s fd ⟨[u], []⟩ [(x, u)]) ∧
        ∀ base : Heap, (K w.params).In base → base.Ns mainGlobals mg → FnOk l.prog w (K w.params) mg base (CX w) ca k fa fd [x] (sp w))
    (hsp : ∀ (w : World) (H : Hp) (a : Addr) (ns : List Int), ns.length ≤ n → Only H → SqL (K w.params) H a (ns.map V.int) → sp w [.ref a] H (fun v _ => v = .bl true) fun _ _ _ => False)
    (hCX : ∀ (w : World) (H : Hp) (s : Shared) (e : Value) (s' : Shared), CX w [] H s (fun _ _ _ => False) e s' → False) :
    PySem.W.WalkO q loose XP YP l.row.toRowW d [] (fun f vs => PySem.call f vs) := by
  refine Att.attach_call hn hdf fun w s₀ s₁ mg mb fa o pm cd doc a vs ns G Y ho hd hcd hmg hobj hints hlen hg => ?_
  have KX := hY w _ Y
  obtain ⟨fd, hb, hF⟩ := F w mg fa _ KX G.T.g hmg
  exact law_call KX G.T.g G.T.b G.T.builtins G.T.nolimit hg hobj hints (Nat.le_trans hlen hn2) hr hF hb (fun H hO hS => hsp w H a ns hlen hO hS) fun H e s' => hCX w H s₁ e s'
end L2



/-! SHORT WORDS over the layer: a def of the text, its body, what a loop and a test want. -/
namespace L2
open PySem PySem.Spec PyProof.Rows

/-! ### the text by places -/
/-- the j-th statement of a class's body -/
def inClass (s : Stmt) (j : Nat) : Stmt := match s with
  | .ClassDef _ _ _ body _ _ _ _ _ _ _ => body.getD j (.Pass ⟨0, 0, 0, 0⟩)
  | _ => .Pass ⟨0, 0, 0, 0⟩
def defArgs (s : Stmt) : Arguments := match s with
  | .FunctionDef _ a _ _ _ _ _ _ _ _ => a
  | _ => { posonlyargs := [], args := [], vararg := none, kwonlyargs := [], kw_defaults := [], kwarg := none, defaults := [] }
def defBody (s : Stmt) : List Stmt := match s with
  | .FunctionDef _ _ b _ _ _ _ _ _ _ => b
  | _ => []
def defScope (s : Stmt) : Scope := match s with
  | .FunctionDef _ _ _ _ _ _ sc _ _ _ => sc
  | _ => { kind := .function, names := [], isGenerator := false, isCoroutine := false }

/-! ### no exception leaves a def -/
abbrev CX0 : CXT := fun _ _ _ _ _ _ => False
abbrev E0 : XK := fun _ _ _ => False
/-! ### a def (or method) of the text as it stands behind the top -/
structure Fun (K : PySem.W.Frag) (x qual : Str) (st : Stmt) (f : Addr) (fd : FuncData) : Prop where
  ex : ∃ (oc : Value) (od : Option Addr) (kV doc pm : Value) (an : Option Addr) (cdv ct : Value) (osl : Array (Option Value)),
    fd = PySem.W.fnOf x qual (defArgs st) (defBody st) (defScope st) .none kV doc pm an cdv ct ∧ K.lookup f = some ⟨oc, od, .func fd, osl⟩ ∧ PySem.W.codeIn K cdv qual = true
  kp : PySem.W.keepIn K (.ref f) = true
section
variable {P : Program} {w : World} {K : PySem.W.Frag} {mg : Str → Option Value} {base : Heap}
/-- THE RULE for a def: its body as a term of rules, and the reading of that term -/
theorem Fun.ok {x qual : Str} {st : Stmt} {f : Addr} {fd : FuncData} {N ps : List Str} {ca : Bool} {k : Nat} {sp : Sp} (F : Fun K x qual st f fd) (S : FnScope N ps (defScope st)) (len : ∀ vs H Q E, sp vs H Q E → vs.length = ps.length)
    (hbody : ∀ (cdv : Value) (A : Around) (outer : List Env) (s : Shared) (H : Hp) (vs : List V) (Q : VK) (E : XK), Room ca k (A.deeper (envOfC qual (defScope st) s.heap.objs.size f cdv)) → sp vs H Q E →
      ∃ t, PSs (cxOf CX0 ca P w K mg base N qual (defScope st) f cdv A outer s H E).nox (defBody st) t ∧ t { nx := fun _ H' => Q .non H', rt := Q } (start N vs) H) : FnOk P w K mg base CX0 ca (k + 1) f fd ps sp := by
  obtain ⟨oc, od, kV, doc, pm, an, cdv, ct, osl, rfl, lk, hcd⟩ := F.ex
  refine fn_of lk hcd S len fun A outer s H vs Q E hr hsp => ?_
  obtain ⟨t, h, q⟩ := hbody cdv A outer s H vs Q E hr hsp
  exact ⟨t, h.nox, q⟩
/-- how its arguments bind (no defaults): h is «fun _ _ _ _ _ _ us hl => match us, hl with | [_, _], _ => rfl», one _ a parameter -/
theorem Fun.binds {x qual : Str} {st : Stmt} {f : Addr} {fd : FuncData} {ps : List Str} (F : Fun K x qual st f fd)
    (h : ∀ (kV doc pm : Value) (an : Option Addr) (cdv ct : Value) (us : List Value), us.length = ps.length → bindArgs (PySem.W.fnOf x qual (defArgs st) (defBody st) (defScope st) .none kV doc pm an cdv ct) ⟨us, []⟩ = pure (ps.zip us)) : Binds K fd ps [] := by
  obtain ⟨oc, od, kV, doc, pm, an, cdv, ct, osl, rfl, lk, hcd⟩ := F.ex
  exact .all (h kV doc pm an cdv ct)
theorem fun_mk {x qual : Str} {st : Stmt} {f : Addr} {oc : Value} {od an : Option Addr} {osl : Array (Option Value)} {kV doc pm cdv ct : Value} (l : K.lookup f = some ⟨oc, od, .func (PySem.W.fnOf x qual (defArgs st) (defBody st) (defScope st) .none kV doc pm an cdv ct), osl⟩)
    (c : PySem.W.codeIn K cdv qual = true) (k : PySem.W.keepIn K (.ref f) = true) : Fun K x qual st f (PySem.W.fnOf x qual (defArgs st) (defBody st) (defScope st) .none kV doc pm an cdv ct) := ⟨⟨oc, od, kV, doc, pm, an, cdv, ct, osl, rfl, l, c⟩, k⟩
end
/-! ### expressions in short: the name that stands in the i-th slot -/
section
variable {X : Cx}
end

/-! ### tests -/
/-! ### heaps -/
/-- all that was tracked is as it was -/
def Same (H H' : Hp) : Prop := ∀ b o, H b = some o → H' b = some o
theorem Same.refl (H : Hp) : Same H H := fun _ _ h => h
theorem Same.trans {H H1 H2 : Hp} (a : Same H H1) (b : Same H1 H2) : Same H H2 := fun c o h => b c o (a c o h)
theorem Same.free {H H' : Hp} (e : Same H H') {l : Addr} (h : H' l = Option.none) : H l = Option.none := by
  cases q : H l with
  | none => rfl
  | some o =>
    rw [e l o q] at h
    cases h
theorem Same.seq {K : PySem.W.Frag} {H H' : Hp} {a : Addr} {xs : List V} (e : Same H H') (h : SqL K H a xs) : SqL K H' a xs := by
  rcases h with (h | ⟨o, h⟩) | h
  · exact .inl (.inl (e _ _ h))
  · exact .inl (.inr ⟨o, e _ _ h⟩)
  · exact .inr h

end L2

namespace L2
open PySem PySem.Spec PyProof.Rows
section
variable {X : Cx}
end
/-! ### a dict's pairs: keys that differ -/
section
variable {κ : Type} [DecidableEq κ]
end
end L2

/-! LX: own exceptions that are raised, pass through frames and are caught, over the hand layer. -/
namespace L2
open PySem PySem.Spec PyProof.Rows

/-! ### an exception on its way: B is the part of the heap that stays -/
structure XRel (fs : List Addr) (H H' : Hp) (h B : Heap) : Prop where
  keep : ∀ b o, h.get? b = some o → H b = none → b ∉ fs → B.get? b = some o ∧ H' b = none
  fr : ∀ b ∈ fs, H' b = none
  there : ∀ b o, h.get? b = some o → b ∈ fs ∨ ∃ o', B.get? b = some o'
  tups : ∀ b xs, H b = some (.tup xs) → H' b = some (.tup xs)
  frzs : ∀ b o u, H b = some (.frz o u) → H' b = some (.frz o u)
  tbls : ∀ b ps, H b = some (.tbl ps) → ∃ more, H' b = some (.tbl (ps ++ more))
/-- the frames at fs are kept but for their slots -/
def XSl (fs : List Addr) (h h' : Heap) : Prop := ∀ b o, h.get? b = some o → b ∈ fs → ∃ sl, h'.get? b = some { o with slots := sl }
structure XWay (B : Heap) (l : List Env) (a : Addr) (h : Heap) : Prop where
  stays : B.StaysIn h
  new : B.get? a = none
  funs : h.FunFrames B l
/-- new; on its way between frames; held by the frame at L -/
def XFresh (h : Heap) (a : Addr) (cls : Value) : Prop := ∃ oe vs a0, h.get? a = some oe ∧ oe.cls = cls ∧ oe.data = .fields vs ∧ vs[0]? = some a0 ∧ vs[1]? = some .none
abbrev PhT := Heap → Addr → Value → Heap → Prop
def phAt (fl : Value) : PhT := fun B a cls h => ∃ a0, Heap.TracedAtW h B a cls a0 fl
abbrev phFly : PhT := phAt .none
abbrev phHeld (L : Addr) : PhT := phAt (rawInt L)
def phAny (L : Addr) : PhT := fun B a cls h => XFresh h a cls ∨ phFly B a cls h ∨ phHeld L B a cls h

/-- how an exception lies behind a call -/
def CXE (P : Program) (w : World) : CXT := fun outer H s E e s' => ∃ (a : Addr) (cls : Value) (H' : Hp) (B : Heap), e = .ref a ∧ s'.os = s.os ∧ AllBare s'.gens ∧ XWay B outer a s'.heap ∧ phFly B a cls s'.heap ∧
  HOk P w H' B ∧ XRel (frs outer) H H' s.heap B ∧ XSl (frs outer) s.heap s'.heap ∧ E cls none H'

/-- an exception within the frame of X: the last state of X ahead of it, and what is wanted of it -/
inductive UpSt (X : Cx) (E : St → XK) (ph : PhT) (a : Addr) (cls : Value) (s' : Shared) : Prop
  | mk {pins : List (Addr × Obj)} {σ : St} {H H' : Hp} {B : Heap} {s : Shared} (I : Inv X pins σ H s) (os : s'.os = s.os) (bare : AllBare s'.gens) (way : XWay B X.stack a s'.heap) (p : ph B a cls s'.heap)
      (hok : HOk X.prog X.w H' B) (rel : XRel (frs X.stack) H H' s.heap B) (sl : XSl (frs X.stack) s.heap s'.heap) (e : E σ cls none H') : UpSt X E ph a cls s'
def UpW (X : Cx) (E : St → XK) (L : Addr) : Value → Shared → Prop := fun e s' => ∃ a cls, e = .ref a ∧ UpSt X E (phAny L) a cls s'

section
variable {l : List Env} {B h h1 h2 : Heap} {P : Program} {w : World} {H : Hp} {fs : List Addr}
theorem XSl.up (sl : XSl (frs l) h h1) (ff : h1.FunFrames B l) (k : h1.UpToSlots h2) : XSl (frs l) h h2 := fun b o e hb => by
  obtain ⟨s1, q⟩ := sl b o e hb
  obtain ⟨_, o1, q1, nf⟩ := ff.mem hb
  rw [q] at q1; cases q1
  obtain ⟨s2, q2⟩ := k b _ q nf
  exact ⟨s2, q2⟩
theorem HOk.hide (ok : HOk P w H h) (hf : ∀ b ∈ fs, H b = none) : HOk P w H (PySem.W.hideAll h fs) := fun a o e =>
  (ok a o e).stay (fun b u hb q => PySem.W.hideAll_get _ q fun hm => by
    have z := hf b hm
    rcases hb with rfl | hb
    · rw [e] at z; cases z
    · rw [hb] at z; cases z) (fun _ q => q) fun _ _ q => q
end

section
variable {X : Cx} {E : St → XK} {a L : Addr} {cls : Value} {s' : Shared} {M : Model} {A : Around} {Q : Unit → Shared → Prop} {E' : Value → Shared → Prop}
theorem UpSt.note (u : UpSt X E (phAny L) a cls s') (hA : A.frames = X.A.frames) (hst : X.stack = X.env :: X.outer) (hf : X.env.frame = some L)
    (hQ : ∀ h', UpSt X E (phHeld L) a cls { s' with heap := h' } → Q () { s' with heap := h' }) : wpAny M A (noteFrame (.ref a) X.env) Q E' s' := by
  obtain ⟨I, os, bare, ⟨w1, w2, w3⟩, p, hok, rel, sl, e⟩ := u
  rename_i B s
  have hfr : A.frames = some (X.env :: X.outer) := by rw [hA, I.ok.frames, hst]
  have go : ∀ h' a0, Heap.NotedW B (X.env :: X.outer) a cls a0 (rawInt L) s'.heap h' → Q () { s' with heap := h' } := fun h' a0 ⟨k1, k2, k3, k4⟩ =>
    hQ h' ⟨I, os, bare, ⟨k1, w2, hst ▸ k2⟩, ⟨a0, k3⟩, hok, rel, sl.up w3 k4, e⟩
  have w3' : s'.heap.FunFrames B (X.env :: X.outer) := hst ▸ w3
  rcases p with ⟨oe, vs, a0, he, hc, hd, h0, h1⟩ | ⟨a0, p⟩ | ⟨a0, p⟩
  · subst hc; unfold noteFrame; simp only [hf]; refine wpAny_bind (wpAny_field he hd h1 ?_); rw [if_neg (by decide)]
    exact wpAny_entryW hfr w3' hf he w1 w2 hd (Array.getElem?_eq_some_iff.mp h1).1 h0 fun h' N => go h' a0 N
  · exact wpAny_noteFrame_onW hfr w3' hf p w1 w2 fun h' N => go h' a0 N
  · exact wpAny_noteFrame_againW hf p (hQ s'.heap ⟨I, os, bare, ⟨w1, w2, w3⟩, ⟨a0, p⟩, hok, rel, sl, e⟩)
theorem UpSt.fly {fl : Value} (u : UpSt X E (phAt fl) a cls s') (hQ : ∀ h', UpSt X E phFly a cls { s' with heap := h' } → Q () { s' with heap := h' }) : wpAny M A (setFlight (.ref a) none) Q E' s' := by
  obtain ⟨I, os, bare, ⟨w1, w2, w3⟩, ⟨a0, p⟩, hok, rel, sl, e⟩ := u
  exact wpAny_setFlight_noneW w1 w3 p fun h' k1 k2 k3 k4 => hQ h' ⟨I, os, bare, ⟨k1, w2, k2⟩, ⟨a0, k3⟩, hok, rel, sl.up w3 fun b o hb hn => ⟨o.slots, k4 b o hb hn⟩, e⟩
/-- the frame takes it back: its mark is written once more -/
theorem UpSt.hold (u : UpSt X E (phHeld L) a cls s') (hQ : ∀ h', UpSt X E (phHeld L) a cls { s' with heap := h' } → Q () { s' with heap := h' }) :
    wpAny M A (do if (← field (.ref a) 1) == .none then unsupported "frame.own-activation:exception-without-traceback"
                  setFlight (.ref a) (some L)) Q E' s' := by
  obtain ⟨I, os, bare, ⟨w1, w2, w3⟩, ⟨a0, oe, vs, T, oT, ts, he, hcls, hd, h1, hnT, hTe, hT, hdT, h3⟩, hok, rel, sl, e⟩ := u
  rename_i B s
  have hsz : 3 < ts.size := (Array.getElem?_eq_some_iff.mp h3).1
  have oth : ∀ b, b ≠ T → (s'.heap.update T (Obj.mapFields (·.setIfInBounds 3 (rawInt L)))).get? b = s'.heap.get? b := fun b hb => Heap.get?_update_other _ _ (Ne.symm hb)
  have nr : ∀ b o, s'.heap.get? b = some o → (∀ vs, o.data ≠ .fields vs) → b ≠ T := fun b o hb hnf q => by
    subst q; rw [hT] at hb; cases hb; exact hnf ts hdT
  refine wpAny_bind (wpAny_field he hd h1 ?_)
  rw [if_neg (show ¬ ((Value.ref T == Value.none) = true) by simp)]
  unfold setFlight
  refine wpAny_bind (wpAny_field he hd h1 ?_)
  rw [if_pos (show (Value.ref T != Value.none) = true by simp)]
  refine wpAny_setField hT hdT hsz (hQ _ ⟨I, os, bare, ⟨fun b o hb => (oth b fun q => by subst q; rw [hnT] at hb; cases hb).trans (w1 b o hb), w2,
    w3.of_keeps fun b o hb hn => ⟨o, (oth b (nr b o hb hn)).trans hb, rfl⟩⟩, ⟨a0, oe, vs, T, _, _, (oth a (Ne.symm hTe)).trans he, hcls, hd, h1, hnT, hTe,
      Heap.get?_update_self _ hT (Obj.isFreed_of_fields (Obj.data_mapFields hdT _)), Obj.data_mapFields hdT _, by simp [hsz]⟩, hok, rel, sl.up w3 fun b o hb hn => ⟨o.slots, (oth b (nr b o hb hn)).trans hb⟩, e⟩)
end

section
variable {X : Cx} {E : St → XK} {a L : Addr} {cls : Value} {s s' : Shared} {pins : List (Addr × Obj)} {σ : St} {H H' : Hp} {B : Heap}
theorem un_of (way : XWay B X.stack a s'.heap) (rel : XRel (frs X.stack) H H' s.heap B) (sl : XSl (frs X.stack) s.heap s'.heap) : Un (frs X.stack) [] H H' s.heap s'.heap where
  keep := fun b o e n hb _ => way.stays b o (rel.keep b o e n hb).1
  slot := fun b o e _ hb _ => sl b o e hb
  free := fun b o e n _ => by
    by_cases hb : b ∈ frs X.stack
    · exact rel.fr b hb
    · exact (rel.keep b o e n hb).2
  there := fun b o e _ => by
    rcases rel.there b o e with hb | ⟨o', q⟩
    · obtain ⟨_, o1, q1, _⟩ := way.funs.mem hb
      exact ⟨o1, q1⟩
    · exact ⟨o', way.stays b o' q⟩
  tups := rel.tups
  frzs := rel.frzs
  tbls := rel.tbls
theorem inv_of (I : Inv X pins σ H s) (os : s'.os = s.os) (bare : AllBare s'.gens) (way : XWay B X.stack a s'.heap) (hok : HOk X.prog X.w H' B) (rel : XRel (frs X.stack) H H' s.heap B)
    (sl : XSl (frs X.stack) s.heap s'.heap) : Inv X pins σ H' s' :=
  I.call' (ch := []) os (un_of way rel sl) (hok.kept way.stays) bare fun b hb => absurd hb (by simp)

theorem Inv.adopt {o : HO} (I : Inv X pins σ H s) (hn : H a = none) (new : ObjOk X.prog X.w (upd H a o) s.heap a o) (h0 : X.s₀.heap.get? a = none) (hL : a ≠ X.env.locals)
    (hc : ∀ x c, X.env.cells.lookup x = some c → c ≠ a) (hp : ∀ p ∈ X.pn ++ pins, p.1 ≠ a) : Inv X pins σ (upd H a o) s where
  ok := I.ok
  os := I.os
  bare := I.bare
  base := {
    keep := I.base.keep
    slot := I.base.slot
    free := fun b ob e n hb => by
      rw [upd_ne fun z => by subst z; rw [h0] at e; cases e]
      exact I.base.free b ob e n hb
    there := I.base.there
    tups := fun b xs e => by
      have q := I.base.tups b xs e
      rw [upd_ne (ne_of_none q hn)]; exact q
    frzs := fun b ob u e => by
      have q := I.base.frzs b ob u e
      rw [upd_ne (ne_of_none q hn)]; exact q
    tbls := fun b ps e => by
      obtain ⟨m, q⟩ := I.base.tbls b ps e
      exact ⟨m, by rw [upd_ne (ne_of_none q hn)]; exact q⟩ }
  loc := I.loc
  cell := I.cell
  free := by rw [upd_ne (Ne.symm hL)]; exact I.free
  freeC := fun x c e => by rw [upd_ne (hc x c e)]; exact I.freeC x c e
  pin := fun p m => by
    obtain ⟨p1, p2, p3⟩ := I.pin p m
    exact ⟨p1, by rw [upd_ne (hp p m)]; exact p2, p3⟩
  hok := fun b u e => by
    by_cases hb : b = a
    · subst hb; rw [upd_same] at e; cases e; exact new
    · rw [upd_ne hb] at e
      exact (I.hok b u e).stay (fun _ _ _ q => q) (fun c q => by rw [upd_ne (ne_of_none q hn)]; exact q) fun c xs q => by rw [upd_ne (ne_of_none q hn)]; exact q
  len := I.len

theorem ph_there {fl : Value} {h : Heap} (p : phAt fl B a cls h) : ∃ o vs, h.get? a = some o ∧ o.cls = cls ∧ o.data = .fields vs := by
  obtain ⟨a0, oe, vs, T, oT, ts, he, hc, hd, _⟩ := p
  exact ⟨oe, vs, he, hc.1, hd⟩
/-- it has landed in X: the state again, the exception tracked -/
theorem UpSt.adopt {fl : Value} (u : UpSt X E (phAt fl) a cls s') (hex : X.ex = []) :
    ∃ pins σ H', Inv X pins σ (upd H' a (HO.exc cls)) s' ∧ Inv X pins σ H' s' ∧ E σ cls none H' ∧ H' a = none := by
  obtain ⟨I, os, bare, way, p, hok, rel, sl, e⟩ := u
  rename_i pins σ H H' B s
  have I' := inv_of I os bare way hok rel sl
  obtain ⟨o, vs, ho, hc, hd⟩ := ph_there p
  have hn : H' a = none := by
    cases q : H' a with
    | none => rfl
    | some u =>
      have z := hok.lt q
      obtain ⟨ob, hb⟩ : ∃ ob, B.get? a = some ob := by
        have t := (hok a u q)
        cases q2 : B.get? a with
        | some ob => exact ⟨ob, rfl⟩
        | none =>
          exfalso
          cases u with
          | lst xs => obtain ⟨_, _, _, _, e⟩ := t; rw [q2] at e; cases e
          | tup xs => obtain ⟨_, _, _, _, e, _⟩ := t; rw [q2] at e; cases e
          | dK kvs => obtain ⟨_, _, _, _, o, _, _, e, _⟩ := t; rw [q2] at e; cases e
          | dT kvs => obtain ⟨_, _, _, _, o, _, _, e, _⟩ := t; rw [q2] at e; cases e
          | set S n => obtain ⟨o, _, _, _, e, _⟩ := t; rw [q2] at e; cases e
          | ins C dx fs => obtain ⟨_, _, _, e, _⟩ := t; rw [q2] at e; cases e
          | own y => obtain ⟨_, e⟩ := t; rw [q2] at e; cases e
          | xd fs => obtain ⟨_, ⟨_, _, _, e, _⟩, _⟩ := t; rw [q2] at e; cases e
          | rng lo hi => obtain ⟨_, _, _, e⟩ := t; rw [q2] at e; cases e
          | frz ob u => obtain ⟨e, _⟩ := t; rw [q2] at e; cases e
          | tbl ps => have e : B.get? a = some _ := t; rw [q2] at e; cases e
          | met f y => have e : B.get? a = some _ := t; rw [q2] at e; cases e
          | ext φ => obtain ⟨_, ⟨_, e⟩, _⟩ := t; rw [q2] at e; cases e
          | exc c => obtain ⟨_, _, e, _⟩ := t; rw [q2] at e; cases e
      rw [way.new] at hb; cases hb
  have nfr : a ∉ frs X.stack := fun hm => by
    obtain ⟨_, o1, q1, nf⟩ := way.funs.mem hm
    rw [ho] at q1; cases q1; exact nf vs hd
  have h0 : X.s₀.heap.get? a = none := by
    cases q : X.s₀.heap.get? a with
    | none => rfl
    | some o1 =>
      obtain ⟨o2, q2⟩ := I.base.there a o1 q (by rw [hex]; simp)
      rcases rel.there a o2 q2 with z | ⟨o3, z⟩
      · exact absurd z nfr
      · rw [way.new] at z; cases z
  refine ⟨pins, σ, H', I'.adopt hn ⟨o, vs, ho, hc, hd⟩ h0 (fun z => ?_) (fun x c ec z => ?_) (fun p' hp z => ?_), I', e, hn⟩
  · obtain ⟨m, ⟨ob, es, ep, q, qd, _⟩, _⟩ := I'.loc
    rw [← z, ho] at q; cases q; rw [hd] at qd; cases qd
  · obtain ⟨v, ob, q, qd⟩ := I'.cell x c ec
    rw [z, ho] at q; cases q; rw [hd] at qd; cases qd
  · obtain ⟨p1, p2, p3, p4, _⟩ := I.pin p' hp
    have z2 := (rel.keep p'.1 p'.2 p1 p2 fun hm => by
      rcases List.mem_cons.mp (I.stkSub _ hm) with q | q
      · exact p3 q
      · exact p4 q).1
    rw [z, way.new] at z2; cases z2

/-- it leaves the frame of X -/
theorem UpSt.out {E0 : XK} (u : UpSt X (fun _ => E0) phFly a cls s') (hst : X.stack = X.env :: X.outer) (hf : X.env.frame = some X.env.locals) (hex : X.ex = []) :
    CXE X.prog X.w X.outer X.H₀ X.s₀ E0 (.ref a) s' := by
  obtain ⟨I, os, bare, way, p, hok, rel, sl, e⟩ := u
  rename_i pins σ H H' B s
  have noex : ∀ b, b ∉ X.ex := fun b => by rw [hex]; simp
  have hfs : ∀ b, b ∈ frs X.stack ↔ b = X.env.locals ∨ b ∈ X.fs := fun b => by
    rw [hst]; unfold frs; rw [List.filterMap_cons, hf]; exact List.mem_cons
  have nloc : ∀ b o, X.s₀.heap.get? b = some o → b ≠ X.env.locals := fun b o q z => by
    have := Heap.lt_size q
    have h2 := I.ok.above
    rw [z] at this
    exact absurd (Nat.lt_of_lt_of_le this h2) (Nat.lt_irrefl _)
  obtain ⟨w1, w2, w3⟩ := way
  have w3' : s'.heap.FunFrames B X.outer := by rw [hst] at w3; exact w3.2.2
  refine ⟨a, cls, H', B, rfl, os.trans I.os, bare, ⟨w1, w2, w3'⟩, p, hok, ⟨fun b o q n hb => ?_, fun b hb => rel.fr b ((hfs b).mpr (.inr hb)), fun b o q => ?_, fun b xs q => rel.tups b xs (I.base.tups b xs q),
    fun b o u q => rel.frzs b o u (I.base.frzs b o u q), fun b ps q => ?_⟩, fun b o q hb => ?_, e⟩
  · refine rel.keep b o (I.base.keep b o q n hb (noex b)) (I.base.free b o q n (noex b)) fun z => ?_
    rcases (hfs b).mp z with z | z
    · exact nloc b o q z
    · exact hb z
  · obtain ⟨o1, q1⟩ := I.base.there b o q (noex b)
    rcases rel.there b o1 q1 with z | z
    · rcases (hfs b).mp z with z | z
      · exact absurd z (nloc b o q)
      · exact .inl z
    · exact .inr z
  · obtain ⟨m1, q1⟩ := I.base.tbls b ps q
    obtain ⟨m2, q2⟩ := rel.tbls b _ q1
    exact ⟨m1 ++ m2, by rw [q2, Array.append_assoc]⟩
  · obtain ⟨s1, q1⟩ := I.base.slot b o q (I.ok.frf b hb) hb (noex b)
    obtain ⟨s2, q2⟩ := sl b _ q1 ((hfs b).mpr (.inr hb))
    exact ⟨s2, q2⟩
end

/-! ### what X wants of exceptions -/
structure Exc (X : Cx) (E : St → XK) : Prop where
  pass : ∀ (pins : List (Addr × Obj)) (σ : St) (H : Hp) (s : Shared) (e : Value) (s' : Shared), Inv X pins σ H s → CXE X.prog X.w X.stack H s (E σ) e s' → X.xe e s'
  rais : ∀ (pins : List (Addr × Obj)) (σ : St) (H : Hp) (s s' : Shared) (a C : Addr) (args : List Value), Inv X pins σ H s → Heap.MadeExcOf s.heap s'.heap a (.ref C) args → s'.os = s.os → s'.gens = s.gens →
    E σ (.ref C) none H → X.xe (.ref a) s'
  own : PassesOwn (model X.prog X.w) X.A X.env X.xe
theorem exc_up {X : Cx} {E : St → XK} (hst : X.stack = X.env :: X.outer) (hf : X.env.frame = some X.env.locals) : Exc (X.wish (UpW X E X.env.locals)) E where
  pass := fun pins σ H s e s' I ⟨a, cls, H', B, ee, os, bare, way, p, hok, rel, sl, q⟩ => ⟨a, cls, ee, ⟨I.unwish, os, bare, way, .inr (.inl p), hok, rel, sl, q⟩⟩
  rais := fun pins σ H s s' a C args I hm os hg q => by
    have I := I.unwish
    obtain ⟨t, he, htn, ht⟩ := hm.there
    have hB : (PySem.W.hideAll s.heap (frs X.stack)).get? a = none := by
      cases z : (PySem.W.hideAll s.heap (frs X.stack)).get? a with
      | none => rfl
      | some o => have := PySem.W.of_hideAll _ z; rw [hm.new] at this; cases this
    refine ⟨a, .ref C, rfl, ⟨I, os, by rw [hg]; exact I.bare, ⟨fun b o z => hm.keeps b o (PySem.W.of_hideAll _ z), hB, ?_⟩, .inl ⟨_, _, _, he, rfl, rfl, rfl, rfl⟩, I.hok.hide I.stkFree, ⟨fun b o z n hb => ⟨PySem.W.hideAll_get _ z hb, n⟩, I.stkFree,
      fun b o z => ?_, fun _ _ z => z, fun _ _ _ z => z, fun _ ps z => ⟨#[], by rw [Array.append_empty]; exact z⟩⟩, fun b o z _ => ⟨o.slots, hm.keeps b o z⟩, q⟩⟩
    · exact (PySem.W.funFrames_hide I.stack fun env he b hb => List.mem_filterMap.mpr ⟨env, he, hb⟩).of_keeps fun b o z _ => ⟨o, hm.keeps b o z, rfl⟩
    · by_cases hb : b ∈ frs X.stack
      · exact .inl hb
      · exact .inr ⟨o, PySem.W.hideAll_get _ z hb⟩
  own := fun e s' ⟨a, cls, ee, u⟩ => by
    subst ee
    refine u.note rfl hst hf fun h' u' => ?_
    unfold cameBackBy
    rw [show (X.wish (UpW X E X.env.locals)).env.frame = some X.env.locals from hf]
    refine u'.hold fun h2 u2 => ?_
    obtain ⟨I, os, bare, way, p, hok, rel, sl, q⟩ := u2
    exact ⟨a, cls, rfl, ⟨I, os, bare, way, .inr (.inr p), hok, rel, sl, q⟩⟩

theorem PSs.wish {X : Cx} {st : List Stmt} {t : TS} {E : Value → Shared → Prop} (h : PSs (X.wish E) st t) (he : ∀ e s, E e s → X.xe e s) : PSs X st t := fun pins s σ H D I hw =>
  wpAny_mono (h pins s σ H D (I.wish E) hw) (fun _ _ z => SP.unwish z) he

/-- the context of a def's body that may raise -/
abbrev cxE (ca : Bool) (P : Program) (w : World) (K : PySem.W.Frag) (mg : Str → Option Value) (base : Heap) (N : List Str) (qual : Str) (scope : Scope) (f : Addr) (cd : Value) (A : Around) (outer : List Env) (s : Shared) (H : Hp) (E : XK) : Cx :=
  (cxOf (CXE P w) ca P w K mg base N qual scope f cd A outer s H E).wish (UpW (cxOf (CXE P w) ca P w K mg base N qual scope f cd A outer s H E) (fun _ => E) s.heap.objs.size)

section
variable {P : Program} {w : World} {K : PySem.W.Frag} {mg : Str → Option Value} {base : Heap}
theorem Fun.okE {x qual : Str} {st : Stmt} {f : Addr} {fd : FuncData} {N ps : List Str} {ca : Bool} {k : Nat} {sp : Sp} (F : Fun K x qual st f fd) (S : FnScope N ps (defScope st)) (len : ∀ vs H Q E, sp vs H Q E → vs.length = ps.length)
    (hbody : ∀ (cdv : Value) (A : Around) (outer : List Env) (s : Shared) (H : Hp) (vs : List V) (Q : VK) (E : XK), Room ca k (A.deeper (envOfC qual (defScope st) s.heap.objs.size f cdv)) →
      Exc (cxE ca P w K mg base N qual (defScope st) f cdv A outer s H E) (fun _ => E) → sp vs H Q E →
      ∃ t, PSs (cxE ca P w K mg base N qual (defScope st) f cdv A outer s H E) (defBody st) t ∧ t { nx := fun _ H' => Q .non H', rt := Q } (start N vs) H) : FnOk P w K mg base (CXE P w) ca (k + 1) f fd ps sp := by
  obtain ⟨oc, od, kV, doc, pm, an, cdv, ct, osl, rfl, lk, hcd⟩ := F.ex
  refine fn_of (CX := CXE P w) lk hcd S len fun A outer s H vs Q E hr hsp => ?_
  obtain ⟨t, h, q⟩ := hbody cdv A outer s H vs Q E hr (exc_up rfl rfl) hsp
  refine ⟨t, h.wish fun e s2 ⟨a, cls, ee, u⟩ => ?_, q⟩
  subst ee
  show wpAny _ _ (leaving _ _) _ _ _
  unfold leaving
  exact wpAny_bind (u.note rfl rfl rfl fun h' u' => u'.fly fun h'' u'' => u''.out rfl rfl rfl)
end
/-! ### an object of ours that nobody asks for any more -/
def rm (H : Hp) (p : Addr) : Hp := fun b => if b = p then none else H b
theorem rm_same {H : Hp} {p : Addr} : rm H p p = none := by unfold rm; rw [if_pos rfl]
theorem rm_ne {H : Hp} {p b : Addr} (h : b ≠ p) : rm H p b = H b := by unfold rm; rw [if_neg h]
theorem rm_upd {H : Hp} {p : Addr} {o : HO} (h : H p = none) : rm (upd H p o) p = H := by
  funext b
  by_cases hb : b = p
  · subst hb; rw [rm_same, h]
  · rw [rm_ne hb, upd_ne hb]
/-- what may be forgotten: nothing else leans on it -/
def Loose : Option HO → Prop
  | some (.lst _) => True
  | some (.exc _) => True
  | some (.rng _ _) => True
  | _ => False
theorem Inv.rm {X : Cx} {pins : List (Addr × Obj)} {σ : St} {H : Hp} {s : Shared} {p : Addr} (I : Inv X pins σ H s) (hp : Loose (H p)) : Inv X pins σ (rm H p) s := by
  have no : ∀ {b : Addr}, H b = none → L2.rm H p b = none := fun {b} e => by
    unfold L2.rm; split
    · rfl
    · exact e
  have yes : ∀ {b : Addr} {o : HO}, H b = some o → ¬ Loose (some o) → L2.rm H p b = some o := fun {b o} e n => by
    rw [rm_ne fun z => by subst z; rw [e] at hp; exact n hp]; exact e
  refine ⟨I.ok, I.os, I.bare, ⟨I.base.keep, I.base.slot, fun b o e n hb => no (I.base.free b o e n hb), I.base.there, fun b xs e => yes (I.base.tups b xs e) (fun z => z), fun b o u e => yes (I.base.frzs b o u e) (fun z => z), fun b ps e => ?_⟩, I.loc, I.cell,
    no I.free, fun x c e => no (I.freeC x c e), fun q m => ?_, fun b u e => ?_, I.len⟩
  · obtain ⟨m, q⟩ := I.base.tbls b ps e
    exact ⟨m, yes q fun z => z⟩
  · obtain ⟨p1, p2, p3⟩ := I.pin q m
    exact ⟨p1, no p2, p3⟩
  · by_cases hb : b = p
    · subst hb; rw [rm_same] at e; cases e
    · rw [rm_ne hb] at e
      exact (I.hok b u e).stay (fun _ _ _ q => q) (fun c q => yes q fun z => z) fun c xs q => yes q fun z => z

end L2

/-! LY: rules over LX: calls that may raise, raise, try, isinstance; readings that compute. -/
namespace L2
open PySem PySem.Spec PyProof.Rows

/-! ### a name goes behind an except suite -/
section
variable {X : Cx} {pins : List (Addr × Obj)} {σ : St} {H : Hp} {s : Shared}
theorem goes_ok {M : Model} {A : Around} {E : Value → Shared → Prop} {i : Nat} {x : Str} {pos : Pos} {Q : Unit → Shared → Prop} (I : Inv X pins σ H s) (hN : X.N.Nodup) (hi : X.N[i]? = some x) (hk : X.env.scope.names.lookup x = some .local)
    (h : ∀ s', Inv X pins (σ.set i none) H s' → Q () s') : wpAny M A (do bindName X.env x .none; unbindBehindTheSuite X.env x pos) Q E s := by
  obtain ⟨m, hn, hl⟩ := id I.loc
  have hcls : (X.env.scope.kind == .class || (X.env.scope.kind == .module && X.env.locals != X.env.globals)) = false := by rw [I.ok.kind]; rfl
  have nl : ∀ b o, X.s₀.heap.get? b = some o → b ≠ X.env.locals := fun b o e => Nat.ne_of_lt (Nat.lt_of_lt_of_le (Heap.lt_size e) I.ok.above)
  refine wpAny_nameGoes_keeps hk hn hcls fun h' v hn' hs => h _ ⟨I.ok, I.os, I.bare, ⟨fun b o e n hb hx => (hs.2 b (nl b o e)).trans (I.base.keep b o e n hb hx), fun b o e n hb hx => ?_, I.base.free, fun b o e hx => ?_,
    I.base.tups, I.base.frzs, I.base.tbls⟩, ⟨_, hn', fun j y v' e1 e2 e3 => ?_⟩, fun y c e => ?_, I.free, I.freeC, fun p hp => ?_, fun b ob e => ?_, by simpa using I.len⟩
  · obtain ⟨sl, e1⟩ := I.base.slot b o e n hb hx
    exact ⟨sl, (hs.2 b (nl b o e)).trans e1⟩
  · obtain ⟨o', e1⟩ := I.base.there b o e hx
    exact ⟨o', (hs.2 b (nl b o e)).trans e1⟩
  · by_cases hj : j = i
    · subst hj
      have z : (σ.set j none)[j]? = some none ∨ (σ.set j none)[j]? = none := by
        rw [List.getElem?_set]
        simp only [if_true]
        split <;> simp
      rcases z with z | z <;> (rw [z] at e2; cases e2)
    · rw [List.getElem?_set_ne (Ne.symm hj)] at e2
      obtain ⟨u', r', q⟩ := hl j y v' e1 e2 e3
      refine ⟨u', r', ?_⟩
      rcases q with ⟨k, e⟩ | ⟨k, c, e, z⟩
      · have ny : y ≠ x := fun e => hj (nodup_ix hN e1 (e ▸ hi))
        exact .inl ⟨k, by simp [ny, e]⟩
      · exact .inr ⟨k, c, e, z.sameBut hs (I.cne y c e)⟩
  · obtain ⟨w', z⟩ := I.cell y c e
    exact ⟨w', z.sameBut hs (I.cne y c e)⟩
  · obtain ⟨e, n, ne, nf, d⟩ := I.pin p hp
    exact ⟨(hs.2 p.1 ne).trans e, n, ne, nf, d⟩
  · refine (I.hok b ob e).stay (fun c w' hc q => (hs.2 c ?_).trans q) (fun _ q => q) fun _ _ q => q
    rintro rfl
    rcases hc with rfl | hc
    · have := I.free; rw [e] at this; cases this
    · have := I.free; rw [hc] at this; cases this
end

/-! ### calls -/
def tCallE (sp : Sp) (E : St → XK) (t : TA) : TE := fun σ H Q => t σ H fun vs H1 => sp vs H1 Q (E σ)
def tMakeE (C : Addr) (sp : Sp) (E : St → XK) (t : TA) : TE := fun σ H Q => t σ H fun vs H1 => ∀ x dx, H1 x = none → H1 dx = none → dx ≠ x →
  sp (.ref x :: vs) (upd (upd H1 dx (.own x)) x (.ins C dx [])) (fun v H2 => v = .non ∧ Q (.ref x) H2) (E σ)
section
variable {X : Cx} {ca : Bool} {k : Nat} {f C : Addr} {fd : FuncData} {ps : List Str} {sp : Sp} {E : St → XK} {x m : Str} {p pos apos : Pos} {e o : Expr} {es : List Expr} {ta : TE} {t : TA}
theorem run_fnE {pins : List (Addr × Obj)} {σ : St} {H : Hp} {s : Shared} {Q : VK} {us : List Value} {vs : List V} (F : FnOk X.prog X.w X.K X.mg X.base (CXE X.prog X.w) ca k f fd ps sp) (hr : Room ca k X.A) (hb : Binds X.K fd ps []) (hx : Exc X E)
    (I : Inv X pins σ H s) (r : Vals vs us) (h : sp vs H Q (E σ)) : wpAny (model X.prog X.w) X.A (call (.ref f) us) (EP X pins σ Q) X.xe s := by
  have hl : (us ++ []).length = ps.length := by rw [List.append_nil, ← r.length]; exact F.len _ _ _ _ h
  have hb' := hb s us I.kIn hl
  rw [List.append_nil] at hb'
  refine wpAny_call (codeAny_mono (F.run X.A X.stack s H ⟨us, []⟩ us vs Q (E σ) hr I.env0 hb' r h) fun r s' hq => ?_)
  cases r with
  | error e => exact hx.pass pins σ H s e s' I hq
  | ok fl =>
    cases fl with
    | ret u => exact I.after hq
    | next => exact False.elim hq
    | brk => exact False.elim hq
    | cont => exact False.elim hq
theorem pe_callE (F : FnOk X.prog X.w X.K X.mg X.base (CXE X.prog X.w) ca k f fd ps sp) (hr : Room ca k X.A) (hg : Gl X x) (hm : X.mg x = some (.ref f)) (hk : PySem.W.keepIn X.K (.ref f) = true) (hb : Binds X.K fd ps []) (hx : Exc X E)
    (ha : PA X (e :: es) t) (hdb : (x == ("__debug__" : Str)) = false := by decide) (he : starEach (e :: es) X.env = (false, eval e X.env) :: starEach es X.env := by rfl) (hpl : (backTo pos (starEach es X.env)).any (·.1) = false := by rfl) :
    PE X (.Call (.Name x p) (e :: es) [] pos) (tCallE sp E t) := by
  intro pins s σ H Q I h
  refine wpAny_Call_Name_kw (ld_glob I hg hm ?_ hdb)
  refine PySem.W.callWith_K (h₀ := X.base) I.ok.mod.kin hk (thn (ha pos pins s σ H _ I h) fun us s1 ⟨vs, H1, I1, r, q⟩ => ⟨I1.kIn, ?_⟩) he hpl
  exact run_fnE F hr hb hx I1 r q
theorem run_makeE {pins : List (Addr × Obj)} {σ : St} {H : Hp} {s : Shared} {Q : VK} {us : List Value} {vs : List V} (M : Mk X.K C f) (F : FnOk X.prog X.w X.K X.mg X.base (CXE X.prog X.w) ca k f fd ps sp) (hr : Room ca (k + 1) X.A) (hb : Binds X.K fd ps [])
    (hx : Exc X E) (I : Inv X pins σ H s) (r : Vals vs us)
    (h : ∀ x dx, H x = none → H dx = none → dx ≠ x → sp (.ref x :: vs) (upd (upd H dx (.own x)) x (.ins C dx [])) (fun v H2 => v = .non ∧ Q (.ref x) H2) (E σ)) :
    wpAny (model X.prog X.w) X.A (call (.ref C) us) (EP X pins σ Q) X.xe s := by
  have hq := h (s.heap.objs.size + 1) s.heap.objs.size (I.hok.fresh (Nat.le_succ _)) (I.hok.fresh (Nat.le_refl _)) (Nat.ne_of_lt (Nat.lt_succ_self _))
  have I2 := Inv.made (C := C) I
  have r2 : Vals (V.ref (s.heap.objs.size + 1) :: vs) (Value.ref (s.heap.objs.size + 1) :: us) := .cons rfl r
  have hl : (Value.ref (s.heap.objs.size + 1) :: us ++ []).length = ps.length := by rw [List.append_nil, ← r2.length]; exact F.len _ _ _ _ hq
  have hb' := hb { s with heap := (s.heap.push PySem.W.emptyDict).push (PySem.W.instObj C s.heap.objs.size) } (Value.ref (s.heap.objs.size + 1) :: us) I2.kIn hl
  rw [List.append_nil] at hb'
  refine wpAny_call (make_map (f := f) I.kIn M.makes M.init (beq_iff_eq.mp M.fn) (codeAny_mono (F.run _ X.stack _ _ ⟨Value.ref (s.heap.objs.size + 1) :: us, []⟩ (Value.ref (s.heap.objs.size + 1) :: us) _ _ (E σ) (hr.make C us [])
    (I2.env0.make C us []) hb' r2 hq) fun r s' hq' => ?_))
  cases r with
  | error e => exact hx.pass pins σ _ _ e s' I2 hq'
  | ok fl =>
    cases fl with
    | ret u =>
      obtain ⟨v, H', I3, rv, ev, q3⟩ := I2.after hq'
      subst ev
      exact ⟨rv, ⟨V.ref (s.heap.objs.size + 1), H', I3, rfl, q3⟩⟩
    | next => exact False.elim hq'
    | brk => exact False.elim hq'
    | cont => exact False.elim hq'
theorem pe_makeE (M : Mk X.K C f) (F : FnOk X.prog X.w X.K X.mg X.base (CXE X.prog X.w) ca k f fd ps sp) (hr : Room ca (k + 1) X.A) (hg : Gl X x) (hm : X.mg x = some (.ref C)) (hb : Binds X.K fd ps []) (hx : Exc X E)
    (ha : PA X (e :: es) t) (hdb : (x == ("__debug__" : Str)) = false := by decide) (he : starEach (e :: es) X.env = (false, eval e X.env) :: starEach es X.env := by rfl) (hpl : (backTo pos (starEach es X.env)).any (·.1) = false := by rfl) :
    PE X (.Call (.Name x p) (e :: es) [] pos) (tMakeE C sp E t) := by
  intro pins s σ H Q I h
  refine wpAny_Call_Name_kw (ld_glob I hg hm ?_ hdb)
  refine PySem.W.callWith_K (h₀ := X.base) I.ok.mod.kin M.kp (thn (ha pos pins s σ H _ I h) fun us s1 ⟨vs, H1, I1, r, q⟩ => ⟨I1.kIn, ?_⟩) he hpl
  exact run_makeE M F hr hb hx I1 r q
end

/-! ### raise C(..), C an own class above which ValueError stands -/
abbrev bmV : List Value := [.type "ValueError", .type "Exception", .type "BaseException", .type "object"]
def ExcC (K : PySem.W.Frag) (C : Addr) : Prop := PySem.W.excIn K C bmV "ValueError.__new__" = true
theorem ExcC.obj {K : PySem.W.Frag} {h : Heap} {C : Addr} (X : K.In h) (q : ExcC K C) : ∃ bm N nm qn bs hd sn sub ab col dd k0 k1 k2 k3 k5 mN, h.get? C = some (excClassObj nm qn C N bs bm hd sn sub ab col dd k0 k1 k2 k3 k5 "ValueError.__new__") ∧
    h.Ns N mN ∧ mN "__init__" = none ∧ OwnTail h bmV bm := by
  unfold ExcC PySem.W.excIn at q
  split at q
  · rename_i dd cd sl ho
    split at q
    · rename_i C' bm k0 k1 k2 k3 n k5 hm hs
      rw [Bool.and_eq_true, Bool.and_eq_true, Bool.and_eq_true, Bool.and_eq_true, Bool.and_eq_true, beq_iff_eq, beq_iff_eq, beq_iff_eq, Bool.not_eq_true'] at q
      obtain ⟨⟨⟨⟨⟨q1, q2⟩, q3⟩, q4⟩, q5⟩, q6⟩ := q
      subst q1 q2
      obtain ⟨nm, bs, mro, ns, qn, hd, sn, sub, ab, col, del⟩ := cd
      have q3 : del = false := q3
      have hm : mro = _ := hm
      subst q3 hm
      obtain ⟨l⟩ := sl
      have hs : l = _ := hs
      subst hs
      exact ⟨bm, ns, nm, qn, bs, hd, sn, sub, ab, col, dd, k0, k1, k2, k3, k5, _, X _ _ ho, .of_isNs (PySem.W.isNs_of_in X q5), PySem.W.nsMap_none_of_in X q5 q6, PySem.W.tail_of_in X q4⟩
    · cases q
  · cases q
def tRaise (C : Addr) (E : St → XK) (t : TA) : TS := fun _ σ H => t σ H fun vs H1 => vs.length ≤ sizeLine ∧ E σ (.ref C) none H1
section
variable {X : Cx} {C : Addr} {E : St → XK} {x : Str} {np cpos pos : Pos} {e : Expr} {es : List Expr} {t : TA}
theorem ps_raise (hx : Exc X E) (hg : Gl X x) (hm : X.mg x = some (.ref C)) (hq : ExcC X.K C) (hc : X.calm = true) (ha : PA X (e :: es) t)
    (he : starEach (e :: es) X.env = (false, eval e X.env) :: starEach es X.env := by rfl) (hpl : (backTo cpos (starEach es X.env)).any (·.1) = false := by rfl) (hdb : (x == ("__debug__" : Str)) = false := by decide) :
    PS X (.Raise (some (.Call (.Name x np) (e :: es) [] cpos)) none pos) (tRaise C E t) := by
  intro pins s σ H D I h
  obtain ⟨bm, N, nm, qn, bs, hd, sn, sub, ab, col, dd, k0, k1, k2, k3, k5, mN, hC, hN, hni, T⟩ := hq.obj I.mod.kin
  refine wpAny_Raise_call_subT (C := C) (nm := nm) (q := qn) (N := N) (bs := bs) (bm := bm) (hdct := hd) (sn := sn) (sub := sub) (ab := ab) (col := col) (dd := dd) (k0 := k0) (k1 := k1) (k2 := k2) (k3 := k3) (k5 := k5)
    PySem.F.excBase_ValueError (mN := mN) (T.hasType PySem.F.excBase_ValueError.hasBase) (I.ok.hd hc) (by rw [he]; show (false || (backTo cpos (starEach es X.env)).any fun x => x.1) = false; rw [hpl]; rfl) hni (ld_glob I hg hm ⟨rfl, ?_⟩ hdb)
  have h2 := ha cpos pins s σ H _ I h
  rw [he] at h2 ⊢
  exact Calls.evalArgs_plain (wpAny_mono h2 (fun us s2 ⟨vs, H1, I1, r, hl, q⟩ => ⟨rfl, by rw [← r.length]; exact hl, I1.bk _ _ hC, hN.keeps I1.bk, T.keeps I1.bk,
    fun h' e hm' => hx.rais pins σ H1 s2 { s2 with heap := h' } e C us I1 hm' rfl rfl q⟩) fun _ _ y => y)
end

/-! ### try .. except -/
/-- the context of an except suite -/
abbrev Cx.hnd (X : Cx) (a : Addr) : Cx := { X with A := X.A.mark (some (.ref a)), calm := false, xe := fun _ _ => False }
abbrev Cx.pinned (X : Cx) (pins : List (Addr × Obj)) : Cx := { X with pn := X.pn ++ pins }
section
variable {X : Cx} {pins pins' : List (Addr × Obj)} {σ : St} {H : Hp} {s : Shared} {a : Addr} {E : Value → Shared → Prop}
theorem Cx.Ok.hnd (ok : X.Ok) : (X.hnd a).Ok := ⟨ok.mod, ok.kind, ok.glob, ok.blt, ok.above, ok.inj, ok.has, ok.cab, (fun z => Bool.noConfusion z), ok.frames, ok.stk, ok.exf, ok.bs, ok.bsz, ok.noex, ok.exfs, ok.funs, ok.frf⟩
theorem Cx.Ok.pinned (ok : X.Ok) (pins : List (Addr × Obj)) : (X.pinned pins).Ok := ⟨ok.mod, ok.kind, ok.glob, ok.blt, ok.above, ok.inj, ok.has, ok.cab, ok.hd, ok.frames, ok.stk, ok.exf, ok.bs, ok.bsz, ok.noex, ok.exfs, ok.funs, ok.frf⟩
theorem Inv.hnd (I : Inv X pins σ H s) : Inv (X.hnd a) pins σ H s := ⟨I.ok.hnd, I.os, I.bare, I.base, I.loc, I.cell, I.free, I.freeC, I.pin, I.hok, I.len⟩
theorem Inv.unhnd (ok : X.Ok) (I : Inv (X.hnd a) pins σ H s) : Inv X pins σ H s := ⟨ok, I.os, I.bare, I.base, I.loc, I.cell, I.free, I.freeC, I.pin, I.hok, I.len⟩
theorem Inv.pinnedX (I : Inv X pins σ H s) : Inv (X.pinned pins) [] σ H s := ⟨I.ok.pinned pins, I.os, I.bare, I.base, I.loc, I.cell, I.free, I.freeC, fun p hp => I.pin p (by simpa using hp), I.hok, I.len⟩
theorem Inv.unpinnedX (ok : X.Ok) (I : Inv (X.pinned pins) pins' σ H s) : Inv X pins σ H s := ⟨ok, I.os, I.bare, I.base, I.loc, I.cell, I.free, I.freeC, fun p hp => I.pin p (List.mem_append_left _ hp), I.hok, I.len⟩
end
/-- a row of handlers, at an exception that lies in the frame -/
abbrev TH := Ends → St → Hp → Value → Prop
def PH (X : Cx) (hs : List ExceptHandler) (t : TH) : Prop :=
  ∀ (pins : List (Addr × Obj)) (D : Ends) (a : Addr) (cls : Value) (s : Shared), X.Ok → UpSt (X.pinned pins) (fun σ cls _ H => t D σ H cls) phFly a cls s →
    wpAny (model X.prog X.w) X.A (handleBy (.ref a) X.env hs) (SP X pins D) X.xe s
def hNil : TH := fun _ _ _ _ => False
/-- what is wanted behind a suite whose name goes -/
abbrev Ends.gone (D : Ends) (i : Nat) (a : Addr) (cls : Value) : Ends := { nx := fun σ H => H a = some (.exc cls) ∧ D.nx (σ.set i none) (rm H a), rt := fun v H => H a = some (.exc cls) ∧ D.rt v (rm H a), bk := fun σ H => H a = some (.exc cls) ∧ D.bk (σ.set i none) (rm H a), ct := fun σ H => H a = some (.exc cls) ∧ D.ct (σ.set i none) (rm H a) }
def hAs (K : PySem.W.Frag) (c : Value) (i : Nat) (th : TS) (tr : TH) : TH := fun D σ H cls => match PySem.W.exmOne K cls c with
  | some true => ∀ a, H a = none → th (D.gone i a cls) (σ.set i (some (.ref a))) (upd H a (HO.exc cls))
  | some false => tr D σ H cls
  | none => False
section
variable {X : Cx} {c : Value} {i : Nat} {x n : Str} {np pos : Pos} {b₀ : Stmt} {suite : List Stmt} {th : TS} {tr : TH} {rest : List ExceptHandler}
theorem ty_looks {M : Model} {h : Heap} {a : Addr} {cls : Value} (e : ∃ o vs, h.get? a = some o ∧ o.cls = cls ∧ o.data = .fields vs) : PySem.W.Looks M h (typeOf (.ref a)) cls := by
  obtain ⟨o, _, ho, hc, _⟩ := e
  subst hc
  exact (PySem.W.Looks.ld ho).andThen .now
theorem ph_nil : PH X [] hNil := fun pins D a cls s ok u => by
  obtain ⟨_, _, _, _, _, _, _, _, h⟩ := u
  exact False.elim h
theorem ph_as (hex : X.ex = []) (hg : Gl X x) (hm : X.mg x = some c) (hN : X.N.Nodup) (hi : X.N[i]? = some n) (hn : X.env.scope.names.lookup n = some .local) (hs : ∀ a, PSs (X.hnd a) (b₀ :: suite) th) (hr : PH X rest tr)
    (hdb : (x == ("__debug__" : Str)) = false := by decide) : PH X (.ExceptHandler (some (.Name x np)) (some n) (b₀ :: suite) pos :: rest) (hAs X.K c i th tr) := by
  intro pins D a cls s ok u
  refine wpAny_handleBy_cons (codeAny_handlers_test ?_) (by intro q; cases q)
  obtain ⟨pins', σ, H', _, I, e, hna⟩ := u.adopt hex
  have LT : PySem.W.Looks (model X.prog X.w) s.heap (typeOf (.ref a)) cls := by obtain ⟨_, _, _, _, p, _, _, _, _⟩ := u; exact ty_looks (ph_there p)
  have I1 : Inv (X.hnd a) pins σ H' s := (I.unpinnedX ok).hnd
  refine ld_glob (X := X.hnd a) I1 hg hm ?_ hdb
  have e : hAs X.K c i th tr D σ H' cls := e
  unfold hAs at e
  cases q : PySem.W.exmOne X.K cls c with
  | none => rw [q] at e; exact False.elim e
  | some b =>
    refine (PySem.W.exm_one I.kIn LT q).here ?_
    cases b with
    | false =>
      refine hr pins D a cls s ok ?_
      obtain ⟨I, os, bare, way, p, hok, rel, sl, e⟩ := u
      refine ⟨I, os, bare, way, p, hok, rel, sl, ?_⟩
      have e : hAs X.K c i th tr D _ _ cls := e
      unfold hAs at e
      rw [q] at e
      exact e
    | true =>
      refine codeAny_handlers_suite_as (u.fly fun h' u' => ?_)
      obtain ⟨pins2, σ2, H2, Ia, _, e2, hn2⟩ := u'.adopt hex
      have e2 : hAs X.K c i th tr D σ2 H2 cls := e2
      unfold hAs at e2
      rw [q] at e2
      have Ia1 : Inv (X.hnd a) pins σ2 (upd H2 a (HO.exc cls)) { s with heap := h' } := (Ia.unpinnedX ok).hnd
      refine store_ok (X := X.hnd a) (v := .ref a) Ia1 hN hi (Or.inl hn) rfl (fun s3 I3 => ?_) (Or.inr hn)
      refine wpAny_mono (hs a pins s3 _ _ (D.gone i a cls) I3 (e2 a hn2)) (fun f s4 z => ?_) fun _ _ z => False.elim z
      cases f with
      | next => obtain ⟨σ4, H4, I4, e4, q4⟩ := z; exact goes_ok ((I4.unhnd ok).rm (p := a) (by rw [e4]; exact True.intro)) hN hi hn fun s5 I5 => ⟨_, _, I5, q4⟩
      | brk => obtain ⟨σ4, H4, I4, e4, q4⟩ := z; exact goes_ok ((I4.unhnd ok).rm (p := a) (by rw [e4]; exact True.intro)) hN hi hn fun s5 I5 => ⟨_, _, I5, q4⟩
      | cont => obtain ⟨σ4, H4, I4, e4, q4⟩ := z; exact goes_ok ((I4.unhnd ok).rm (p := a) (by rw [e4]; exact True.intro)) hN hi hn fun s5 I5 => ⟨_, _, I5, q4⟩
      | ret v => obtain ⟨v', σ4, H4, I4, rv, e4, q4⟩ := z; exact goes_ok ((I4.unhnd ok).rm (p := a) (by rw [e4]; exact True.intro)) hN hi hn fun s5 I5 => ⟨v', _, _, I5, rv, q4⟩
/-- try: body except ..: (no else, no finally) -/
def tTry (tb : (St → XK) → TS) (t : TH) : TS := fun D σ H => tb (fun σ cls _ H => t D σ H cls) D σ H
theorem ps_try {body : List Stmt} {h₀ : ExceptHandler} {hs : List ExceptHandler} {tb : (St → XK) → TS} {t : TH} (hst : X.stack = X.env :: X.outer) (hf : X.env.frame = some X.env.locals)
    (hb : ∀ (E : St → XK) (W : Value → Shared → Prop) (pins : List (Addr × Obj)), Exc ((X.pinned pins).wish W) E → PSs ((X.pinned pins).wish W) body (tb E)) (hh : PH X (h₀ :: hs) t) :
    PS X (.Try body (h₀ :: hs) [] [] pos) (tTry tb t) := by
  intro pins s σ H D I h
  have ex : Exc ((X.pinned pins).wish (UpW (X.pinned pins) (fun σ cls _ H => t D σ H cls) X.env.locals)) (fun σ cls _ H => t D σ H cls) := exc_up hst hf
  refine wpAny_Try_except (wpAny_mono (hb _ _ pins ex [] s σ H D (I.pinnedX.wish _) h) (fun f s1 z => ?_) fun e s1 ⟨a, cls, ee, u⟩ => ?_)
  · cases f with
    | next => obtain ⟨σ4, H4, I4, q4⟩ := z; exact wpAny_execs_nil ⟨_, _, (I4.unwish).unpinnedX I.ok, q4⟩
    | brk => obtain ⟨σ4, H4, I4, q4⟩ := z; exact ⟨_, _, (I4.unwish).unpinnedX I.ok, q4⟩
    | cont => obtain ⟨σ4, H4, I4, q4⟩ := z; exact ⟨_, _, (I4.unwish).unpinnedX I.ok, q4⟩
    | ret v => obtain ⟨v', σ4, H4, I4, rv, q4⟩ := z; exact ⟨v', _, _, (I4.unwish).unpinnedX I.ok, rv, q4⟩
  · subst ee
    exact u.note rfl hst hf fun h' u' => u'.fly fun h'' u'' => hh pins D a cls _ I.ok u''
end
end L2

/-! LZ: readings that compute. -/
namespace L2
open PySem PySem.Spec PyProof.Rows

section
variable {X : Cx}
theorem PE.mono {e : Expr} {t t' : TE} (h : PE X e t) (k : ∀ σ H Q, t' σ H Q → t σ H Q) : PE X e t' := fun pins s σ H Q I q => h pins s σ H Q I (k _ _ _ q)
theorem PT.mono {e : Expr} {t t' : TT} (h : PT X e t) (k : ∀ σ H Q, t' σ H Q → t σ H Q) : PT X e t' := fun pins s σ H Q I q => h pins s σ H Q I (k _ _ _ q)
theorem PS.mono {e : Stmt} {t t' : TS} (h : PS X e t) (k : ∀ D σ H, t' D σ H → t D σ H) : PS X e t' := fun pins s σ H D I q => h pins s σ H D I (k _ _ _ q)
theorem OpR.mono {f : Value → Value → Sem Value} {r r' : R2} (h : OpR X f r) (k : ∀ x y H Q, r' x y H Q → r x y H Q) : OpR X f r' := fun pins s σ H x y v u Q I rx ry q => h pins s σ H x y v u Q I rx ry (k _ _ _ _ q)
theorem CallR.mono {f : Value} {r r' : List V → Hp → VK → Prop} (h : CallR X f r) (k : ∀ xs H Q, r' xs H Q → r xs H Q) : CallR X f r' := fun pins s σ H xs us Q I rx q => h pins s σ H xs us Q I rx (k _ _ _ q)
theorem IxR.mono {r r' : R2} (h : IxR X r) (k : ∀ x y H Q, r' x y H Q → r x y H Q) : IxR X r' := fun value slice pins s σ H x y v u Q I rx ry q => h value slice pins s σ H x y v u Q I rx ry (k _ _ _ _ q)
end

/-! ### names -/
def cVar (i : Nat) : TE := fun σ H Q => match σ[i]? with
  | some (some v) => Q v H
  | _ => False
section
variable {X : Cx}
theorem cv (i : Nat) {x : Str} {pos : Pos} (hN : X.N[i]? = some x := by rfl) (hv : Vis X.env.scope x := by first | exact Or.inl rfl | exact Or.inr (Or.inl rfl) | exact Or.inr (Or.inr rfl)) (hd : (x == ("__debug__" : Str)) = false := by decide)
    (hcd : (x == ("__classdict__" : Str)) = false := by decide) : PE X (.Name x pos) (cVar i) := (pe_var hN hv hd hcd).mono fun σ H Q h => by
  unfold cVar at h
  split at h
  · rename_i v e; exact ⟨v, e, h⟩
  · exact h.elim
/-- a global's value -/
def Gv (mg : Str → Option Value) (x : Str) (v : V) : Prop := ∃ u, mg x = some u ∧ RelV v u
theorem pe_gv {x : Str} {v : V} {pos : Pos} (h : Gv X.mg x v) (hg : Gl X x := by rfl) (hd : (x == ("__debug__" : Str)) = false := by decide) : PE X (.Name x pos) (tC v) := by
  obtain ⟨u, hm, r⟩ := h
  exact pe_glob hg hm r hd
/-- a built-in type's name as a value -/
theorem pe_ty {x : Str} {T : String} {pos : Pos} (hm : X.mg x = none) (hv : bootBuiltins x = some (.type T)) (hg : Gl X x := by rfl) (hn : x ≠ "__name__" := by decide) (hd : (x == ("__debug__" : Str)) = false := by decide) :
    PE X (.Name x pos) (tC (.ty T)) := pe_bltn hg hm hv rfl hn hd
end

/-! ### operations -/
def cAdd : R2 := fun x y H Q => match x, y with
  | .int i, .int j => Q (.int (i + j)) H
  | .str i, .str j => i.length + j.length ≤ sizeLine ∧ Q (.str (i ++ j)) H
  | _, _ => False
def cSub : R2 := fun x y H Q => match x, y with
  | .int i, .int j => Q (.int (i - j)) H
  | _, _ => False
def cMul : R2 := fun x y H Q => match x, y with
  | .int i, .int j => CMul i j ∧ Q (.int (i * j)) H
  | .str z, .int n => z.length ≤ 1000 ∧ (n = 0 ∨ n = 1) ∧ Q (.str (if n = 1 then z else Str.empty)) H
  | _, _ => False
def cFdiv : R2 := fun x y H Q => match x, y with
  | .int i, .int j => CDiv i j ∧ Q (.int (i / j)) H
  | _, _ => False
def cMod : R2 := fun x y H Q => match x, y with
  | .int i, .int j => 0 < j ∧ Q (.int (i % j)) H
  | _, _ => False
def cPow : R2 := fun x y H Q => match x, y with
  | .int i, .int j => CPow i j ∧ Q (.int (i ^ j.toNat)) H
  | _, _ => False
def cCmp (p : Int → Int → Bool) : R2 := fun x y H Q => match x, y with
  | .int i, .int j => Q (.bl (p i j)) H
  | _, _ => False
abbrev cLt : R2 := cCmp fun i j => decide (i < j)
abbrev cLe : R2 := cCmp fun i j => decide (i ≤ j)
abbrev cGt : R2 := cCmp fun i j => decide (j < i)
abbrev cGe : R2 := cCmp fun i j => decide (j ≤ i)
/-- == of two scalars -/
def eqv : V → V → Option Bool
  | .int i, .int j => some (decide (i = j))
  | .str i, .str j => some (decide (i = j))
  | .bl i, .bl j => some (decide (i = j))
  | .non, .non => some true
  | .non, .int _ => some false | .int _, .non => some false | .non, .bl _ => some false | .bl _, .non => some false | .non, .str _ => some false | .str _, .non => some false
  | .int _, .str _ => some false | .str _, .int _ => some false | .bl _, .str _ => some false | .str _, .bl _ => some false
  | _, _ => none
def cEq : R2 := fun x y H Q => match eqv x y with
  | some b => Q (.bl b) H
  | none => False
def cNe : R2 := fun x y H Q => match eqv x y with
  | some b => Q (.bl (!b)) H
  | none => False
def isNon : V → Bool
  | .non => true
  | _ => false
def cIs : R2 := fun x y H Q => match y with
  | .non => Q (.bl (isNon x)) H
  | _ => False
def cIsNot : R2 := fun x y H Q => match y with
  | .non => Q (.bl (!isNon x)) H
  | _ => False
def cNeg : V → Hp → VK → Prop := fun x H Q => match x with
  | .int i => Q (.int (-i)) H
  | _ => False
theorem eqv_scal {x y : V} {b : Bool} (h : eqv x y = some b) : scal x y = true ∧ decide (x = y) = b := by
  cases x <;> cases y <;> simp only [eqv, Option.some.injEq, reduceCtorEq] at h <;> subst h <;> simp [scal]
section
variable {X : Cx}
theorem c_add : OpR X (binaryOp .Add) cAdd := by
  intro pins s σ H x y v u Q I rx ry h
  unfold cAdd at h
  split at h
  · exact op_add pins s σ H _ _ v u Q I rx ry ⟨_, _, rfl, rfl, h⟩
  · exact op_add_str pins s σ H _ _ v u Q I rx ry ⟨_, _, rfl, rfl, h.1, h.2⟩
  · exact h.elim
theorem c_sub : OpR X (binaryOp .Sub) cSub := op_sub.mono fun x y H Q h => by
  unfold cSub at h
  split at h
  · exact ⟨_, _, rfl, rfl, h⟩
  · exact h.elim
theorem c_mul : OpR X (binaryOp .Mult) cMul := by
  intro pins s σ H x y v u Q I rx ry h
  unfold cMul at h
  split at h
  · exact op_mul pins s σ H _ _ v u Q I rx ry ⟨_, _, rfl, rfl, h.1, h.2⟩
  · rename_i z n
    obtain ⟨t, rfl⟩ := (show ∃ t, v = Value.str z t from rx)
    obtain ⟨t', rfl⟩ := (show ∃ t, u = Value.int n t from ry)
    obtain ⟨hz, hn, h⟩ := h
    refine SB.mul (mulOk_of 1000 16 hz (by omega) (by omega) (by decide) (by decide)) fun t2 k => ?_
    rcases hn with rfl | rfl
    · exact ⟨.str Str.empty, H, I.tok _, ⟨t2, rfl⟩, h⟩
    · exact ⟨.str z, H, I.tok _, ⟨t2, rfl⟩, h⟩
  · exact h.elim
theorem c_fdiv : OpR X (binaryOp .FloorDiv) cFdiv := op_fdiv.mono fun x y H Q h => by
  unfold cFdiv at h
  split at h
  · exact ⟨_, _, rfl, rfl, h.1, h.2⟩
  · exact h.elim
theorem c_mod : OpR X (binaryOp .Mod) cMod := op_mod.mono fun x y H Q h => by
  unfold cMod at h
  split at h
  · exact ⟨_, _, rfl, rfl, h.1, h.2⟩
  · exact h.elim
theorem c_pow : OpR X (binaryOp .Pow) cPow := op_pow.mono fun x y H Q h => by
  unfold cPow at h
  split at h
  · exact ⟨_, _, rfl, rfl, h.1, h.2⟩
  · exact h.elim
theorem c_cmp {op : CmpOp} {p : Int → Int → Bool} (h : OpR X (compareOp op) (rI0 fun i j => .bl (p i j))) : OpR X (compareOp op) (cCmp p) := h.mono fun x y H Q h => by
  unfold cCmp at h
  split at h
  · exact ⟨_, _, rfl, rfl, h⟩
  · exact h.elim
theorem c_lt : OpR X (compareOp .Lt) cLt := c_cmp op_lt
theorem c_le : OpR X (compareOp .LtE) cLe := c_cmp op_le
theorem c_gt : OpR X (compareOp .Gt) cGt := c_cmp op_gt
theorem c_eq : OpR X (compareOp .Eq) cEq := op_eq.mono fun x y H Q h => by
  unfold cEq at h
  split at h
  · rename_i b e
    obtain ⟨e1, e2⟩ := eqv_scal e
    exact ⟨e1, by rw [e2]; exact h⟩
  · exact h.elim
theorem c_ne : OpR X (compareOp .NotEq) cNe := op_ne.mono fun x y H Q h => by
  unfold cNe at h
  split at h
  · rename_i b e
    obtain ⟨e1, e2⟩ := eqv_scal e
    exact ⟨e1, by rw [e2]; exact h⟩
  · exact h.elim
theorem isNon_dec (x : V) : decide (x = .non) = isNon x := by cases x <;> simp [isNon]
theorem c_isnot : OpR X (compareOp .IsNot) cIsNot := op_notN.mono fun x y H Q h => by
  unfold cIsNot at h
  split at h
  · exact ⟨rfl, by rw [isNon_dec]; exact h⟩
  · exact h.elim
theorem c_neg : UnR X (unaryOp .USub) cNeg := fun pins s σ H x v Q I rx h => by
  unfold cNeg at h
  split at h
  · exact un_neg pins s σ H _ v Q I rx ⟨_, rfl, h⟩
  · exact h.elim
end

end L2

namespace L2
open PySem PySem.Spec PyProof.Rows
/-! ### [a, b, ..][i]: the list is forgotten -/
def rIxM : R2 := fun x y H Q => match x, y with
  | .ref p, .int i => (match H p with
    | some (.lst xs) => (match atI xs i with
      | some v => Q v (rm H p)
      | none => False)
    | _ => False)
  | _, _ => False
section
variable {X : Cx} {es : List Expr} {e : Expr} {t : TA} {ti : TE} {pos p2 : Pos}
theorem ix_menu : IxR X rIxM := by
  intro value slice pins s σ H x y v u Q I rx ry h hsub
  unfold rIxM at h
  split at h
  case h_2 => exact h.elim
  rename_i p i
  split at h
  case h_2 => exact h.elim
  rename_i xs hp
  split at h
  case h_2 => exact h.elim
  rename_i v' ha
  have q := h
  refine thn (ix_list value slice pins s σ H _ _ v u (fun z H' => z = v' ∧ H' = H) I rx ry ⟨p, xs, i, v', rfl, rfl, SqL.of hp, ha, rfl, rfl⟩ hsub) fun u s' ⟨z, H', I', r, e1, e2⟩ => ?_
  subst e1 e2
  exact ⟨z, rm H' p, I'.rm (by rw [hp]; exact True.intro), r, q⟩
theorem pe_menu (ha : PA X es t) (hi : PE X e ti) (hs : PlainIx e) : PE X (.Subscript (.List es p2) e pos) (tOp rIxM (tLst t) ti) := pe_ix ix_menu (pe_lst ha) hi hs
end

/-! ### items, lengths, small built-ins -/
def cIx : R2 := fun x y H Q => match x, y with
  | .ref p, .int i => (match H p with
    | some (.lst xs) => (match atI xs i with
      | some v => Q v H
      | none => False)
    | some (.tup xs) => (match atI xs i with
      | some v => Q v H
      | none => False)
    | _ => False)
  | _, _ => False
def cLen : List V → Hp → VK → Prop := fun xs H Q => match xs with
  | [.ref p] => (match H p with
    | some (.lst ys) => Q (.int ys.length) H
    | some (.tup ys) => Q (.int ys.length) H
    | _ => False)
  | _ => False
/-- of a list that is read only (the script) -/
def cIxS (K : PySem.W.Frag) : R2 := fun x y H Q => match x, y with
  | .ref p, .int i => ∃ xs, SqL K H p xs ∧ (match atI xs i with
      | some v => Q v H
      | none => False)
  | _, _ => False
def cLenS (K : PySem.W.Frag) : List V → Hp → VK → Prop := fun xs H Q => match xs with
  | [.ref p] => ∃ ys, SqL K H p ys ∧ Q (.int ys.length) H
  | _ => False
def cAbs : List V → Hp → VK → Prop := fun xs H Q => match xs with
  | [.int i] => Q (.int (if i < 0 then -i else i)) H
  | _ => False
def cInt : List V → Hp → VK → Prop := fun xs H Q => match xs with
  | [.int i] => Q (.int i) H
  | [.bl k] => Q (.int (if k then 1 else 0)) H
  | _ => False
section
variable {X : Cx}
theorem c_ix : IxR X cIx := by
  intro value slice pins s σ H x y v u Q I rx ry h hsub
  unfold cIx at h
  split at h
  case h_2 => exact h.elim
  split at h
  · rename_i xs hp
    split at h
    case h_2 => exact h.elim
    rename_i v' ha
    exact ix_list value slice pins s σ H _ _ v u Q I rx ry ⟨_, xs, _, v', rfl, rfl, SqL.of hp, ha, h⟩ hsub
  · rename_i xs hp
    split at h
    case h_2 => exact h.elim
    rename_i v' ha
    exact ix_tup value slice pins s σ H _ _ v u Q I rx ry ⟨_, xs, _, v', rfl, rfl, SqT.of hp, ha, h⟩ hsub
  · exact h.elim
theorem c_ixS : IxR X (cIxS X.K) := by
  intro value slice pins s σ H x y v u Q I rx ry h hsub
  unfold cIxS at h
  split at h
  case h_2 => exact h.elim
  obtain ⟨xs, hp, h⟩ := h
  split at h
  case h_2 => exact h.elim
  rename_i v' ha
  exact ix_list value slice pins s σ H _ _ v u Q I rx ry ⟨_, xs, _, v', rfl, rfl, hp, ha, h⟩ hsub
theorem c_len : CallR X (.builtin "len") cLen := call_len_seq.mono fun xs H Q h => by
  unfold cLen at h
  split at h
  case h_2 => exact h.elim
  split at h
  · rename_i ys hp; exact ⟨_, ys, rfl, .inl (SqL.of hp), h⟩
  · rename_i ys hp; exact ⟨_, ys, rfl, .inr (SqT.of hp), h⟩
  · exact h.elim
theorem c_lenS : CallR X (.builtin "len") (cLenS X.K) := call_len_seq.mono fun xs H Q h => by
  unfold cLenS at h
  split at h
  case h_2 => exact h.elim
  obtain ⟨ys, hp, h⟩ := h
  exact ⟨_, ys, rfl, .inl hp, h⟩
theorem c_int : CallR X (.type "int") cInt := call_int1.mono fun xs H Q h => by
  unfold cInt at h
  split at h
  · exact .inl ⟨_, rfl, h⟩
  · exact .inr ⟨_, rfl, h⟩
  · exact h.elim
end
theorem cxOf_K {CX : CXT} {ca : Bool} {P : Program} {w : World} {K : PySem.W.Frag} {mg : Str → Option Value} {base : Heap} {N : List Str} {qual : Str} {scope : Scope} {f : Addr} {cd : Value} {A : Around} {outer : List Env} {s : Shared} {H : Hp} {E : XK} :
    (cxOf CX ca P w K mg base N qual scope f cd A outer s H E).K = K := rfl

/-! ### within an except suite -/
theorem exc_hnd {X : Cx} {a : Addr} : Exc (X.hnd a) (fun _ _ _ _ => False) := ⟨fun _ _ _ _ _ _ _ ⟨_, _, _, _, _, _, _, _, _, _, _, _, h⟩ => h, fun _ _ _ _ _ _ _ _ _ _ _ _ h => h, PassesOwn.never⟩
theorem Room.hnd {ca : Bool} {k : Nat} {A : Around} {v : Value} (r : Room ca k A) : Room false k (A.mark (some v)) := ⟨fun z => Bool.noConfusion z, r.dp, r.un⟩
end L2

/-! LI: isinstance, of caught own exceptions too. -/
namespace L2
open PySem PySem.Spec PyProof.Rows

/-- what isinstance wants of an own exception's class -/
structure KiE (K : PySem.W.Frag) (C : Addr) : Prop where
  ga : PySem.W.findIn K (.ref C) "__getattribute__" = some (some (.builtin "BaseException.__getattribute__"))
  gt : PySem.W.findIn K (.ref C) "__getattr__" = some none
  cl : PySem.W.findIn K (.ref C) "__class__" = some (some (.builtin "object.__class__"))
  hn : PySem.W.specialIn K (.builtin "object.__class__") "__get__" = some (some (.builtin "getset_descriptor.__get__"))
  tk : PySem.W.takesIn K (.builtin "object.__class__") = some true
  mb : PySem.W.mroIn K C (.type "BaseException") = some true
  mo : PySem.W.mroIn K C (.type "object") = some true
section
open Builtin Builtin.ObjectAttr Builtin.Getset_descriptor
variable {prog : Program} {w : World} {A : Around} {E : Value → Shared → Prop} {s : Shared} {K : PySem.W.Frag} {a C : Addr}
theorem KiE.cls (ki : KiE K C) : ∃ cd, PySem.W.clsIn K C = some cd := by
  have h := ki.mo
  unfold PySem.W.mroIn at h
  cases q : PySem.W.clsIn K C with
  | none => rw [q] at h; cases h
  | some cd => exact ⟨cd, rfl⟩
theorem xc_get {R : Result → Shared → Prop} {tp : Value} (X : K.In s.heap) (I : PySem.W.Looks (model prog w) s.heap (typeOf (.ref a)) (.ref C)) (ki : KiE K C) (h : R (.ok (.ret (.ref C))) s) :
    codeAny (model prog w) A (.call (.builtin "getset_descriptor.__get__") ⟨[.builtin "object.__class__", .ref a, tp], []⟩) R s := by
  obtain ⟨hh, g, dr, t, os⟩ := s
  have L1 := PySem.W.looks_mroIn (M := model prog w) X ki.mo
  refine codeAny_call_builtin PySem.W.KF.slot_gs.plain PySem.W.KF.entry_gs (PySem.W.KF.slot_gs.check _ _ _ _ _ _ _ _ PySem.W.KF.type_class (PySem.W.KF.args_gs _ _ _) ?_)
  unfold Builtin.«getset_descriptor.__get__» descrGet; rw [PySem.W.dga_obj]; refine wpAny_bind (wpAny_pure ?_)
  unfold descrGetter descrCheckInstance descrNameAndClass isInstance; simp only [PySem.W.KF.owner_class]; repeat lk
  refine ⟨Code.quiet_builtin _ (by decide +kernel), codeAny_builtin PySem.W.KF.entry_class ?_⟩; unfold Builtin.«object.__class__» shownTypeOf; repeat lk
  exact h
theorem xc_entry {tk : Tok} {Q : Fin → Shared → Prop} (X : K.In s.heap) (I : PySem.W.Looks (model prog w) s.heap (typeOf (.ref a)) (.ref C)) (ki : KiE K C) (h : Q (.done (.ret (.ref C))) s) :
    wpAny (model prog w) A (Builtin.«object.__getattribute__» ⟨[.ref a, .str "__class__" tk], []⟩) Q E s := by
  obtain ⟨hh, g, d, t, os⟩ := s
  have L1 : PySem.W.Looks (model prog w) hh (find (.ref a) (.ref C) "__class__") (.bind (.builtin "getset_descriptor.__get__") (.builtin "object.__class__")) := by
    have LA := PySem.W.looks_findIn (M := model prog w) X ki.cl
    have LB : PySem.W.Looks (model prog w) hh (getOf (some (.builtin "object.__class__"))) (some (.builtin "getset_descriptor.__get__")) := PySem.W.looks_specialIn X ki.hn
    have LC := PySem.W.looks_takesIn (M := model prog w) X ki.tk
    refine LA.andThen (LB.andThen ?_)
    exact (show PySem.W.Looks (model prog w) hh (dataDescriptor? (some (.builtin "object.__class__")) (some (.builtin "getset_descriptor.__get__"))) (some (.builtin "getset_descriptor.__get__", .builtin "object.__class__")) from LC.andThen .now).andThen (PySem.W.Looks.tag .now)
  unfold Builtin.«object.__getattribute__»
  refine wpAny_bind (m := slotArgs _ _ _) (wpAny_pure ?_)
  refine wpAny_bind (m := attrName _) (wpAny_pure ?_)
  refine wpAny_bind (I.at (wpAny_bind (L1.at ?_)))
  show wpAny _ _ (bindTo _ _ _ _) _ _ _
  show wpAny _ _ (holding [_] (call _ [_, .ref a, .ref C]) >>= ret) _ _ _
  exact wpAny_bind (wpAny_holding (wpAny_call (xc_get X I ki (wpAny_pure h))))
theorem xc_call {tk : Tok} {R : Result → Shared → Prop} (X : K.In s.heap) (I : PySem.W.Looks (model prog w) s.heap (typeOf (.ref a)) (.ref C)) (ki : KiE K C) (h : R (.ok (.ret (.ref C))) s) :
    codeAny (model prog w) A (.call (.builtin "BaseException.__getattribute__") ⟨[.ref a, .str "__class__" tk], []⟩) R s := by
  obtain ⟨hh, g, d, t, os⟩ := s
  have L1 := PySem.W.looks_mroIn (M := model prog w) X ki.mb
  refine codeAny_call_builtin PySem.F.attr_ValueError.ga.plain PySem.F.entry_bexc_ga ?_
  have hk : builtinKind "BaseException.__getattribute__" = some .slot := by decide +kernel
  have hsplit : splitId "BaseException.__getattribute__" = some ("BaseException", "__getattribute__") := by decide +kernel
  have ha := PySem.F.args_bexc_ga (.ref a) (.str "__class__" tk)
  simp only [checkBuiltinCall, hk, hsplit]
  refine wpAny_bind (wpAny_bind (I.at (L1.at ?_)))
  rw [if_neg (by decide)]
  unfold argsOk at ha
  exact wpAny_of_eq (a := ()) ha (xc_entry X I ki h)
theorem xc_attr {Q : Option Value → Shared → Prop} (X : K.In s.heap) (I : PySem.W.Looks (model prog w) s.heap (typeOf (.ref a)) (.ref C)) (ki : KiE K C) (h : Q (some (.ref C)) { s with toks := s.toks + 1 }) :
    wpAny (model prog w) A (getAttr? (.ref a) "__class__") Q E s := by
  obtain ⟨hh, g, d, t, os⟩ := s
  have L1 := PySem.W.looks_findIn (M := model prog w) X ki.ga
  have L2 := PySem.W.looks_findIn (M := model prog w) X ki.gt
  unfold getAttr? getAttrBy? getAttrBy
  refine wpAny_bind (wpAny_mkText (wpAny_bind (wpAny_attempt (wpAny_holding (wpAny_bind (I.at (wpAny_bind (L1.at ?_))))))))
  show wpAny _ _ (getAttrByItsOwn _ _ _ _ _ _) _ _ _
  unfold getAttrByItsOwn
  refine wpAny_bind (m := hookBefore _) ?_
  show wpAny _ _ (typeLookup (.ref C) "__getattr__") _ _ _
  refine L2.at (wpAny_bind (wpAny_attempt (wpAny_holding ?_)))
  show wpAny _ _ (boundAndCalled _ _ _) _ _ _
  unfold boundAndCalled
  refine wpAny_bind (wpAny_of_eq (PySem.F.attr_ValueError.ga.bind _) ?_)
  refine wpAny_call (xc_call X I ki ?_)
  exact PySem.W.handed_on rfl (wpAny_pure h)
theorem kitx_exc (ki : KiE K C) : PySem.W.KitX K (.ref a) (.ref C) (fun h => ∃ o vs, h.get? a = some o ∧ o.cls = .ref C ∧ o.data = .fields vs) where
  ty := fun M h _ p => ty_looks p
  it := fun _ _ X _ => by
    obtain ⟨cd, hc⟩ := ki.cls
    unfold PySem.W.clsIn at hc
    split at hc
    · rename_i c' d' cd' sl' ho
      intro A' Q' E' s' k q; unfold isType loadHead; exact wpAny_bind (wpAny_loadPart (k _ _ (X _ _ ho)) (wpAny_pure q))
    · cases hc
  ne := fun h tp dd its n sl X htp => by
    obtain ⟨cd, hc⟩ := ki.cls
    refine Bool.eq_false_iff.mpr fun q => ?_
    have e : C = tp := Value.ref.inj (beq_iff_eq.mp q)
    subst e
    unfold PySem.W.clsIn at hc
    split at hc
    · rename_i c' d' cd' sl' ho; have z := (X _ _ ho).symm.trans htp; cases z
    · cases hc
  ca := fun X p k => xc_attr X (ty_looks p) ki k
end

/-- what isinstance wants of an own class -/
structure KiI (K : PySem.W.Frag) (C : Addr) : Prop where
  cl : Cls K C
  ha : PySem.W.findIn K (.ref C) "__class__" = some (some (.builtin "object.__class__"))
  hn : PySem.W.specialIn K (.builtin "object.__class__") "__get__" = some (some (.builtin "getset_descriptor.__get__"))
  tk : PySem.W.takesIn K (.builtin "object.__class__") = some true
  hm : PySem.W.mroIn K C (.type "object") = some true
/-- the type of a value -/
def tyo (H : Hp) : V → Option Value
  | .non => some (.type "NoneType")
  | .bl _ => some (.type "bool")
  | .int _ => some (.type "int")
  | .str _ => some (.type "str")
  | .ref a => match H a with
    | some (.lst _) => some (.type "list")
    | some (.frz _ (.lst _)) => some (.type "list")
    | some (.tup _) => some (.type "tuple")
    | some (.dK _) => some (.type "dict")
    | some (.ins C _ _) => some (.ref C)
    | some (.exc c) => some c
    | _ => none
  | _ => none
def OkTy (K : PySem.W.Frag) (H : Hp) : V → Prop
  | .ref a => match H a with
    | some (.ins C _ _) => KiI K C
    | some (.exc c) => ∃ C, c = .ref C ∧ KiE K C
    | _ => True
  | _ => True
def kitV (K : PySem.W.Frag) (t : Value) : V → Option Bool
  | .ty n => PySem.W.kitOne K t (.type n)
  | .ref C => PySem.W.kitOne K t (.ref C)
  | _ => none
def rIsi (K : PySem.W.Frag) : List V → Hp → VK → Prop := fun xs H Q => match xs with
  | [x, c] => (match tyo H x with
    | some t => OkTy K H x ∧ (match kitV K t c with
      | some b => Q (.bl b) H
      | none => False)
    | none => False)
  | _ => False
theorem call_isi {X : Cx} : CallR X (.builtin "isinstance") (rIsi X.K) := by
  intro pins s σ H xs us Q I r h
  unfold rIsi at h
  split at h
  case h_2 => exact h.elim
  rename_i x c
  obtain ⟨u, w', rfl, rx, rc⟩ := vals2 r
  split at h
  case h_2 => exact h.elim
  rename_i t ht
  obtain ⟨ok, h⟩ := h
  split at h
  case h_2 => exact h.elim
  rename_i b hk
  have q := h
  have hc : PySem.W.kitOne X.K t w' = some b := by
    cases c <;> first | (cases (show w' = Value.type _ from rc); exact hk) | (cases (show w' = Value.ref _ from rc); exact hk) | cases hk
  have fin : ∀ tk, EP X pins σ Q (.bool b) { s with toks := tk } := fun tk => ⟨.bl b, H, I.tok tk, rfl, q⟩
  cases x with
  | non => cases ht; exact isinst_ok I rx .non hc fin
  | bl y => cases ht; exact isinst_ok I rx (.bl y) hc fin
  | int i => cases ht; exact isinst_ok I rx (.int i) hc fin
  | str y => cases ht; exact isinst_ok I rx (.str y) hc fin
  | byt y => cases ht
  | flt y => cases ht
  | ty n => cases ht
  | ref a =>
    unfold tyo at ht
    unfold OkTy at ok
    dsimp only at ht ok
    cases e : H a with
    | none => rw [e] at ht; cases ht
    | some o =>
      rw [e] at ht ok
      cases o with
      | lst xs => cases ht; exact isinst_ok I rx (.lst e) hc fin
      | tup xs => cases ht; exact isinst_ok I rx (.tup e) hc fin
      | dK kvs => cases ht; exact isinst_ok I rx (.dK e) hc fin
      | ins C dx fs => cases ht; exact isinst_ok I rx (.ins e ok.cl ok.ha ok.hn ok.tk ok.hm) hc fin
      | frz ob u =>
        cases u with
        | lst xs => cases ht; exact isinst_ok I rx (.frz e) hc fin
        | _ => cases ht
      | exc c =>
        cases ht
        obtain ⟨C, rfl, ki⟩ := ok
        cases (show u = Value.ref a from rx)
        exact PySem.W.kia_one (kitx_exc ki) I.kIn (show ObjOk X.prog X.w H s.heap a (.exc (.ref C)) from I.hok a _ e) hc (fun z => nomatch z) fin
      | _ => cases ht
theorem sz0 : (0 ≤ sizeLine) = True := eq_true (by decide)
theorem sz1 : (1 ≤ sizeLine) = True := eq_true (by decide)
theorem sz2 : (2 ≤ sizeLine) = True := eq_true (by decide)
theorem sz3 : (3 ≤ sizeLine) = True := eq_true (by decide)
theorem sz4 : (4 ≤ sizeLine) = True := eq_true (by decide)
theorem sz5 : (5 ≤ sizeLine) = True := eq_true (by decide)
theorem sz6 : (6 ≤ sizeLine) = True := eq_true (by decide)
theorem sz7 : (7 ≤ sizeLine) = True := eq_true (by decide)
theorem sz8 : (8 ≤ sizeLine) = True := eq_true (by decide)
theorem sz9 : (9 ≤ sizeLine) = True := eq_true (by decide)
theorem sz10 : (10 ≤ sizeLine) = True := eq_true (by decide)
theorem sz11 : (11 ≤ sizeLine) = True := eq_true (by decide)
theorem sz12 : (12 ≤ sizeLine) = True := eq_true (by decide)
theorem sz13 : (13 ≤ sizeLine) = True := eq_true (by decide)
theorem sz14 : (14 ≤ sizeLine) = True := eq_true (by decide)
theorem sz15 : (15 ≤ sizeLine) = True := eq_true (by decide)
theorem sz16 : (16 ≤ sizeLine) = True := eq_true (by decide)
theorem sz17 : (17 ≤ sizeLine) = True := eq_true (by decide)
theorem sz18 : (18 ≤ sizeLine) = True := eq_true (by decide)
theorem sz19 : (19 ≤ sizeLine) = True := eq_true (by decide)
theorem sz20 : (20 ≤ sizeLine) = True := eq_true (by decide)
theorem sz21 : (21 ≤ sizeLine) = True := eq_true (by decide)
theorem sz22 : (22 ≤ sizeLine) = True := eq_true (by decide)
theorem sz23 : (23 ≤ sizeLine) = True := eq_true (by decide)
theorem sz24 : (24 ≤ sizeLine) = True := eq_true (by decide)
theorem sz25 : (25 ≤ sizeLine) = True := eq_true (by decide)
theorem sz26 : (26 ≤ sizeLine) = True := eq_true (by decide)
theorem sz27 : (27 ≤ sizeLine) = True := eq_true (by decide)
theorem sz28 : (28 ≤ sizeLine) = True := eq_true (by decide)
theorem sz29 : (29 ≤ sizeLine) = True := eq_true (by decide)
theorem sz30 : (30 ≤ sizeLine) = True := eq_true (by decide)
theorem sz31 : (31 ≤ sizeLine) = True := eq_true (by decide)
theorem sz32 : (32 ≤ sizeLine) = True := eq_true (by decide)
theorem sz33 : (33 ≤ sizeLine) = True := eq_true (by decide)
theorem sz34 : (34 ≤ sizeLine) = True := eq_true (by decide)
theorem sz35 : (35 ≤ sizeLine) = True := eq_true (by decide)
theorem sz36 : (36 ≤ sizeLine) = True := eq_true (by decide)
theorem sz37 : (37 ≤ sizeLine) = True := eq_true (by decide)
theorem sz38 : (38 ≤ sizeLine) = True := eq_true (by decide)
theorem sz39 : (39 ≤ sizeLine) = True := eq_true (by decide)
theorem sz40 : (40 ≤ sizeLine) = True := eq_true (by decide)
theorem sz41 : (41 ≤ sizeLine) = True := eq_true (by decide)
theorem sz42 : (42 ≤ sizeLine) = True := eq_true (by decide)
theorem sz43 : (43 ≤ sizeLine) = True := eq_true (by decide)
theorem sz44 : (44 ≤ sizeLine) = True := eq_true (by decide)
theorem sz45 : (45 ≤ sizeLine) = True := eq_true (by decide)
theorem sz46 : (46 ≤ sizeLine) = True := eq_true (by decide)
theorem sz47 : (47 ≤ sizeLine) = True := eq_true (by decide)
theorem sz48 : (48 ≤ sizeLine) = True := eq_true (by decide)
theorem sz49 : (49 ≤ sizeLine) = True := eq_true (by decide)
theorem sz50 : (50 ≤ sizeLine) = True := eq_true (by decide)
theorem sz51 : (51 ≤ sizeLine) = True := eq_true (by decide)
theorem sz52 : (52 ≤ sizeLine) = True := eq_true (by decide)
theorem sz53 : (53 ≤ sizeLine) = True := eq_true (by decide)
theorem sz54 : (54 ≤ sizeLine) = True := eq_true (by decide)
theorem sz55 : (55 ≤ sizeLine) = True := eq_true (by decide)
theorem sz56 : (56 ≤ sizeLine) = True := eq_true (by decide)
theorem sz57 : (57 ≤ sizeLine) = True := eq_true (by decide)
theorem sz58 : (58 ≤ sizeLine) = True := eq_true (by decide)
theorem sz59 : (59 ≤ sizeLine) = True := eq_true (by decide)
theorem sz60 : (60 ≤ sizeLine) = True := eq_true (by decide)
theorem ofs_inj {a b : String} : (Str.ofString a = Str.ofString b) = (a = b) := by
  refine propext ⟨fun h => ?_, fun h => by rw [h]⟩
  rw [Str.ofString_eq_toList, Str.ofString_eq_toList] at h
  have h1 : (a.toList.map Char.toNat).toArray = (b.toList.map Char.toNat).toArray := congrArg Str.cps h
  have h2 : a.toList.map Char.toNat = b.toList.map Char.toNat := congrArg Array.toList h1
  have h3 : a.toList = b.toList := by
    refine (List.map_inj_right fun x y e => ?_).mp h2
    exact Char.ext (UInt32.toNat_inj.mp e)
  exact String.toList_inj.mp h3
theorem ofs_app (a b : String) : Str.ofString a ++ Str.ofString b = Str.ofString (a ++ b) := by
  rw [Str.ofString_eq_toList, Str.ofString_eq_toList, Str.ofString_eq_toList]
  refine congrArg Str.mk ?_
  simp
theorem emp_ofs : Str.empty = Str.ofString "" := by decide +kernel
theorem exc_rt {H : Hp} {a : Addr} {c : Value} {P : Prop} : (upd H a (.exc c) a = some (.exc c) ∧ P) = P := by rw [upd_same]; simp
end L2

/-! LW: argument lists without stars, looked at once and for all. -/
namespace L2
open PySem PySem.Spec PyProof.Rows
def notStar : Expr → Bool
  | .Starred _ _ => false
  | _ => true
theorem star_ns {e : Expr} {rest : List Expr} {env : Env} (h : notStar e = true) : starEach (e :: rest) env = (false, eval e env) :: starEach rest env := by
  cases e <;> first | rfl | cases h
theorem star_any {env : Env} {pos : Pos} : ∀ {es : List Expr}, es.all notStar = true → (backTo pos (starEach es env)).any (·.1) = false
  | [], _ => rfl
  | e :: es, h => by
    rw [List.all_cons, Bool.and_eq_true] at h
    rw [star_ns h.1]
    show (false || (backTo pos (starEach es env)).any (·.1)) = false
    rw [star_any h.2]; rfl
section
variable {X : Cx} {ca : Bool} {k : Nat} {f C : Addr} {fd : FuncData} {ps : List Str} {sp : Sp} {E : St → XK} {x m : Str} {p pos apos np cpos : Pos} {e o : Expr} {es : List Expr} {te ta : TE} {t : TA} {id T : String} {r : List V → Hp → VK → Prop}
theorem pa_c (ha : PE X e te) (hr : PA X es t) (h : notStar e = true := by rfl) : PA X (e :: es) (tCons te t) := pa_cons ha hr (star_ns h)
theorem pe_callF (F : FnOk X.prog X.w X.K X.mg X.base (CXE X.prog X.w) ca k f fd ps sp) (hr : Room ca k X.A) (hg : Gl X x) (hm : X.mg x = some (.ref f)) (hk : PySem.W.keepIn X.K (.ref f) = true) (hb : Binds X.K fd ps []) (hx : Exc X E)
    (ha : PA X (e :: es) t) (hdb : (x == ("__debug__" : Str)) = false := by decide) (h : (e :: es).all notStar = true := by rfl) : PE X (.Call (.Name x p) (e :: es) [] pos) (tCallE sp E t) :=
  pe_callE F hr hg hm hk hb hx ha hdb (star_ns (by rw [List.all_cons, Bool.and_eq_true] at h; exact h.1)) (star_any (by rw [List.all_cons, Bool.and_eq_true] at h; exact h.2))
theorem pe_makeF (M : Mk X.K C f) (F : FnOk X.prog X.w X.K X.mg X.base (CXE X.prog X.w) ca k f fd ps sp) (hr : Room ca (k + 1) X.A) (hg : Gl X x) (hm : X.mg x = some (.ref C)) (hb : Binds X.K fd ps []) (hx : Exc X E)
    (ha : PA X (e :: es) t) (hdb : (x == ("__debug__" : Str)) = false := by decide) (h : (e :: es).all notStar = true := by rfl) : PE X (.Call (.Name x p) (e :: es) [] pos) (tMakeE C sp E t) :=
  pe_makeE M F hr hg hm hb hx ha hdb (star_ns (by rw [List.all_cons, Bool.and_eq_true] at h; exact h.1)) (star_any (by rw [List.all_cons, Bool.and_eq_true] at h; exact h.2))
theorem ps_raiseF (hx : Exc X E) (hg : Gl X x) (hm : X.mg x = some (.ref C)) (hq : ExcC X.K C) (hc : X.calm = true) (ha : PA X (e :: es) t) (h : (e :: es).all notStar = true := by rfl) (hdb : (x == ("__debug__" : Str)) = false := by decide) :
    PS X (.Raise (some (.Call (.Name x np) (e :: es) [] cpos)) none pos) (tRaise C E t) :=
  ps_raise hx hg hm hq hc ha (star_ns (by rw [List.all_cons, Bool.and_eq_true] at h; exact h.1)) (star_any (by rw [List.all_cons, Bool.and_eq_true] at h; exact h.2)) hdb
theorem pe_callBF (hc : CallR X (.builtin id) r) (hg : Gl X x) (hm : X.mg x = none) (hv : bootBuiltins x = some (.builtin id)) (ha : PA X (e :: es) t) (hn : x ≠ "__name__" := by decide) (hdb : (x == ("__debug__" : Str)) = false := by decide)
    (h : (e :: es).all notStar = true := by rfl) : PE X (.Call (.Name x p) (e :: es) [] pos) (tCB r t) :=
  pe_callB hc hg hm hv ha hn hdb (star_ns (by rw [List.all_cons, Bool.and_eq_true] at h; exact h.1)) (star_any (by rw [List.all_cons, Bool.and_eq_true] at h; exact h.2))
theorem pe_callTyF (hc : CallR X (.type T) r) (hg : Gl X x) (hm : X.mg x = none) (hv : bootBuiltins x = some (.type T)) (ha : PA X (e :: es) t) (hn : x ≠ "__name__" := by decide) (hdb : (x == ("__debug__" : Str)) = false := by decide)
    (h : (e :: es).all notStar = true := by rfl) : PE X (.Call (.Name x p) (e :: es) [] pos) (tCB r t) :=
  pe_callTy hc hg hm hv ha hn hdb (star_ns (by rw [List.all_cons, Bool.and_eq_true] at h; exact h.1)) (star_any (by rw [List.all_cons, Bool.and_eq_true] at h; exact h.2))
end
end L2

/-! LV: loops, fields, methods, lists and dicts: readings that compute. -/
namespace L2
open PySem PySem.Spec PyProof.Rows

/-! ### loops -/
/-- what a loop wants, behind its iterable -/
def LoopW (J : It) (g : TG) (tb : TS) (D : Ends) (σ : St) (H1 : Hp) : Prop := ∃ W : Nat → Nat → St → Hp → Prop, (∃ m, W 0 m σ H1) ∧ ∀ i m σ H, W i m σ H →
  (J.stop i H ∧ D.nx σ H) ∨ (J.go i H ∧ ∃ N : St → Hp → Prop, (∀ σ' H', N σ' H' → ∃ m', m' < m ∧ W (i + 1) m' σ' H') ∧ ∀ x H', J.yld i H x H' → g x σ H' fun σ2 H2 => tb { D with nx := N, ct := N, bk := D.nx } σ2 H2)
theorem tFor_eq {wi : TI} {g : TG} {tb : TS} : tFor wi g tb = fun D σ H => wi σ H fun J H1 => LoopW J g tb D σ H1 := rfl
theorem LoopW.range {lo : Int} {n : Nat} {g : TG} {tb : TS} {D : Ends} {σ : St} {H : Hp} (Pv : Nat → St → Hp → Prop) (h0 : Pv 0 σ H)
    (hs : ∀ i σ H, i < n → Pv i σ H → g (.int (lo + i)) σ H fun σ2 H2 => tb { D with nx := Pv (i + 1), ct := Pv (i + 1), bk := D.nx } σ2 H2) (hd : ∀ σ H, Pv n σ H → D.nx σ H) : LoopW (Itr lo n) g tb D σ H :=
  for_range Pv h0 hs hd
theorem LoopW.list {K : PySem.W.Frag} {a : Addr} {xs : List V} {g : TG} {tb : TS} {D : Ends} {σ : St} {H : Hp} (Pv : Nat → St → Hp → Prop) (h0 : Pv 0 σ H) (hl : ∀ i σ H, i ≤ xs.length → Pv i σ H → SqL K H a xs)
    (hs : ∀ i x σ H, xs[i]? = some x → Pv i σ H → g x σ H fun σ2 H2 => tb { D with nx := Pv (i + 1), ct := Pv (i + 1), bk := D.nx } σ2 H2) (hd : ∀ σ H, Pv xs.length σ H → D.nx σ H) : LoopW (Itl K a) g tb D σ H :=
  for_list Pv h0 hl hs hd
theorem LoopW.tup {K : PySem.W.Frag} {a : Addr} {xs : List V} {g : TG} {tb : TS} {D : Ends} {σ : St} {H : Hp} (Pv : Nat → St → Hp → Prop) (h0 : Pv 0 σ H) (hl : ∀ i σ H, i ≤ xs.length → Pv i σ H → SqT K H a xs)
    (hs : ∀ i x σ H, xs[i]? = some x → Pv i σ H → g x σ H fun σ2 H2 => tb { D with nx := Pv (i + 1), ct := Pv (i + 1), bk := D.nx } σ2 H2) (hd : ∀ σ H, Pv xs.length σ H → D.nx σ H) : LoopW (Itt K a) g tb D σ H :=
  for_tup Pv h0 hl hs hd

/-! ### a part of a list by a written index -/
theorem atI_cast {α : Type} {xs : List α} {j : Nat} : atI xs (j : Int) = xs[j]? := by
  cases h : xs[j]? with
  | some v => exact atI_nat h
  | none =>
    have hl : xs.length ≤ j := List.getElem?_eq_none_iff.mp h
    unfold atI ixN
    rw [if_pos (by omega), if_neg (by omega)]
    rfl
theorem atI_0 {α : Type} {xs : List α} : atI xs 0 = xs[0]? := atI_cast (j := 0)
theorem atI_1 {α : Type} {xs : List α} : atI xs 1 = xs[1]? := atI_cast (j := 1)
theorem atI_2 {α : Type} {xs : List α} : atI xs 2 = xs[2]? := atI_cast (j := 2)
theorem atI_3 {α : Type} {xs : List α} : atI xs 3 = xs[3]? := atI_cast (j := 3)
theorem atI_4 {α : Type} {xs : List α} : atI xs 4 = xs[4]? := atI_cast (j := 4)
theorem atI_5 {α : Type} {xs : List α} : atI xs 5 = xs[5]? := atI_cast (j := 5)
theorem atI_6 {α : Type} {xs : List α} : atI xs 6 = xs[6]? := atI_cast (j := 6)
theorem atI_7 {α : Type} {xs : List α} : atI xs 7 = xs[7]? := atI_cast (j := 7)
theorem atI_8 {α : Type} {xs : List α} : atI xs 8 = xs[8]? := atI_cast (j := 8)
theorem atI_9 {α : Type} {xs : List α} : atI xs 9 = xs[9]? := atI_cast (j := 9)
theorem atI_10 {α : Type} {xs : List α} : atI xs 10 = xs[10]? := atI_cast (j := 10)
theorem atI_11 {α : Type} {xs : List α} : atI xs 11 = xs[11]? := atI_cast (j := 11)
theorem atI_12 {α : Type} {xs : List α} : atI xs 12 = xs[12]? := atI_cast (j := 12)
theorem ixN_in {n : Nat} {i : Int} (h0 : 0 ≤ i) (h1 : i < n) : ixN n i = some i.toNat := by
  unfold ixN
  rw [if_pos h0, if_pos h1]
theorem atI_in {α : Type} {xs : List α} {i : Int} (h0 : 0 ≤ i) (h1 : i < xs.length) : atI xs i = xs[i.toNat]? := by
  unfold atI
  rw [ixN_in h0 h1]; rfl

/-! ### fields and methods -/
def cFld (K : PySem.W.Frag) (ta : TE) (f : Str) : TE := fun σ H Q => ta σ H fun x H1 => match x with
  | .ref a => (match H1 a with
    | some (.ins C _ fs) => Cls K C ∧ NoAttr K C f ∧ (match fs.lookup f with
      | some v => Q v H1
      | none => False)
    | _ => False)
  | _ => False
def cSFld (K : PySem.W.Frag) (ta tv : TE) (f : Str) : TS := fun D σ H => tv σ H fun y H1 => ta σ H1 fun x H2 => match x with
  | .ref a => (match H2 a with
    | some (.ins C dx fs) => Cls K C ∧ NoAttr K C f ∧ fs.length < 1000 ∧ D.nx σ (upd H2 a (.ins C dx (putF f y fs)))
    | _ => False)
  | _ => False
def cMethE (C : Addr) (m : Str) (sp : Sp) (E : St → XK) (ta : TE) (t : TA) : TE := fun σ H Q => ta σ H fun x H1 => match x with
  | .ref a => (match H1 a with
    | some (.ins C' _ fs) => C' = C ∧ fs.lookup m = none ∧ t σ H1 fun vs H2 => sp (x :: vs) H2 Q (E σ)
    | _ => False)
  | _ => False
/-! ### lists -/
def cSetL : TSet := fun o i v H Q => match o, i with
  | .ref p, .int k => (match H p with
    | some (.lst xs) => (match ixN xs.length k with
      | some j => Q (upd H p (.lst (xs.set j v)))
      | none => False)
    | _ => False)
  | _, _ => False
def cRep : R2 := fun x y H Q => match x, y with
  | .ref l, .int k => (match H l with
    | some (.lst xs) => -(2 ^ 63) ≤ k ∧ k < 2 ^ 63 ∧ xs.length * k.toNat ≤ sizeLine ∧ ∀ p, H p = none → Q (.ref p) (upd H p (.lst (List.replicate k.toNat xs).flatten))
    | _ => False)
  | _, _ => False
def cSl : V → Option Int → Option Int → Hp → VK → Prop := fun x lo hi H Q => match x with
  | .ref a => (match H a with
    | some (.lst xs) => ∀ p, H p = none → Q (.ref p) (upd H p (.lst (cutV xs lo hi)))
    | _ => False)
  | _ => False
def cSlS (K : PySem.W.Frag) : V → Option Int → Option Int → Hp → VK → Prop := fun x lo hi H Q => match x with
  | .ref a => ∃ xs, SqL K H a xs ∧ ∀ p, H p = none → Q (.ref p) (upd H p (.lst (cutV xs lo hi)))
  | _ => False
def cPart (t : TE) : TO := fun σ H Q => t σ H fun x H1 => match x with
  | .int i => Q (some i) H1
  | _ => False
def cAppend : V → List V → Hp → VK → Prop := fun x vs H Q => match x, vs with
  | .ref l, [y] => (match H l with
    | some (.lst xs) => xs.length < sizeLine ∧ Q .non (upd H l (.lst (xs ++ [y])))
    | _ => False)
  | _, _ => False
def cMin2 : List V → Hp → VK → Prop := fun xs H Q => match xs with
  | [.int i, .int j] => Q (.int (if j < i then j else i)) H
  | _ => False
def cMax2 : List V → Hp → VK → Prop := fun xs H Q => match xs with
  | [.int i, .int j] => Q (.int (if i < j then j else i)) H
  | _ => False
/-- the type of a list's method's owner -/
def cBM (r : V → List V → Hp → VK → Prop) (to : TE) (t : TA) : TE := fun σ H Q => to σ H fun x H1 => match x with
  | .ref a => (match H1 a with
    | some (.lst _) => t σ H1 fun xs H2 => r x xs H2 Q
    | _ => False)
  | _ => False
/-! ### dicts by whole numbers and texts -/
def keyV : V → Option Key
  | .int n => some (.inl n)
  | .str x => some (.inr x)
  | _ => none
def cDGet2 (td ty tx : TE) : TE := fun σ H Q => td σ H fun x H1 => match x with
  | .ref a => (match H1 a with
    | some (.dK _) => ty σ H1 fun y H2 => tx σ H2 fun z H3 => (match H3 a, keyV y with
      | some (.dK kvs), some k => Q ((valV kvs k).getD z) H3
      | _, _ => False)
    | _ => False)
  | _ => False
def cDGet (td ty : TE) : TE := fun σ H Q => td σ H fun x H1 => ty σ H1 fun y H2 => match x with
  | .ref a => (match H2 a, keyV y with
    | some (.dK kvs), some k => (match valV kvs k with
      | some v => Q v H2
      | none => False)
    | _, _ => False)
  | _ => False
def cDPut (td ty tv : TE) : TS := fun D σ H => tv σ H fun v H1 => td σ H1 fun x H2 => ty σ H2 fun y H3 => match x with
  | .ref a => (match H3 a, keyV y with
    | some (.dK kvs), some k => kvs.length < sizeLine ∧ D.nx σ (upd H3 a (.dK (putK kvs k v)))
    | _, _ => False)
  | _ => False
section
variable {X : Cx} {e o i f' value : Expr} {f m : Str} {pos pos' apos cpos p2 : Pos} {ta tv td ty tx te : TE} {t : TA} {lo hi : Option Expr} {tl th : TO}
theorem PO.mono {e : Option Expr} {t t' : TO} (h : PO X e t) (k : ∀ σ H Q, t' σ H Q → t σ H Q) : PO X e t' := fun pins s σ H Q I q => h pins s σ H Q I (k _ _ _ q)
theorem SlR.mono {r r' : V → Option Int → Option Int → Hp → VK → Prop} (h : SlR X r) (k : ∀ x lo hi H Q, r' x lo hi H Q → r x lo hi H Q) : SlR X r' := fun pins s σ H x v vl vu lo hi sl Q I rx hs pl pu q => h pins s σ H x v vl vu lo hi sl Q I rx hs pl pu (k _ _ _ _ _ q)
theorem c_fld (he : PE X e ta) (hb : attributeBase e f X.env (eval e X.env) = eval e X.env) : PE X (.Attribute e f pos) (cFld X.K ta f) := by
  intro pins s σ H Q I h
  refine attr_of hb (thn (he pins s σ H _ I h) fun u s1 ⟨x, H1, I1, rx, q⟩ => ?_)
  try dsimp only at q
  split at q
  case h_2 => exact q.elim
  rename_i a
  split at q
  case h_2 => exact q.elim
  rename_i C dx fs ea
  obtain ⟨c, n, q⟩ := q
  try dsimp only at q
  split at q
  case h_2 => exact q.elim
  rename_i v l
  obtain rfl : u = Value.ref a := rx
  exact getattr_ok I1 ea c n l fun u' s2 I2 ru => ⟨v, H1, I2, ru, q⟩
theorem c_sfld (ha : PE X o ta) (hv : PE X value tv) (hs : swapsWith value (some (.Attribute o f pos')) pos.line X.env = pure false) : PS X (.Assign [.Attribute o f pos'] value pos) (cSFld X.K ta tv f) := by
  intro pins s σ H D I h
  refine plainObj_wpAny_Assign_Attribute (thn (hv pins s σ H _ I h) fun u s1 ⟨y, H1, I1, ry, q⟩ => thn (ha pins s1 σ H1 _ I1 q) fun ov s2 ⟨x, H2, I2, rx, q2⟩ => ?_) hs
  try dsimp only at q2
  split at q2
  case h_2 => exact q2.elim
  rename_i a
  split at q2
  case h_2 => exact q2.elim
  rename_i C dx fs ea
  obtain ⟨c, n, l, q2⟩ := q2
  obtain rfl : ov = Value.ref a := rx
  exact setattr_ok I2 ea c n l ry fun s3 I3 => ⟨σ, _, I3, q2⟩
theorem c_set : PSet X cSetL := by
  intro pins s σ H o i v ov iv u Q I ro ri rv h
  unfold cSetL at h
  split at h
  case h_2 => exact h.elim
  split at h
  case h_2 => exact h.elim
  rename_i xs hp
  split at h
  case h_2 => exact h.elim
  rename_i j hj
  exact set_list pins s σ H _ _ v ov iv u Q I ro ri rv ⟨_, xs, _, j, rfl, rfl, hp, hj, h⟩
theorem c_rep : OpR X (binaryOp .Mult) cRep := op_rep.mono fun x y H Q h => by
  unfold cRep at h
  split at h
  case h_2 => exact h.elim
  split at h
  case h_2 => exact h.elim
  rename_i xs hp
  exact ⟨_, _, xs, rfl, rfl, hp, h.1, h.2.1, h.2.2.1, h.2.2.2⟩
theorem c_sl : SlR X cSl := sl_list.mono fun x lo hi H Q h => by
  unfold cSl at h
  split at h
  case h_2 => exact h.elim
  split at h
  case h_2 => exact h.elim
  rename_i xs hp
  exact ⟨_, xs, rfl, SqL.of hp, h⟩
theorem c_part (h : PE X e te) : PO X (some e) (cPart te) := by
  intro pins s σ H Q I hw
  rw [evalPart_some]
  refine thn (h pins s σ H _ I hw) fun u s1 ⟨x, H1, I1, r1, q1⟩ => ?_
  try dsimp only at q1
  split at q1
  case h_2 => exact q1.elim
  rename_i i
  obtain ⟨t, rfl⟩ := r1
  exact ⟨some i, H1, I1, .int i t, q1⟩
theorem c_append : MtM X "list.append" cAppend := fun pins s σ H x xs v us Q I rx rxs h => by
  unfold cAppend at h
  split at h
  case h_2 => exact h.elim
  split at h
  case h_2 => exact h.elim
  rename_i ys hp
  exact mt_append pins s σ H _ _ v us Q I rx rxs ⟨_, ys, _, rfl, rfl, hp, h.1, h.2⟩
theorem c_min2 (hc : X.calm = true) : CallR X (.builtin "min") cMin2 := (call_min2 hc).mono fun xs H Q h => by
  unfold cMin2 at h
  split at h
  · exact ⟨_, _, rfl, h⟩
  · exact h.elim
theorem c_max2 (hc : X.calm = true) : CallR X (.builtin "max") cMax2 := (call_max2 hc).mono fun xs H Q h => by
  unfold cMax2 at h
  split at h
  · exact ⟨_, _, rfl, h⟩
  · exact h.elim
end
section
variable {X : Cx} {e o : Expr} {es : List Expr} {to : TE} {t : TA} {apos cpos : Pos} {r : V → List V → Hp → VK → Prop}
theorem c_bm {id : String} {name : Str} (slot : Slot "list" name id) (hty : typeOf (.builtin id) = pure (.type "method_descriptor")) (hm : MtR X id r) (ho : PE X o to) (ha : PA X (e :: es) t) (hns : (e :: es).all notStar = true := by rfl)
    (hbase : attributeBase o name X.env (eval o X.env) = eval o X.env := by rfl)
    (hfew : ((backTo cpos (starEach (e :: es) X.env)).all (fun x => !x.1) && (backToKw cpos (keywordEach [] X.env)).all (fun x => x.1.isSome)
      && decide ((e :: es).length + ([] : List Keyword).length + (if ([] : List Keyword).isEmpty then 0 else 1) < 30)) = true := by rfl)
    (hline : (apos.endLine == cpos.line) = true := by rfl) : PE X (.Call (.Attribute o name apos) (e :: es) [] cpos) (cBM r to t) := by
  intro pins s σ H Q I h
  have hs : starEach (e :: es) X.env = (false, eval e X.env) :: starEach es X.env := star_ns (by rw [List.all_cons, Bool.and_eq_true] at hns; exact hns.1)
  have hplain : (backTo cpos (starEach es X.env)).any (·.1) = false := star_any (by rw [List.all_cons, Bool.and_eq_true] at hns; exact hns.2)
  refine wpAny_Call_method_late hbase hfew hline rfl (thn (ho pins s σ H _ I h) fun v s1 ⟨x, H1, I1, r1, q1⟩ => ?_)
  try dsimp only at q1
  split at q1
  case h_2 => exact q1.elim
  rename_i a
  split at q1
  case h_2 => exact q1.elim
  rename_i ys ea
  have ty : tyV X.K "list" (.ref a) H1 := .inl ⟨rfl, ys, SqL.of ea⟩
  obtain ⟨h1, h2⟩ := tyV_is I1 r1 ty
  refine ⟨"list", id, PySem.F.plainAttrs_list, slot, hty, h1, h2, ?_⟩
  have hA := ha cpos pins s1 σ H1 _ I1 q1
  rw [hs] at hA ⊢
  refine Calls.callWith_builtin (by show (false || (backTo cpos (starEach es X.env)).any (·.1)) = false; rw [hplain] <;> rfl) (Calls.evalArgs_plain ?_)
  exact thn hA fun us s2 ⟨vs, H2, I2, r2, q2⟩ => hm pins s2 σ H2 _ vs v us Q I2 r1 r2 q2
end
section
variable {X : Cx} {ca : Bool} {k : Nat} {f C : Addr} {fd : FuncData} {ps : List Str} {sp : Sp} {E : St → XK} {m : Str} {pos apos : Pos} {e o : Expr} {es : List Expr} {ta : TE} {t : TA}
theorem c_meth {pl : Sem Bool} (he : PE X o ta) (c : Cls X.K C) (hm : Meth X.K C m f) (F : FnOk X.prog X.w X.K X.mg X.base (CXE X.prog X.w) ca k f fd ps sp) (hr : Room ca k X.A) (hb : Binds X.K fd ps []) (hx : Exc X E) (ha : PA X (e :: es) t)
    (hns : (e :: es).all notStar = true := by rfl)
    (ht : eval (.Call (.Attribute o m apos) (e :: es) [] pos) X.env = (do
      let ov ← eval o X.env
      standAt apos.atName
      let (f, first) ← holding [ov] (getMethod ov m pl)
      callWith pos f first (backTo pos (starEach (e :: es) X.env)) (backToKw pos (keywordEach [] X.env))) := by rfl) :
    PE X (.Call (.Attribute o m apos) (e :: es) [] pos) (cMethE C m sp E ta t) := by
  intro pins s σ H Q I h
  have hst : starEach (e :: es) X.env = (false, eval e X.env) :: starEach es X.env := star_ns (by rw [List.all_cons, Bool.and_eq_true] at hns; exact hns.1)
  have hpl : (backTo pos (starEach es X.env)).any (·.1) = false := star_any (by rw [List.all_cons, Bool.and_eq_true] at hns; exact hns.2)
  refine PySem.W.methodCall_KW (pl := pl) (thn (he pins s σ H _ I h) fun u s1 ⟨x, H1, I1, rx, q⟩ => ?_) ht
  try dsimp only at q
  split at q
  case h_2 => exact q.elim
  rename_i a
  split at q
  case h_2 => exact q.elim
  rename_i C' dx fs ea
  obtain ⟨rfl, l, q⟩ := q
  obtain rfl : u = Value.ref a := rx
  refine getmeth_ok I1 ea c hm l ?_
  refine PySem.W.callWith_K (first := [.ref a]) (h₀ := X.base) I.ok.mod.kin hm.kp (thn (ha pos pins s1 σ H1 _ I1 q) fun us s2 ⟨vs, H2, I2, r, q2⟩ => ⟨I2.kIn, ?_⟩) hst hpl
  exact run_fnE (us := .ref a :: us) (vs := .ref a :: vs) F hr hb hx I2 (.cons rfl r) q2
end

/-! ### written lists by a drawn index -/
theorem at_in {α : Type} {xs : List α} {i : Int} {v : α} (h : atI xs i = some v) : v ∈ xs := by
  unfold atI at h
  cases e : ixN xs.length i with
  | none => rw [e] at h; cases h
  | some j => rw [e] at h; exact List.mem_of_getElem? h
theorem at_ne {α : Type} {xs : List α} {i : Int} (h0 : 0 ≤ i) (h1 : i < xs.length) (h : atI xs i = none) : False := by
  rw [atI_in h0 h1, List.getElem?_eq_getElem (by omega)] at h
  cases h
theorem Same.upd {H : Hp} {p : Addr} {o : HO} (h : H p = none) : Same H (L2.upd H p o) := fun b u e => by rw [upd_ne (ne_of_none e h)]; exact e
theorem Same.own {H : Hp} {p dx : Addr} {o u : HO} (h1 : H p = none) (h2 : H dx = none) : Same H (L2.upd (L2.upd H dx u) p o) := fun b w e => by rw [upd_ne (ne_of_none e h1), upd_ne (ne_of_none e h2)]; exact e
theorem upd_none {H : Hp} {p b : Addr} {o : HO} (h : L2.upd H p o b = none) : b ≠ p ∧ H b = none := by
  by_cases z : b = p
  · subst z; rw [upd_same] at h; cases h
  · exact ⟨z, by rw [upd_ne z] at h; exact h⟩
theorem flat_rep (n : Nat) (x : V) : (List.replicate n [x]).flatten = List.replicate n x := by
  induction n with
  | zero => rfl
  | succ n ih => rw [List.replicate_succ, List.flatten_cons, ih, List.replicate_succ]; rfl
theorem cut_ints {ws : List Int} {i k : Int} (h0 : 0 ≤ i) (h1 : 0 ≤ k) (h2 : i + k ≤ ws.length) : cutV (ws.map V.int) (some i) (some (i + k)) = ((ws.drop i.toNat).take k.toNat).map V.int := by
  obtain ⟨a, rfl⟩ : ∃ a : Nat, i = a := ⟨i.toNat, by omega⟩
  obtain ⟨b, rfl⟩ : ∃ b : Nat, k = b := ⟨k.toNat, by omega⟩
  have e : ((a : Int) + (b : Int)) = ((a + b : Nat) : Int) := by omega
  unfold cutV
  rw [e, HT.sIx_nat, HT.sIx_nat, List.length_map, Nat.min_eq_left (by omega), Nat.min_eq_left (by omega), Int.toNat_natCast, Int.toNat_natCast, List.map_take, List.map_drop, show a + b - a = b by omega]
theorem at_nat {ks : List Int} {t : Nat} (h : t < ks.length) : atI (ks.map V.int) (t : Int) = some (.int (ks.getD t 0)) := by
  rw [atI_cast, List.getElem?_map, List.getElem?_eq_getElem h, List.getD_eq_getElem?_getD, List.getElem?_eq_getElem h]; rfl
theorem Same.put {H H' : Hp} {q : Addr} {o : HO} (s : Same H H') (h : H q = none) : Same H (L2.upd H' q o) := fun b u e => by rw [upd_ne (ne_of_none e h)]; exact s b u e
theorem set_fill {rs : List Int} {n : Nat} {w : Int} (h : rs.length < n) : (rs ++ List.replicate (n - rs.length) (-1)).set rs.length w = (rs ++ [w]) ++ List.replicate (n - (rs.length + 1)) (-1) := by
  rw [List.set_append_right _ _ (Nat.le_refl _), Nat.sub_self, show n - rs.length = (n - (rs.length + 1)) + 1 by omega, List.replicate_succ, List.set_cons_zero, List.append_assoc]; rfl
end L2

/-! LC: [elt for x in iter if c]: a comprehension's block over the layer; no exception leaves it. -/
namespace L2
open PySem PySem.Spec PyProof.Rows

section
variable {prog : Program} {w : World} {A : Around} {R : Result → Shared → Prop} {s : Shared}
end

/-! ### the closure -/
/-- a comprehension's scope within a def's: x its own names, those of N2 the def's -/
structure CompIn (fsc scope : Scope) (x : List Str) (N2 : List Str) : Prop where
  kind : scope.kind = .function
  fkind : fsc.kind = .function
  own : ∀ z ∈ x, scope.names.lookup z = some .local
  nocell : ∀ y ∈ scope.names, y.2 ≠ .cell
  locs : ∀ y ∈ scope.names, y.2 = .local → scope.names.lookup y.1 = some .local
  xfree : ∀ y ∈ scope.names, y.2 = .free → ¬ y.1 ∈ x
  cells : ∀ y ∈ scope.names, y.2 = .free → fsc.names.lookup y.1 = some .cell
  nd : (x ++ N2).Nodup
  cap : ∀ y ∈ N2, scope.names.lookup y = some .free
/-- the values of the names at js -/
def capt (σ : St) (js : List Nat) : St := js.map fun j => (σ[j]?).join
/-- what a comprehension wants, behind its iterable; W: by the turn, a measure, the items so far -/
def CompW (J : It) (cap : St) (tt : TT) (te : TE) (H1 : Hp) (Q : VK) : Prop :=
  ∃ W : Nat → Nat → List V → Hp → Prop, (∃ m, W 0 m [] H1) ∧ ∀ i m ys H, W i m ys H → ys.length ≤ sizeLine ∧
    ((J.stop i H ∧ ∀ p, H p = none → Q (.ref p) (upd H p (.lst ys))) ∨
     (J.go i H ∧ ∀ x H', J.yld i H x H' → tt (some x :: cap) H' fun b H2 => if b = true then te (some x :: cap) H2 fun y H3 => ∃ m', m' < m ∧ W (i + 1) m' (ys ++ [y]) H3 else ∃ m', m' < m ∧ W (i + 1) m' ys H2))
def tComp (js : List Nat) (wi : TI) (tt : TT) (te : TE) : TE := fun σ H Q => wi σ H fun J H1 => CompW J (capt σ js) tt te H1 Q
/-- the tests of a comprehension -/
def PIfs (X : Cx) (ifs : List Expr) (tt : TT) : Prop :=
  ∀ (pins : List (Addr × Obj)) (s : Shared) (σ : St) (H : Hp) (Q : Bool → Hp → Prop), Inv X pins σ H s → tt σ H Q →
    wpAny (model X.prog X.w) X.A (forIn ifs true fun c r => if r = true then do let ok ← isTrue c X.env (eval c X.env); pure (ForInStep.yield ok) else pure (ForInStep.yield r)) (TP X pins σ Q) X.xe s
def tYes : TT := fun _ H Q => Q true H
section
variable {X : Cx} {pins : List (Addr × Obj)} {σ : St} {H : Hp} {s : Shared} {scope fsc : Scope} {x : List Str} {N2 : List Str} {js : List Nat} {fp : List Addr} {C : Addr}
/-- the same by pairs -/
def CompW2 (K : PySem.W.Frag) (J : It) (cap : St) (tt : TT) (te : TE) (H1 : Hp) (Q : VK) : Prop :=
  ∃ W : Nat → Nat → List V → Hp → Prop, (∃ m, W 0 m [] H1) ∧ ∀ i m ys H, W i m ys H → ys.length ≤ sizeLine ∧
    ((J.stop i H ∧ ∀ p, H p = none → Q (.ref p) (upd H p (.lst ys))) ∨
     (J.go i H ∧ ∀ x H', J.yld i H x H' → ∃ a u v, x = .ref a ∧ SqT K H' a [u, v] ∧
       tt (some u :: some v :: cap) H' fun b H3 => if b = true then te (some u :: some v :: cap) H3 fun y H4 => ∃ m', m' < m ∧ W (i + 1) m' (ys ++ [y]) H4 else ∃ m', m' < m ∧ W (i + 1) m' ys H3))
def tComp2 (K : PySem.W.Frag) (js : List Nat) (wi : TI) (tt : TT) (te : TE) : TE := fun σ H Q => wi σ H fun J H1 => CompW2 K J (capt σ js) tt te H1 Q

end
end L2

/-! LR: range with a step; a list unpacked into names; a tuple written out and walked. -/
namespace L2
open PySem PySem.Spec PyProof.Rows

/-! ### range(a, b, c), c > 0 -/
/-- lo, lo + st, .. (n of them) -/
def ItrS (lo st : Int) (n : Nat) : It := ⟨fun i _ => i < n, fun i H x H' => H' = H ∧ x = .int (lo + i * st), fun i _ => n ≤ i⟩
theorem turn_rangeS {P : Program} {w : World} {K : PySem.W.Frag} {tg : Expr} (it : Addr) (lo st : Int) (n : Nat) : Turn P w K tg (ItrS lo st n) [it] it (fun i h => IsRangeIter h it (lo + (i : Nat) * st) ((n : Int) - (i : Nat)) st) where
  mem := by simp
  obj := fun i h s b hb => by
    have e : b = it := by simpa using hb
    subst e
    exact ⟨_, s, fun v z => by
      have z' : Data.fields _ = Data.cell v := z
      cases z'⟩
  keep := fun i h h' s k => k it (by simp) _ s
  item := by
    intro X hP hw hK hc i pins s σ H E I hf hs hg
    subst hP hw hK
    obtain ⟨f0, f1, f2, f3, f4, f5⟩ := hf it (by simp)
    have W := Walks.range (prog := X.prog) (w := X.w) (I.ok.hd hc) it lo st n
    refine W.item i s _ _ hg hs fun v h' tk hv st' kk => ?_
    obtain ⟨t, rfl⟩ := hv
    have I1 : Inv X pins σ H { s with heap := h', toks := tk } := I.turned (fun b o hb e => kk b o (by simpa using hb) e) f0 f1 f3 f4 f5
    exact ⟨_, rfl, go_of (s := { s with heap := h', toks := tk }) (n := "range_iterator") st' rfl rfl (by decide) ⟨.int (lo + i * st), H, I1, ⟨t, rfl⟩, ⟨rfl, rfl⟩, st', fun b hb => (hf b hb).1⟩⟩
  done := by
    intro X hP hw hK hc i pins s σ H E I hf hs hg
    subst hP hw hK
    obtain ⟨f0, f1, f2, f3, f4, f5⟩ := hf it (by simp)
    exact wpAny_pyNext_range_end (I.ok.hd hc) hs (by have : n ≤ i := hg; omega) fun h' eb => ⟨rfl, I.turned (t' := s.toks) (fun b o hb e => eb b o hb e) f0 f1 f3 f4 f5⟩
  self := fun _ _ _ _ _ s h => wpAny_pyIter_rangeiter s h
/-- how many: (hi - lo - 1) / st + 1, or none -/
def rcount (lo hi st : Int) : Nat := if lo < hi then ((hi - lo - 1) / st + 1).toNat else 0
theorem rcount_size {lo hi st : Int} (h : 0 < st) : ((rcount lo hi st : Nat) : Int) = Builtin.Range.rangeSize lo hi st := by
  unfold rcount Builtin.Range.rangeSize
  rw [if_pos h]
  split
  · have : 0 ≤ (hi - lo - 1) / st := Int.ediv_nonneg (by omega) (by omega)
    omega
  · rfl
theorem small_step {lo hi st : Int} (h0 : 0 < st) (h1 : st ≤ 1000) (a1 : -1000000 ≤ lo) (a2 : lo ≤ 1000000) (b1 : -1000000 ≤ hi) (b2 : hi ≤ 1000000) : Builtin.Range.small lo hi st = true := by
  have d0 : (hi - lo - 1) / st ≤ 2000000 := by
    by_cases z : 0 ≤ hi - lo - 1
    · exact Int.le_trans (Int.ediv_le_self _ z) (by omega)
    · have := Int.ediv_neg_of_neg_of_pos (show hi - lo - 1 < 0 by omega) h0
      omega
  have d1 : lo < hi → 0 ≤ (hi - lo - 1) / st := fun z => Int.ediv_nonneg (by omega) (by omega)
  unfold Builtin.Range.small Builtin.Range.rangeSize
  simp only [Builtin.Range.rangeFitsLong, Bool.and_eq_true, Bool.or_eq_true, decide_eq_true_eq, beq_iff_eq, show st > 0 from h0, if_true]
  split
  · rename_i z
    have := d1 z
    omega
  · omega
section
variable {X : Cx} {tg : Expr}
theorem range_itS {pins : List (Addr × Obj)} {σ : St} {H : Hp} {s : Shared} {R : It → Hp → Prop} {E : Value → Shared → Prop} {lo hi st : Int} {t u v : Tok} {tk : Nat} (I : Inv X pins σ H s) (h0 : 0 < st) (hsm : Builtin.Range.small lo hi st = true)
    (q : R (ItrS lo st (rcount lo hi st)) H) : wpAny (model X.prog X.w) X.A (pyIter (.ref s.heap.objs.size)) (PIE X pins σ tg R) E { s with heap := s.heap.push { cls := .type "range", data := .fields #[.int lo t, .int hi u, .int st v] }, toks := tk } := by
  refine wpAny_pyIter_range (IsRange.new ..) hsm ?_
  have I1 : Inv X pins σ H { s with heap := s.heap.push { cls := .type "range", data := .fields #[.int lo t, .int hi u, .int st v] }, toks := tk } := I.kept fun b o e => Heap.get?_push_of_some _ e
  refine ⟨(s.heap.push { cls := .type "range", data := .fields #[.int lo t, .int hi u, .int st v] }).objs.size, [(s.heap.push { cls := .type "range", data := .fields #[.int lo t, .int hi u, .int st v] }).objs.size], _, _, H, rfl,
    I1.kept (t' := tk) fun b o e => Heap.get?_push_of_some _ e, turn_rangeS _ lo st (rcount lo hi st), ?_, fun b hb => ?_, q⟩
  · have e1 : lo + ((0 : Nat) : Int) * st = lo := by simp
    have e2 : ((rcount lo hi st : Nat) : Int) - ((0 : Nat) : Int) = Builtin.Range.rangeSize lo hi st := by rw [← rcount_size h0]; simp
    show IsRangeIter _ _ (lo + ((0 : Nat) : Int) * st) (((rcount lo hi st : Nat) : Int) - ((0 : Nat) : Int)) st
    rw [e1, e2]
    exact Heap.get?_push_size _ rfl
  · have e : b = (s.heap.push { cls := .type "range", data := .fields #[.int lo t, .int hi u, .int st v] }).objs.size := by simpa using hb
    subst e
    exact I1.fpOk (Nat.le_refl _) (I1.hok.fresh (Nat.le_refl _))
def iRng3 (ta : TA) : TI := fun σ H R => ta σ H fun vs H1 => match vs with
  | [.int i, .int j, .int k] => (0 < k ∧ k ≤ 1000 ∧ -1000000 ≤ i ∧ i ≤ 1000000 ∧ -1000000 ≤ j ∧ j ≤ 1000000) ∧ R (ItrS i k (rcount i j k)) H1
  | _ => False
theorem pi_range3 {a b c : Expr} {ta : TA} {p pos : Pos} (hg : Gl X "range") (hm : X.mg "range" = none) (ha : PA X [a, b, c] ta) (hns : [a, b, c].all notStar = true := by rfl) :
    PI X tg (.Call (.Name "range" p) [a, b, c] [] pos) (iRng3 ta) := by
  intro pins s σ H R I h
  have hst : starEach [a, b, c] X.env = (false, eval a X.env) :: starEach [b, c] X.env := star_ns (by rw [List.all_cons, Bool.and_eq_true] at hns; exact hns.1)
  have hpl : (backTo pos (starEach [b, c] X.env)).any (·.1) = false := star_any (by rw [List.all_cons, Bool.and_eq_true] at hns; exact hns.2)
  refine Call_ (ld_blt I hg hm boot_range (PyProof.Rows.callWith_type1 (thn (ha pos pins s σ H _ I h) fun us s1 ⟨vs, H1, I1, r1, q1⟩ => ?_) hst hpl))
  dsimp only at q1
  split at q1
  case h_2 => exact q1.elim
  rename_i i j k
  obtain ⟨⟨k0, k1, a1, a2, b1, b2⟩, q⟩ := q1
  cases r1 with
  | cons r rr =>
    cases rr with
    | cons r' rr =>
      cases rr with
      | cons r'' rr =>
        cases rr
        obtain ⟨t, rfl⟩ := r
        obtain ⟨t', rfl⟩ := r'
        obtain ⟨t'', rfl⟩ := r''
        exact call_range_3 (by omega) (range_itS I1 k0 (small_step k0 k1 a1 a2 b1 b2) q) (.inl (PyProof.noPylong_small (by omega)))
/-! ### a, b, c = a list -/
def gLst (n : Nat) (t : TGs) : TG := fun v σ H Q => match v with
  | .ref a => (match H a with
    | some (.lst xs) => xs.length = n ∧ t xs σ H Q
    | _ => False)
  | _ => False
theorem pg_lst {es : List Expr} {k : Nat} {t : TGs} {n : Nat} {pos : Pos} (hc : X.calm = true) (h : PGs X es t)
    (hn : (assignEach es X.env).length = n := by rfl) (hst : (assignEach es X.env).findIdx? (·.1) = none := by rfl) : PG X (.Tuple es k pos) (gLst n t) := by
  intro pins s σ H v u Q I r hw
  unfold gLst at hw
  split at hw
  case h_2 => exact hw.elim
  rename_i a
  split at hw
  case h_2 => exact hw.elim
  rename_i xs ea
  obtain ⟨hl, hw⟩ := hw
  cases r
  obtain ⟨its, rv, pl, hz⟩ := I.list (SqL.of ea)
  rw [assign_Tuple]
  refine wpAny_bind (wpAny_standAt ?_)
  unfold unpack
  rw [show (assignEach es X.env).length = its.toArray.size by simp [hn, ← hl, rv.length], hst]
  refine wpAny_bind (wpAny_holding (PySem.W.kun_itemsOf (I.ok.hd hc) pl.isList fun h' hx => ?_))
  have I1 : Inv X pins σ H { s with heap := h' } := I.kept (t' := s.toks) fun b o e => hx b o (Nat.ne_of_lt (Heap.lt_size e)) e
  exact h pins _ σ H xs _ Q I1 (by simpa using rv) hw
end
theorem LoopW.rangeS {lo st : Int} {n : Nat} {g : TG} {tb : TS} {D : Ends} {σ : St} {H : Hp} (Pv : Nat → St → Hp → Prop) (h0 : Pv 0 σ H)
    (hs : ∀ i σ H, i < n → Pv i σ H → g (.int (lo + i * st)) σ H fun σ2 H2 => tb { D with nx := Pv (i + 1), ct := Pv (i + 1), bk := D.nx } σ2 H2) (hd : ∀ σ H, Pv n σ H → D.nx σ H) : LoopW (ItrS lo st n) g tb D σ H := by
  refine ⟨fun i m σ H => m = n - i ∧ i ≤ n ∧ Pv i σ H, ⟨_, rfl, Nat.zero_le _, h0⟩, fun i m σ H ⟨hm, hi, hp⟩ => ?_⟩
  by_cases z : i < n
  · refine .inr ⟨z, Pv (i + 1), fun σ' H' q => ⟨n - (i + 1), by omega, rfl, z, q⟩, fun x H' ⟨e1, e2⟩ => ?_⟩
    rw [e1, e2]
    exact hs i σ H z hp
  · have e : i = n := by omega
    subst e
    exact .inl ⟨Nat.le_refl _, hd σ H hp⟩
end L2

/-! LE: == of lists and tuples, deep; isinstance by a tuple of classes; forms of comprehensions. -/
namespace L2
open PySem PySem.Spec PyProof.Rows

/-! ### equality -/
/-- the answers of pairs, one behind the other -/
def allO : List (Option Bool) → Option Bool
  | [] => some true
  | none :: _ => none
  | some b :: r => (allO r).map fun c => b && c
/-- == of two values, so deep; lists beside lists, tuples beside tuples, flat values else -/
def deq (H : Hp) : Nat → V → V → Option Bool
  | 0, x, y => if flatV x = true ∧ flatV y = true then some (eqV x y) else none
  | d + 1, x, y => match x, y with
    | .ref a, .ref b => (match H a, H b with
      | some (.lst xs), some (.lst ys) => if xs.length = ys.length then allO (List.zipWith (deq H d) xs ys) else some false
      | _, _ => none)
    | x, y => if flatV x = true ∧ flatV y = true then some (eqV x y) else none
section
variable {X : Cx}
/-- lists, three deep at most -/
def cEqL : R2 := fun x y H Q => match x, y with
  | .ref a, .ref b => (match H a, H b with
    | some (.lst xs), some (.lst ys) => if xs.length = ys.length then (match allO (List.zipWith (deq H 2) xs ys) with
        | some k => Q (.bl k) H
        | none => False) else Q (.bl false) H
    | _, _ => False)
  | _, _ => False
def cNeL : R2 := fun x y H Q => match x, y with
  | .ref a, .ref b => (match H a, H b with
    | some (.lst xs), some (.lst ys) => if xs.length = ys.length then (match allO (List.zipWith (deq H 2) xs ys) with
        | some k => Q (.bl (!k)) H
        | none => False) else Q (.bl true) H
    | _, _ => False)
  | _, _ => False
end
section
variable {X : Cx}
end
/-! ### isinstance(x, (A, B, ..)) -/
def kitVs (K : PySem.W.Frag) (t : Value) : List V → Option Bool
  | [] => some false
  | c :: r => match kitV K t c with
    | some true => some true
    | some false => kitVs K t r
    | none => none
def rIsT (K : PySem.W.Frag) : List V → Hp → VK → Prop := fun xs H Q => match xs with
  | [.ref a, .ref p] => (match H a, H p with
    | some (.exc (.ref C)), some (.tup cs) => KiE K C ∧ (match kitVs K (.ref C) cs with
      | some b => Q (.bl b) H
      | none => False)
    | _, _ => False)
  | _ => False
/-! ### comprehensions that leave the heap -/
/-! ### all(a list of bools), list(a list), == of what may be lists -/
def bools : List V → Option (List Bool)
  | [] => some []
  | .bl b :: r => (bools r).map fun bs => b :: bs
  | _ :: _ => none
def cAll : List V → Hp → VK → Prop := fun xs H Q => match xs with
  | [.ref a] => (match H a with
    | some (.lst ys) => (match bools ys with
      | some bs => Q (.bl (bs.all id)) H
      | none => False)
    | _ => False)
  | _ => False
def cList : List V → Hp → VK → Prop := fun xs H Q => match xs with
  | [.ref a] => (match H a with
    | some (.lst ys) => ∀ l, H l = none → Q (.ref l) (upd H l (.lst ys))
    | _ => False)
  | _ => False
def cEqA : R2 := fun x y H Q => match eqv x y with
  | some b => Q (.bl b) H
  | none => cEqL x y H Q
def cNeA : R2 := fun x y H Q => match eqv x y with
  | some b => Q (.bl (!b)) H
  | none => cNeL x y H Q
section
variable {X : Cx}
end
end L2

/-! LK: while, sums, list + list, dicts asked and popped, is True. -/
namespace L2
open PySem PySem.Spec PyProof.Rows

def isort (ns : List Int) : List Int := ns.mergeSort (fun a b => decide (a ≤ b))
/-! ### numbers of a list -/
def intsV : List V → Option (List Int)
  | [] => some []
  | .int i :: r => (intsV r).map fun ns => i :: ns
  | _ :: _ => none
theorem intsV_map : ∀ ns : List Int, intsV (ns.map V.int) = some ns
  | [] => rfl
  | n :: r => by simp only [List.map_cons, intsV, intsV_map r, Option.map_some]
/-! ### sum(a list of numbers) -/
def cSum : List V → Hp → VK → Prop := fun xs H Q => match xs with
  | [.ref a] => (match H a with
    | some (.lst ys) => (match intsV ys with
      | some ns => (∀ n ∈ ns, 0 ≤ n ∧ n ≤ 1000000) ∧ ns.length ≤ 1000000 ∧ Q (.int ns.sum) H
      | none => False)
    | _ => False)
  | _ => False
section
variable {X : Cx}
/-! ### sorted -/
def cSorted : List V → Hp → VK → Prop := fun xs H Q => match xs with
  | [.ref a] => (match H a with
    | some (.lst ys) => (match intsV ys with
      | some ns => ns.length < 64 ∧ ∀ l, H l = none → Q (.ref l) (upd H l (.lst ((isort ns).map V.int)))
      | none => False)
    | _ => False)
  | _ => False
/-! ### list + list -/
def cCat : R2 := fun x y H Q => match x, y with
  | .ref l, .ref b => (match H l, H b with
    | some (.lst xs), some (.lst zs) => xs.length + zs.length ≤ sizeLine ∧ ∀ p, H p = none → Q (.ref p) (upd H p (.lst (xs ++ zs)))
    | _, _ => False)
  | _, _ => False
def cExtend : V → List V → Hp → VK → Prop := fun x vs H Q => match x, vs with
  | .ref l, [.ref b] => (match H l, H b with
    | some (.lst xs), some (.lst zs) => l ≠ b ∧ xs.length + zs.length ≤ sizeLine ∧ Q .non (upd H l (.lst (xs ++ zs)))
    | _, _ => False)
  | _, _ => False
/-! ### is True, is False -/
def isBl : V → Bool → Option Bool
  | .bl c, b => some (decide (c = b))
  | .int _, _ => some false
  | .non, _ => some false
  | .str _, _ => some false
  | .ref _, _ => some false
  | _, _ => none
def cIsA : R2 := fun x y H Q => match y with
  | .bl b => (match isBl x b with
    | some k => Q (.bl k) H
    | none => False)
  | _ => False
def cIsNotA : R2 := fun x y H Q => match y with
  | .bl b => (match isBl x b with
    | some k => Q (.bl (!k)) H
    | none => False)
  | _ => False
/-! ### dicts -/
def cInD : R2 := fun x y H Q => match y with
  | .ref a => (match H a, keyV x with
    | some (.dK kvs), some k => Q (.bl (valV kvs k).isSome) H
    | _, _ => False)
  | _ => False
def cNotInD : R2 := fun x y H Q => match y with
  | .ref a => (match H a, keyV x with
    | some (.dK kvs), some k => Q (.bl (!(valV kvs k).isSome)) H
    | _, _ => False)
  | _ => False
def cLenD : List V → Hp → VK → Prop := fun xs H Q => match xs with
  | [.ref a] => (match H a with
    | some (.dK kvs) => Q (.int kvs.length) H
    | _ => False)
  | _ => False
end
def cDPop (td ty : TE) : TE := fun σ H Q => td σ H fun x H1 => match x with
  | .ref a => (match H1 a with
    | some (.dK _) => ty σ H1 fun y H2 => (match H2 a, keyV y with
      | some (.dK kvs), some k => (match valV kvs k with
        | some v => Q v (upd H2 a (.dK (dropK kvs k)))
        | none => False)
      | _, _ => False)
    | _ => False)
  | _ => False
section
variable {X : Cx} {o e : Expr} {td ty : TE} {apos cpos : Pos}
end
/-! ### list(range(a, b)) -/
def cListR (ta : TA) : TE := fun σ H Q => ta σ H fun vs H1 => match vs with
  | [.int i, .int j] => -(2 ^ 62) ≤ i ∧ i < 2 ^ 62 ∧ -(2 ^ 62) ≤ j ∧ j < 2 ^ 62 ∧ (j - i).toNat ≤ sizeLine ∧ ∀ p, H1 p = none → Q (.ref p) (upd H1 p (.lst ((List.range (j - i).toNat).map fun t : Nat => V.int (i + (t : Int)))))
  | _ => False
section
variable {X : Cx} {a b : Expr} {ta : TA} {p pos p2 pos2 : Pos}
end
end L2

/-! LJ: the judgements as structures, and the rules over them. -/
namespace L2
open PySem PySem.Spec PyProof.Rows
structure JE (X : Cx) (e : Expr) (t : TE) : Prop where
  run : PE X e t
structure JT (X : Cx) (e : Expr) (t : TT) : Prop where
  run : PT X e t
structure JW (X : Cx) (e : Expr) (t : TT) : Prop where
  run : PW X e t
structure JA (X : Cx) (e : List Expr) (t : TA) : Prop where
  run : PA X e t
structure JS (X : Cx) (e : Stmt) (t : TS) : Prop where
  run : PS X e t
structure JSs (X : Cx) (e : List Stmt) (t : TS) : Prop where
  run : PSs X e t
structure JG (X : Cx) (e : Expr) (t : TG) : Prop where
  run : PG X e t
structure JGs (X : Cx) (e : List Expr) (t : TGs) : Prop where
  run : PGs X e t
structure JI (X : Cx) (tg e : Expr) (t : TI) : Prop where
  run : PI X tg e t
structure JO (X : Cx) (e : Option Expr) (t : TO) : Prop where
  run : PO X e t
structure JH (X : Cx) (e : List ExceptHandler) (t : TH) : Prop where
  run : PH X e t
structure JIfs (X : Cx) (e : List Expr) (t : TT) : Prop where
  run : PIfs X e t
structure JOp (X : Cx) (f : Value → Value → Sem Value) (r : R2) : Prop where
  run : OpR X f r
structure JUn (X : Cx) (f : Value → Sem Value) (r : V → Hp → VK → Prop) : Prop where
  run : UnR X f r
structure JCall (X : Cx) (f : Value) (r : List V → Hp → VK → Prop) : Prop where
  run : CallR X f r
structure JIx (X : Cx) (r : R2) : Prop where
  run : IxR X r
structure JSl (X : Cx) (r : V → Option Int → Option Int → Hp → VK → Prop) : Prop where
  run : SlR X r
structure JSet (X : Cx) (t : TSet) : Prop where
  run : PSet X t
structure JMt (X : Cx) (id : String) (r : V → List V → Hp → VK → Prop) : Prop where
  run : MtR X id r

section
variable {X : Cx} {rest : List Expr} {lo hi : Option Expr} {id T : String} {op : Operator} {st : Stmt} {srest : List Stmt} {hrest : List ExceptHandler}
theorem j_cv (i : Nat) {x : Str} {pos : Pos} (hN : X.N[i]? = some x := by rfl) (hv : Vis X.env.scope x := by first | exact Or.inl rfl | exact Or.inr (Or.inl rfl) | exact Or.inr (Or.inr rfl)) (hd : (x == ("__debug__" : Str)) = false := by decide) (hcd : (x == ("__classdict__" : Str)) = false := by decide) : JE X (.Name x pos) (cVar i) := ⟨cv i hN hv hd hcd⟩
theorem j_pe_gv {x : Str} {v : V} {pos : Pos} (h : Gv X.mg x v) (hg : Gl X x := by rfl) (hd : (x == ("__debug__" : Str)) = false := by decide) : JE X (.Name x pos) (tC v) := ⟨pe_gv h hg hd⟩
theorem j_pe_ty {x : Str} {T : String} {pos : Pos} (hm : X.mg x = none) (hv : bootBuiltins x = some (.type T)) (hg : Gl X x := by rfl) (hn : x ≠ "__name__" := by decide) (hd : (x == ("__debug__" : Str)) = false := by decide) : JE X (.Name x pos) (tC (.ty T)) := ⟨pe_ty hm hv hg hn hd⟩
theorem j_pe_non {j pos} : JE X (.Constant .none j pos) (tC .non) := ⟨pe_non ⟩
theorem j_pe_bl {b j pos} : JE X (.Constant (.bool b) j pos) (tC (.bl b)) := ⟨pe_bl ⟩
theorem j_pe_int {i j pos} : JE X (.Constant (.int i) j pos) (tC (.int i)) := ⟨pe_int ⟩
theorem j_pe_str {x j pos} : JE X (.Constant (.str x) j pos) (tC (.str x)) := ⟨pe_str ⟩
theorem j_pe_op {op : Operator} {r : R2} (ho : JOp X (binaryOp op) r) (ha : JE X a ta) (hb : JE X b tb) : JE X (.BinOp a op b pos) (tOp r ta tb) := ⟨pe_op ho.run ha.run hb.run⟩
theorem j_pe_un {op : UnaryOp} {r : V → Hp → VK → Prop} (ho : JUn X (unaryOp op) r) (ha : JE X a ta) : JE X (.UnaryOp op a pos) (tUn r ta) := ⟨pe_un ho.run ha.run⟩
theorem j_pe_not (ha : JE X a ta) : JE X (.UnaryOp .Not a pos) (tNotV ta) := ⟨pe_not ha.run⟩
theorem j_pe_and (ha : JE X a ta) (hb : JE X (.BoolOp .And (b :: rest) pos) tb) : JE X (.BoolOp .And (a :: b :: rest) pos) (tAndV ta tb) := ⟨pe_and ha.run hb.run⟩
theorem j_pe_one {op} {t : TE} (h : JE X a t) : JE X (.BoolOp op [a] pos) t := ⟨pe_one h.run⟩
theorem j_pe_cmpR {op : CmpOp} {r : R2} (ho : JOp X (compareOp op) r) (ha : JE X a ta) (hb : JE X b tb) (hm : behindInMarks op b = false) : JE X (.Compare a [op] [b] pos) (tOp r ta tb) := ⟨pe_cmpR ho.run ha.run hb.run hm⟩
theorem j_pe_chain {op op' : CmpOp} {r r' : R2} (ho : JOp X (compareOp op) r) (ho' : JOp X (compareOp op') r') (ha : JE X a ta) (hb : JE X b tb) (hc : JE X c tc) (hm : lastMarks [op, op'] [b, c] = false := by with_unfolding_all rfl) : JE X (.Compare a [op, op'] [b, c] pos) (tChain r r' ta tb tc) := ⟨pe_chain ho.run ho'.run ha.run hb.run hc.run hm⟩
theorem j_pe_lst (h : JA X es t) : JE X (.List es pos) (tLst t) := ⟨pe_lst h.run⟩
theorem j_pe_tup {x1} (h : JA X es t) : JE X (.Tuple es x1 pos) (tTup t) := ⟨pe_tup h.run⟩
theorem j_pe_slice {r : V → Option Int → Option Int → Hp → VK → Prop} (hr : JSl X r) (he : JE X e te) (hl : JO X lo tl) (hu : JO X hi th) : JE X (.Subscript e (.Slice lo hi none p2) pos) (tSl r te tl th) := ⟨pe_slice hr.run he.run hl.run hu.run⟩
theorem j_pe_menu (ha : JA X es t) (hi : JE X e ti) (hs : PlainIx e) : JE X (.Subscript (.List es p2) e pos) (tOp rIxM (tLst t) ti) := ⟨pe_menu ha.run hi.run hs⟩
theorem j_pe_ix {r : R2} (hr : JIx X r) (ha : JE X a ta) (hb : JE X b tb) (hs : PlainIx b) : JE X (.Subscript a b pos) (tOp r ta tb) := ⟨pe_ix hr.run ha.run hb.run hs⟩
theorem j_pe_callF (F : FnOk X.prog X.w X.K X.mg X.base (CXE X.prog X.w) ca k f fd ps sp) (hr : Room ca k X.A) (hg : Gl X x) (hm : X.mg x = some (.ref f)) (hk : PySem.W.keepIn X.K (.ref f) = true) (hb : Binds X.K fd ps []) (hx : Exc X E) (ha : JA X (e :: es) t) (hdb : (x == ("__debug__" : Str)) = false := by decide) (h : (e :: es).all notStar = true := by rfl) : JE X (.Call (.Name x p) (e :: es) [] pos) (tCallE sp E t) := ⟨pe_callF F hr hg hm hk hb hx ha.run hdb h⟩
theorem j_pe_makeF (M : Mk X.K C f) (F : FnOk X.prog X.w X.K X.mg X.base (CXE X.prog X.w) ca k f fd ps sp) (hr : Room ca (k + 1) X.A) (hg : Gl X x) (hm : X.mg x = some (.ref C)) (hb : Binds X.K fd ps []) (hx : Exc X E) (ha : JA X (e :: es) t) (hdb : (x == ("__debug__" : Str)) = false := by decide) (h : (e :: es).all notStar = true := by rfl) : JE X (.Call (.Name x p) (e :: es) [] pos) (tMakeE C sp E t) := ⟨pe_makeF M F hr hg hm hb hx ha.run hdb h⟩
theorem j_pe_callBF (hc : JCall X (.builtin id) r) (hg : Gl X x) (hm : X.mg x = none) (hv : bootBuiltins x = some (.builtin id)) (ha : JA X (e :: es) t) (hn : x ≠ "__name__" := by decide) (hdb : (x == ("__debug__" : Str)) = false := by decide) (h : (e :: es).all notStar = true := by rfl) : JE X (.Call (.Name x p) (e :: es) [] pos) (tCB r t) := ⟨pe_callBF hc.run hg hm hv ha.run hn hdb h⟩
theorem j_pe_callTyF (hc : JCall X (.type T) r) (hg : Gl X x) (hm : X.mg x = none) (hv : bootBuiltins x = some (.type T)) (ha : JA X (e :: es) t) (hn : x ≠ "__name__" := by decide) (hdb : (x == ("__debug__" : Str)) = false := by decide) (h : (e :: es).all notStar = true := by rfl) : JE X (.Call (.Name x p) (e :: es) [] pos) (tCB r t) := ⟨pe_callTyF hc.run hg hm hv ha.run hn hdb h⟩
theorem j_c_meth {pl : Sem Bool} (he : JE X o ta) (c : Cls X.K C) (hm : Meth X.K C m f) (F : FnOk X.prog X.w X.K X.mg X.base (CXE X.prog X.w) ca k f fd ps sp) (hr : Room ca k X.A) (hb : Binds X.K fd ps []) (hx : Exc X E) (ha : JA X (e :: es) t) (hns : (e :: es).all notStar = true := by rfl) (ht : eval (.Call (.Attribute o m apos) (e :: es) [] pos) X.env = (do
      let ov ← eval o X.env
      standAt apos.atName
      let (f, first) ← holding [ov] (getMethod ov m pl)
      callWith pos f first (backTo pos (starEach (e :: es) X.env)) (backToKw pos (keywordEach [] X.env))) := by rfl) : JE X (.Call (.Attribute o m apos) (e :: es) [] pos) (cMethE C m sp E ta t) := ⟨c_meth he.run c hm F hr hb hx ha.run hns ht⟩
theorem j_c_bm {id : String} {name : Str} (slot : Slot "list" name id) (hty : typeOf (.builtin id) = pure (.type "method_descriptor")) (hm : JMt X id r) (ho : JE X o to) (ha : JA X (e :: es) t) (hns : (e :: es).all notStar = true := by rfl) (hbase : attributeBase o name X.env (eval o X.env) = eval o X.env := by rfl) (hfew : ((backTo cpos (starEach (e :: es) X.env)).all (fun x => !x.1) && (backToKw cpos (keywordEach [] X.env)).all (fun x => x.1.isSome)
      && decide ((e :: es).length + ([] : List Keyword).length + (if ([] : List Keyword).isEmpty then 0 else 1) < 30)) = true := by rfl) (hline : (apos.endLine == cpos.line) = true := by rfl) : JE X (.Call (.Attribute o name apos) (e :: es) [] cpos) (cBM r to t) := ⟨c_bm slot hty hm.run ho.run ha.run hns hbase hfew hline⟩
theorem j_c_fld (he : JE X e ta) (hb : attributeBase e f X.env (eval e X.env) = eval e X.env) : JE X (.Attribute e f pos) (cFld X.K ta f) := ⟨c_fld he.run hb⟩
theorem j_c_part (h : JE X e te) : JO X (some e) (cPart te) := ⟨c_part h.run⟩
theorem j_pa_nil  : JA X [] tNil := ⟨pa_nil ⟩
theorem j_pa_c (ha : JE X e te) (hr : JA X es t) (h : notStar e = true := by rfl) : JA X (e :: es) (tCons te t) := ⟨pa_c ha.run hr.run h⟩
theorem j_pt_not (ha : JT X a tA) : JT X (.UnaryOp .Not a pos) (tNot tA) := ⟨pt_not ha.run⟩
theorem j_PW_pt {X : Cx} {e : Expr} {t : TT} (h : JW X e t) : JT X e t := ⟨PW.pt h.run⟩
theorem j_pt_cmpR {op : CmpOp} {r : R2} (ho : JOp X (compareOp op) r) (ha : JE X a ta) (hb : JE X b tb) (hm : behindInMarks op b = false) : JT X (.Compare a [op] [b] pos) (tTest (tOp r ta tb)) := ⟨pt_cmpR ho.run ha.run hb.run hm⟩
theorem j_pt_truth (ha : JE X a ta) (he : ∀ whole, isTrue a X.env whole = (do let v ← whole; standAt a.pos; holding [v] (truthy v))) : JT X a (fun σ H Q => ta σ H fun x H' => ∃ k, TruV X.K x H' k ∧ Q k H') := ⟨pt_truth ha.run he⟩
theorem j_pw_and1 (ha : JT X a tA) : JW X (.BoolOp .And [a] pos) tA := ⟨pw_and1 ha.run⟩
theorem j_pw_or1 (ha : JT X a tA) : JW X (.BoolOp .Or [a] pos) tA := ⟨pw_or1 ha.run⟩
theorem j_pw_and (ha : JT X a tA) (hb : JW X (.BoolOp .And (b :: rest) pos) tB') : JW X (.BoolOp .And (a :: b :: rest) pos) (tAnd tA tB') := ⟨pw_and ha.run hb.run⟩
theorem j_pw_or (ha : JT X a tA) (hb : JW X (.BoolOp .Or (b :: rest) pos) tB') : JW X (.BoolOp .Or (a :: b :: rest) pos) (tOr tA tB') := ⟨pw_or ha.run hb.run⟩
theorem j_pss_nil  : JSs X [] tNext := ⟨pss_nil ⟩
theorem j_pss_one (h1 : JS X st t) : JSs X [st] t := ⟨pss_one h1.run⟩
theorem j_pss_cons (h1 : JS X st t) (h2 : JSs X srest u) : JSs X (st :: srest) (tSeq t u) := ⟨pss_cons h1.run h2.run⟩
theorem j_pg_name {i : Nat} {x : Str} (hN : X.N.Nodup) (hi : X.N[i]? = some x) (hx : Loc X.env.scope x) (hf : X.fn x = true ∨ X.env.scope.names.lookup x = some .local := by first | exact .inl rfl | exact .inr rfl | assumption) : JG X (.Name x pos) (gName i) := ⟨pg_name hN hi hx hf⟩
theorem j_ps_ret (he : JE X e te) : JS X (.Return (some e) pos) (tRet te) := ⟨ps_ret he.run⟩
theorem j_ps_expr (he : JE X e te) (hs : swapsWith e none pos.line X.env = pure false := by rfl) : JS X (.Expr e pos) (tDrop te) := ⟨ps_expr he.run hs⟩
theorem j_ps_if {c : Expr} {a b : List Stmt} {tc : TT} (hc : JT X c tc) (ha : JSs X a t) (hb : JSs X b u) : JS X (.If c a b pos) (tIfS tc t u) := ⟨ps_if hc.run ha.run hb.run⟩
theorem j_ps_set {i : Nat} {x : Str} {e : Expr} {te : TE} {pos' : Pos} (hN : X.N.Nodup) (hi : X.N[i]? = some x) (hx : Loc X.env.scope x) (he : JE X e te) (hs : swapsWith e (some (.Name x pos')) pos.line X.env = pure false := by rfl) (hf : X.fn x = true ∨ X.env.scope.names.lookup x = some .local := by first | exact .inl rfl | exact .inr rfl | assumption) : JS X (.Assign [.Name x pos'] e pos) (tAsg te (gName i)) := ⟨ps_set hN hi hx he.run hs hf⟩
theorem j_c_sfld (ha : JE X o ta) (hv : JE X value tv) (hs : swapsWith value (some (.Attribute o f pos')) pos.line X.env = pure false) : JS X (.Assign [.Attribute o f pos'] value pos) (cSFld X.K ta tv f) := ⟨c_sfld ha.run hv.run hs⟩
theorem j_ps_asg {tg e : Expr} {te : TE} {g : TG} (he : JE X e te) (hg : JG X tg g) (hs : swapsWithSole [tg] e pos.line X.env = pure false := by rfl) (hw : swappedStores [tg] e X.env = pure none := by rfl) (h1 : (assignEach [tg] X.env).map (·.2) = [assign tg X.env] := by rfl) : JS X (.Assign [tg] e pos) (tAsg te g) := ⟨ps_asg he.run hg.run hs hw h1⟩
theorem j_pg_sub {o i : Expr} {to ti : TE} {t : TSet} (ho : JE X o to) (hi : JE X i ti) (hs : JSet X t) (ha : ∀ v, assign (.Subscript o i pos) X.env v = (do
      let ov ← holding [v] (eval o X.env)
      let iv ← holding [v, ov] (eval i X.env)
      standAt pos
      holding [v, ov, iv] (setItem ov iv v)
      release [v, ov, iv] []) := by intro _; rfl) : JG X (.Subscript o i pos) (gSub to ti t) := ⟨pg_sub ho.run hi.run hs.run ha⟩
theorem j_ps_raiseF (hx : Exc X E) (hg : Gl X x) (hm : X.mg x = some (.ref C)) (hq : ExcC X.K C) (hc : X.calm = true) (ha : JA X (e :: es) t) (h : (e :: es).all notStar = true := by rfl) (hdb : (x == ("__debug__" : Str)) = false := by decide) : JS X (.Raise (some (.Call (.Name x np) (e :: es) [] cpos)) none pos) (tRaise C E t) := ⟨ps_raiseF hx hg hm hq hc ha.run h hdb⟩
theorem j_ps_try {body : List Stmt} {h₀ : ExceptHandler} {hs : List ExceptHandler} {tb : (St → XK) → TS} {t : TH} (hst : X.stack = X.env :: X.outer) (hf : X.env.frame = some X.env.locals) (hb : ∀ (E : St → XK) (W : Value → Shared → Prop) (pins : List (Addr × Obj)), Exc ((X.pinned pins).wish W) E → JSs ((X.pinned pins).wish W) body (tb E)) (hh : JH X (h₀ :: hs) t) : JS X (.Try body (h₀ :: hs) [] [] pos) (tTry tb t) := ⟨ps_try hst hf (fun E W pins h_0 => (hb E W pins h_0).run) hh.run⟩
theorem j_ph_as (hex : X.ex = []) (hg : Gl X x) (hm : X.mg x = some c) (hN : X.N.Nodup) (hi : X.N[i]? = some n) (hn : X.env.scope.names.lookup n = some .local) (hs : ∀ a, JSs (X.hnd a) (b₀ :: suite) th) (hr : JH X hrest tr) (hdb : (x == ("__debug__" : Str)) = false := by decide) : JH X (.ExceptHandler (some (.Name x np)) (some n) (b₀ :: suite) pos :: hrest) (hAs X.K c i th tr) := ⟨ph_as hex hg hm hN hi hn (fun a => (hs a).run) hr.run hdb⟩
theorem j_ph_nil  : JH X [] hNil := ⟨ph_nil ⟩
theorem j_pi_range1 {a : Expr} {ta : TA} {p pos : Pos} (hg : Gl X "range") (hm : X.mg "range" = none) (ha : JA X [a] ta) (hs : starEach [a] X.env = [(false, eval a X.env)] := by rfl) : JI X tg (.Call (.Name "range" p) [a] [] pos) (iRng1 ta) := ⟨pi_range1 hg hm ha.run hs⟩
theorem j_pi_range3 {a b c : Expr} {ta : TA} {p pos : Pos} (hg : Gl X "range") (hm : X.mg "range" = none) (ha : JA X [a, b, c] ta) (hns : [a, b, c].all notStar = true := by rfl) : JI X tg (.Call (.Name "range" p) [a, b, c] [] pos) (iRng3 ta) := ⟨pi_range3 hg hm ha.run hns⟩
theorem j_pg_lst {es : List Expr} {k : Nat} {t : TGs} {n : Nat} {pos : Pos} (hc : X.calm = true) (h : JGs X es t) (hn : (assignEach es X.env).length = n := by rfl) (hst : (assignEach es X.env).findIdx? (·.1) = none := by rfl) : JG X (.Tuple es k pos) (gLst n t) := ⟨pg_lst hc h.run hn hst⟩
theorem j_pgs_nil  : JGs X [] gNil := ⟨pgs_nil ⟩
theorem j_pgs_cons {e : Expr} {es : List Expr} {t : TG} {u : TGs} (h1 : JG X e t) (h2 : JGs X es u) (hs : (assignEach (e :: es) X.env).map (·.2) = assign e X.env :: (assignEach es X.env).map (·.2) := by rfl) : JGs X (e :: es) (gCons t u) := ⟨pgs_cons h1.run h2.run hs⟩
theorem j_pi_tup {l : Expr} {tl : TE} (hl : JE X l tl) : JI X tg l (iTup X.K tl) := ⟨pi_tup hl.run⟩
theorem j_ps_for {iter : Expr} {body : List Stmt} {wi : TI} {g : TG} {tb : TS} {pos : Pos} (hp : PassesOwn (model X.prog X.w) X.A X.env X.xe) (hc : X.calm = true) (hi : JI X tg iter wi) (hg : JG X tg g) (hb : JSs X body tb) (hs : ∀ x, foldedSetIterable iter X.env x = pure x := by intro _; rfl) : JS X (.For tg iter body [] pos) (tFor wi g tb) := ⟨ps_for hp hc hi.run hg.run hb.run hs⟩
theorem j_c_add  : JOp X (binaryOp .Add) cAdd := ⟨c_add ⟩
theorem j_c_sub  : JOp X (binaryOp .Sub) cSub := ⟨c_sub ⟩
theorem j_c_mul  : JOp X (binaryOp .Mult) cMul := ⟨c_mul ⟩
theorem j_c_fdiv  : JOp X (binaryOp .FloorDiv) cFdiv := ⟨c_fdiv ⟩
theorem j_c_mod  : JOp X (binaryOp .Mod) cMod := ⟨c_mod ⟩
theorem j_c_pow  : JOp X (binaryOp .Pow) cPow := ⟨c_pow ⟩
theorem j_c_lt  : JOp X (compareOp .Lt) cLt := ⟨c_lt ⟩
theorem j_c_le  : JOp X (compareOp .LtE) cLe := ⟨c_le ⟩
theorem j_c_gt  : JOp X (compareOp .Gt) cGt := ⟨c_gt ⟩
theorem j_c_eq  : JOp X (compareOp .Eq) cEq := ⟨c_eq ⟩
theorem j_c_ne  : JOp X (compareOp .NotEq) cNe := ⟨c_ne ⟩
theorem j_c_isnot  : JOp X (compareOp .IsNot) cIsNot := ⟨c_isnot ⟩
theorem j_c_neg  : JUn X (unaryOp .USub) cNeg := ⟨c_neg ⟩
theorem j_c_rep  : JOp X (binaryOp .Mult) cRep := ⟨c_rep ⟩
theorem j_c_ix  : JIx X cIx := ⟨c_ix ⟩
theorem j_c_ixS  : JIx X (cIxS X.K) := ⟨c_ixS ⟩
theorem j_c_len  : JCall X (.builtin "len") cLen := ⟨c_len ⟩
theorem j_c_lenS  : JCall X (.builtin "len") (cLenS X.K) := ⟨c_lenS ⟩
theorem j_call_isi {X : Cx} : JCall X (.builtin "isinstance") (rIsi X.K) := ⟨call_isi ⟩
theorem j_c_int  : JCall X (.type "int") cInt := ⟨c_int ⟩
theorem j_c_min2 (hc : X.calm = true) : JCall X (.builtin "min") cMin2 := ⟨c_min2 hc⟩
theorem j_c_max2 (hc : X.calm = true) : JCall X (.builtin "max") cMax2 := ⟨c_max2 hc⟩
theorem j_c_sl  : JSl X cSl := ⟨c_sl ⟩
theorem j_c_set  : JSet X cSetL := ⟨c_set ⟩
theorem j_c_append  : JMt X "list.append" cAppend := ⟨c_append ⟩
end
section
variable {X : Cx} {scope : Scope} {N2 : List Str} {x : List Str} {s : Shared} {Hb : Hp} {C : Addr} {ex : List Addr}
end
end L2

/-! the law's own text -/
namespace K03
open PySem L2
def top (i : Nat) : Stmt := PySem.Challenge.pw_cellkeep_k03_memory_copied.main.body.getD i (.Pass ⟨0, 0, 0, 0⟩)
abbrev s_is_whole : Stmt := top 6
abbrev s__law_cell_at : Stmt := top 19
abbrev s__law_whole : Stmt := top 20
abbrev s__law_names : Stmt := top 21
abbrev s_is_within : Stmt := top 7
abbrev s__law_due : Stmt := top 22
abbrev s__law_numbers : Stmt := top 24
abbrev s_is_number : Stmt := top 12
abbrev s_is_place : Stmt := top 13
abbrev s_Memory_init : Stmt := inClass (top 17) 0
abbrev s_Memory_want_place : Stmt := inClass (top 17) 4
abbrev s_Memory_want_stretch : Stmt := inClass (top 17) 5
abbrev s_kind : Stmt := top 14
abbrev s_Memory_read : Stmt := inClass (top 17) 1
abbrev s_Memory_copy : Stmt := inClass (top 17) 3
abbrev s_Memory_write : Stmt := inClass (top 17) 2
abbrev s__law_copied : Stmt := top 23
abbrev s_law : Stmt := top 25
theorem ln_0 : (Str.ofString "").length = 0 := by decide +kernel
theorem ln_1 : (Str.ofString "1").length = 1 := by decide +kernel
theorem ln_2 : (Str.ofString "a whole number that is no word").length = 30 := by decide +kernel
theorem ln_3 : (Str.ofString "a word is a whole number").length = 24 := by decide +kernel
theorem ln_4 : (Str.ofString "cellkeep.errors").length = 15 := by decide +kernel
theorem ln_5 : (Str.ofString "cellkeep.memory").length = 15 := by decide +kernel
theorem ln_6 : (Str.ofString "cellkeep.whole").length = 14 := by decide +kernel
theorem ln_7 : (Str.ofString "cellkeep.words").length = 14 := by decide +kernel
theorem ln_8 : (Str.ofString "count ").length = 6 := by decide +kernel
theorem ln_9 : (Str.ofString "count value").length = 11 := by decide +kernel
theorem ln_10 : (Str.ofString "law_cellkeep_k03_memory_copied").length = 30 := by decide +kernel
theorem ln_11 : (Str.ofString "no count of words").length = 17 := by decide +kernel
theorem ln_12 : (Str.ofString "no place of this memory").length = 23 := by decide +kernel
theorem ln_13 : (Str.ofString "no size of a memory").length = 19 := by decide +kernel
theorem ln_14 : (Str.ofString "nothing").length = 7 := by decide +kernel
theorem ln_15 : (Str.ofString "number").length = 6 := by decide +kernel
theorem ln_16 : (Str.ofString "place").length = 5 := by decide +kernel
theorem ln_17 : (Str.ofString "place ").length = 6 := by decide +kernel
theorem ln_18 : (Str.ofString "place value").length = 11 := by decide +kernel
theorem ln_19 : (Str.ofString "the stretch is not within this memory").length = 37 := by decide +kernel
theorem ln_20 : (Str.ofString "value").length = 5 := by decide +kernel
theorem ln_21 : (Str.ofString "word ").length = 5 := by decide +kernel
def isI : V → Bool
  | .int _ => true
  | _ => false
def isB : V → Bool
  | .bl _ => true
  | _ => false
/-- a thing of a known kind -/
def Kn (H : Hp) : V → Prop
  | .non => True
  | .bl _ => True
  | .int _ => True
  | .str _ => True
  | .ref a => (∃ xs, H a = some (.lst xs)) ∨ (∃ xs, H a = some (.tup xs)) ∨ ∃ kvs, H a = some (.dK kvs)
  | _ => False
theorem Kn.same {H H' : Hp} {v : V} (s : Same H H') (h : Kn H v) : Kn H' v := by
  cases v with
  | ref a =>
    rcases h with ⟨xs, e⟩ | ⟨xs, e⟩ | ⟨xs, e⟩
    · exact .inl ⟨xs, s _ _ e⟩
    · exact .inr (.inl ⟨xs, s _ _ e⟩)
    · exact .inr (.inr ⟨xs, s _ _ e⟩)
  | _ => exact h
def wi (v : V) (a b : Int) : Bool := match v with
  | .int i => decide (a ≤ i) && decide (i ≤ b)
  | _ => false
def iv : V → Int
  | .int i => i
  | _ => 0
def kd (v : V) : Option Str := match v with
  | .int w => if w = -1 then some "nothing" else if w % 2 = 0 ∧ wi (.int (w / 2)) (-1000000000000) 1000000000000 = true then some "number" else if w % 2 = 1 ∧ wi (.int (w / 2)) 0 9999 = true then some "place" else none
  | _ => none
theorem kd_is {i : Int} : kd (.int i) = if i = -1 then some (Str.ofString "nothing") else if i % 2 = 0 ∧ -2000000000000 ≤ i ∧ i ≤ 2000000000000 then some (Str.ofString "number") else if i % 2 = 1 ∧ 1 ≤ i ∧ i ≤ 19999 then some (Str.ofString "place") else none := by
  have e1 : (i % 2 = 0 ∧ wi (.int (i / 2)) (-1000000000000) 1000000000000 = true) ↔ (i % 2 = 0 ∧ -2000000000000 ≤ i ∧ i ≤ 2000000000000) := by
    simp only [wi, Bool.and_eq_true, decide_eq_true_eq]; constructor <;> intro h <;> omega
  have e2 : (i % 2 = 1 ∧ wi (.int (i / 2)) 0 9999 = true) ↔ (i % 2 = 1 ∧ 1 ≤ i ∧ i ≤ 19999) := by
    simp only [wi, Bool.and_eq_true, decide_eq_true_eq]; constructor <;> intro h <;> omega
  simp only [kd, e1, e2]
theorem at_ints {ws : List Int} {i : Int} (h0 : 0 ≤ i) (h1 : i ≤ ws.length - 1) : atI (ws.map V.int) i = some (.int (ws.getD i.toNat 0)) := by
  rw [atI_in h0 (by rw [List.length_map]; omega), List.getElem?_map, List.getElem?_eq_getElem (by omega), List.getD_eq_getElem?_getD, List.getElem?_eq_getElem (show i.toNat < ws.length by omega)]
  rfl
theorem ix_ints {ws : List Int} {i : Int} (h0 : 0 ≤ i) (h1 : i ≤ ws.length - 1) : ixN (ws.map V.int).length i = some i.toNat := ixN_in h0 (by rw [List.length_map]; omega)
theorem wi_int {v : V} {a b : Int} (h : wi v a b = true) : ∃ i, v = .int i ∧ a ≤ i ∧ i ≤ b := by
  cases v with
  | int i => simp [wi] at h; exact ⟨i, rfl, h.1, h.2⟩
  | _ => cases h
theorem kd_int {v : V} {x : Str} (h : kd v = some x) : ∃ i, v = .int i := by
  cases v with
  | int i => exact ⟨i, rfl⟩
  | _ => cases h
theorem set_ints {ws : List Int} {i : Nat} {x : Int} : (ws.map V.int).set i (.int x) = (ws.set i x).map V.int := by rw [List.map_set]
theorem s_sw : ¬ (("size" : Str) = "words") := by decide +kernel
/-- the fields of a memory -/
def mfl (n : Int) (q : Addr) : List (Str × V) := [("size", V.int n), ("words", V.ref q)]
theorem mfl_size {n : Int} {q : Addr} : (mfl n q).lookup ("size" : Str) = some (.int n) := by
  simp [mfl, List.lookup]
theorem mfl_words {n : Int} {q : Addr} : (mfl n q).lookup ("words" : Str) = some (.ref q) := by
  simp [mfl, List.lookup, show (("words" : Str) == "size") = false by decide +kernel]
theorem mfl_no {n : Int} {q : Addr} {m : Str} (h1 : (m == ("size" : Str)) = false) (h2 : (m == ("words" : Str)) = false) : (mfl n q).lookup m = none := by
  simp [mfl, List.lookup, h1, h2]
theorem mfl_wp {n : Int} {q : Addr} : (mfl n q).lookup ("want_place" : Str) = none := mfl_no (by decide +kernel) (by decide +kernel)
theorem mfl_ws {n : Int} {q : Addr} : (mfl n q).lookup ("want_stretch" : Str) = none := mfl_no (by decide +kernel) (by decide +kernel)
theorem mfl_rd {n : Int} {q : Addr} : (mfl n q).lookup ("read" : Str) = none := mfl_no (by decide +kernel) (by decide +kernel)
theorem mfl_wr {n : Int} {q : Addr} : (mfl n q).lookup ("write" : Str) = none := mfl_no (by decide +kernel) (by decide +kernel)
theorem mfl_cp {n : Int} {q : Addr} : (mfl n q).lookup ("copy" : Str) = none := mfl_no (by decide +kernel) (by decide +kernel)
theorem mfl_mk {n : Int} {q : Addr} : putF "words" (.ref q) (putF "size" (.int n) []) = mfl n q := by
  simp [putF, s_sw, mfl]
/-- a memory stands at p, its words, the numbers ws, at q -/
structure MemAt (c : Addr) (H : Hp) (p q : Addr) (ws : List Int) : Prop where
  ob : ∃ dx, H p = some (.ins c dx (mfl ws.length q))
  ls : H q = some (.lst (ws.map V.int))
section
variable {c p q : Addr} {H H' : Hp} {ws : List Int}
theorem MemAt.ne (m : MemAt c H p q ws) : p ≠ q := by
  obtain ⟨⟨dx, e⟩, l⟩ := m
  intro z; subst z; rw [e] at l; cases l
theorem MemAt.keep (m : MemAt c H p q ws) (h : ∀ b o, H b = some o → b = p ∨ b = q → H' b = some o) : MemAt c H' p q ws :=
  ⟨let ⟨dx, e⟩ := m.ob; ⟨dx, h _ _ e (.inl rfl)⟩, h _ _ m.ls (.inr rfl)⟩
theorem MemAt.same (m : MemAt c H p q ws) (s : Same H H') : MemAt c H' p q ws := m.keep fun b o e _ => s b o e
theorem MemAt.put (m : MemAt c H p q ws) (i : Nat) (x : Int) : MemAt c (upd H q (.lst ((ws.set i x).map V.int))) p q (ws.set i x) := by
  refine ⟨?_, upd_same⟩
  obtain ⟨dx, e⟩ := m.ob
  refine ⟨dx, ?_⟩
  rw [upd_ne m.ne, List.length_set]; exact e
end
/-- the first k of ks, laid from g on -/
def cp (ws ks : List Int) (g : Nat) : Nat → List Int
  | 0 => ws
  | k + 1 => (cp ws ks g k).set (g + k) (ks.getD k 0)
theorem cp_len {ws ks : List Int} {g : Nat} : ∀ k, (cp ws ks g k).length = ws.length
  | 0 => rfl
  | k + 1 => by rw [cp, List.length_set, cp_len k]
/-- what is to come of a copy: the word of its refusal, or nothing -/
def okA (v : V) (n m : Int) : Bool := wi v 0 (n - m)
def due3 (a g m : V) (n : Int) : Str :=
  if isI m = true ∧ 0 ≤ iv m then (if okA a n (iv m) = true ∧ okA g n (iv m) = true then Str.ofString "" else Str.ofString "place value") else Str.ofString "count value"
def copP (p r : Addr) (i j n : Int) (l : Addr) (ws ks : List Int) (H2 : Hp) : Nat → St → Hp → Prop := fun t σ H' => ∃ v8, σ = [some (.ref p), some (.ref r), some (.int i), some (.int j), some (.int n), some (.str (Str.ofString "")), none, some (.ref l), v8] ∧
  H' r = some (.lst ((cp ws ks j.toNat t).map V.int)) ∧ H' l = some (.lst (ks.map V.int)) ∧ (∀ b o, H2 b = some o → b ≠ r → H' b = some o)
structure Ad where
  f_is_whole : Addr
  d_is_whole : FuncData
  f__law_cell_at : Addr
  d__law_cell_at : FuncData
  f__law_whole : Addr
  d__law_whole : FuncData
  f__law_names : Addr
  d__law_names : FuncData
  f_is_within : Addr
  d_is_within : FuncData
  f__law_due : Addr
  d__law_due : FuncData
  f__law_numbers : Addr
  d__law_numbers : FuncData
  f_is_number : Addr
  d_is_number : FuncData
  f_is_place : Addr
  d_is_place : FuncData
  f_Memory_init : Addr
  d_Memory_init : FuncData
  f_Memory_want_place : Addr
  d_Memory_want_place : FuncData
  f_Memory_want_stretch : Addr
  d_Memory_want_stretch : FuncData
  f_kind : Addr
  d_kind : FuncData
  f_Memory_read : Addr
  d_Memory_read : FuncData
  f_Memory_copy : Addr
  d_Memory_copy : FuncData
  f_Memory_write : Addr
  d_Memory_write : FuncData
  f__law_copied : Addr
  d__law_copied : FuncData
  f_law : Addr
  d_law : FuncData
  c_KeepError : Addr
  c_BadWord : Addr
  c_BadCount : Addr
  c_NoPlace : Addr
  c_Memory : Addr
structure Txt (K : PySem.W.Frag) (mg : Str → Option Value) (A : Ad) : Prop where
  fn_is_whole : Fun K "is_whole" "is_whole" s_is_whole A.f_is_whole A.d_is_whole
  b_is_whole : Binds K A.d_is_whole ["thing"] []
  g_is_whole : mg "is_whole" = some (.ref A.f_is_whole)
  fn__law_cell_at : Fun K "_law_cell_at" "_law_cell_at" s__law_cell_at A.f__law_cell_at A.d__law_cell_at
  b__law_cell_at : Binds K A.d__law_cell_at ["_law_script", "_law_k"] []
  g__law_cell_at : mg "_law_cell_at" = some (.ref A.f__law_cell_at)
  fn__law_whole : Fun K "_law_whole" "_law_whole" s__law_whole A.f__law_whole A.d__law_whole
  b__law_whole : Binds K A.d__law_whole ["_law_found"] []
  g__law_whole : mg "_law_whole" = some (.ref A.f__law_whole)
  fn__law_names : Fun K "_law_names" "_law_names" s__law_names A.f__law_names A.d__law_names
  b__law_names : Binds K A.d__law_names ["_law_e"] []
  g__law_names : mg "_law_names" = some (.ref A.f__law_names)
  fn_is_within : Fun K "is_within" "is_within" s_is_within A.f_is_within A.d_is_within
  b_is_within : Binds K A.d_is_within ["thing", "least", "most"] []
  g_is_within : mg "is_within" = some (.ref A.f_is_within)
  fn__law_due : Fun K "_law_due" "_law_due" s__law_due A.f__law_due A.d__law_due
  b__law_due : Binds K A.d__law_due ["_law_start", "_law_goal", "_law_many", "_law_size"] []
  g__law_due : mg "_law_due" = some (.ref A.f__law_due)
  fn__law_numbers : Fun K "_law_numbers" "_law_numbers" s__law_numbers A.f__law_numbers A.d__law_numbers
  b__law_numbers : Binds K A.d__law_numbers ["_law_script", "_law_k", "_law_size"] []
  g__law_numbers : mg "_law_numbers" = some (.ref A.f__law_numbers)
  fn_is_number : Fun K "is_number" "is_number" s_is_number A.f_is_number A.d_is_number
  b_is_number : Binds K A.d_is_number ["thing"] []
  g_is_number : mg "is_number" = some (.ref A.f_is_number)
  fn_is_place : Fun K "is_place" "is_place" s_is_place A.f_is_place A.d_is_place
  b_is_place : Binds K A.d_is_place ["thing"] []
  g_is_place : mg "is_place" = some (.ref A.f_is_place)
  fn_Memory_init : Fun K "__init__" "Memory.__init__" s_Memory_init A.f_Memory_init A.d_Memory_init
  b_Memory_init : Binds K A.d_Memory_init ["self", "size"] []
  fn_Memory_want_place : Fun K "want_place" "Memory.want_place" s_Memory_want_place A.f_Memory_want_place A.d_Memory_want_place
  b_Memory_want_place : Binds K A.d_Memory_want_place ["self", "at"] []
  m_Memory_want_place : Meth K A.c_Memory "want_place" A.f_Memory_want_place
  fn_Memory_want_stretch : Fun K "want_stretch" "Memory.want_stretch" s_Memory_want_stretch A.f_Memory_want_stretch A.d_Memory_want_stretch
  b_Memory_want_stretch : Binds K A.d_Memory_want_stretch ["self", "begin", "many"] []
  m_Memory_want_stretch : Meth K A.c_Memory "want_stretch" A.f_Memory_want_stretch
  fn_kind : Fun K "kind" "kind" s_kind A.f_kind A.d_kind
  b_kind : Binds K A.d_kind ["word"] []
  g_kind : mg "kind" = some (.ref A.f_kind)
  fn_Memory_read : Fun K "read" "Memory.read" s_Memory_read A.f_Memory_read A.d_Memory_read
  b_Memory_read : Binds K A.d_Memory_read ["self", "at"] []
  m_Memory_read : Meth K A.c_Memory "read" A.f_Memory_read
  fn_Memory_copy : Fun K "copy" "Memory.copy" s_Memory_copy A.f_Memory_copy A.d_Memory_copy
  b_Memory_copy : Binds K A.d_Memory_copy ["self", "start", "goal", "many"] []
  m_Memory_copy : Meth K A.c_Memory "copy" A.f_Memory_copy
  fn_Memory_write : Fun K "write" "Memory.write" s_Memory_write A.f_Memory_write A.d_Memory_write
  b_Memory_write : Binds K A.d_Memory_write ["self", "at", "word"] []
  m_Memory_write : Meth K A.c_Memory "write" A.f_Memory_write
  fn__law_copied : Fun K "_law_copied" "_law_copied" s__law_copied A.f__law_copied A.d__law_copied
  b__law_copied : Binds K A.d__law_copied ["_law_memory", "_law_row", "_law_start", "_law_goal", "_law_many"] []
  g__law_copied : mg "_law_copied" = some (.ref A.f__law_copied)
  fn_law : Fun K "law" "law" s_law A.f_law A.d_law
  b_law : Binds K A.d_law ["_law_script"] []
  g_law : mg "law" = some (.ref A.f_law)
  g_Memory : mg "Memory" = some (.ref A.c_Memory)
  cl_Memory : Cls K A.c_Memory
  mk_Memory : Mk K A.c_Memory A.f_Memory_init
  na_Memory_size : NoAttr K A.c_Memory "size"
  na_Memory_words : NoAttr K A.c_Memory "words"
  v_NOTHING : Gv mg "NOTHING" (.int (-1))
  v_MOST_NUMBER : Gv mg "MOST_NUMBER" (.int (1000000000000))
  v_MOST_PLACE : Gv mg "MOST_PLACE" (.int (9999))
  v_MOST_WORDS : Gv mg "MOST_WORDS" (.int (4000))
  g_KeepError : mg "KeepError" = some (.ref A.c_KeepError)
  v_KeepError : Gv mg "KeepError" (.ref A.c_KeepError)
  g_BadWord : mg "BadWord" = some (.ref A.c_BadWord)
  v_BadWord : Gv mg "BadWord" (.ref A.c_BadWord)
  g_BadCount : mg "BadCount" = some (.ref A.c_BadCount)
  v_BadCount : Gv mg "BadCount" (.ref A.c_BadCount)
  g_NoPlace : mg "NoPlace" = some (.ref A.c_NoPlace)
  v_NoPlace : Gv mg "NoPlace" (.ref A.c_NoPlace)
  x_BadWord : ExcC K A.c_BadWord
  ki_BadWord : KiE K A.c_BadWord
  em_BadWord_KeepError : PySem.W.exmOne K (.ref A.c_BadWord) (.ref A.c_KeepError) = some true
  k2_BadWord_BadCount : PySem.W.kitOne K (.ref A.c_BadWord) (.ref A.c_BadCount) = some false
  k2_BadWord_NoPlace : PySem.W.kitOne K (.ref A.c_BadWord) (.ref A.c_NoPlace) = some false
  k2_BadWord_BadWord : PySem.W.kitOne K (.ref A.c_BadWord) (.ref A.c_BadWord) = some true
  k2_BadWord_ValueError : PySem.W.kitOne K (.ref A.c_BadWord) (.type "ValueError") = some true
  x_BadCount : ExcC K A.c_BadCount
  ki_BadCount : KiE K A.c_BadCount
  em_BadCount_KeepError : PySem.W.exmOne K (.ref A.c_BadCount) (.ref A.c_KeepError) = some true
  k2_BadCount_BadCount : PySem.W.kitOne K (.ref A.c_BadCount) (.ref A.c_BadCount) = some true
  k2_BadCount_NoPlace : PySem.W.kitOne K (.ref A.c_BadCount) (.ref A.c_NoPlace) = some false
  k2_BadCount_BadWord : PySem.W.kitOne K (.ref A.c_BadCount) (.ref A.c_BadWord) = some false
  k2_BadCount_ValueError : PySem.W.kitOne K (.ref A.c_BadCount) (.type "ValueError") = some true
  x_NoPlace : ExcC K A.c_NoPlace
  ki_NoPlace : KiE K A.c_NoPlace
  em_NoPlace_KeepError : PySem.W.exmOne K (.ref A.c_NoPlace) (.ref A.c_KeepError) = some true
  k2_NoPlace_BadCount : PySem.W.kitOne K (.ref A.c_NoPlace) (.ref A.c_BadCount) = some false
  k2_NoPlace_NoPlace : PySem.W.kitOne K (.ref A.c_NoPlace) (.ref A.c_NoPlace) = some true
  k2_NoPlace_BadWord : PySem.W.kitOne K (.ref A.c_NoPlace) (.ref A.c_BadWord) = some false
  k2_NoPlace_ValueError : PySem.W.kitOne K (.ref A.c_NoPlace) (.type "ValueError") = some true
  kt_NoneType_int : PySem.W.kitOne K (.type "NoneType") (.type "int") = some false
  kt_NoneType_bool : PySem.W.kitOne K (.type "NoneType") (.type "bool") = some false
  kt_bool_int : PySem.W.kitOne K (.type "bool") (.type "int") = some true
  kt_bool_bool : PySem.W.kitOne K (.type "bool") (.type "bool") = some true
  kt_int_int : PySem.W.kitOne K (.type "int") (.type "int") = some true
  kt_int_bool : PySem.W.kitOne K (.type "int") (.type "bool") = some false
  kt_str_int : PySem.W.kitOne K (.type "str") (.type "int") = some false
  kt_str_bool : PySem.W.kitOne K (.type "str") (.type "bool") = some false
  kt_list_int : PySem.W.kitOne K (.type "list") (.type "int") = some false
  kt_list_bool : PySem.W.kitOne K (.type "list") (.type "bool") = some false
  kt_tuple_int : PySem.W.kitOne K (.type "tuple") (.type "int") = some false
  kt_tuple_bool : PySem.W.kitOne K (.type "tuple") (.type "bool") = some false
  kt_dict_int : PySem.W.kitOne K (.type "dict") (.type "int") = some false
  kt_dict_bool : PySem.W.kitOne K (.type "dict") (.type "bool") = some false
  n_ValueError : mg "ValueError" = none
  n_bool : mg "bool" = none
  n_int : mg "int" = none
  n_isinstance : mg "isinstance" = none
  n_len : mg "len" = none
  n_max : mg "max" = none
  n_min : mg "min" = none
  n_range : mg "range" = none
section
variable {P : Program} {w : World} {K : PySem.W.Frag} {mg : Str → Option Value} {base : Heap} {A : Ad}
theorem kn_ty (T : Txt K mg A) {H : Hp} {v : V} (h : Kn H v) : ∃ t, tyo H v = some t ∧ OkTy K H v ∧ PySem.W.kitOne K t (.type "int") = some (isI v || isB v) ∧ PySem.W.kitOne K t (.type "bool") = some (isB v) := by
  cases v with
  | non => exact ⟨_, rfl, True.intro, T.kt_NoneType_int, T.kt_NoneType_bool⟩
  | bl b => exact ⟨_, rfl, True.intro, T.kt_bool_int, T.kt_bool_bool⟩
  | int i => exact ⟨_, rfl, True.intro, T.kt_int_int, T.kt_int_bool⟩
  | str x => exact ⟨_, rfl, True.intro, T.kt_str_int, T.kt_str_bool⟩
  | ref a =>
    rcases h with ⟨xs, e⟩ | ⟨xs, e⟩ | ⟨xs, e⟩
    · exact ⟨.type "list", by simp [tyo, e], by simp [OkTy, e], T.kt_list_int, T.kt_list_bool⟩
    · exact ⟨.type "tuple", by simp [tyo, e], by simp [OkTy, e], T.kt_tuple_int, T.kt_tuple_bool⟩
    · exact ⟨.type "dict", by simp [tyo, e], by simp [OkTy, e], T.kt_dict_int, T.kt_dict_bool⟩
  | byt b => exact h.elim
  | flt b => exact h.elim
  | ty n => exact h.elim
def sp_is_whole : Sp := fun vs H Q _ => ∃ v, vs = [v] ∧ Kn H v ∧ Q (.bl (isI v)) H
theorem sc_is_whole : FnScope ["thing"] ["thing"] (defScope s_is_whole) := ⟨rfl, rfl, rfl, by decide +kernel, rfl, by decide +kernel, by decide +kernel⟩
theorem ok_is_whole {ca : Bool} (T : Txt K mg A) : FnOk P w K mg base (CXE P w) ca 1 A.f_is_whole A.d_is_whole ["thing"] sp_is_whole := by
  refine T.fn_is_whole.okE sc_is_whole (fun vs H Q E h => ?_) (fun cdv A' outer s H vs Q E hr hx h => ?_)
  · obtain ⟨v, rfl, hk, q⟩ := h
    rfl
  · obtain ⟨v, rfl, hk, q⟩ := h
    refine ⟨_, JSs.run (j_pss_one (j_ps_ret (j_pe_and (j_pe_callBF j_call_isi (by rfl) T.n_isinstance PyProof.Rows.Boot.«isinstance» (j_pa_c (j_cv 0) (j_pa_c (j_pe_ty T.n_int PyProof.Rows.Boot.«int») j_pa_nil))) (j_pe_one (j_pe_not (j_pe_callBF j_call_isi (by rfl) T.n_isinstance PyProof.Rows.Boot.«isinstance» (j_pa_c (j_cv 0) (j_pa_c (j_pe_ty T.n_bool PyProof.Rows.Boot.«bool») j_pa_nil)))))))), ?_⟩
    obtain ⟨t, h1, h2, h3, h4⟩ := kn_ty T hk
    simp only [tRet, tRetN, tNext, tDrop, tSeq, tIfS, tTest, tB, tOp, tUn, tAnd, tOr, tNot, tAndV, tOrV, tNotV, tIf, tCB, tCons, tNil, tC, cVar, tLst, tTup, tAsg, gName, tCallE, tRaise, tTry, tDNewK, cAdd, cSub, cMul, cFdiv, cMod, cPow, cLt, cLe, cGt, cGe, cCmp, cEq, cNe, eqv, cIs, cIsNot, isNon, cNeg, tChain, rIxM, rIsi, kitV, cIx, cLen, cIxS, cLenS, cAbs, cInt, cxOf_K, TruV, and_assoc, CDiv, CMul, CPow, true_or, or_true, Int.reduceLT, Int.reduceEq, Int.reduceMod, Int.reduceDiv, Int.reduceNe, Int.reduceGT, Int.reduceGE, Nat.reduceEqDiff, Nat.reduceMul, Nat.reduceLT, Int.cast_ofNat_Int, Int.reduceLE, Int.reduceNeg, Int.reducePow, Int.reduceToNat, Int.reduceMul, Int.reduceAdd, Int.reduceSub, ofs_inj, ofs_app, emp_ofs, String.reduceAppend, String.reduceEq, Nat.reduceLeDiff, reduceIte, Bool.not_eq_true', Bool.not_true, Bool.not_false, exc_rt, rm_upd, upd_same, decide_true, decide_false, Bool.true_eq_false, tFor_eq, tComp, capt, tYes, cAll, cList, cEqA, cNeA, cEqL, cNeL, rIsT, kitVs, iRng1, iRng2, iRng3, gLst, gCons, gNil, iList, iTup, cFld, cSFld, cMethE, cSetL, cRep, cSl, cSlS, cPart, tNoPart, tSl, cAppend, cMin2, cMax2, cBM, cDGet2, cDGet, cDPut, keyV, gSub, tMakeE, atI_0, atI_1, atI_2, atI_3, atI_4, atI_5, atI_6, atI_7, atI_8, atI_9, atI_10, atI_11, atI_12, eq_self, not_true_eq_false, not_false_eq_true, decide_eq_false_iff_not, L2.start, cSum, cCat, cListR, cInD, cNotInD, cDPop, cLenD, cIsA, cIsNotA, isBl, cSorted, tComp2, cExtend, intsV_map, List.map_cons, List.map_nil, List.length_cons, List.length_nil, List.replicate, List.cons_append, List.nil_append, List.append_nil, List.getElem?_cons_zero, List.getElem?_cons_succ, List.set_cons_zero, List.set_cons_succ, V.int.injEq, V.bl.injEq, V.str.injEq, V.ref.injEq, V.ty.injEq, List.cons.injEq, Option.some.injEq, and_true, true_and, exists_eq_left', exists_and_left, exists_eq_left, exists_const, reduceCtorEq, false_and, and_false, exists_false, ite_true, ite_false, Bool.false_eq_true, decide_eq_true_eq, Nat.reduceSub, Nat.reduceAdd, Nat.sub_self, sz0, sz1, sz2, sz3, sz4, sz5, sz6, sz7, sz8, sz9, sz10, sz11, sz12, sz13, sz14, sz15, sz16, sz17, sz18, sz19, sz20, sz21, sz22, sz23, sz24, sz25, sz26, sz27, sz28, sz29, sz30, sz31, sz32, sz33, sz34, sz35, sz36, sz37, sz38, sz39, sz40, sz41, sz42, sz43, sz44, sz45, sz46, sz47, sz48, sz49, sz50, sz51, sz52, sz53, sz54, sz55, sz56, sz57, sz58, sz59, sz60, ln_0, ln_1, ln_2, ln_3, ln_4, ln_5, ln_6, ln_7, ln_8, ln_9, ln_10, ln_11, ln_12, ln_13, ln_14, ln_15, ln_16, ln_17, ln_18, ln_19, ln_20, ln_21, h1, h2, h3, h4]
    cases v <;> simpa [isI, isB] using q
def cat (ns : List Int) (k : Int) : Int := ns.getD k.toNat 0
theorem atI_ints {ns : List Int} {k : Int} (h0 : 0 ≤ k) (h : k < (ns.map V.int).length) : atI (ns.map V.int) k = some (.int (cat ns k)) := by
  obtain ⟨n, rfl⟩ : ∃ n : Nat, k = n := ⟨k.toNat, by omega⟩
  rw [List.length_map] at h
  refine atI_nat ?_
  rw [List.getElem?_map, List.getElem?_eq_getElem (by omega)]
  simp only [cat, Int.toNat_natCast, Option.map_some, List.getD_eq_getElem?_getD, List.getElem?_eq_getElem (show n < ns.length by omega), Option.getD_some]
theorem cat_out {ns : List Int} {k : Int} (h0 : 0 ≤ k) (h : ¬ k < (ns.map V.int).length) : cat ns k = 0 := by
  rw [List.length_map] at h
  unfold cat
  rw [List.getD_eq_getElem?_getD, List.getElem?_eq_none (by omega)]
  rfl
def sp__law_cell_at (K : PySem.W.Frag) : Sp := fun vs H Q _ => ∃ a ns k, vs = [.ref a, .int k] ∧ SqL K H a (ns.map V.int) ∧ 0 ≤ k ∧ Q (.int (cat ns k)) H
theorem sc__law_cell_at : FnScope ["_law_script", "_law_k"] ["_law_script", "_law_k"] (defScope s__law_cell_at) := ⟨rfl, rfl, rfl, by decide +kernel, rfl, by decide +kernel, by decide +kernel⟩
theorem ok__law_cell_at {ca : Bool} (T : Txt K mg A) : FnOk P w K mg base (CXE P w) ca 1 A.f__law_cell_at A.d__law_cell_at ["_law_script", "_law_k"] (sp__law_cell_at K) := by
  refine T.fn__law_cell_at.okE sc__law_cell_at (fun vs H Q E h => ?_) (fun cdv A' outer s H vs Q E hr hx h => ?_)
  · obtain ⟨a, ns, k, rfl, hS, h0, q⟩ := h
    rfl
  · obtain ⟨a, ns, k, rfl, hS, h0, q⟩ := h
    refine ⟨_, JSs.run (j_pss_cons (j_ps_if (j_pt_cmpR j_c_lt (j_cv 1) (j_pe_callBF j_c_lenS (by rfl) T.n_len PyProof.Rows.Boot.«len» (j_pa_c (j_cv 0) j_pa_nil)) (nomark _)) (j_pss_one (j_ps_ret (j_pe_ix j_c_ixS (j_cv 0) (j_cv 1) (fun _ _ => rfl)))) j_pss_nil)
      (j_pss_one (j_ps_ret j_pe_int))), ?_⟩
    simp only [tRet, tRetN, tNext, tDrop, tSeq, tIfS, tTest, tB, tOp, tUn, tAnd, tOr, tNot, tAndV, tOrV, tNotV, tIf, tCB, tCons, tNil, tC, cVar, tLst, tTup, tAsg, gName, tCallE, tRaise, tTry, tDNewK, cAdd, cSub, cMul, cFdiv, cMod, cPow, cLt, cLe, cGt, cGe, cCmp, cEq, cNe, eqv, cIs, cIsNot, isNon, cNeg, tChain, rIxM, rIsi, kitV, cIx, cLen, cIxS, cLenS, cAbs, cInt, cxOf_K, TruV, and_assoc, CDiv, CMul, CPow, true_or, or_true, Int.reduceLT, Int.reduceEq, Int.reduceMod, Int.reduceDiv, Int.reduceNe, Int.reduceGT, Int.reduceGE, Nat.reduceEqDiff, Nat.reduceMul, Nat.reduceLT, Int.cast_ofNat_Int, Int.reduceLE, Int.reduceNeg, Int.reducePow, Int.reduceToNat, Int.reduceMul, Int.reduceAdd, Int.reduceSub, ofs_inj, ofs_app, emp_ofs, String.reduceAppend, String.reduceEq, Nat.reduceLeDiff, reduceIte, Bool.not_eq_true', Bool.not_true, Bool.not_false, exc_rt, rm_upd, upd_same, decide_true, decide_false, Bool.true_eq_false, tFor_eq, tComp, capt, tYes, cAll, cList, cEqA, cNeA, cEqL, cNeL, rIsT, kitVs, iRng1, iRng2, iRng3, gLst, gCons, gNil, iList, iTup, cFld, cSFld, cMethE, cSetL, cRep, cSl, cSlS, cPart, tNoPart, tSl, cAppend, cMin2, cMax2, cBM, cDGet2, cDGet, cDPut, keyV, gSub, tMakeE, atI_0, atI_1, atI_2, atI_3, atI_4, atI_5, atI_6, atI_7, atI_8, atI_9, atI_10, atI_11, atI_12, eq_self, not_true_eq_false, not_false_eq_true, decide_eq_false_iff_not, L2.start, cSum, cCat, cListR, cInD, cNotInD, cDPop, cLenD, cIsA, cIsNotA, isBl, cSorted, tComp2, cExtend, intsV_map, List.map_cons, List.map_nil, List.length_cons, List.length_nil, List.replicate, List.cons_append, List.nil_append, List.append_nil, List.getElem?_cons_zero, List.getElem?_cons_succ, List.set_cons_zero, List.set_cons_succ, V.int.injEq, V.bl.injEq, V.str.injEq, V.ref.injEq, V.ty.injEq, List.cons.injEq, Option.some.injEq, and_true, true_and, exists_eq_left', exists_and_left, exists_eq_left, exists_const, reduceCtorEq, false_and, and_false, exists_false, ite_true, ite_false, Bool.false_eq_true, decide_eq_true_eq, Nat.reduceSub, Nat.reduceAdd, Nat.sub_self, sz0, sz1, sz2, sz3, sz4, sz5, sz6, sz7, sz8, sz9, sz10, sz11, sz12, sz13, sz14, sz15, sz16, sz17, sz18, sz19, sz20, sz21, sz22, sz23, sz24, sz25, sz26, sz27, sz28, sz29, sz30, sz31, sz32, sz33, sz34, sz35, sz36, sz37, sz38, sz39, sz40, sz41, sz42, sz43, sz44, sz45, sz46, sz47, sz48, sz49, sz50, sz51, sz52, sz53, sz54, sz55, sz56, sz57, sz58, sz59, sz60, ln_0, ln_1, ln_2, ln_3, ln_4, ln_5, ln_6, ln_7, ln_8, ln_9, ln_10, ln_11, ln_12, ln_13, ln_14, ln_15, ln_16, ln_17, ln_18, ln_19, ln_20, ln_21]
    refine ⟨_, hS, ?_⟩
    split <;> rename_i h
    · refine ⟨_, hS, ?_⟩
      rw [atI_ints h0 h]; exact q
    · rw [cat_out h0 h] at q; exact q
def sp__law_whole : Sp := fun vs H Q _ => ∃ v, vs = [v] ∧ Kn H v ∧ Q (.bl (isI v)) H
theorem sc__law_whole : FnScope ["_law_found"] ["_law_found"] (defScope s__law_whole) := ⟨rfl, rfl, rfl, by decide +kernel, rfl, by decide +kernel, by decide +kernel⟩
theorem ok__law_whole {ca : Bool} (T : Txt K mg A) : FnOk P w K mg base (CXE P w) ca 1 A.f__law_whole A.d__law_whole ["_law_found"] sp__law_whole := by
  refine T.fn__law_whole.okE sc__law_whole (fun vs H Q E h => ?_) (fun cdv A' outer s H vs Q E hr hx h => ?_)
  · obtain ⟨v, rfl, hk, q⟩ := h
    rfl
  · obtain ⟨v, rfl, hk, q⟩ := h
    refine ⟨_, JSs.run (j_pss_one (j_ps_ret (j_pe_and (j_pe_callBF j_call_isi (by rfl) T.n_isinstance PyProof.Rows.Boot.«isinstance» (j_pa_c (j_cv 0) (j_pa_c (j_pe_ty T.n_int PyProof.Rows.Boot.«int») j_pa_nil))) (j_pe_one (j_pe_not (j_pe_callBF j_call_isi (by rfl) T.n_isinstance PyProof.Rows.Boot.«isinstance» (j_pa_c (j_cv 0) (j_pa_c (j_pe_ty T.n_bool PyProof.Rows.Boot.«bool») j_pa_nil)))))))), ?_⟩
    obtain ⟨t, h1, h2, h3, h4⟩ := kn_ty T hk
    simp only [tRet, tRetN, tNext, tDrop, tSeq, tIfS, tTest, tB, tOp, tUn, tAnd, tOr, tNot, tAndV, tOrV, tNotV, tIf, tCB, tCons, tNil, tC, cVar, tLst, tTup, tAsg, gName, tCallE, tRaise, tTry, tDNewK, cAdd, cSub, cMul, cFdiv, cMod, cPow, cLt, cLe, cGt, cGe, cCmp, cEq, cNe, eqv, cIs, cIsNot, isNon, cNeg, tChain, rIxM, rIsi, kitV, cIx, cLen, cIxS, cLenS, cAbs, cInt, cxOf_K, TruV, and_assoc, CDiv, CMul, CPow, true_or, or_true, Int.reduceLT, Int.reduceEq, Int.reduceMod, Int.reduceDiv, Int.reduceNe, Int.reduceGT, Int.reduceGE, Nat.reduceEqDiff, Nat.reduceMul, Nat.reduceLT, Int.cast_ofNat_Int, Int.reduceLE, Int.reduceNeg, Int.reducePow, Int.reduceToNat, Int.reduceMul, Int.reduceAdd, Int.reduceSub, ofs_inj, ofs_app, emp_ofs, String.reduceAppend, String.reduceEq, Nat.reduceLeDiff, reduceIte, Bool.not_eq_true', Bool.not_true, Bool.not_false, exc_rt, rm_upd, upd_same, decide_true, decide_false, Bool.true_eq_false, tFor_eq, tComp, capt, tYes, cAll, cList, cEqA, cNeA, cEqL, cNeL, rIsT, kitVs, iRng1, iRng2, iRng3, gLst, gCons, gNil, iList, iTup, cFld, cSFld, cMethE, cSetL, cRep, cSl, cSlS, cPart, tNoPart, tSl, cAppend, cMin2, cMax2, cBM, cDGet2, cDGet, cDPut, keyV, gSub, tMakeE, atI_0, atI_1, atI_2, atI_3, atI_4, atI_5, atI_6, atI_7, atI_8, atI_9, atI_10, atI_11, atI_12, eq_self, not_true_eq_false, not_false_eq_true, decide_eq_false_iff_not, L2.start, cSum, cCat, cListR, cInD, cNotInD, cDPop, cLenD, cIsA, cIsNotA, isBl, cSorted, tComp2, cExtend, intsV_map, List.map_cons, List.map_nil, List.length_cons, List.length_nil, List.replicate, List.cons_append, List.nil_append, List.append_nil, List.getElem?_cons_zero, List.getElem?_cons_succ, List.set_cons_zero, List.set_cons_succ, V.int.injEq, V.bl.injEq, V.str.injEq, V.ref.injEq, V.ty.injEq, List.cons.injEq, Option.some.injEq, and_true, true_and, exists_eq_left', exists_and_left, exists_eq_left, exists_const, reduceCtorEq, false_and, and_false, exists_false, ite_true, ite_false, Bool.false_eq_true, decide_eq_true_eq, Nat.reduceSub, Nat.reduceAdd, Nat.sub_self, sz0, sz1, sz2, sz3, sz4, sz5, sz6, sz7, sz8, sz9, sz10, sz11, sz12, sz13, sz14, sz15, sz16, sz17, sz18, sz19, sz20, sz21, sz22, sz23, sz24, sz25, sz26, sz27, sz28, sz29, sz30, sz31, sz32, sz33, sz34, sz35, sz36, sz37, sz38, sz39, sz40, sz41, sz42, sz43, sz44, sz45, sz46, sz47, sz48, sz49, sz50, sz51, sz52, sz53, sz54, sz55, sz56, sz57, sz58, sz59, sz60, ln_0, ln_1, ln_2, ln_3, ln_4, ln_5, ln_6, ln_7, ln_8, ln_9, ln_10, ln_11, ln_12, ln_13, ln_14, ln_15, ln_16, ln_17, ln_18, ln_19, ln_20, ln_21, h1, h2, h3, h4]
    cases v <;> simpa [isI, isB] using q
def sp__law_names (A : Ad) : Sp := fun vs H Q _ => ∃ a, vs = [.ref a] ∧ ((H a = some (.exc (.ref A.c_BadCount)) ∧ Q (.str (Str.ofString "count value")) H) ∨ (H a = some (.exc (.ref A.c_NoPlace)) ∧ Q (.str (Str.ofString "place value")) H) ∨ (H a = some (.exc (.ref A.c_BadWord)) ∧ Q (.str (Str.ofString "word value")) H))
theorem sc__law_names : FnScope ["_law_e", "_law_found"] ["_law_e"] (defScope s__law_names) := ⟨rfl, rfl, rfl, by decide +kernel, rfl, by decide +kernel, by decide +kernel⟩
theorem ok__law_names {ca : Bool} (T : Txt K mg A) : FnOk P w K mg base (CXE P w) ca 1 A.f__law_names A.d__law_names ["_law_e"] (sp__law_names A) := by
  refine T.fn__law_names.okE sc__law_names (fun vs H Q E h => ?_) (fun cdv A' outer s H vs Q E hr hx h => ?_)
  · obtain ⟨a, rfl, h⟩ := h
    rfl
  · obtain ⟨a, rfl, h⟩ := h
    refine ⟨_, JSs.run (j_pss_cons (j_ps_set (i := 1) sc__law_names.nd rfl (by first | exact Or.inl rfl | exact Or.inr rfl) (j_pe_op j_c_add (j_pe_op j_c_mul j_pe_str (j_pe_callTyF j_c_int (by rfl) T.n_int PyProof.Rows.Boot.«int» (j_pa_c (j_pe_callBF j_call_isi (by rfl) T.n_isinstance PyProof.Rows.Boot.«isinstance» (j_pa_c (j_cv 0) (j_pa_c (j_pe_gv T.v_BadCount) j_pa_nil))) j_pa_nil))) (j_pe_op j_c_mul j_pe_str (j_pe_callTyF j_c_int (by rfl) T.n_int PyProof.Rows.Boot.«int» (j_pa_c (j_pe_callBF j_call_isi (by rfl) T.n_isinstance PyProof.Rows.Boot.«isinstance» (j_pa_c (j_cv 0) (j_pa_c (j_pe_gv T.v_NoPlace) j_pa_nil))) j_pa_nil)))))
      (j_pss_one (j_ps_ret (j_pe_op j_c_add (j_pe_op j_c_add (j_cv 1) (j_pe_op j_c_mul j_pe_str (j_pe_callTyF j_c_int (by rfl) T.n_int PyProof.Rows.Boot.«int» (j_pa_c (j_pe_callBF j_call_isi (by rfl) T.n_isinstance PyProof.Rows.Boot.«isinstance» (j_pa_c (j_cv 0) (j_pa_c (j_pe_gv T.v_BadWord) j_pa_nil))) j_pa_nil)))) (j_pe_op j_c_mul j_pe_str (j_pe_callTyF j_c_int (by rfl) T.n_int PyProof.Rows.Boot.«int» (j_pa_c (j_pe_callBF j_call_isi (by rfl) T.n_isinstance PyProof.Rows.Boot.«isinstance» (j_pa_c (j_cv 0) (j_pa_c (j_pe_ty T.n_ValueError PyProof.Rows.Boot.«ValueError») j_pa_nil))) j_pa_nil))))))), ?_⟩
    rcases h with ⟨e, q⟩ | ⟨e, q⟩ | ⟨e, q⟩
    · have ki : ∃ C, Value.ref A.c_BadCount = Value.ref C ∧ KiE K C := ⟨_, rfl, T.ki_BadCount⟩
      simp only [tRet, tRetN, tNext, tDrop, tSeq, tIfS, tTest, tB, tOp, tUn, tAnd, tOr, tNot, tAndV, tOrV, tNotV, tIf, tCB, tCons, tNil, tC, cVar, tLst, tTup, tAsg, gName, tCallE, tRaise, tTry, tDNewK, cAdd, cSub, cMul, cFdiv, cMod, cPow, cLt, cLe, cGt, cGe, cCmp, cEq, cNe, eqv, cIs, cIsNot, isNon, cNeg, tChain, rIxM, rIsi, kitV, cIx, cLen, cIxS, cLenS, cAbs, cInt, cxOf_K, TruV, and_assoc, CDiv, CMul, CPow, true_or, or_true, Int.reduceLT, Int.reduceEq, Int.reduceMod, Int.reduceDiv, Int.reduceNe, Int.reduceGT, Int.reduceGE, Nat.reduceEqDiff, Nat.reduceMul, Nat.reduceLT, Int.cast_ofNat_Int, Int.reduceLE, Int.reduceNeg, Int.reducePow, Int.reduceToNat, Int.reduceMul, Int.reduceAdd, Int.reduceSub, ofs_inj, ofs_app, emp_ofs, String.reduceAppend, String.reduceEq, Nat.reduceLeDiff, reduceIte, Bool.not_eq_true', Bool.not_true, Bool.not_false, exc_rt, rm_upd, upd_same, decide_true, decide_false, Bool.true_eq_false, tFor_eq, tComp, capt, tYes, cAll, cList, cEqA, cNeA, cEqL, cNeL, rIsT, kitVs, iRng1, iRng2, iRng3, gLst, gCons, gNil, iList, iTup, cFld, cSFld, cMethE, cSetL, cRep, cSl, cSlS, cPart, tNoPart, tSl, cAppend, cMin2, cMax2, cBM, cDGet2, cDGet, cDPut, keyV, gSub, tMakeE, atI_0, atI_1, atI_2, atI_3, atI_4, atI_5, atI_6, atI_7, atI_8, atI_9, atI_10, atI_11, atI_12, eq_self, not_true_eq_false, not_false_eq_true, decide_eq_false_iff_not, L2.start, cSum, cCat, cListR, cInD, cNotInD, cDPop, cLenD, cIsA, cIsNotA, isBl, cSorted, tComp2, cExtend, intsV_map, List.map_cons, List.map_nil, List.length_cons, List.length_nil, List.replicate, List.cons_append, List.nil_append, List.append_nil, List.getElem?_cons_zero, List.getElem?_cons_succ, List.set_cons_zero, List.set_cons_succ, V.int.injEq, V.bl.injEq, V.str.injEq, V.ref.injEq, V.ty.injEq, List.cons.injEq, Option.some.injEq, and_true, true_and, exists_eq_left', exists_and_left, exists_eq_left, exists_const, reduceCtorEq, false_and, and_false, exists_false, ite_true, ite_false, Bool.false_eq_true, decide_eq_true_eq, Nat.reduceSub, Nat.reduceAdd, Nat.sub_self, sz0, sz1, sz2, sz3, sz4, sz5, sz6, sz7, sz8, sz9, sz10, sz11, sz12, sz13, sz14, sz15, sz16, sz17, sz18, sz19, sz20, sz21, sz22, sz23, sz24, sz25, sz26, sz27, sz28, sz29, sz30, sz31, sz32, sz33, sz34, sz35, sz36, sz37, sz38, sz39, sz40, sz41, sz42, sz43, sz44, sz45, sz46, sz47, sz48, sz49, sz50, sz51, sz52, sz53, sz54, sz55, sz56, sz57, sz58, sz59, sz60, ln_0, ln_1, ln_2, ln_3, ln_4, ln_5, ln_6, ln_7, ln_8, ln_9, ln_10, ln_11, ln_12, ln_13, ln_14, ln_15, ln_16, ln_17, ln_18, ln_19, ln_20, ln_21, tyo, OkTy, e, ki, T.k2_BadCount_BadCount, T.k2_BadCount_NoPlace, T.k2_BadCount_BadWord, T.k2_BadCount_ValueError]
      exact q
    · have ki : ∃ C, Value.ref A.c_NoPlace = Value.ref C ∧ KiE K C := ⟨_, rfl, T.ki_NoPlace⟩
      simp only [tRet, tRetN, tNext, tDrop, tSeq, tIfS, tTest, tB, tOp, tUn, tAnd, tOr, tNot, tAndV, tOrV, tNotV, tIf, tCB, tCons, tNil, tC, cVar, tLst, tTup, tAsg, gName, tCallE, tRaise, tTry, tDNewK, cAdd, cSub, cMul, cFdiv, cMod, cPow, cLt, cLe, cGt, cGe, cCmp, cEq, cNe, eqv, cIs, cIsNot, isNon, cNeg, tChain, rIxM, rIsi, kitV, cIx, cLen, cIxS, cLenS, cAbs, cInt, cxOf_K, TruV, and_assoc, CDiv, CMul, CPow, true_or, or_true, Int.reduceLT, Int.reduceEq, Int.reduceMod, Int.reduceDiv, Int.reduceNe, Int.reduceGT, Int.reduceGE, Nat.reduceEqDiff, Nat.reduceMul, Nat.reduceLT, Int.cast_ofNat_Int, Int.reduceLE, Int.reduceNeg, Int.reducePow, Int.reduceToNat, Int.reduceMul, Int.reduceAdd, Int.reduceSub, ofs_inj, ofs_app, emp_ofs, String.reduceAppend, String.reduceEq, Nat.reduceLeDiff, reduceIte, Bool.not_eq_true', Bool.not_true, Bool.not_false, exc_rt, rm_upd, upd_same, decide_true, decide_false, Bool.true_eq_false, tFor_eq, tComp, capt, tYes, cAll, cList, cEqA, cNeA, cEqL, cNeL, rIsT, kitVs, iRng1, iRng2, iRng3, gLst, gCons, gNil, iList, iTup, cFld, cSFld, cMethE, cSetL, cRep, cSl, cSlS, cPart, tNoPart, tSl, cAppend, cMin2, cMax2, cBM, cDGet2, cDGet, cDPut, keyV, gSub, tMakeE, atI_0, atI_1, atI_2, atI_3, atI_4, atI_5, atI_6, atI_7, atI_8, atI_9, atI_10, atI_11, atI_12, eq_self, not_true_eq_false, not_false_eq_true, decide_eq_false_iff_not, L2.start, cSum, cCat, cListR, cInD, cNotInD, cDPop, cLenD, cIsA, cIsNotA, isBl, cSorted, tComp2, cExtend, intsV_map, List.map_cons, List.map_nil, List.length_cons, List.length_nil, List.replicate, List.cons_append, List.nil_append, List.append_nil, List.getElem?_cons_zero, List.getElem?_cons_succ, List.set_cons_zero, List.set_cons_succ, V.int.injEq, V.bl.injEq, V.str.injEq, V.ref.injEq, V.ty.injEq, List.cons.injEq, Option.some.injEq, and_true, true_and, exists_eq_left', exists_and_left, exists_eq_left, exists_const, reduceCtorEq, false_and, and_false, exists_false, ite_true, ite_false, Bool.false_eq_true, decide_eq_true_eq, Nat.reduceSub, Nat.reduceAdd, Nat.sub_self, sz0, sz1, sz2, sz3, sz4, sz5, sz6, sz7, sz8, sz9, sz10, sz11, sz12, sz13, sz14, sz15, sz16, sz17, sz18, sz19, sz20, sz21, sz22, sz23, sz24, sz25, sz26, sz27, sz28, sz29, sz30, sz31, sz32, sz33, sz34, sz35, sz36, sz37, sz38, sz39, sz40, sz41, sz42, sz43, sz44, sz45, sz46, sz47, sz48, sz49, sz50, sz51, sz52, sz53, sz54, sz55, sz56, sz57, sz58, sz59, sz60, ln_0, ln_1, ln_2, ln_3, ln_4, ln_5, ln_6, ln_7, ln_8, ln_9, ln_10, ln_11, ln_12, ln_13, ln_14, ln_15, ln_16, ln_17, ln_18, ln_19, ln_20, ln_21, tyo, OkTy, e, ki, T.k2_NoPlace_BadCount, T.k2_NoPlace_NoPlace, T.k2_NoPlace_BadWord, T.k2_NoPlace_ValueError]
      exact q
    · have ki : ∃ C, Value.ref A.c_BadWord = Value.ref C ∧ KiE K C := ⟨_, rfl, T.ki_BadWord⟩
      simp only [tRet, tRetN, tNext, tDrop, tSeq, tIfS, tTest, tB, tOp, tUn, tAnd, tOr, tNot, tAndV, tOrV, tNotV, tIf, tCB, tCons, tNil, tC, cVar, tLst, tTup, tAsg, gName, tCallE, tRaise, tTry, tDNewK, cAdd, cSub, cMul, cFdiv, cMod, cPow, cLt, cLe, cGt, cGe, cCmp, cEq, cNe, eqv, cIs, cIsNot, isNon, cNeg, tChain, rIxM, rIsi, kitV, cIx, cLen, cIxS, cLenS, cAbs, cInt, cxOf_K, TruV, and_assoc, CDiv, CMul, CPow, true_or, or_true, Int.reduceLT, Int.reduceEq, Int.reduceMod, Int.reduceDiv, Int.reduceNe, Int.reduceGT, Int.reduceGE, Nat.reduceEqDiff, Nat.reduceMul, Nat.reduceLT, Int.cast_ofNat_Int, Int.reduceLE, Int.reduceNeg, Int.reducePow, Int.reduceToNat, Int.reduceMul, Int.reduceAdd, Int.reduceSub, ofs_inj, ofs_app, emp_ofs, String.reduceAppend, String.reduceEq, Nat.reduceLeDiff, reduceIte, Bool.not_eq_true', Bool.not_true, Bool.not_false, exc_rt, rm_upd, upd_same, decide_true, decide_false, Bool.true_eq_false, tFor_eq, tComp, capt, tYes, cAll, cList, cEqA, cNeA, cEqL, cNeL, rIsT, kitVs, iRng1, iRng2, iRng3, gLst, gCons, gNil, iList, iTup, cFld, cSFld, cMethE, cSetL, cRep, cSl, cSlS, cPart, tNoPart, tSl, cAppend, cMin2, cMax2, cBM, cDGet2, cDGet, cDPut, keyV, gSub, tMakeE, atI_0, atI_1, atI_2, atI_3, atI_4, atI_5, atI_6, atI_7, atI_8, atI_9, atI_10, atI_11, atI_12, eq_self, not_true_eq_false, not_false_eq_true, decide_eq_false_iff_not, L2.start, cSum, cCat, cListR, cInD, cNotInD, cDPop, cLenD, cIsA, cIsNotA, isBl, cSorted, tComp2, cExtend, intsV_map, List.map_cons, List.map_nil, List.length_cons, List.length_nil, List.replicate, List.cons_append, List.nil_append, List.append_nil, List.getElem?_cons_zero, List.getElem?_cons_succ, List.set_cons_zero, List.set_cons_succ, V.int.injEq, V.bl.injEq, V.str.injEq, V.ref.injEq, V.ty.injEq, List.cons.injEq, Option.some.injEq, and_true, true_and, exists_eq_left', exists_and_left, exists_eq_left, exists_const, reduceCtorEq, false_and, and_false, exists_false, ite_true, ite_false, Bool.false_eq_true, decide_eq_true_eq, Nat.reduceSub, Nat.reduceAdd, Nat.sub_self, sz0, sz1, sz2, sz3, sz4, sz5, sz6, sz7, sz8, sz9, sz10, sz11, sz12, sz13, sz14, sz15, sz16, sz17, sz18, sz19, sz20, sz21, sz22, sz23, sz24, sz25, sz26, sz27, sz28, sz29, sz30, sz31, sz32, sz33, sz34, sz35, sz36, sz37, sz38, sz39, sz40, sz41, sz42, sz43, sz44, sz45, sz46, sz47, sz48, sz49, sz50, sz51, sz52, sz53, sz54, sz55, sz56, sz57, sz58, sz59, sz60, ln_0, ln_1, ln_2, ln_3, ln_4, ln_5, ln_6, ln_7, ln_8, ln_9, ln_10, ln_11, ln_12, ln_13, ln_14, ln_15, ln_16, ln_17, ln_18, ln_19, ln_20, ln_21, tyo, OkTy, e, ki, T.k2_BadWord_BadCount, T.k2_BadWord_NoPlace, T.k2_BadWord_BadWord, T.k2_BadWord_ValueError]
      exact q
def sp_is_within : Sp := fun vs H Q _ => ∃ v a b, vs = [v, .int a, .int b] ∧ Kn H v ∧ Q (.bl (wi v a b)) H
theorem sc_is_within : FnScope ["thing", "least", "most"] ["thing", "least", "most"] (defScope s_is_within) := ⟨rfl, rfl, rfl, by decide +kernel, rfl, by decide +kernel, by decide +kernel⟩
theorem ok_is_within {ca : Bool} (T : Txt K mg A) : FnOk P w K mg base (CXE P w) ca 2 A.f_is_within A.d_is_within ["thing", "least", "most"] sp_is_within := by
  refine T.fn_is_within.okE sc_is_within (fun vs H Q E h => ?_) (fun cdv A' outer s H vs Q E hr hx h => ?_)
  · obtain ⟨v, a, b, rfl, hk, q⟩ := h
    rfl
  · obtain ⟨v, a, b, rfl, hk, q⟩ := h
    refine ⟨_, JSs.run (j_pss_one (j_ps_ret (j_pe_and (j_pe_callF ((ok_is_whole T).mono (by decide)) hr rfl T.g_is_whole T.fn_is_whole.kp T.b_is_whole hx (j_pa_c (j_cv 0) j_pa_nil)) (j_pe_one (j_pe_chain j_c_le j_c_le (j_cv 1) (j_cv 0) (j_cv 2)))))), ?_⟩
    simp only [tRet, tRetN, tNext, tDrop, tSeq, tIfS, tTest, tB, tOp, tUn, tAnd, tOr, tNot, tAndV, tOrV, tNotV, tIf, tCB, tCons, tNil, tC, cVar, tLst, tTup, tAsg, gName, tCallE, tRaise, tTry, tDNewK, cAdd, cSub, cMul, cFdiv, cMod, cPow, cLt, cLe, cGt, cGe, cCmp, cEq, cNe, eqv, cIs, cIsNot, isNon, cNeg, tChain, rIxM, rIsi, kitV, cIx, cLen, cIxS, cLenS, cAbs, cInt, cxOf_K, TruV, and_assoc, CDiv, CMul, CPow, true_or, or_true, Int.reduceLT, Int.reduceEq, Int.reduceMod, Int.reduceDiv, Int.reduceNe, Int.reduceGT, Int.reduceGE, Nat.reduceEqDiff, Nat.reduceMul, Nat.reduceLT, Int.cast_ofNat_Int, Int.reduceLE, Int.reduceNeg, Int.reducePow, Int.reduceToNat, Int.reduceMul, Int.reduceAdd, Int.reduceSub, ofs_inj, ofs_app, emp_ofs, String.reduceAppend, String.reduceEq, Nat.reduceLeDiff, reduceIte, Bool.not_eq_true', Bool.not_true, Bool.not_false, exc_rt, rm_upd, upd_same, decide_true, decide_false, Bool.true_eq_false, tFor_eq, tComp, capt, tYes, cAll, cList, cEqA, cNeA, cEqL, cNeL, rIsT, kitVs, iRng1, iRng2, iRng3, gLst, gCons, gNil, iList, iTup, cFld, cSFld, cMethE, cSetL, cRep, cSl, cSlS, cPart, tNoPart, tSl, cAppend, cMin2, cMax2, cBM, cDGet2, cDGet, cDPut, keyV, gSub, tMakeE, atI_0, atI_1, atI_2, atI_3, atI_4, atI_5, atI_6, atI_7, atI_8, atI_9, atI_10, atI_11, atI_12, eq_self, not_true_eq_false, not_false_eq_true, decide_eq_false_iff_not, L2.start, cSum, cCat, cListR, cInD, cNotInD, cDPop, cLenD, cIsA, cIsNotA, isBl, cSorted, tComp2, cExtend, intsV_map, List.map_cons, List.map_nil, List.length_cons, List.length_nil, List.replicate, List.cons_append, List.nil_append, List.append_nil, List.getElem?_cons_zero, List.getElem?_cons_succ, List.set_cons_zero, List.set_cons_succ, V.int.injEq, V.bl.injEq, V.str.injEq, V.ref.injEq, V.ty.injEq, List.cons.injEq, Option.some.injEq, and_true, true_and, exists_eq_left', exists_and_left, exists_eq_left, exists_const, reduceCtorEq, false_and, and_false, exists_false, ite_true, ite_false, Bool.false_eq_true, decide_eq_true_eq, Nat.reduceSub, Nat.reduceAdd, Nat.sub_self, sz0, sz1, sz2, sz3, sz4, sz5, sz6, sz7, sz8, sz9, sz10, sz11, sz12, sz13, sz14, sz15, sz16, sz17, sz18, sz19, sz20, sz21, sz22, sz23, sz24, sz25, sz26, sz27, sz28, sz29, sz30, sz31, sz32, sz33, sz34, sz35, sz36, sz37, sz38, sz39, sz40, sz41, sz42, sz43, sz44, sz45, sz46, sz47, sz48, sz49, sz50, sz51, sz52, sz53, sz54, sz55, sz56, sz57, sz58, sz59, sz60, ln_0, ln_1, ln_2, ln_3, ln_4, ln_5, ln_6, ln_7, ln_8, ln_9, ln_10, ln_11, ln_12, ln_13, ln_14, ln_15, ln_16, ln_17, ln_18, ln_19, ln_20, ln_21, sp_is_whole]
    refine ⟨hk, ?_⟩
    cases v <;> simp only [isI, wi] at q ⊢ <;> simp only [tRet, tRetN, tNext, tDrop, tSeq, tIfS, tTest, tB, tOp, tUn, tAnd, tOr, tNot, tAndV, tOrV, tNotV, tIf, tCB, tCons, tNil, tC, cVar, tLst, tTup, tAsg, gName, tCallE, tRaise, tTry, tDNewK, cAdd, cSub, cMul, cFdiv, cMod, cPow, cLt, cLe, cGt, cGe, cCmp, cEq, cNe, eqv, cIs, cIsNot, isNon, cNeg, tChain, rIxM, rIsi, kitV, cIx, cLen, cIxS, cLenS, cAbs, cInt, cxOf_K, TruV, and_assoc, CDiv, CMul, CPow, true_or, or_true, Int.reduceLT, Int.reduceEq, Int.reduceMod, Int.reduceDiv, Int.reduceNe, Int.reduceGT, Int.reduceGE, Nat.reduceEqDiff, Nat.reduceMul, Nat.reduceLT, Int.cast_ofNat_Int, Int.reduceLE, Int.reduceNeg, Int.reducePow, Int.reduceToNat, Int.reduceMul, Int.reduceAdd, Int.reduceSub, ofs_inj, ofs_app, emp_ofs, String.reduceAppend, String.reduceEq, Nat.reduceLeDiff, reduceIte, Bool.not_eq_true', Bool.not_true, Bool.not_false, exc_rt, rm_upd, upd_same, decide_true, decide_false, Bool.true_eq_false, tFor_eq, tComp, capt, tYes, cAll, cList, cEqA, cNeA, cEqL, cNeL, rIsT, kitVs, iRng1, iRng2, iRng3, gLst, gCons, gNil, iList, iTup, cFld, cSFld, cMethE, cSetL, cRep, cSl, cSlS, cPart, tNoPart, tSl, cAppend, cMin2, cMax2, cBM, cDGet2, cDGet, cDPut, keyV, gSub, tMakeE, atI_0, atI_1, atI_2, atI_3, atI_4, atI_5, atI_6, atI_7, atI_8, atI_9, atI_10, atI_11, atI_12, eq_self, not_true_eq_false, not_false_eq_true, decide_eq_false_iff_not, L2.start, cSum, cCat, cListR, cInD, cNotInD, cDPop, cLenD, cIsA, cIsNotA, isBl, cSorted, tComp2, cExtend, intsV_map, List.map_cons, List.map_nil, List.length_cons, List.length_nil, List.replicate, List.cons_append, List.nil_append, List.append_nil, List.getElem?_cons_zero, List.getElem?_cons_succ, List.set_cons_zero, List.set_cons_succ, V.int.injEq, V.bl.injEq, V.str.injEq, V.ref.injEq, V.ty.injEq, List.cons.injEq, Option.some.injEq, and_true, true_and, exists_eq_left', exists_and_left, exists_eq_left, exists_const, reduceCtorEq, false_and, and_false, exists_false, ite_true, ite_false, Bool.false_eq_true, decide_eq_true_eq, Nat.reduceSub, Nat.reduceAdd, Nat.sub_self, sz0, sz1, sz2, sz3, sz4, sz5, sz6, sz7, sz8, sz9, sz10, sz11, sz12, sz13, sz14, sz15, sz16, sz17, sz18, sz19, sz20, sz21, sz22, sz23, sz24, sz25, sz26, sz27, sz28, sz29, sz30, sz31, sz32, sz33, sz34, sz35, sz36, sz37, sz38, sz39, sz40, sz41, sz42, sz43, sz44, sz45, sz46, sz47, sz48, sz49, sz50, sz51, sz52, sz53, sz54, sz55, sz56, sz57, sz58, sz59, sz60, ln_0, ln_1, ln_2, ln_3, ln_4, ln_5, ln_6, ln_7, ln_8, ln_9, ln_10, ln_11, ln_12, ln_13, ln_14, ln_15, ln_16, ln_17, ln_18, ln_19, ln_20, ln_21] <;> try exact q
    split <;> rename_i h <;> simpa [h] using q
def sp__law_due : Sp := fun vs H Q _ => ∃ a g m n, vs = [a, g, m, .int n] ∧ Kn H a ∧ Kn H g ∧ Kn H m ∧ ∀ H', Same H H' → Q (.str (due3 a g m n)) H'
theorem sc__law_due : FnScope ["_law_start", "_law_goal", "_law_many", "_law_size", "_law_at"] ["_law_start", "_law_goal", "_law_many", "_law_size"] (defScope s__law_due) := ⟨rfl, rfl, rfl, by decide +kernel, rfl, by decide +kernel, by decide +kernel⟩
theorem ok__law_due (T : Txt K mg A) : FnOk P w K mg base (CXE P w) true 2 A.f__law_due A.d__law_due ["_law_start", "_law_goal", "_law_many", "_law_size"] sp__law_due := by
  refine T.fn__law_due.okE sc__law_due (fun vs H Q E h => ?_) (fun cdv A' outer s H vs Q E hr hx h => ?_)
  · obtain ⟨a, g, m, n, rfl, ka, kg, km, q⟩ := h
    rfl
  · obtain ⟨a, g, m, n, rfl, ka, kg, km, q⟩ := h
    refine ⟨_, JSs.run (j_pss_cons (j_ps_if (j_PW_pt (j_pw_or (j_pt_not (j_pt_truth (j_pe_callF ((ok__law_whole T).mono (by decide)) hr rfl T.g__law_whole T.fn__law_whole.kp T.b__law_whole hx (j_pa_c (j_cv 2) j_pa_nil)) (fun _ => rfl))) (j_pw_or1 (j_pt_cmpR j_c_lt (j_cv 2) j_pe_int (nomark _))))) (j_pss_one (j_ps_ret j_pe_str)) j_pss_nil)
      (j_pss_cons (j_ps_for hx.own rfl (j_pi_tup (j_pe_tup (j_pa_c (j_cv 0) (j_pa_c (j_cv 1) j_pa_nil)))) (j_pg_name (i := 4) sc__law_due.nd rfl (by first | exact Or.inl rfl | exact Or.inr rfl))
        (j_pss_one (j_ps_if (j_PW_pt (j_pw_or (j_pt_not (j_pt_truth (j_pe_callF ((ok__law_whole T).mono (by decide)) hr rfl T.g__law_whole T.fn__law_whole.kp T.b__law_whole hx (j_pa_c (j_cv 4) j_pa_nil)) (fun _ => rfl))) (j_pw_or (j_pt_cmpR j_c_lt (j_cv 4) j_pe_int (nomark _)) (j_pw_or1 (j_pt_cmpR j_c_gt (j_pe_op j_c_add (j_cv 4) (j_cv 2)) (j_cv 3) (nomark _)))))) (j_pss_one (j_ps_ret j_pe_str)) j_pss_nil)))
      (j_pss_one (j_ps_ret j_pe_str)))), ?_⟩
    cases hm : isI m with
    | false =>
      simp only [tRet, tRetN, tNext, tDrop, tSeq, tIfS, tTest, tB, tOp, tUn, tAnd, tOr, tNot, tAndV, tOrV, tNotV, tIf, tCB, tCons, tNil, tC, cVar, tLst, tTup, tAsg, gName, tCallE, tRaise, tTry, tDNewK, cAdd, cSub, cMul, cFdiv, cMod, cPow, cLt, cLe, cGt, cGe, cCmp, cEq, cNe, eqv, cIs, cIsNot, isNon, cNeg, tChain, rIxM, rIsi, kitV, cIx, cLen, cIxS, cLenS, cAbs, cInt, cxOf_K, TruV, and_assoc, CDiv, CMul, CPow, true_or, or_true, Int.reduceLT, Int.reduceEq, Int.reduceMod, Int.reduceDiv, Int.reduceNe, Int.reduceGT, Int.reduceGE, Nat.reduceEqDiff, Nat.reduceMul, Nat.reduceLT, Int.cast_ofNat_Int, Int.reduceLE, Int.reduceNeg, Int.reducePow, Int.reduceToNat, Int.reduceMul, Int.reduceAdd, Int.reduceSub, ofs_inj, ofs_app, emp_ofs, String.reduceAppend, String.reduceEq, Nat.reduceLeDiff, reduceIte, Bool.not_eq_true', Bool.not_true, Bool.not_false, exc_rt, rm_upd, upd_same, decide_true, decide_false, Bool.true_eq_false, tFor_eq, tComp, capt, tYes, cAll, cList, cEqA, cNeA, cEqL, cNeL, rIsT, kitVs, iRng1, iRng2, iRng3, gLst, gCons, gNil, iList, iTup, cFld, cSFld, cMethE, cSetL, cRep, cSl, cSlS, cPart, tNoPart, tSl, cAppend, cMin2, cMax2, cBM, cDGet2, cDGet, cDPut, keyV, gSub, tMakeE, atI_0, atI_1, atI_2, atI_3, atI_4, atI_5, atI_6, atI_7, atI_8, atI_9, atI_10, atI_11, atI_12, eq_self, not_true_eq_false, not_false_eq_true, decide_eq_false_iff_not, L2.start, cSum, cCat, cListR, cInD, cNotInD, cDPop, cLenD, cIsA, cIsNotA, isBl, cSorted, tComp2, cExtend, intsV_map, List.map_cons, List.map_nil, List.length_cons, List.length_nil, List.replicate, List.cons_append, List.nil_append, List.append_nil, List.getElem?_cons_zero, List.getElem?_cons_succ, List.set_cons_zero, List.set_cons_succ, V.int.injEq, V.bl.injEq, V.str.injEq, V.ref.injEq, V.ty.injEq, List.cons.injEq, Option.some.injEq, and_true, true_and, exists_eq_left', exists_and_left, exists_eq_left, exists_const, reduceCtorEq, false_and, and_false, exists_false, ite_true, ite_false, Bool.false_eq_true, decide_eq_true_eq, Nat.reduceSub, Nat.reduceAdd, Nat.sub_self, sz0, sz1, sz2, sz3, sz4, sz5, sz6, sz7, sz8, sz9, sz10, sz11, sz12, sz13, sz14, sz15, sz16, sz17, sz18, sz19, sz20, sz21, sz22, sz23, sz24, sz25, sz26, sz27, sz28, sz29, sz30, sz31, sz32, sz33, sz34, sz35, sz36, sz37, sz38, sz39, sz40, sz41, sz42, sz43, sz44, sz45, sz46, sz47, sz48, sz49, sz50, sz51, sz52, sz53, sz54, sz55, sz56, sz57, sz58, sz59, sz60, ln_0, ln_1, ln_2, ln_3, ln_4, ln_5, ln_6, ln_7, ln_8, ln_9, ln_10, ln_11, ln_12, ln_13, ln_14, ln_15, ln_16, ln_17, ln_18, ln_19, ln_20, ln_21, sp__law_whole, hm]
      have e : due3 a g m n = Str.ofString "count value" := by simp [due3, hm]
      rw [e] at q
      exact ⟨km, q _ (Same.refl _)⟩
    | true =>
      obtain ⟨k, rfl⟩ : ∃ i, m = .int i := by cases m <;> first | exact ⟨_, rfl⟩ | cases hm
      simp only [tRet, tRetN, tNext, tDrop, tSeq, tIfS, tTest, tB, tOp, tUn, tAnd, tOr, tNot, tAndV, tOrV, tNotV, tIf, tCB, tCons, tNil, tC, cVar, tLst, tTup, tAsg, gName, tCallE, tRaise, tTry, tDNewK, cAdd, cSub, cMul, cFdiv, cMod, cPow, cLt, cLe, cGt, cGe, cCmp, cEq, cNe, eqv, cIs, cIsNot, isNon, cNeg, tChain, rIxM, rIsi, kitV, cIx, cLen, cIxS, cLenS, cAbs, cInt, cxOf_K, TruV, and_assoc, CDiv, CMul, CPow, true_or, or_true, Int.reduceLT, Int.reduceEq, Int.reduceMod, Int.reduceDiv, Int.reduceNe, Int.reduceGT, Int.reduceGE, Nat.reduceEqDiff, Nat.reduceMul, Nat.reduceLT, Int.cast_ofNat_Int, Int.reduceLE, Int.reduceNeg, Int.reducePow, Int.reduceToNat, Int.reduceMul, Int.reduceAdd, Int.reduceSub, ofs_inj, ofs_app, emp_ofs, String.reduceAppend, String.reduceEq, Nat.reduceLeDiff, reduceIte, Bool.not_eq_true', Bool.not_true, Bool.not_false, exc_rt, rm_upd, upd_same, decide_true, decide_false, Bool.true_eq_false, tFor_eq, tComp, capt, tYes, cAll, cList, cEqA, cNeA, cEqL, cNeL, rIsT, kitVs, iRng1, iRng2, iRng3, gLst, gCons, gNil, iList, iTup, cFld, cSFld, cMethE, cSetL, cRep, cSl, cSlS, cPart, tNoPart, tSl, cAppend, cMin2, cMax2, cBM, cDGet2, cDGet, cDPut, keyV, gSub, tMakeE, atI_0, atI_1, atI_2, atI_3, atI_4, atI_5, atI_6, atI_7, atI_8, atI_9, atI_10, atI_11, atI_12, eq_self, not_true_eq_false, not_false_eq_true, decide_eq_false_iff_not, L2.start, cSum, cCat, cListR, cInD, cNotInD, cDPop, cLenD, cIsA, cIsNotA, isBl, cSorted, tComp2, cExtend, intsV_map, List.map_cons, List.map_nil, List.length_cons, List.length_nil, List.replicate, List.cons_append, List.nil_append, List.append_nil, List.getElem?_cons_zero, List.getElem?_cons_succ, List.set_cons_zero, List.set_cons_succ, V.int.injEq, V.bl.injEq, V.str.injEq, V.ref.injEq, V.ty.injEq, List.cons.injEq, Option.some.injEq, and_true, true_and, exists_eq_left', exists_and_left, exists_eq_left, exists_const, reduceCtorEq, false_and, and_false, exists_false, ite_true, ite_false, Bool.false_eq_true, decide_eq_true_eq, Nat.reduceSub, Nat.reduceAdd, Nat.sub_self, sz0, sz1, sz2, sz3, sz4, sz5, sz6, sz7, sz8, sz9, sz10, sz11, sz12, sz13, sz14, sz15, sz16, sz17, sz18, sz19, sz20, sz21, sz22, sz23, sz24, sz25, sz26, sz27, sz28, sz29, sz30, sz31, sz32, sz33, sz34, sz35, sz36, sz37, sz38, sz39, sz40, sz41, sz42, sz43, sz44, sz45, sz46, sz47, sz48, sz49, sz50, sz51, sz52, sz53, sz54, sz55, sz56, sz57, sz58, sz59, sz60, ln_0, ln_1, ln_2, ln_3, ln_4, ln_5, ln_6, ln_7, ln_8, ln_9, ln_10, ln_11, ln_12, ln_13, ln_14, ln_15, ln_16, ln_17, ln_18, ln_19, ln_20, ln_21, sp__law_whole, hm]
      refine ⟨True.intro, ?_⟩
      split
      · rename_i z
        have e : due3 a g (.int k) n = Str.ofString "count value" := by unfold due3; rw [if_neg (by show ¬ (_ ∧ 0 ≤ k); omega)]
        rw [e] at q
        exact q _ (Same.refl _)
      · rename_i z
        have hk : isI (V.int k) = true ∧ 0 ≤ iv (V.int k) := ⟨rfl, by show 0 ≤ k; omega⟩
        have pl : (okA a n k = false ∨ okA g n k = false) → due3 a g (.int k) n = Str.ofString "place value" := fun h => by
          unfold due3
          rw [if_pos hk, if_neg]
          show ¬ (okA a n k = true ∧ okA g n k = true)
          rcases h with h | h <;> simp [h]
        intro p hp
        refine ⟨⟨_, SqT.of upd_same⟩, LoopW.tup (K := K) (a := p) (xs := [a, g]) (fun i σ H' => H' = upd H p (.tup [a, g]) ∧ ∃ v, σ = [some a, some g, some (.int k), some (.int n), v] ∧ (0 < i → okA a n k = true) ∧ (1 < i → okA g n k = true))
          ⟨rfl, _, rfl, fun h => absurd h (by omega), fun h => absurd h (by omega)⟩ (fun i σ H' _ ⟨e, _⟩ => by rw [e]; exact SqT.of upd_same) ?_ ?_⟩
        · rintro i x σ H1 hx' ⟨rfl, v, rfl, h1, h2⟩
          have hxx : (i = 0 ∧ x = a) ∨ (i = 1 ∧ x = g) := by
            match i, hx' with
            | 0, e => exact .inl ⟨rfl, (Option.some.inj e).symm⟩
            | 1, e => exact .inr ⟨rfl, (Option.some.inj e).symm⟩
            | j + 2, e => simp at e
          have kx : Kn (upd H p (.tup [a, g])) x := by
            rcases hxx with ⟨_, rfl⟩ | ⟨_, rfl⟩
            · exact ka.same (Same.upd hp)
            · exact kg.same (Same.upd hp)
          have bad : okA x n k = false → Q (.str (Str.ofString "place value")) (upd H p (.tup [a, g])) := fun h => by
            rw [← pl (by rcases hxx with ⟨_, rfl⟩ | ⟨_, rfl⟩; exact .inl h; exact .inr h)]
            exact q _ (Same.upd hp)
          have good : okA x n k = true → ∀ v, (upd H p (.tup [a, g]) = upd H p (.tup [a, g]) ∧ ∃ v', [some a, some g, some (V.int k), some (V.int n), v] = [some a, some g, some (V.int k), some (V.int n), v'] ∧ (0 < i + 1 → okA a n k = true) ∧ (1 < i + 1 → okA g n k = true)) := fun h v => by
            refine ⟨rfl, v, rfl, fun _ => ?_, fun z1 => ?_⟩
            · rcases hxx with ⟨_, rfl⟩ | ⟨rfl, _⟩
              · exact h
              · exact h1 (by omega)
            · rcases hxx with ⟨rfl, _⟩ | ⟨_, rfl⟩
              · omega
              · exact h
          cases hxi : isI x with
          | false =>
            simp only [tRet, tRetN, tNext, tDrop, tSeq, tIfS, tTest, tB, tOp, tUn, tAnd, tOr, tNot, tAndV, tOrV, tNotV, tIf, tCB, tCons, tNil, tC, cVar, tLst, tTup, tAsg, gName, tCallE, tRaise, tTry, tDNewK, cAdd, cSub, cMul, cFdiv, cMod, cPow, cLt, cLe, cGt, cGe, cCmp, cEq, cNe, eqv, cIs, cIsNot, isNon, cNeg, tChain, rIxM, rIsi, kitV, cIx, cLen, cIxS, cLenS, cAbs, cInt, cxOf_K, TruV, and_assoc, CDiv, CMul, CPow, true_or, or_true, Int.reduceLT, Int.reduceEq, Int.reduceMod, Int.reduceDiv, Int.reduceNe, Int.reduceGT, Int.reduceGE, Nat.reduceEqDiff, Nat.reduceMul, Nat.reduceLT, Int.cast_ofNat_Int, Int.reduceLE, Int.reduceNeg, Int.reducePow, Int.reduceToNat, Int.reduceMul, Int.reduceAdd, Int.reduceSub, ofs_inj, ofs_app, emp_ofs, String.reduceAppend, String.reduceEq, Nat.reduceLeDiff, reduceIte, Bool.not_eq_true', Bool.not_true, Bool.not_false, exc_rt, rm_upd, upd_same, decide_true, decide_false, Bool.true_eq_false, tFor_eq, tComp, capt, tYes, cAll, cList, cEqA, cNeA, cEqL, cNeL, rIsT, kitVs, iRng1, iRng2, iRng3, gLst, gCons, gNil, iList, iTup, cFld, cSFld, cMethE, cSetL, cRep, cSl, cSlS, cPart, tNoPart, tSl, cAppend, cMin2, cMax2, cBM, cDGet2, cDGet, cDPut, keyV, gSub, tMakeE, atI_0, atI_1, atI_2, atI_3, atI_4, atI_5, atI_6, atI_7, atI_8, atI_9, atI_10, atI_11, atI_12, eq_self, not_true_eq_false, not_false_eq_true, decide_eq_false_iff_not, L2.start, cSum, cCat, cListR, cInD, cNotInD, cDPop, cLenD, cIsA, cIsNotA, isBl, cSorted, tComp2, cExtend, intsV_map, List.map_cons, List.map_nil, List.length_cons, List.length_nil, List.replicate, List.cons_append, List.nil_append, List.append_nil, List.getElem?_cons_zero, List.getElem?_cons_succ, List.set_cons_zero, List.set_cons_succ, V.int.injEq, V.bl.injEq, V.str.injEq, V.ref.injEq, V.ty.injEq, List.cons.injEq, Option.some.injEq, and_true, true_and, exists_eq_left', exists_and_left, exists_eq_left, exists_const, reduceCtorEq, false_and, and_false, exists_false, ite_true, ite_false, Bool.false_eq_true, decide_eq_true_eq, Nat.reduceSub, Nat.reduceAdd, Nat.sub_self, sz0, sz1, sz2, sz3, sz4, sz5, sz6, sz7, sz8, sz9, sz10, sz11, sz12, sz13, sz14, sz15, sz16, sz17, sz18, sz19, sz20, sz21, sz22, sz23, sz24, sz25, sz26, sz27, sz28, sz29, sz30, sz31, sz32, sz33, sz34, sz35, sz36, sz37, sz38, sz39, sz40, sz41, sz42, sz43, sz44, sz45, sz46, sz47, sz48, sz49, sz50, sz51, sz52, sz53, sz54, sz55, sz56, sz57, sz58, sz59, sz60, ln_0, ln_1, ln_2, ln_3, ln_4, ln_5, ln_6, ln_7, ln_8, ln_9, ln_10, ln_11, ln_12, ln_13, ln_14, ln_15, ln_16, ln_17, ln_18, ln_19, ln_20, ln_21, hxi]
            exact ⟨kx, bad (by cases x <;> first | rfl | cases hxi)⟩
          | true =>
            obtain ⟨j, rfl⟩ : ∃ i, x = .int i := by cases x <;> first | exact ⟨_, rfl⟩ | cases hxi
            simp only [tRet, tRetN, tNext, tDrop, tSeq, tIfS, tTest, tB, tOp, tUn, tAnd, tOr, tNot, tAndV, tOrV, tNotV, tIf, tCB, tCons, tNil, tC, cVar, tLst, tTup, tAsg, gName, tCallE, tRaise, tTry, tDNewK, cAdd, cSub, cMul, cFdiv, cMod, cPow, cLt, cLe, cGt, cGe, cCmp, cEq, cNe, eqv, cIs, cIsNot, isNon, cNeg, tChain, rIxM, rIsi, kitV, cIx, cLen, cIxS, cLenS, cAbs, cInt, cxOf_K, TruV, and_assoc, CDiv, CMul, CPow, true_or, or_true, Int.reduceLT, Int.reduceEq, Int.reduceMod, Int.reduceDiv, Int.reduceNe, Int.reduceGT, Int.reduceGE, Nat.reduceEqDiff, Nat.reduceMul, Nat.reduceLT, Int.cast_ofNat_Int, Int.reduceLE, Int.reduceNeg, Int.reducePow, Int.reduceToNat, Int.reduceMul, Int.reduceAdd, Int.reduceSub, ofs_inj, ofs_app, emp_ofs, String.reduceAppend, String.reduceEq, Nat.reduceLeDiff, reduceIte, Bool.not_eq_true', Bool.not_true, Bool.not_false, exc_rt, rm_upd, upd_same, decide_true, decide_false, Bool.true_eq_false, tFor_eq, tComp, capt, tYes, cAll, cList, cEqA, cNeA, cEqL, cNeL, rIsT, kitVs, iRng1, iRng2, iRng3, gLst, gCons, gNil, iList, iTup, cFld, cSFld, cMethE, cSetL, cRep, cSl, cSlS, cPart, tNoPart, tSl, cAppend, cMin2, cMax2, cBM, cDGet2, cDGet, cDPut, keyV, gSub, tMakeE, atI_0, atI_1, atI_2, atI_3, atI_4, atI_5, atI_6, atI_7, atI_8, atI_9, atI_10, atI_11, atI_12, eq_self, not_true_eq_false, not_false_eq_true, decide_eq_false_iff_not, L2.start, cSum, cCat, cListR, cInD, cNotInD, cDPop, cLenD, cIsA, cIsNotA, isBl, cSorted, tComp2, cExtend, intsV_map, List.map_cons, List.map_nil, List.length_cons, List.length_nil, List.replicate, List.cons_append, List.nil_append, List.append_nil, List.getElem?_cons_zero, List.getElem?_cons_succ, List.set_cons_zero, List.set_cons_succ, V.int.injEq, V.bl.injEq, V.str.injEq, V.ref.injEq, V.ty.injEq, List.cons.injEq, Option.some.injEq, and_true, true_and, exists_eq_left', exists_and_left, exists_eq_left, exists_const, reduceCtorEq, false_and, and_false, exists_false, ite_true, ite_false, Bool.false_eq_true, decide_eq_true_eq, Nat.reduceSub, Nat.reduceAdd, Nat.sub_self, sz0, sz1, sz2, sz3, sz4, sz5, sz6, sz7, sz8, sz9, sz10, sz11, sz12, sz13, sz14, sz15, sz16, sz17, sz18, sz19, sz20, sz21, sz22, sz23, sz24, sz25, sz26, sz27, sz28, sz29, sz30, sz31, sz32, sz33, sz34, sz35, sz36, sz37, sz38, sz39, sz40, sz41, sz42, sz43, sz44, sz45, sz46, sz47, sz48, sz49, sz50, sz51, sz52, sz53, sz54, sz55, sz56, sz57, sz58, sz59, sz60, ln_0, ln_1, ln_2, ln_3, ln_4, ln_5, ln_6, ln_7, ln_8, ln_9, ln_10, ln_11, ln_12, ln_13, ln_14, ln_15, ln_16, ln_17, ln_18, ln_19, ln_20, ln_21, hxi]
            refine ⟨True.intro, ?_⟩
            by_cases c1 : j < 0
            · rw [if_pos c1]; exact bad (by simp [okA, wi]; omega)
            · rw [if_neg c1]
              by_cases c2 : n < j + k
              · rw [if_pos c2]; exact bad (by simp [okA, wi]; omega)
              · rw [if_neg c2]
                obtain ⟨_, v', _, h3⟩ := good (by simp [okA, wi]; omega) none
                exact h3
        · rintro σ H1 ⟨rfl, v, rfl, h1, h2⟩
          simp only [tRet, tRetN, tNext, tDrop, tSeq, tIfS, tTest, tB, tOp, tUn, tAnd, tOr, tNot, tAndV, tOrV, tNotV, tIf, tCB, tCons, tNil, tC, cVar, tLst, tTup, tAsg, gName, tCallE, tRaise, tTry, tDNewK, cAdd, cSub, cMul, cFdiv, cMod, cPow, cLt, cLe, cGt, cGe, cCmp, cEq, cNe, eqv, cIs, cIsNot, isNon, cNeg, tChain, rIxM, rIsi, kitV, cIx, cLen, cIxS, cLenS, cAbs, cInt, cxOf_K, TruV, and_assoc, CDiv, CMul, CPow, true_or, or_true, Int.reduceLT, Int.reduceEq, Int.reduceMod, Int.reduceDiv, Int.reduceNe, Int.reduceGT, Int.reduceGE, Nat.reduceEqDiff, Nat.reduceMul, Nat.reduceLT, Int.cast_ofNat_Int, Int.reduceLE, Int.reduceNeg, Int.reducePow, Int.reduceToNat, Int.reduceMul, Int.reduceAdd, Int.reduceSub, ofs_inj, ofs_app, emp_ofs, String.reduceAppend, String.reduceEq, Nat.reduceLeDiff, reduceIte, Bool.not_eq_true', Bool.not_true, Bool.not_false, exc_rt, rm_upd, upd_same, decide_true, decide_false, Bool.true_eq_false, tFor_eq, tComp, capt, tYes, cAll, cList, cEqA, cNeA, cEqL, cNeL, rIsT, kitVs, iRng1, iRng2, iRng3, gLst, gCons, gNil, iList, iTup, cFld, cSFld, cMethE, cSetL, cRep, cSl, cSlS, cPart, tNoPart, tSl, cAppend, cMin2, cMax2, cBM, cDGet2, cDGet, cDPut, keyV, gSub, tMakeE, atI_0, atI_1, atI_2, atI_3, atI_4, atI_5, atI_6, atI_7, atI_8, atI_9, atI_10, atI_11, atI_12, eq_self, not_true_eq_false, not_false_eq_true, decide_eq_false_iff_not, L2.start, cSum, cCat, cListR, cInD, cNotInD, cDPop, cLenD, cIsA, cIsNotA, isBl, cSorted, tComp2, cExtend, intsV_map, List.map_cons, List.map_nil, List.length_cons, List.length_nil, List.replicate, List.cons_append, List.nil_append, List.append_nil, List.getElem?_cons_zero, List.getElem?_cons_succ, List.set_cons_zero, List.set_cons_succ, V.int.injEq, V.bl.injEq, V.str.injEq, V.ref.injEq, V.ty.injEq, List.cons.injEq, Option.some.injEq, and_true, true_and, exists_eq_left', exists_and_left, exists_eq_left, exists_const, reduceCtorEq, false_and, and_false, exists_false, ite_true, ite_false, Bool.false_eq_true, decide_eq_true_eq, Nat.reduceSub, Nat.reduceAdd, Nat.sub_self, sz0, sz1, sz2, sz3, sz4, sz5, sz6, sz7, sz8, sz9, sz10, sz11, sz12, sz13, sz14, sz15, sz16, sz17, sz18, sz19, sz20, sz21, sz22, sz23, sz24, sz25, sz26, sz27, sz28, sz29, sz30, sz31, sz32, sz33, sz34, sz35, sz36, sz37, sz38, sz39, sz40, sz41, sz42, sz43, sz44, sz45, sz46, sz47, sz48, sz49, sz50, sz51, sz52, sz53, sz54, sz55, sz56, sz57, sz58, sz59, sz60, ln_0, ln_1, ln_2, ln_3, ln_4, ln_5, ln_6, ln_7, ln_8, ln_9, ln_10, ln_11, ln_12, ln_13, ln_14, ln_15, ln_16, ln_17, ln_18, ln_19, ln_20, ln_21]
          have e : due3 a g (.int k) n = Str.ofString "" := by
            unfold due3
            rw [if_pos hk, if_pos]
            exact ⟨h1 (by simp), h2 (by simp)⟩
          rw [e] at q
          exact q _ (Same.upd hp)
def sp__law_numbers (K : PySem.W.Frag) : Sp := fun vs H Q _ => ∃ (a : Addr) (ns : List Int) (k n : Int), vs = [.ref a, .int k, .int n] ∧ SqL K H a (ns.map V.int) ∧ 0 ≤ k ∧ 2 ≤ n ∧ n ≤ 300 ∧
  ∀ p H' x y z, Same H H' → H' p = some (.lst [x, y, z]) → Kn H' x → Kn H' y → Kn H' z → Q (.ref p) H'
theorem sc__law_numbers : FnScope ["_law_script", "_law_k", "_law_size", "_law_start", "_law_goal", "_law_many", "_law_odd", "_law_which"] ["_law_script", "_law_k", "_law_size"] (defScope s__law_numbers) := ⟨rfl, rfl, rfl, by decide +kernel, rfl, by decide +kernel, by decide +kernel⟩
theorem ok__law_numbers (T : Txt K mg A) : FnOk P w K mg base (CXE P w) true 2 A.f__law_numbers A.d__law_numbers ["_law_script", "_law_k", "_law_size"] (sp__law_numbers K) := by
  refine T.fn__law_numbers.okE sc__law_numbers (fun vs H Q E h => ?_) (fun cdv A' outer s H vs Q E hr hx h => ?_)
  · obtain ⟨a, ns, k, n, rfl, hS, hk, h2, h3, q⟩ := h
    rfl
  · obtain ⟨a, ns, k, n, rfl, hS, hk, h2, h3, q⟩ := h
    refine ⟨_, JSs.run (j_pss_cons (j_ps_set (i := 3) sc__law_numbers.nd rfl (by first | exact Or.inl rfl | exact Or.inr rfl) (j_pe_op j_c_mod (j_pe_op j_c_fdiv (j_pe_callF ((ok__law_cell_at T).mono (by decide)) hr rfl T.g__law_cell_at T.fn__law_cell_at.kp T.b__law_cell_at hx (j_pa_c (j_cv 0) (j_pa_c (j_cv 1) j_pa_nil))) j_pe_int) (j_pe_op j_c_add (j_cv 2) j_pe_int)))
      (j_pss_cons (j_ps_set (i := 4) sc__law_numbers.nd rfl (by first | exact Or.inl rfl | exact Or.inr rfl) (j_pe_op j_c_mod (j_pe_op j_c_fdiv (j_pe_callF ((ok__law_cell_at T).mono (by decide)) hr rfl T.g__law_cell_at T.fn__law_cell_at.kp T.b__law_cell_at hx (j_pa_c (j_cv 0) (j_pa_c (j_pe_op j_c_add (j_cv 1) j_pe_int) j_pa_nil))) j_pe_int) (j_pe_op j_c_add (j_cv 2) j_pe_int)))
      (j_pss_cons (j_ps_if (j_pt_cmpR j_c_gt (j_pe_op j_c_mod (j_pe_callF ((ok__law_cell_at T).mono (by decide)) hr rfl T.g__law_cell_at T.fn__law_cell_at.kp T.b__law_cell_at hx (j_pa_c (j_cv 0) (j_pa_c (j_pe_op j_c_add (j_cv 1) j_pe_int) j_pa_nil))) j_pe_int) j_pe_int (nomark _)) (j_pss_one (j_ps_set (i := 4) sc__law_numbers.nd rfl (by first | exact Or.inl rfl | exact Or.inr rfl) (j_pe_callBF (j_c_max2 (by rfl)) (by rfl) T.n_max PyProof.Rows.Boot.«max» (j_pa_c j_pe_int (j_pa_c (j_pe_callBF (j_c_min2 (by rfl)) (by rfl) T.n_min PyProof.Rows.Boot.«min» (j_pa_c (j_cv 2) (j_pa_c (j_pe_op j_c_sub (j_pe_op j_c_add (j_cv 3) (j_pe_op j_c_mod (j_pe_op j_c_fdiv (j_pe_callF ((ok__law_cell_at T).mono (by decide)) hr rfl T.g__law_cell_at T.fn__law_cell_at.kp T.b__law_cell_at hx (j_pa_c (j_cv 0) (j_pa_c (j_pe_op j_c_add (j_cv 1) j_pe_int) j_pa_nil))) j_pe_int) j_pe_int)) j_pe_int) j_pa_nil))) j_pa_nil))))) j_pss_nil)
      (j_pss_cons (j_ps_set (i := 5) sc__law_numbers.nd rfl (by first | exact Or.inl rfl | exact Or.inr rfl) (j_pe_op j_c_mod (j_pe_op j_c_fdiv (j_pe_callF ((ok__law_cell_at T).mono (by decide)) hr rfl T.g__law_cell_at T.fn__law_cell_at.kp T.b__law_cell_at hx (j_pa_c (j_cv 0) (j_pa_c (j_pe_op j_c_add (j_cv 1) j_pe_int) j_pa_nil))) j_pe_int) (j_pe_op j_c_sub (j_pe_op j_c_add (j_cv 2) j_pe_int) (j_pe_callBF (j_c_max2 (by rfl)) (by rfl) T.n_max PyProof.Rows.Boot.«max» (j_pa_c (j_cv 3) (j_pa_c (j_cv 4) j_pa_nil))))))
      (j_pss_cons (j_ps_if (j_pt_cmpR j_c_eq (j_pe_op j_c_mod (j_pe_callF ((ok__law_cell_at T).mono (by decide)) hr rfl T.g__law_cell_at T.fn__law_cell_at.kp T.b__law_cell_at hx (j_pa_c (j_cv 0) (j_pa_c (j_pe_op j_c_add (j_cv 1) j_pe_int) j_pa_nil))) j_pe_int) j_pe_int (nomark _)) (j_pss_one (j_ps_set (i := 5) sc__law_numbers.nd rfl (by first | exact Or.inl rfl | exact Or.inr rfl) (j_pe_op j_c_sub (j_pe_op j_c_add (j_cv 2) j_pe_int) (j_pe_callBF (j_c_max2 (by rfl)) (by rfl) T.n_max PyProof.Rows.Boot.«max» (j_pa_c (j_cv 3) (j_pa_c (j_cv 4) j_pa_nil)))))) j_pss_nil)
      (j_pss_cons (j_ps_if (j_pt_cmpR j_c_eq (j_pe_op j_c_mod (j_pe_callF ((ok__law_cell_at T).mono (by decide)) hr rfl T.g__law_cell_at T.fn__law_cell_at.kp T.b__law_cell_at hx (j_pa_c (j_cv 0) (j_pa_c (j_cv 1) j_pa_nil))) j_pe_int) j_pe_int (nomark _)) (j_pss_cons (j_ps_set (i := 6) sc__law_numbers.nd rfl (by first | exact Or.inl rfl | exact Or.inr rfl) (j_pe_menu (j_pa_c (j_pe_un j_c_neg j_pe_int) (j_pa_c j_pe_bl (j_pa_c j_pe_non (j_pa_c j_pe_str (j_pa_c (j_pe_op j_c_add (j_cv 2) j_pe_int) (j_pa_c (j_pe_un j_c_neg (j_pe_op j_c_pow j_pe_int j_pe_int)) (j_pa_c (j_pe_op j_c_pow j_pe_int j_pe_int) (j_pa_c (j_pe_lst (j_pa_c j_pe_int j_pa_nil)) j_pa_nil)))))))) (j_pe_op j_c_mod (j_pe_op j_c_fdiv (j_pe_callF ((ok__law_cell_at T).mono (by decide)) hr rfl T.g__law_cell_at T.fn__law_cell_at.kp T.b__law_cell_at hx (j_pa_c (j_cv 0) (j_pa_c (j_cv 1) j_pa_nil))) j_pe_int) j_pe_int) (fun _ _ => rfl)))
      (j_pss_cons (j_ps_set (i := 7) sc__law_numbers.nd rfl (by first | exact Or.inl rfl | exact Or.inr rfl) (j_pe_op j_c_mod (j_pe_op j_c_fdiv (j_pe_callF ((ok__law_cell_at T).mono (by decide)) hr rfl T.g__law_cell_at T.fn__law_cell_at.kp T.b__law_cell_at hx (j_pa_c (j_cv 0) (j_pa_c (j_cv 1) j_pa_nil))) j_pe_int) j_pe_int))
      (j_pss_one (j_ps_ret (j_pe_menu (j_pa_c (j_pe_lst (j_pa_c (j_cv 6) (j_pa_c (j_cv 4) (j_pa_c (j_cv 5) j_pa_nil)))) (j_pa_c (j_pe_lst (j_pa_c (j_cv 3) (j_pa_c (j_cv 6) (j_pa_c (j_cv 5) j_pa_nil)))) (j_pa_c (j_pe_lst (j_pa_c (j_cv 3) (j_pa_c (j_cv 4) (j_pa_c (j_cv 6) j_pa_nil)))) (j_pa_c (j_pe_lst (j_pa_c (j_cv 6) (j_pa_c (j_cv 4) (j_pa_c (j_cv 6) j_pa_nil)))) j_pa_nil)))) (j_cv 7) (fun _ _ => rfl)))))) j_pss_nil)
      (j_pss_one (j_ps_ret (j_pe_lst (j_pa_c (j_cv 3) (j_pa_c (j_cv 4) (j_pa_c (j_cv 5) j_pa_nil)))))))))))), ?_⟩
    simp only [tRet, tRetN, tNext, tDrop, tSeq, tIfS, tTest, tB, tOp, tUn, tAnd, tOr, tNot, tAndV, tOrV, tNotV, tIf, tCB, tCons, tNil, tC, cVar, tLst, tTup, tAsg, gName, tCallE, tRaise, tTry, tDNewK, cAdd, cSub, cMul, cFdiv, cMod, cPow, cLt, cLe, cGt, cGe, cCmp, cEq, cNe, eqv, cIs, cIsNot, isNon, cNeg, tChain, rIxM, rIsi, kitV, cIx, cLen, cIxS, cLenS, cAbs, cInt, cxOf_K, TruV, and_assoc, CDiv, CMul, CPow, true_or, or_true, Int.reduceLT, Int.reduceEq, Int.reduceMod, Int.reduceDiv, Int.reduceNe, Int.reduceGT, Int.reduceGE, Nat.reduceEqDiff, Nat.reduceMul, Nat.reduceLT, Int.cast_ofNat_Int, Int.reduceLE, Int.reduceNeg, Int.reducePow, Int.reduceToNat, Int.reduceMul, Int.reduceAdd, Int.reduceSub, ofs_inj, ofs_app, emp_ofs, String.reduceAppend, String.reduceEq, Nat.reduceLeDiff, reduceIte, Bool.not_eq_true', Bool.not_true, Bool.not_false, exc_rt, rm_upd, upd_same, decide_true, decide_false, Bool.true_eq_false, tFor_eq, tComp, capt, tYes, cAll, cList, cEqA, cNeA, cEqL, cNeL, rIsT, kitVs, iRng1, iRng2, iRng3, gLst, gCons, gNil, iList, iTup, cFld, cSFld, cMethE, cSetL, cRep, cSl, cSlS, cPart, tNoPart, tSl, cAppend, cMin2, cMax2, cBM, cDGet2, cDGet, cDPut, keyV, gSub, tMakeE, atI_0, atI_1, atI_2, atI_3, atI_4, atI_5, atI_6, atI_7, atI_8, atI_9, atI_10, atI_11, atI_12, eq_self, not_true_eq_false, not_false_eq_true, decide_eq_false_iff_not, L2.start, cSum, cCat, cListR, cInD, cNotInD, cDPop, cLenD, cIsA, cIsNotA, isBl, cSorted, tComp2, cExtend, intsV_map, List.map_cons, List.map_nil, List.length_cons, List.length_nil, List.replicate, List.cons_append, List.nil_append, List.append_nil, List.getElem?_cons_zero, List.getElem?_cons_succ, List.set_cons_zero, List.set_cons_succ, V.int.injEq, V.bl.injEq, V.str.injEq, V.ref.injEq, V.ty.injEq, List.cons.injEq, Option.some.injEq, and_true, true_and, exists_eq_left', exists_and_left, exists_eq_left, exists_const, reduceCtorEq, false_and, and_false, exists_false, ite_true, ite_false, Bool.false_eq_true, decide_eq_true_eq, Nat.reduceSub, Nat.reduceAdd, Nat.sub_self, sz0, sz1, sz2, sz3, sz4, sz5, sz6, sz7, sz8, sz9, sz10, sz11, sz12, sz13, sz14, sz15, sz16, sz17, sz18, sz19, sz20, sz21, sz22, sz23, sz24, sz25, sz26, sz27, sz28, sz29, sz30, sz31, sz32, sz33, sz34, sz35, sz36, sz37, sz38, sz39, sz40, sz41, sz42, sz43, sz44, sz45, sz46, sz47, sz48, sz49, sz50, sz51, sz52, sz53, sz54, sz55, sz56, sz57, sz58, sz59, sz60, ln_0, ln_1, ln_2, ln_3, ln_4, ln_5, ln_6, ln_7, ln_8, ln_9, ln_10, ln_11, ln_12, ln_13, ln_14, ln_15, ln_16, ln_17, ln_18, ln_19, ln_20, ln_21, sp__law_cell_at]
    refine ⟨ns, hS, hk, by omega, ns, hS, by omega, by omega, ns, hS, by omega, ?_⟩
    have hs0 : 0 ≤ cat ns k / 4 % (n + 1) ∧ cat ns k / 4 % (n + 1) ≤ n := ⟨Int.emod_nonneg _ (by omega), by have := Int.emod_lt_of_pos (cat ns k / 4) (show 0 < n + 1 by omega); omega⟩
    have hg0 : 0 ≤ cat ns (k + 1) / 8 % (n + 1) ∧ cat ns (k + 1) / 8 % (n + 1) ≤ n := ⟨Int.emod_nonneg _ (by omega), by have := Int.emod_lt_of_pos (cat ns (k + 1) / 8) (show 0 < n + 1 by omega); omega⟩
    generalize cat ns k / 4 % (n + 1) = st at *
    split
    · refine ⟨ns, hS, by omega, ns, hS, by omega, ?_⟩
      generalize st + cat ns (k + 1) / 8 % 7 - 3 = X at *
      have hgo : 0 ≤ (if 0 < if X < n then X else n then if X < n then X else n else 0) ∧ (if 0 < if X < n then X else n then if X < n then X else n else 0) ≤ n := by
        split <;> split <;> omega
      generalize (if 0 < if X < n then X else n then if X < n then X else n else 0) = go at *
      refine ⟨by split <;> omega, ns, hS, by omega, ?_⟩
      split
      · refine ⟨ns, hS, hk, ?_⟩
        split
        · refine ⟨by decide, by decide, fun p hp p1 hp1 => ⟨ns, ((Same.upd hp).trans (Same.upd hp1)).seq hS, hk, ?_⟩⟩
          split
          case h_2 =>
            rename_i hv
            exact at_ne (by omega) (by simp only [List.length_cons, List.length_nil]; omega) hv
          rename_i v hv
          simp only [rm_upd hp1]
          have kv : Kn (upd H p (HO.lst [V.int 1])) v := by
            have hm := at_in hv
            simp only [List.mem_cons, List.not_mem_nil, or_false] at hm
            rcases hm with rfl | rfl | rfl | rfl | rfl | rfl | rfl | rfl
            all_goals first | exact .inl ⟨_, upd_same⟩ | exact True.intro
          have s0 : Same H (upd H p (HO.lst [V.int 1])) := Same.upd hp
          refine ⟨ns, s0.seq hS, hk, fun p2 hp2 p3 hp3 p4 hp4 p5 hp5 p6 hp6 => ?_⟩
          split
          case h_2 =>
            rename_i hw
            exact at_ne (by omega) (by simp only [List.length_cons, List.length_nil]; omega) hw
          rename_i w hw
          rw [rm_upd hp6]
          have kv' := fun (o5 : HO) => kv.same ((Same.upd hp2).trans ((Same.upd hp3).trans ((Same.upd hp4).trans (Same.upd (o := o5) hp5))))
          have sA := fun (o5 : HO) => s0.trans ((Same.upd hp2).trans ((Same.upd hp3).trans ((Same.upd hp4).trans (Same.upd (o := o5) hp5))))
          have hm := at_in hw
          simp only [List.mem_cons, List.not_mem_nil, or_false] at hm
          rcases hm with rfl | rfl | rfl | rfl
          · exact q _ _ _ _ _ (sA _) ((Same.upd hp5) _ _ ((Same.upd hp4) _ _ ((Same.upd hp3) _ _ upd_same))) (kv' _) True.intro True.intro
          · exact q _ _ _ _ _ (sA _) ((Same.upd hp5) _ _ ((Same.upd hp4) _ _ upd_same)) True.intro (kv' _) True.intro
          · exact q _ _ _ _ _ (sA _) ((Same.upd hp5) _ _ upd_same) True.intro True.intro (kv' _)
          · exact q _ _ _ _ _ (sA _) upd_same (kv' _) True.intro (kv' _)
        · intro p hp
          exact q _ _ _ _ _ (Same.upd hp) upd_same True.intro True.intro True.intro
      · refine ⟨ns, hS, hk, ?_⟩
        split
        · refine ⟨by decide, by decide, fun p hp p1 hp1 => ⟨ns, ((Same.upd hp).trans (Same.upd hp1)).seq hS, hk, ?_⟩⟩
          split
          case h_2 =>
            rename_i hv
            exact at_ne (by omega) (by simp only [List.length_cons, List.length_nil]; omega) hv
          rename_i v hv
          simp only [rm_upd hp1]
          have kv : Kn (upd H p (HO.lst [V.int 1])) v := by
            have hm := at_in hv
            simp only [List.mem_cons, List.not_mem_nil, or_false] at hm
            rcases hm with rfl | rfl | rfl | rfl | rfl | rfl | rfl | rfl
            all_goals first | exact .inl ⟨_, upd_same⟩ | exact True.intro
          have s0 : Same H (upd H p (HO.lst [V.int 1])) := Same.upd hp
          refine ⟨ns, s0.seq hS, hk, fun p2 hp2 p3 hp3 p4 hp4 p5 hp5 p6 hp6 => ?_⟩
          split
          case h_2 =>
            rename_i hw
            exact at_ne (by omega) (by simp only [List.length_cons, List.length_nil]; omega) hw
          rename_i w hw
          rw [rm_upd hp6]
          have kv' := fun (o5 : HO) => kv.same ((Same.upd hp2).trans ((Same.upd hp3).trans ((Same.upd hp4).trans (Same.upd (o := o5) hp5))))
          have sA := fun (o5 : HO) => s0.trans ((Same.upd hp2).trans ((Same.upd hp3).trans ((Same.upd hp4).trans (Same.upd (o := o5) hp5))))
          have hm := at_in hw
          simp only [List.mem_cons, List.not_mem_nil, or_false] at hm
          rcases hm with rfl | rfl | rfl | rfl
          · exact q _ _ _ _ _ (sA _) ((Same.upd hp5) _ _ ((Same.upd hp4) _ _ ((Same.upd hp3) _ _ upd_same))) (kv' _) True.intro True.intro
          · exact q _ _ _ _ _ (sA _) ((Same.upd hp5) _ _ ((Same.upd hp4) _ _ upd_same)) True.intro (kv' _) True.intro
          · exact q _ _ _ _ _ (sA _) ((Same.upd hp5) _ _ upd_same) True.intro True.intro (kv' _)
          · exact q _ _ _ _ _ (sA _) upd_same (kv' _) True.intro (kv' _)
        · intro p hp
          exact q _ _ _ _ _ (Same.upd hp) upd_same True.intro True.intro True.intro
    · generalize cat ns (k + 1) / 8 % (n + 1) = go at *
      refine ⟨ns, hS, by omega, ?_⟩
      refine ⟨by split <;> omega, ns, hS, by omega, ?_⟩
      split
      · refine ⟨ns, hS, hk, ?_⟩
        split
        · refine ⟨by decide, by decide, fun p hp p1 hp1 => ⟨ns, ((Same.upd hp).trans (Same.upd hp1)).seq hS, hk, ?_⟩⟩
          split
          case h_2 =>
            rename_i hv
            exact at_ne (by omega) (by simp only [List.length_cons, List.length_nil]; omega) hv
          rename_i v hv
          simp only [rm_upd hp1]
          have kv : Kn (upd H p (HO.lst [V.int 1])) v := by
            have hm := at_in hv
            simp only [List.mem_cons, List.not_mem_nil, or_false] at hm
            rcases hm with rfl | rfl | rfl | rfl | rfl | rfl | rfl | rfl
            all_goals first | exact .inl ⟨_, upd_same⟩ | exact True.intro
          have s0 : Same H (upd H p (HO.lst [V.int 1])) := Same.upd hp
          refine ⟨ns, s0.seq hS, hk, fun p2 hp2 p3 hp3 p4 hp4 p5 hp5 p6 hp6 => ?_⟩
          split
          case h_2 =>
            rename_i hw
            exact at_ne (by omega) (by simp only [List.length_cons, List.length_nil]; omega) hw
          rename_i w hw
          rw [rm_upd hp6]
          have kv' := fun (o5 : HO) => kv.same ((Same.upd hp2).trans ((Same.upd hp3).trans ((Same.upd hp4).trans (Same.upd (o := o5) hp5))))
          have sA := fun (o5 : HO) => s0.trans ((Same.upd hp2).trans ((Same.upd hp3).trans ((Same.upd hp4).trans (Same.upd (o := o5) hp5))))
          have hm := at_in hw
          simp only [List.mem_cons, List.not_mem_nil, or_false] at hm
          rcases hm with rfl | rfl | rfl | rfl
          · exact q _ _ _ _ _ (sA _) ((Same.upd hp5) _ _ ((Same.upd hp4) _ _ ((Same.upd hp3) _ _ upd_same))) (kv' _) True.intro True.intro
          · exact q _ _ _ _ _ (sA _) ((Same.upd hp5) _ _ ((Same.upd hp4) _ _ upd_same)) True.intro (kv' _) True.intro
          · exact q _ _ _ _ _ (sA _) ((Same.upd hp5) _ _ upd_same) True.intro True.intro (kv' _)
          · exact q _ _ _ _ _ (sA _) upd_same (kv' _) True.intro (kv' _)
        · intro p hp
          exact q _ _ _ _ _ (Same.upd hp) upd_same True.intro True.intro True.intro
      · refine ⟨ns, hS, hk, ?_⟩
        split
        · refine ⟨by decide, by decide, fun p hp p1 hp1 => ⟨ns, ((Same.upd hp).trans (Same.upd hp1)).seq hS, hk, ?_⟩⟩
          split
          case h_2 =>
            rename_i hv
            exact at_ne (by omega) (by simp only [List.length_cons, List.length_nil]; omega) hv
          rename_i v hv
          simp only [rm_upd hp1]
          have kv : Kn (upd H p (HO.lst [V.int 1])) v := by
            have hm := at_in hv
            simp only [List.mem_cons, List.not_mem_nil, or_false] at hm
            rcases hm with rfl | rfl | rfl | rfl | rfl | rfl | rfl | rfl
            all_goals first | exact .inl ⟨_, upd_same⟩ | exact True.intro
          have s0 : Same H (upd H p (HO.lst [V.int 1])) := Same.upd hp
          refine ⟨ns, s0.seq hS, hk, fun p2 hp2 p3 hp3 p4 hp4 p5 hp5 p6 hp6 => ?_⟩
          split
          case h_2 =>
            rename_i hw
            exact at_ne (by omega) (by simp only [List.length_cons, List.length_nil]; omega) hw
          rename_i w hw
          rw [rm_upd hp6]
          have kv' := fun (o5 : HO) => kv.same ((Same.upd hp2).trans ((Same.upd hp3).trans ((Same.upd hp4).trans (Same.upd (o := o5) hp5))))
          have sA := fun (o5 : HO) => s0.trans ((Same.upd hp2).trans ((Same.upd hp3).trans ((Same.upd hp4).trans (Same.upd (o := o5) hp5))))
          have hm := at_in hw
          simp only [List.mem_cons, List.not_mem_nil, or_false] at hm
          rcases hm with rfl | rfl | rfl | rfl
          · exact q _ _ _ _ _ (sA _) ((Same.upd hp5) _ _ ((Same.upd hp4) _ _ ((Same.upd hp3) _ _ upd_same))) (kv' _) True.intro True.intro
          · exact q _ _ _ _ _ (sA _) ((Same.upd hp5) _ _ ((Same.upd hp4) _ _ upd_same)) True.intro (kv' _) True.intro
          · exact q _ _ _ _ _ (sA _) ((Same.upd hp5) _ _ upd_same) True.intro True.intro (kv' _)
          · exact q _ _ _ _ _ (sA _) upd_same (kv' _) True.intro (kv' _)
        · intro p hp
          exact q _ _ _ _ _ (Same.upd hp) upd_same True.intro True.intro True.intro
def sp_is_number : Sp := fun vs H Q _ => ∃ v, vs = [v] ∧ Kn H v ∧ Q (.bl (wi v (-1000000000000) 1000000000000)) H
theorem sc_is_number : FnScope ["thing"] ["thing"] (defScope s_is_number) := ⟨rfl, rfl, rfl, by decide +kernel, rfl, by decide +kernel, by decide +kernel⟩
theorem ok_is_number {ca : Bool} (T : Txt K mg A) : FnOk P w K mg base (CXE P w) ca 3 A.f_is_number A.d_is_number ["thing"] sp_is_number := by
  refine T.fn_is_number.okE sc_is_number (fun vs H Q E h => ?_) (fun cdv A' outer s H vs Q E hr hx h => ?_)
  · obtain ⟨v, rfl, hk, q⟩ := h
    rfl
  · obtain ⟨v, rfl, hk, q⟩ := h
    refine ⟨_, JSs.run (j_pss_one (j_ps_ret (j_pe_callF ((ok_is_within T).mono (by decide)) hr rfl T.g_is_within T.fn_is_within.kp T.b_is_within hx (j_pa_c (j_cv 0) (j_pa_c (j_pe_un j_c_neg (j_pe_gv T.v_MOST_NUMBER)) (j_pa_c (j_pe_gv T.v_MOST_NUMBER) j_pa_nil)))))), ?_⟩
    simp only [tRet, tRetN, tNext, tDrop, tSeq, tIfS, tTest, tB, tOp, tUn, tAnd, tOr, tNot, tAndV, tOrV, tNotV, tIf, tCB, tCons, tNil, tC, cVar, tLst, tTup, tAsg, gName, tCallE, tRaise, tTry, tDNewK, cAdd, cSub, cMul, cFdiv, cMod, cPow, cLt, cLe, cGt, cGe, cCmp, cEq, cNe, eqv, cIs, cIsNot, isNon, cNeg, tChain, rIxM, rIsi, kitV, cIx, cLen, cIxS, cLenS, cAbs, cInt, cxOf_K, TruV, and_assoc, CDiv, CMul, CPow, true_or, or_true, Int.reduceLT, Int.reduceEq, Int.reduceMod, Int.reduceDiv, Int.reduceNe, Int.reduceGT, Int.reduceGE, Nat.reduceEqDiff, Nat.reduceMul, Nat.reduceLT, Int.cast_ofNat_Int, Int.reduceLE, Int.reduceNeg, Int.reducePow, Int.reduceToNat, Int.reduceMul, Int.reduceAdd, Int.reduceSub, ofs_inj, ofs_app, emp_ofs, String.reduceAppend, String.reduceEq, Nat.reduceLeDiff, reduceIte, Bool.not_eq_true', Bool.not_true, Bool.not_false, exc_rt, rm_upd, upd_same, decide_true, decide_false, Bool.true_eq_false, tFor_eq, tComp, capt, tYes, cAll, cList, cEqA, cNeA, cEqL, cNeL, rIsT, kitVs, iRng1, iRng2, iRng3, gLst, gCons, gNil, iList, iTup, cFld, cSFld, cMethE, cSetL, cRep, cSl, cSlS, cPart, tNoPart, tSl, cAppend, cMin2, cMax2, cBM, cDGet2, cDGet, cDPut, keyV, gSub, tMakeE, atI_0, atI_1, atI_2, atI_3, atI_4, atI_5, atI_6, atI_7, atI_8, atI_9, atI_10, atI_11, atI_12, eq_self, not_true_eq_false, not_false_eq_true, decide_eq_false_iff_not, L2.start, cSum, cCat, cListR, cInD, cNotInD, cDPop, cLenD, cIsA, cIsNotA, isBl, cSorted, tComp2, cExtend, intsV_map, List.map_cons, List.map_nil, List.length_cons, List.length_nil, List.replicate, List.cons_append, List.nil_append, List.append_nil, List.getElem?_cons_zero, List.getElem?_cons_succ, List.set_cons_zero, List.set_cons_succ, V.int.injEq, V.bl.injEq, V.str.injEq, V.ref.injEq, V.ty.injEq, List.cons.injEq, Option.some.injEq, and_true, true_and, exists_eq_left', exists_and_left, exists_eq_left, exists_const, reduceCtorEq, false_and, and_false, exists_false, ite_true, ite_false, Bool.false_eq_true, decide_eq_true_eq, Nat.reduceSub, Nat.reduceAdd, Nat.sub_self, sz0, sz1, sz2, sz3, sz4, sz5, sz6, sz7, sz8, sz9, sz10, sz11, sz12, sz13, sz14, sz15, sz16, sz17, sz18, sz19, sz20, sz21, sz22, sz23, sz24, sz25, sz26, sz27, sz28, sz29, sz30, sz31, sz32, sz33, sz34, sz35, sz36, sz37, sz38, sz39, sz40, sz41, sz42, sz43, sz44, sz45, sz46, sz47, sz48, sz49, sz50, sz51, sz52, sz53, sz54, sz55, sz56, sz57, sz58, sz59, sz60, ln_0, ln_1, ln_2, ln_3, ln_4, ln_5, ln_6, ln_7, ln_8, ln_9, ln_10, ln_11, ln_12, ln_13, ln_14, ln_15, ln_16, ln_17, ln_18, ln_19, ln_20, ln_21, sp_is_within]
    exact ⟨hk, q⟩
def sp_is_place : Sp := fun vs H Q _ => ∃ v, vs = [v] ∧ Kn H v ∧ Q (.bl (wi v 0 9999)) H
theorem sc_is_place : FnScope ["thing"] ["thing"] (defScope s_is_place) := ⟨rfl, rfl, rfl, by decide +kernel, rfl, by decide +kernel, by decide +kernel⟩
theorem ok_is_place {ca : Bool} (T : Txt K mg A) : FnOk P w K mg base (CXE P w) ca 3 A.f_is_place A.d_is_place ["thing"] sp_is_place := by
  refine T.fn_is_place.okE sc_is_place (fun vs H Q E h => ?_) (fun cdv A' outer s H vs Q E hr hx h => ?_)
  · obtain ⟨v, rfl, hk, q⟩ := h
    rfl
  · obtain ⟨v, rfl, hk, q⟩ := h
    refine ⟨_, JSs.run (j_pss_one (j_ps_ret (j_pe_callF ((ok_is_within T).mono (by decide)) hr rfl T.g_is_within T.fn_is_within.kp T.b_is_within hx (j_pa_c (j_cv 0) (j_pa_c j_pe_int (j_pa_c (j_pe_gv T.v_MOST_PLACE) j_pa_nil)))))), ?_⟩
    simp only [tRet, tRetN, tNext, tDrop, tSeq, tIfS, tTest, tB, tOp, tUn, tAnd, tOr, tNot, tAndV, tOrV, tNotV, tIf, tCB, tCons, tNil, tC, cVar, tLst, tTup, tAsg, gName, tCallE, tRaise, tTry, tDNewK, cAdd, cSub, cMul, cFdiv, cMod, cPow, cLt, cLe, cGt, cGe, cCmp, cEq, cNe, eqv, cIs, cIsNot, isNon, cNeg, tChain, rIxM, rIsi, kitV, cIx, cLen, cIxS, cLenS, cAbs, cInt, cxOf_K, TruV, and_assoc, CDiv, CMul, CPow, true_or, or_true, Int.reduceLT, Int.reduceEq, Int.reduceMod, Int.reduceDiv, Int.reduceNe, Int.reduceGT, Int.reduceGE, Nat.reduceEqDiff, Nat.reduceMul, Nat.reduceLT, Int.cast_ofNat_Int, Int.reduceLE, Int.reduceNeg, Int.reducePow, Int.reduceToNat, Int.reduceMul, Int.reduceAdd, Int.reduceSub, ofs_inj, ofs_app, emp_ofs, String.reduceAppend, String.reduceEq, Nat.reduceLeDiff, reduceIte, Bool.not_eq_true', Bool.not_true, Bool.not_false, exc_rt, rm_upd, upd_same, decide_true, decide_false, Bool.true_eq_false, tFor_eq, tComp, capt, tYes, cAll, cList, cEqA, cNeA, cEqL, cNeL, rIsT, kitVs, iRng1, iRng2, iRng3, gLst, gCons, gNil, iList, iTup, cFld, cSFld, cMethE, cSetL, cRep, cSl, cSlS, cPart, tNoPart, tSl, cAppend, cMin2, cMax2, cBM, cDGet2, cDGet, cDPut, keyV, gSub, tMakeE, atI_0, atI_1, atI_2, atI_3, atI_4, atI_5, atI_6, atI_7, atI_8, atI_9, atI_10, atI_11, atI_12, eq_self, not_true_eq_false, not_false_eq_true, decide_eq_false_iff_not, L2.start, cSum, cCat, cListR, cInD, cNotInD, cDPop, cLenD, cIsA, cIsNotA, isBl, cSorted, tComp2, cExtend, intsV_map, List.map_cons, List.map_nil, List.length_cons, List.length_nil, List.replicate, List.cons_append, List.nil_append, List.append_nil, List.getElem?_cons_zero, List.getElem?_cons_succ, List.set_cons_zero, List.set_cons_succ, V.int.injEq, V.bl.injEq, V.str.injEq, V.ref.injEq, V.ty.injEq, List.cons.injEq, Option.some.injEq, and_true, true_and, exists_eq_left', exists_and_left, exists_eq_left, exists_const, reduceCtorEq, false_and, and_false, exists_false, ite_true, ite_false, Bool.false_eq_true, decide_eq_true_eq, Nat.reduceSub, Nat.reduceAdd, Nat.sub_self, sz0, sz1, sz2, sz3, sz4, sz5, sz6, sz7, sz8, sz9, sz10, sz11, sz12, sz13, sz14, sz15, sz16, sz17, sz18, sz19, sz20, sz21, sz22, sz23, sz24, sz25, sz26, sz27, sz28, sz29, sz30, sz31, sz32, sz33, sz34, sz35, sz36, sz37, sz38, sz39, sz40, sz41, sz42, sz43, sz44, sz45, sz46, sz47, sz48, sz49, sz50, sz51, sz52, sz53, sz54, sz55, sz56, sz57, sz58, sz59, sz60, ln_0, ln_1, ln_2, ln_3, ln_4, ln_5, ln_6, ln_7, ln_8, ln_9, ln_10, ln_11, ln_12, ln_13, ln_14, ln_15, ln_16, ln_17, ln_18, ln_19, ln_20, ln_21, sp_is_within]
    exact ⟨hk, q⟩
def sp_Memory_init (A : Ad) : Sp := fun vs H Q E => ∃ p dx v, vs = [.ref p, v] ∧ H p = some (.ins A.c_Memory dx []) ∧ Kn H v ∧
  if wi v 1 4000 = true then (∀ q H', H q = none → MemAt A.c_Memory H' p q (List.replicate (iv v).toNat (-1)) → (∀ b o, H b = some o → b ≠ p → H' b = some o) → Q .non H') else E (.ref A.c_BadCount) none H
theorem sc_Memory_init : FnScope ["self", "size"] ["self", "size"] (defScope s_Memory_init) := ⟨rfl, rfl, rfl, by decide +kernel, rfl, by decide +kernel, by decide +kernel⟩
theorem ok_Memory_init (T : Txt K mg A) : FnOk P w K mg base (CXE P w) true 3 A.f_Memory_init A.d_Memory_init ["self", "size"] (sp_Memory_init A) := by
  refine T.fn_Memory_init.okE sc_Memory_init (fun vs H Q E h => ?_) (fun cdv A' outer s H vs Q E hr hx h => ?_)
  · obtain ⟨p, dx, v, rfl, e, hk, h⟩ := h
    rfl
  · obtain ⟨p, dx, v, rfl, e, hk, h⟩ := h
    refine ⟨_, JSs.run (j_pss_cons (j_ps_if (j_pt_not (j_pt_truth (j_pe_callF ((ok_is_within T).mono (by decide)) hr rfl T.g_is_within T.fn_is_within.kp T.b_is_within hx (j_pa_c (j_cv 1) (j_pa_c j_pe_int (j_pa_c (j_pe_gv T.v_MOST_WORDS) j_pa_nil)))) (fun _ => rfl))) (j_pss_one (j_ps_raiseF hx rfl T.g_BadCount T.x_BadCount rfl (j_pa_c j_pe_str j_pa_nil))) j_pss_nil)
      (j_pss_cons (j_c_sfld (j_cv 0) (j_cv 1) rfl)
      (j_pss_one (j_c_sfld (j_cv 0) (j_pe_op j_c_rep (j_pe_lst (j_pa_c (j_pe_gv T.v_NOTHING) j_pa_nil)) (j_cv 1)) rfl)))), ?_⟩
    simp only [tRet, tRetN, tNext, tDrop, tSeq, tIfS, tTest, tB, tOp, tUn, tAnd, tOr, tNot, tAndV, tOrV, tNotV, tIf, tCB, tCons, tNil, tC, cVar, tLst, tTup, tAsg, gName, tCallE, tRaise, tTry, tDNewK, cAdd, cSub, cMul, cFdiv, cMod, cPow, cLt, cLe, cGt, cGe, cCmp, cEq, cNe, eqv, cIs, cIsNot, isNon, cNeg, tChain, rIxM, rIsi, kitV, cIx, cLen, cIxS, cLenS, cAbs, cInt, cxOf_K, TruV, and_assoc, CDiv, CMul, CPow, true_or, or_true, Int.reduceLT, Int.reduceEq, Int.reduceMod, Int.reduceDiv, Int.reduceNe, Int.reduceGT, Int.reduceGE, Nat.reduceEqDiff, Nat.reduceMul, Nat.reduceLT, Int.cast_ofNat_Int, Int.reduceLE, Int.reduceNeg, Int.reducePow, Int.reduceToNat, Int.reduceMul, Int.reduceAdd, Int.reduceSub, ofs_inj, ofs_app, emp_ofs, String.reduceAppend, String.reduceEq, Nat.reduceLeDiff, reduceIte, Bool.not_eq_true', Bool.not_true, Bool.not_false, exc_rt, rm_upd, upd_same, decide_true, decide_false, Bool.true_eq_false, tFor_eq, tComp, capt, tYes, cAll, cList, cEqA, cNeA, cEqL, cNeL, rIsT, kitVs, iRng1, iRng2, iRng3, gLst, gCons, gNil, iList, iTup, cFld, cSFld, cMethE, cSetL, cRep, cSl, cSlS, cPart, tNoPart, tSl, cAppend, cMin2, cMax2, cBM, cDGet2, cDGet, cDPut, keyV, gSub, tMakeE, atI_0, atI_1, atI_2, atI_3, atI_4, atI_5, atI_6, atI_7, atI_8, atI_9, atI_10, atI_11, atI_12, eq_self, not_true_eq_false, not_false_eq_true, decide_eq_false_iff_not, L2.start, cSum, cCat, cListR, cInD, cNotInD, cDPop, cLenD, cIsA, cIsNotA, isBl, cSorted, tComp2, cExtend, intsV_map, List.map_cons, List.map_nil, List.length_cons, List.length_nil, List.replicate, List.cons_append, List.nil_append, List.append_nil, List.getElem?_cons_zero, List.getElem?_cons_succ, List.set_cons_zero, List.set_cons_succ, V.int.injEq, V.bl.injEq, V.str.injEq, V.ref.injEq, V.ty.injEq, List.cons.injEq, Option.some.injEq, and_true, true_and, exists_eq_left', exists_and_left, exists_eq_left, exists_const, reduceCtorEq, false_and, and_false, exists_false, ite_true, ite_false, Bool.false_eq_true, decide_eq_true_eq, Nat.reduceSub, Nat.reduceAdd, Nat.sub_self, sz0, sz1, sz2, sz3, sz4, sz5, sz6, sz7, sz8, sz9, sz10, sz11, sz12, sz13, sz14, sz15, sz16, sz17, sz18, sz19, sz20, sz21, sz22, sz23, sz24, sz25, sz26, sz27, sz28, sz29, sz30, sz31, sz32, sz33, sz34, sz35, sz36, sz37, sz38, sz39, sz40, sz41, sz42, sz43, sz44, sz45, sz46, sz47, sz48, sz49, sz50, sz51, sz52, sz53, sz54, sz55, sz56, sz57, sz58, sz59, sz60, ln_0, ln_1, ln_2, ln_3, ln_4, ln_5, ln_6, ln_7, ln_8, ln_9, ln_10, ln_11, ln_12, ln_13, ln_14, ln_15, ln_16, ln_17, ln_18, ln_19, ln_20, ln_21, sp_is_within, e, T.cl_Memory, T.na_Memory_size, T.na_Memory_words]
    refine ⟨hk, ?_⟩
    cases hw : wi v 1 4000
    · simp [hw] at h ⊢; exact h
    · obtain ⟨n, rfl, h0, h1⟩ := wi_int hw
      simp only [hw, if_true] at h ⊢
      rw [if_neg (fun z => by cases z)]
      intro l hl
      obtain ⟨nl, hl0⟩ := upd_none hl
      simp only [upd_same]
      refine ⟨by omega, by omega, Nat.le_trans (show [V.int (-1)].length * n.toNat ≤ 4000 by simp; omega) (by decide), fun l2 hl2 => ?_⟩
      obtain ⟨nl2, hl2'⟩ := upd_none hl2
      obtain ⟨nl2p, hl20⟩ := upd_none hl2'
      rw [upd_ne (Ne.symm nl2p), upd_ne (Ne.symm nl), upd_same]
      refine ⟨T.cl_Memory, T.na_Memory_words, by simp [putF], ?_⟩
      refine h l2 _ hl20 ⟨⟨dx, ?_⟩, ?_⟩ fun b o eb nb => ?_
      · rw [upd_same, mfl_mk, List.length_replicate, show ((iv (V.int n)).toNat : Int) = n from Int.toNat_of_nonneg (by show 0 ≤ n; omega)]
      · rw [upd_ne nl2p, upd_same, flat_rep, List.map_replicate]; rfl
      · rw [upd_ne nb, upd_ne (ne_of_none eb hl20), upd_ne (ne_of_none eb hl0), upd_ne nb]; exact eb
def sp_Memory_want_place (A : Ad) : Sp := fun vs H Q E => ∃ p q ws v, vs = [.ref p, v] ∧ MemAt A.c_Memory H p q ws ∧ Kn H v ∧ if wi v 0 (ws.length - 1) = true then Q .non H else E (.ref A.c_NoPlace) none H
theorem sc_Memory_want_place : FnScope ["self", "at"] ["self", "at"] (defScope s_Memory_want_place) := ⟨rfl, rfl, rfl, by decide +kernel, rfl, by decide +kernel, by decide +kernel⟩
theorem ok_Memory_want_place (T : Txt K mg A) : FnOk P w K mg base (CXE P w) true 3 A.f_Memory_want_place A.d_Memory_want_place ["self", "at"] (sp_Memory_want_place A) := by
  refine T.fn_Memory_want_place.okE sc_Memory_want_place (fun vs H Q E h => ?_) (fun cdv A' outer s H vs Q E hr hx h => ?_)
  · obtain ⟨p, q, ws, v, rfl, m, hk, h⟩ := h
    rfl
  · obtain ⟨p, q, ws, v, rfl, m, hk, h⟩ := h
    refine ⟨_, JSs.run (j_pss_one (j_ps_if (j_pt_not (j_pt_truth (j_pe_callF ((ok_is_within T).mono (by decide)) hr rfl T.g_is_within T.fn_is_within.kp T.b_is_within hx (j_pa_c (j_cv 1) (j_pa_c j_pe_int (j_pa_c (j_pe_op j_c_sub (j_c_fld (j_cv 0) rfl) j_pe_int) j_pa_nil)))) (fun _ => rfl))) (j_pss_one (j_ps_raiseF hx rfl T.g_NoPlace T.x_NoPlace rfl (j_pa_c j_pe_str j_pa_nil))) j_pss_nil)), ?_⟩
    obtain ⟨dx, e⟩ := m.ob
    simp only [tRet, tRetN, tNext, tDrop, tSeq, tIfS, tTest, tB, tOp, tUn, tAnd, tOr, tNot, tAndV, tOrV, tNotV, tIf, tCB, tCons, tNil, tC, cVar, tLst, tTup, tAsg, gName, tCallE, tRaise, tTry, tDNewK, cAdd, cSub, cMul, cFdiv, cMod, cPow, cLt, cLe, cGt, cGe, cCmp, cEq, cNe, eqv, cIs, cIsNot, isNon, cNeg, tChain, rIxM, rIsi, kitV, cIx, cLen, cIxS, cLenS, cAbs, cInt, cxOf_K, TruV, and_assoc, CDiv, CMul, CPow, true_or, or_true, Int.reduceLT, Int.reduceEq, Int.reduceMod, Int.reduceDiv, Int.reduceNe, Int.reduceGT, Int.reduceGE, Nat.reduceEqDiff, Nat.reduceMul, Nat.reduceLT, Int.cast_ofNat_Int, Int.reduceLE, Int.reduceNeg, Int.reducePow, Int.reduceToNat, Int.reduceMul, Int.reduceAdd, Int.reduceSub, ofs_inj, ofs_app, emp_ofs, String.reduceAppend, String.reduceEq, Nat.reduceLeDiff, reduceIte, Bool.not_eq_true', Bool.not_true, Bool.not_false, exc_rt, rm_upd, upd_same, decide_true, decide_false, Bool.true_eq_false, tFor_eq, tComp, capt, tYes, cAll, cList, cEqA, cNeA, cEqL, cNeL, rIsT, kitVs, iRng1, iRng2, iRng3, gLst, gCons, gNil, iList, iTup, cFld, cSFld, cMethE, cSetL, cRep, cSl, cSlS, cPart, tNoPart, tSl, cAppend, cMin2, cMax2, cBM, cDGet2, cDGet, cDPut, keyV, gSub, tMakeE, atI_0, atI_1, atI_2, atI_3, atI_4, atI_5, atI_6, atI_7, atI_8, atI_9, atI_10, atI_11, atI_12, eq_self, not_true_eq_false, not_false_eq_true, decide_eq_false_iff_not, L2.start, cSum, cCat, cListR, cInD, cNotInD, cDPop, cLenD, cIsA, cIsNotA, isBl, cSorted, tComp2, cExtend, intsV_map, List.map_cons, List.map_nil, List.length_cons, List.length_nil, List.replicate, List.cons_append, List.nil_append, List.append_nil, List.getElem?_cons_zero, List.getElem?_cons_succ, List.set_cons_zero, List.set_cons_succ, V.int.injEq, V.bl.injEq, V.str.injEq, V.ref.injEq, V.ty.injEq, List.cons.injEq, Option.some.injEq, and_true, true_and, exists_eq_left', exists_and_left, exists_eq_left, exists_const, reduceCtorEq, false_and, and_false, exists_false, ite_true, ite_false, Bool.false_eq_true, decide_eq_true_eq, Nat.reduceSub, Nat.reduceAdd, Nat.sub_self, sz0, sz1, sz2, sz3, sz4, sz5, sz6, sz7, sz8, sz9, sz10, sz11, sz12, sz13, sz14, sz15, sz16, sz17, sz18, sz19, sz20, sz21, sz22, sz23, sz24, sz25, sz26, sz27, sz28, sz29, sz30, sz31, sz32, sz33, sz34, sz35, sz36, sz37, sz38, sz39, sz40, sz41, sz42, sz43, sz44, sz45, sz46, sz47, sz48, sz49, sz50, sz51, sz52, sz53, sz54, sz55, sz56, sz57, sz58, sz59, sz60, ln_0, ln_1, ln_2, ln_3, ln_4, ln_5, ln_6, ln_7, ln_8, ln_9, ln_10, ln_11, ln_12, ln_13, ln_14, ln_15, ln_16, ln_17, ln_18, ln_19, ln_20, ln_21, sp_is_within, e, T.cl_Memory, T.na_Memory_size, mfl_size]
    refine ⟨hk, ?_⟩
    cases hw : wi v 0 (ws.length - 1) <;> simp [hw] at h ⊢ <;> exact h
def sp_Memory_want_stretch (A : Ad) : Sp := fun vs H Q E => ∃ p q ws v m, vs = [.ref p, v, .int m] ∧ MemAt A.c_Memory H p q ws ∧ Kn H v ∧ if wi v 0 (ws.length - m) = true then Q .non H else E (.ref A.c_NoPlace) none H
theorem sc_Memory_want_stretch : FnScope ["self", "begin", "many"] ["self", "begin", "many"] (defScope s_Memory_want_stretch) := ⟨rfl, rfl, rfl, by decide +kernel, rfl, by decide +kernel, by decide +kernel⟩
theorem ok_Memory_want_stretch (T : Txt K mg A) : FnOk P w K mg base (CXE P w) true 3 A.f_Memory_want_stretch A.d_Memory_want_stretch ["self", "begin", "many"] (sp_Memory_want_stretch A) := by
  refine T.fn_Memory_want_stretch.okE sc_Memory_want_stretch (fun vs H Q E h => ?_) (fun cdv A' outer s H vs Q E hr hx h => ?_)
  · obtain ⟨p, q, ws, v, mm, rfl, m, hk, h⟩ := h
    rfl
  · obtain ⟨p, q, ws, v, mm, rfl, m, hk, h⟩ := h
    refine ⟨_, JSs.run (j_pss_one (j_ps_if (j_pt_not (j_pt_truth (j_pe_callF ((ok_is_within T).mono (by decide)) hr rfl T.g_is_within T.fn_is_within.kp T.b_is_within hx (j_pa_c (j_cv 1) (j_pa_c j_pe_int (j_pa_c (j_pe_op j_c_sub (j_c_fld (j_cv 0) rfl) (j_cv 2)) j_pa_nil)))) (fun _ => rfl))) (j_pss_one (j_ps_raiseF hx rfl T.g_NoPlace T.x_NoPlace rfl (j_pa_c j_pe_str j_pa_nil))) j_pss_nil)), ?_⟩
    obtain ⟨dx, e⟩ := m.ob
    simp only [tRet, tRetN, tNext, tDrop, tSeq, tIfS, tTest, tB, tOp, tUn, tAnd, tOr, tNot, tAndV, tOrV, tNotV, tIf, tCB, tCons, tNil, tC, cVar, tLst, tTup, tAsg, gName, tCallE, tRaise, tTry, tDNewK, cAdd, cSub, cMul, cFdiv, cMod, cPow, cLt, cLe, cGt, cGe, cCmp, cEq, cNe, eqv, cIs, cIsNot, isNon, cNeg, tChain, rIxM, rIsi, kitV, cIx, cLen, cIxS, cLenS, cAbs, cInt, cxOf_K, TruV, and_assoc, CDiv, CMul, CPow, true_or, or_true, Int.reduceLT, Int.reduceEq, Int.reduceMod, Int.reduceDiv, Int.reduceNe, Int.reduceGT, Int.reduceGE, Nat.reduceEqDiff, Nat.reduceMul, Nat.reduceLT, Int.cast_ofNat_Int, Int.reduceLE, Int.reduceNeg, Int.reducePow, Int.reduceToNat, Int.reduceMul, Int.reduceAdd, Int.reduceSub, ofs_inj, ofs_app, emp_ofs, String.reduceAppend, String.reduceEq, Nat.reduceLeDiff, reduceIte, Bool.not_eq_true', Bool.not_true, Bool.not_false, exc_rt, rm_upd, upd_same, decide_true, decide_false, Bool.true_eq_false, tFor_eq, tComp, capt, tYes, cAll, cList, cEqA, cNeA, cEqL, cNeL, rIsT, kitVs, iRng1, iRng2, iRng3, gLst, gCons, gNil, iList, iTup, cFld, cSFld, cMethE, cSetL, cRep, cSl, cSlS, cPart, tNoPart, tSl, cAppend, cMin2, cMax2, cBM, cDGet2, cDGet, cDPut, keyV, gSub, tMakeE, atI_0, atI_1, atI_2, atI_3, atI_4, atI_5, atI_6, atI_7, atI_8, atI_9, atI_10, atI_11, atI_12, eq_self, not_true_eq_false, not_false_eq_true, decide_eq_false_iff_not, L2.start, cSum, cCat, cListR, cInD, cNotInD, cDPop, cLenD, cIsA, cIsNotA, isBl, cSorted, tComp2, cExtend, intsV_map, List.map_cons, List.map_nil, List.length_cons, List.length_nil, List.replicate, List.cons_append, List.nil_append, List.append_nil, List.getElem?_cons_zero, List.getElem?_cons_succ, List.set_cons_zero, List.set_cons_succ, V.int.injEq, V.bl.injEq, V.str.injEq, V.ref.injEq, V.ty.injEq, List.cons.injEq, Option.some.injEq, and_true, true_and, exists_eq_left', exists_and_left, exists_eq_left, exists_const, reduceCtorEq, false_and, and_false, exists_false, ite_true, ite_false, Bool.false_eq_true, decide_eq_true_eq, Nat.reduceSub, Nat.reduceAdd, Nat.sub_self, sz0, sz1, sz2, sz3, sz4, sz5, sz6, sz7, sz8, sz9, sz10, sz11, sz12, sz13, sz14, sz15, sz16, sz17, sz18, sz19, sz20, sz21, sz22, sz23, sz24, sz25, sz26, sz27, sz28, sz29, sz30, sz31, sz32, sz33, sz34, sz35, sz36, sz37, sz38, sz39, sz40, sz41, sz42, sz43, sz44, sz45, sz46, sz47, sz48, sz49, sz50, sz51, sz52, sz53, sz54, sz55, sz56, sz57, sz58, sz59, sz60, ln_0, ln_1, ln_2, ln_3, ln_4, ln_5, ln_6, ln_7, ln_8, ln_9, ln_10, ln_11, ln_12, ln_13, ln_14, ln_15, ln_16, ln_17, ln_18, ln_19, ln_20, ln_21, sp_is_within, e, T.cl_Memory, T.na_Memory_size, mfl_size]
    refine ⟨hk, ?_⟩
    cases hw : wi v 0 (ws.length - mm) <;> simp [hw] at h ⊢ <;> exact h
def sp_kind (A : Ad) : Sp := fun vs H Q E => ∃ v, vs = [v] ∧ Kn H v ∧ match kd v with
  | some x => Q (.str x) H
  | none => E (.ref A.c_BadWord) none H
theorem sc_kind : FnScope ["word"] ["word"] (defScope s_kind) := ⟨rfl, rfl, rfl, by decide +kernel, rfl, by decide +kernel, by decide +kernel⟩
theorem ok_kind (T : Txt K mg A) : FnOk P w K mg base (CXE P w) true 4 A.f_kind A.d_kind ["word"] (sp_kind A) := by
  refine T.fn_kind.okE sc_kind (fun vs H Q E h => ?_) (fun cdv A' outer s H vs Q E hr hx h => ?_)
  · obtain ⟨v, rfl, hk, q⟩ := h
    rfl
  · obtain ⟨v, rfl, hk, q⟩ := h
    refine ⟨_, JSs.run (j_pss_cons (j_ps_if (j_pt_not (j_pt_truth (j_pe_callF ((ok_is_whole T).mono (by decide)) hr rfl T.g_is_whole T.fn_is_whole.kp T.b_is_whole hx (j_pa_c (j_cv 0) j_pa_nil)) (fun _ => rfl))) (j_pss_one (j_ps_raiseF hx rfl T.g_BadWord T.x_BadWord rfl (j_pa_c j_pe_str j_pa_nil))) j_pss_nil)
      (j_pss_cons (j_ps_if (j_pt_cmpR j_c_eq (j_cv 0) (j_pe_gv T.v_NOTHING) (nomark _)) (j_pss_one (j_ps_ret j_pe_str)) j_pss_nil)
      (j_pss_cons (j_ps_if (j_PW_pt (j_pw_and (j_pt_cmpR j_c_eq (j_pe_op j_c_mod (j_cv 0) j_pe_int) j_pe_int (nomark _)) (j_pw_and1 (j_pt_truth (j_pe_callF ((ok_is_number T).mono (by decide)) hr rfl T.g_is_number T.fn_is_number.kp T.b_is_number hx (j_pa_c (j_pe_op j_c_fdiv (j_cv 0) j_pe_int) j_pa_nil)) (fun _ => rfl))))) (j_pss_one (j_ps_ret j_pe_str)) j_pss_nil)
      (j_pss_cons (j_ps_if (j_PW_pt (j_pw_and (j_pt_cmpR j_c_eq (j_pe_op j_c_mod (j_cv 0) j_pe_int) j_pe_int (nomark _)) (j_pw_and1 (j_pt_truth (j_pe_callF ((ok_is_place T).mono (by decide)) hr rfl T.g_is_place T.fn_is_place.kp T.b_is_place hx (j_pa_c (j_pe_op j_c_fdiv (j_cv 0) j_pe_int) j_pa_nil)) (fun _ => rfl))))) (j_pss_one (j_ps_ret j_pe_str)) j_pss_nil)
      (j_pss_one (j_ps_raiseF hx rfl T.g_BadWord T.x_BadWord rfl (j_pa_c j_pe_str j_pa_nil))))))), ?_⟩
    simp only [tRet, tRetN, tNext, tDrop, tSeq, tIfS, tTest, tB, tOp, tUn, tAnd, tOr, tNot, tAndV, tOrV, tNotV, tIf, tCB, tCons, tNil, tC, cVar, tLst, tTup, tAsg, gName, tCallE, tRaise, tTry, tDNewK, cAdd, cSub, cMul, cFdiv, cMod, cPow, cLt, cLe, cGt, cGe, cCmp, cEq, cNe, eqv, cIs, cIsNot, isNon, cNeg, tChain, rIxM, rIsi, kitV, cIx, cLen, cIxS, cLenS, cAbs, cInt, cxOf_K, TruV, and_assoc, CDiv, CMul, CPow, true_or, or_true, Int.reduceLT, Int.reduceEq, Int.reduceMod, Int.reduceDiv, Int.reduceNe, Int.reduceGT, Int.reduceGE, Nat.reduceEqDiff, Nat.reduceMul, Nat.reduceLT, Int.cast_ofNat_Int, Int.reduceLE, Int.reduceNeg, Int.reducePow, Int.reduceToNat, Int.reduceMul, Int.reduceAdd, Int.reduceSub, ofs_inj, ofs_app, emp_ofs, String.reduceAppend, String.reduceEq, Nat.reduceLeDiff, reduceIte, Bool.not_eq_true', Bool.not_true, Bool.not_false, exc_rt, rm_upd, upd_same, decide_true, decide_false, Bool.true_eq_false, tFor_eq, tComp, capt, tYes, cAll, cList, cEqA, cNeA, cEqL, cNeL, rIsT, kitVs, iRng1, iRng2, iRng3, gLst, gCons, gNil, iList, iTup, cFld, cSFld, cMethE, cSetL, cRep, cSl, cSlS, cPart, tNoPart, tSl, cAppend, cMin2, cMax2, cBM, cDGet2, cDGet, cDPut, keyV, gSub, tMakeE, atI_0, atI_1, atI_2, atI_3, atI_4, atI_5, atI_6, atI_7, atI_8, atI_9, atI_10, atI_11, atI_12, eq_self, not_true_eq_false, not_false_eq_true, decide_eq_false_iff_not, L2.start, cSum, cCat, cListR, cInD, cNotInD, cDPop, cLenD, cIsA, cIsNotA, isBl, cSorted, tComp2, cExtend, intsV_map, List.map_cons, List.map_nil, List.length_cons, List.length_nil, List.replicate, List.cons_append, List.nil_append, List.append_nil, List.getElem?_cons_zero, List.getElem?_cons_succ, List.set_cons_zero, List.set_cons_succ, V.int.injEq, V.bl.injEq, V.str.injEq, V.ref.injEq, V.ty.injEq, List.cons.injEq, Option.some.injEq, and_true, true_and, exists_eq_left', exists_and_left, exists_eq_left, exists_const, reduceCtorEq, false_and, and_false, exists_false, ite_true, ite_false, Bool.false_eq_true, decide_eq_true_eq, Nat.reduceSub, Nat.reduceAdd, Nat.sub_self, sz0, sz1, sz2, sz3, sz4, sz5, sz6, sz7, sz8, sz9, sz10, sz11, sz12, sz13, sz14, sz15, sz16, sz17, sz18, sz19, sz20, sz21, sz22, sz23, sz24, sz25, sz26, sz27, sz28, sz29, sz30, sz31, sz32, sz33, sz34, sz35, sz36, sz37, sz38, sz39, sz40, sz41, sz42, sz43, sz44, sz45, sz46, sz47, sz48, sz49, sz50, sz51, sz52, sz53, sz54, sz55, sz56, sz57, sz58, sz59, sz60, ln_0, ln_1, ln_2, ln_3, ln_4, ln_5, ln_6, ln_7, ln_8, ln_9, ln_10, ln_11, ln_12, ln_13, ln_14, ln_15, ln_16, ln_17, ln_18, ln_19, ln_20, ln_21, sp_is_whole, sp_is_number, sp_is_place]
    refine ⟨hk, ?_⟩
    cases v <;> simp only [kd, isI] at q ⊢ <;> simp only [tRet, tRetN, tNext, tDrop, tSeq, tIfS, tTest, tB, tOp, tUn, tAnd, tOr, tNot, tAndV, tOrV, tNotV, tIf, tCB, tCons, tNil, tC, cVar, tLst, tTup, tAsg, gName, tCallE, tRaise, tTry, tDNewK, cAdd, cSub, cMul, cFdiv, cMod, cPow, cLt, cLe, cGt, cGe, cCmp, cEq, cNe, eqv, cIs, cIsNot, isNon, cNeg, tChain, rIxM, rIsi, kitV, cIx, cLen, cIxS, cLenS, cAbs, cInt, cxOf_K, TruV, and_assoc, CDiv, CMul, CPow, true_or, or_true, Int.reduceLT, Int.reduceEq, Int.reduceMod, Int.reduceDiv, Int.reduceNe, Int.reduceGT, Int.reduceGE, Nat.reduceEqDiff, Nat.reduceMul, Nat.reduceLT, Int.cast_ofNat_Int, Int.reduceLE, Int.reduceNeg, Int.reducePow, Int.reduceToNat, Int.reduceMul, Int.reduceAdd, Int.reduceSub, ofs_inj, ofs_app, emp_ofs, String.reduceAppend, String.reduceEq, Nat.reduceLeDiff, reduceIte, Bool.not_eq_true', Bool.not_true, Bool.not_false, exc_rt, rm_upd, upd_same, decide_true, decide_false, Bool.true_eq_false, tFor_eq, tComp, capt, tYes, cAll, cList, cEqA, cNeA, cEqL, cNeL, rIsT, kitVs, iRng1, iRng2, iRng3, gLst, gCons, gNil, iList, iTup, cFld, cSFld, cMethE, cSetL, cRep, cSl, cSlS, cPart, tNoPart, tSl, cAppend, cMin2, cMax2, cBM, cDGet2, cDGet, cDPut, keyV, gSub, tMakeE, atI_0, atI_1, atI_2, atI_3, atI_4, atI_5, atI_6, atI_7, atI_8, atI_9, atI_10, atI_11, atI_12, eq_self, not_true_eq_false, not_false_eq_true, decide_eq_false_iff_not, L2.start, cSum, cCat, cListR, cInD, cNotInD, cDPop, cLenD, cIsA, cIsNotA, isBl, cSorted, tComp2, cExtend, intsV_map, List.map_cons, List.map_nil, List.length_cons, List.length_nil, List.replicate, List.cons_append, List.nil_append, List.append_nil, List.getElem?_cons_zero, List.getElem?_cons_succ, List.set_cons_zero, List.set_cons_succ, V.int.injEq, V.bl.injEq, V.str.injEq, V.ref.injEq, V.ty.injEq, List.cons.injEq, Option.some.injEq, and_true, true_and, exists_eq_left', exists_and_left, exists_eq_left, exists_const, reduceCtorEq, false_and, and_false, exists_false, ite_true, ite_false, Bool.false_eq_true, decide_eq_true_eq, Nat.reduceSub, Nat.reduceAdd, Nat.sub_self, sz0, sz1, sz2, sz3, sz4, sz5, sz6, sz7, sz8, sz9, sz10, sz11, sz12, sz13, sz14, sz15, sz16, sz17, sz18, sz19, sz20, sz21, sz22, sz23, sz24, sz25, sz26, sz27, sz28, sz29, sz30, sz31, sz32, sz33, sz34, sz35, sz36, sz37, sz38, sz39, sz40, sz41, sz42, sz43, sz44, sz45, sz46, sz47, sz48, sz49, sz50, sz51, sz52, sz53, sz54, sz55, sz56, sz57, sz58, sz59, sz60, ln_0, ln_1, ln_2, ln_3, ln_4, ln_5, ln_6, ln_7, ln_8, ln_9, ln_10, ln_11, ln_12, ln_13, ln_14, ln_15, ln_16, ln_17, ln_18, ln_19, ln_20, ln_21, Kn] at q ⊢ <;> try exact q
    rename_i w
    by_cases h1 : w = -1
    · simp [h1] at q ⊢; exact q
    · by_cases h2 : w % 2 = 0
      · by_cases h3 : wi (.int (w / 2)) (-1000000000000) 1000000000000 = true
        · simp [h1, h2, h3] at q ⊢; exact q
        · simp [h1, h2, h3] at q ⊢; exact q
      · by_cases h4 : w % 2 = 1
        · by_cases h5 : wi (.int (w / 2)) 0 9999 = true
          · simp [h1, h2, h4, h5] at q ⊢; exact q
          · simp [h1, h2, h4, h5] at q ⊢; exact q
        · omega
def sp_Memory_read (A : Ad) : Sp := fun vs H Q E => ∃ p q ws v, vs = [.ref p, v] ∧ MemAt A.c_Memory H p q ws ∧ Kn H v ∧ if wi v 0 (ws.length - 1) = true then Q (.int (ws.getD (iv v).toNat 0)) H else E (.ref A.c_NoPlace) none H
theorem sc_Memory_read : FnScope ["self", "at"] ["self", "at"] (defScope s_Memory_read) := ⟨rfl, rfl, rfl, by decide +kernel, rfl, by decide +kernel, by decide +kernel⟩
theorem ok_Memory_read (T : Txt K mg A) : FnOk P w K mg base (CXE P w) true 4 A.f_Memory_read A.d_Memory_read ["self", "at"] (sp_Memory_read A) := by
  refine T.fn_Memory_read.okE sc_Memory_read (fun vs H Q E h => ?_) (fun cdv A' outer s H vs Q E hr hx h => ?_)
  · obtain ⟨p, q, ws, v, rfl, m, hk, h⟩ := h
    rfl
  · obtain ⟨p, q, ws, v, rfl, m, hk, h⟩ := h
    refine ⟨_, JSs.run (j_pss_cons (j_ps_expr (j_c_meth (j_cv 0) T.cl_Memory T.m_Memory_want_place ((ok_Memory_want_place T).mono (by decide)) hr T.b_Memory_want_place hx (j_pa_c (j_cv 1) j_pa_nil)))
      (j_pss_one (j_ps_ret (j_pe_ix j_c_ix (j_c_fld (j_cv 0) rfl) (j_cv 1) (fun _ _ => rfl))))), ?_⟩
    obtain ⟨dx, e⟩ := m.ob
    simp only [tRet, tRetN, tNext, tDrop, tSeq, tIfS, tTest, tB, tOp, tUn, tAnd, tOr, tNot, tAndV, tOrV, tNotV, tIf, tCB, tCons, tNil, tC, cVar, tLst, tTup, tAsg, gName, tCallE, tRaise, tTry, tDNewK, cAdd, cSub, cMul, cFdiv, cMod, cPow, cLt, cLe, cGt, cGe, cCmp, cEq, cNe, eqv, cIs, cIsNot, isNon, cNeg, tChain, rIxM, rIsi, kitV, cIx, cLen, cIxS, cLenS, cAbs, cInt, cxOf_K, TruV, and_assoc, CDiv, CMul, CPow, true_or, or_true, Int.reduceLT, Int.reduceEq, Int.reduceMod, Int.reduceDiv, Int.reduceNe, Int.reduceGT, Int.reduceGE, Nat.reduceEqDiff, Nat.reduceMul, Nat.reduceLT, Int.cast_ofNat_Int, Int.reduceLE, Int.reduceNeg, Int.reducePow, Int.reduceToNat, Int.reduceMul, Int.reduceAdd, Int.reduceSub, ofs_inj, ofs_app, emp_ofs, String.reduceAppend, String.reduceEq, Nat.reduceLeDiff, reduceIte, Bool.not_eq_true', Bool.not_true, Bool.not_false, exc_rt, rm_upd, upd_same, decide_true, decide_false, Bool.true_eq_false, tFor_eq, tComp, capt, tYes, cAll, cList, cEqA, cNeA, cEqL, cNeL, rIsT, kitVs, iRng1, iRng2, iRng3, gLst, gCons, gNil, iList, iTup, cFld, cSFld, cMethE, cSetL, cRep, cSl, cSlS, cPart, tNoPart, tSl, cAppend, cMin2, cMax2, cBM, cDGet2, cDGet, cDPut, keyV, gSub, tMakeE, atI_0, atI_1, atI_2, atI_3, atI_4, atI_5, atI_6, atI_7, atI_8, atI_9, atI_10, atI_11, atI_12, eq_self, not_true_eq_false, not_false_eq_true, decide_eq_false_iff_not, L2.start, cSum, cCat, cListR, cInD, cNotInD, cDPop, cLenD, cIsA, cIsNotA, isBl, cSorted, tComp2, cExtend, intsV_map, List.map_cons, List.map_nil, List.length_cons, List.length_nil, List.replicate, List.cons_append, List.nil_append, List.append_nil, List.getElem?_cons_zero, List.getElem?_cons_succ, List.set_cons_zero, List.set_cons_succ, V.int.injEq, V.bl.injEq, V.str.injEq, V.ref.injEq, V.ty.injEq, List.cons.injEq, Option.some.injEq, and_true, true_and, exists_eq_left', exists_and_left, exists_eq_left, exists_const, reduceCtorEq, false_and, and_false, exists_false, ite_true, ite_false, Bool.false_eq_true, decide_eq_true_eq, Nat.reduceSub, Nat.reduceAdd, Nat.sub_self, sz0, sz1, sz2, sz3, sz4, sz5, sz6, sz7, sz8, sz9, sz10, sz11, sz12, sz13, sz14, sz15, sz16, sz17, sz18, sz19, sz20, sz21, sz22, sz23, sz24, sz25, sz26, sz27, sz28, sz29, sz30, sz31, sz32, sz33, sz34, sz35, sz36, sz37, sz38, sz39, sz40, sz41, sz42, sz43, sz44, sz45, sz46, sz47, sz48, sz49, sz50, sz51, sz52, sz53, sz54, sz55, sz56, sz57, sz58, sz59, sz60, ln_0, ln_1, ln_2, ln_3, ln_4, ln_5, ln_6, ln_7, ln_8, ln_9, ln_10, ln_11, ln_12, ln_13, ln_14, ln_15, ln_16, ln_17, ln_18, ln_19, ln_20, ln_21, sp_Memory_want_place, e, T.cl_Memory, T.na_Memory_size, T.na_Memory_words, mfl_size, mfl_words, mfl_wp, m.ls]
    refine ⟨q, ws, m, hk, ?_⟩
    cases hw : wi v 0 (ws.length - 1)
    · simp [hw] at h ⊢; exact h
    · obtain ⟨i, rfl, h0, h1⟩ := wi_int hw
      simp only [hw, if_true, m.ls, at_ints h0 h1, iv] at h ⊢
      exact h
def sp_Memory_copy (A : Ad) : Sp := fun vs H Q E => ∃ p q ws a g m, vs = [.ref p, a, g, m] ∧ MemAt A.c_Memory H p q ws ∧ Kn H a ∧ Kn H g ∧ Kn H m ∧ ws.length ≤ 4000 ∧
  if isI m = true ∧ 0 ≤ iv m then (if okA a ws.length (iv m) = true ∧ okA g ws.length (iv m) = true then
      (∀ H', MemAt A.c_Memory H' p q (cp ws ((ws.drop (iv a).toNat).take (iv m).toNat) (iv g).toNat (iv m).toNat) → (∀ b o, H b = some o → b ≠ q → H' b = some o) → Q .non H')
    else E (.ref A.c_NoPlace) none H) else E (.ref A.c_BadCount) none H
theorem sc_Memory_copy : FnScope ["self", "start", "goal", "many", "stretch", "step"] ["self", "start", "goal", "many"] (defScope s_Memory_copy) := ⟨rfl, rfl, rfl, by decide +kernel, rfl, by decide +kernel, by decide +kernel⟩
theorem ok_Memory_copy (T : Txt K mg A) : FnOk P w K mg base (CXE P w) true 4 A.f_Memory_copy A.d_Memory_copy ["self", "start", "goal", "many"] (sp_Memory_copy A) := by
  refine T.fn_Memory_copy.okE sc_Memory_copy (fun vs H Q E h => ?_) (fun cdv A' outer s H vs Q E hr hx h => ?_)
  · obtain ⟨p, q, ws, a, g, m, rfl, mm, ka, kg, km, hl, h⟩ := h
    rfl
  · obtain ⟨p, q, ws, a, g, m, rfl, mm, ka, kg, km, hl, h⟩ := h
    refine ⟨_, JSs.run (j_pss_cons (j_ps_if (j_PW_pt (j_pw_or (j_pt_not (j_pt_truth (j_pe_callF ((ok_is_whole T).mono (by decide)) hr rfl T.g_is_whole T.fn_is_whole.kp T.b_is_whole hx (j_pa_c (j_cv 3) j_pa_nil)) (fun _ => rfl))) (j_pw_or1 (j_pt_cmpR j_c_lt (j_cv 3) j_pe_int (nomark _))))) (j_pss_one (j_ps_raiseF hx rfl T.g_BadCount T.x_BadCount rfl (j_pa_c j_pe_str j_pa_nil))) j_pss_nil)
      (j_pss_cons (j_ps_expr (j_c_meth (j_cv 0) T.cl_Memory T.m_Memory_want_stretch ((ok_Memory_want_stretch T).mono (by decide)) hr T.b_Memory_want_stretch hx (j_pa_c (j_cv 1) (j_pa_c (j_cv 3) j_pa_nil))))
      (j_pss_cons (j_ps_expr (j_c_meth (j_cv 0) T.cl_Memory T.m_Memory_want_stretch ((ok_Memory_want_stretch T).mono (by decide)) hr T.b_Memory_want_stretch hx (j_pa_c (j_cv 2) (j_pa_c (j_cv 3) j_pa_nil))))
      (j_pss_cons (j_ps_set (i := 4) sc_Memory_copy.nd rfl (by first | exact Or.inl rfl | exact Or.inr rfl) (j_pe_slice j_c_sl (j_c_fld (j_cv 0) rfl) (j_c_part (j_cv 1)) (j_c_part (j_pe_op j_c_add (j_cv 1) (j_cv 3)))))
      (j_pss_one (j_ps_for hx.own rfl (j_pi_range1 rfl T.n_range (j_pa_c (j_cv 3) j_pa_nil)) (j_pg_name (i := 5) sc_Memory_copy.nd rfl (by first | exact Or.inl rfl | exact Or.inr rfl))
        (j_pss_one (j_ps_asg (j_pe_ix j_c_ix (j_cv 4) (j_cv 5) (fun _ _ => rfl)) (j_pg_sub (j_c_fld (j_cv 0) rfl) (j_pe_op j_c_add (j_cv 2) (j_cv 5)) j_c_set))))))))), ?_⟩
    obtain ⟨dx, e⟩ := mm.ob
    cases hm : isI m with
    | false =>
      simp only [tRet, tRetN, tNext, tDrop, tSeq, tIfS, tTest, tB, tOp, tUn, tAnd, tOr, tNot, tAndV, tOrV, tNotV, tIf, tCB, tCons, tNil, tC, cVar, tLst, tTup, tAsg, gName, tCallE, tRaise, tTry, tDNewK, cAdd, cSub, cMul, cFdiv, cMod, cPow, cLt, cLe, cGt, cGe, cCmp, cEq, cNe, eqv, cIs, cIsNot, isNon, cNeg, tChain, rIxM, rIsi, kitV, cIx, cLen, cIxS, cLenS, cAbs, cInt, cxOf_K, TruV, and_assoc, CDiv, CMul, CPow, true_or, or_true, Int.reduceLT, Int.reduceEq, Int.reduceMod, Int.reduceDiv, Int.reduceNe, Int.reduceGT, Int.reduceGE, Nat.reduceEqDiff, Nat.reduceMul, Nat.reduceLT, Int.cast_ofNat_Int, Int.reduceLE, Int.reduceNeg, Int.reducePow, Int.reduceToNat, Int.reduceMul, Int.reduceAdd, Int.reduceSub, ofs_inj, ofs_app, emp_ofs, String.reduceAppend, String.reduceEq, Nat.reduceLeDiff, reduceIte, Bool.not_eq_true', Bool.not_true, Bool.not_false, exc_rt, rm_upd, upd_same, decide_true, decide_false, Bool.true_eq_false, tFor_eq, tComp, capt, tYes, cAll, cList, cEqA, cNeA, cEqL, cNeL, rIsT, kitVs, iRng1, iRng2, iRng3, gLst, gCons, gNil, iList, iTup, cFld, cSFld, cMethE, cSetL, cRep, cSl, cSlS, cPart, tNoPart, tSl, cAppend, cMin2, cMax2, cBM, cDGet2, cDGet, cDPut, keyV, gSub, tMakeE, atI_0, atI_1, atI_2, atI_3, atI_4, atI_5, atI_6, atI_7, atI_8, atI_9, atI_10, atI_11, atI_12, eq_self, not_true_eq_false, not_false_eq_true, decide_eq_false_iff_not, L2.start, cSum, cCat, cListR, cInD, cNotInD, cDPop, cLenD, cIsA, cIsNotA, isBl, cSorted, tComp2, cExtend, intsV_map, List.map_cons, List.map_nil, List.length_cons, List.length_nil, List.replicate, List.cons_append, List.nil_append, List.append_nil, List.getElem?_cons_zero, List.getElem?_cons_succ, List.set_cons_zero, List.set_cons_succ, V.int.injEq, V.bl.injEq, V.str.injEq, V.ref.injEq, V.ty.injEq, List.cons.injEq, Option.some.injEq, and_true, true_and, exists_eq_left', exists_and_left, exists_eq_left, exists_const, reduceCtorEq, false_and, and_false, exists_false, ite_true, ite_false, Bool.false_eq_true, decide_eq_true_eq, Nat.reduceSub, Nat.reduceAdd, Nat.sub_self, sz0, sz1, sz2, sz3, sz4, sz5, sz6, sz7, sz8, sz9, sz10, sz11, sz12, sz13, sz14, sz15, sz16, sz17, sz18, sz19, sz20, sz21, sz22, sz23, sz24, sz25, sz26, sz27, sz28, sz29, sz30, sz31, sz32, sz33, sz34, sz35, sz36, sz37, sz38, sz39, sz40, sz41, sz42, sz43, sz44, sz45, sz46, sz47, sz48, sz49, sz50, sz51, sz52, sz53, sz54, sz55, sz56, sz57, sz58, sz59, sz60, ln_0, ln_1, ln_2, ln_3, ln_4, ln_5, ln_6, ln_7, ln_8, ln_9, ln_10, ln_11, ln_12, ln_13, ln_14, ln_15, ln_16, ln_17, ln_18, ln_19, ln_20, ln_21, sp_is_whole, hm]
      rw [if_neg (by rw [hm]; intro z; cases z.1)] at h
      exact ⟨km, h⟩
    | true =>
      obtain ⟨k, rfl⟩ : ∃ i, m = .int i := by cases m <;> first | exact ⟨_, rfl⟩ | cases hm
      simp only [tRet, tRetN, tNext, tDrop, tSeq, tIfS, tTest, tB, tOp, tUn, tAnd, tOr, tNot, tAndV, tOrV, tNotV, tIf, tCB, tCons, tNil, tC, cVar, tLst, tTup, tAsg, gName, tCallE, tRaise, tTry, tDNewK, cAdd, cSub, cMul, cFdiv, cMod, cPow, cLt, cLe, cGt, cGe, cCmp, cEq, cNe, eqv, cIs, cIsNot, isNon, cNeg, tChain, rIxM, rIsi, kitV, cIx, cLen, cIxS, cLenS, cAbs, cInt, cxOf_K, TruV, and_assoc, CDiv, CMul, CPow, true_or, or_true, Int.reduceLT, Int.reduceEq, Int.reduceMod, Int.reduceDiv, Int.reduceNe, Int.reduceGT, Int.reduceGE, Nat.reduceEqDiff, Nat.reduceMul, Nat.reduceLT, Int.cast_ofNat_Int, Int.reduceLE, Int.reduceNeg, Int.reducePow, Int.reduceToNat, Int.reduceMul, Int.reduceAdd, Int.reduceSub, ofs_inj, ofs_app, emp_ofs, String.reduceAppend, String.reduceEq, Nat.reduceLeDiff, reduceIte, Bool.not_eq_true', Bool.not_true, Bool.not_false, exc_rt, rm_upd, upd_same, decide_true, decide_false, Bool.true_eq_false, tFor_eq, tComp, capt, tYes, cAll, cList, cEqA, cNeA, cEqL, cNeL, rIsT, kitVs, iRng1, iRng2, iRng3, gLst, gCons, gNil, iList, iTup, cFld, cSFld, cMethE, cSetL, cRep, cSl, cSlS, cPart, tNoPart, tSl, cAppend, cMin2, cMax2, cBM, cDGet2, cDGet, cDPut, keyV, gSub, tMakeE, atI_0, atI_1, atI_2, atI_3, atI_4, atI_5, atI_6, atI_7, atI_8, atI_9, atI_10, atI_11, atI_12, eq_self, not_true_eq_false, not_false_eq_true, decide_eq_false_iff_not, L2.start, cSum, cCat, cListR, cInD, cNotInD, cDPop, cLenD, cIsA, cIsNotA, isBl, cSorted, tComp2, cExtend, intsV_map, List.map_cons, List.map_nil, List.length_cons, List.length_nil, List.replicate, List.cons_append, List.nil_append, List.append_nil, List.getElem?_cons_zero, List.getElem?_cons_succ, List.set_cons_zero, List.set_cons_succ, V.int.injEq, V.bl.injEq, V.str.injEq, V.ref.injEq, V.ty.injEq, List.cons.injEq, Option.some.injEq, and_true, true_and, exists_eq_left', exists_and_left, exists_eq_left, exists_const, reduceCtorEq, false_and, and_false, exists_false, ite_true, ite_false, Bool.false_eq_true, decide_eq_true_eq, Nat.reduceSub, Nat.reduceAdd, Nat.sub_self, sz0, sz1, sz2, sz3, sz4, sz5, sz6, sz7, sz8, sz9, sz10, sz11, sz12, sz13, sz14, sz15, sz16, sz17, sz18, sz19, sz20, sz21, sz22, sz23, sz24, sz25, sz26, sz27, sz28, sz29, sz30, sz31, sz32, sz33, sz34, sz35, sz36, sz37, sz38, sz39, sz40, sz41, sz42, sz43, sz44, sz45, sz46, sz47, sz48, sz49, sz50, sz51, sz52, sz53, sz54, sz55, sz56, sz57, sz58, sz59, sz60, ln_0, ln_1, ln_2, ln_3, ln_4, ln_5, ln_6, ln_7, ln_8, ln_9, ln_10, ln_11, ln_12, ln_13, ln_14, ln_15, ln_16, ln_17, ln_18, ln_19, ln_20, ln_21, sp_is_whole, hm, sp_Memory_want_stretch, e, mfl_ws, T.cl_Memory, T.na_Memory_words, mfl_words, mm.ls]
      refine ⟨True.intro, ?_⟩
      by_cases z : k < 0
      · rw [if_pos z]
        rw [if_neg (by show ¬ (_ ∧ 0 ≤ k); omega)] at h
        exact h
      · rw [if_neg z]
        rw [if_pos ⟨hm, by show 0 ≤ k; omega⟩] at h
        refine ⟨q, ws, mm, ka, ?_⟩
        cases h1 : wi a 0 (ws.length - k) with
        | false =>
          rw [if_neg (by intro z; cases z)]
          rw [if_neg (by intro z; have := z.1; unfold okA iv at this; rw [h1] at this; cases this)] at h
          exact h
        | true =>
          rw [if_pos rfl]
          refine ⟨q, ws, mm, kg, ?_⟩
          cases h2 : wi g 0 (ws.length - k) with
          | false =>
            rw [if_neg (by intro z; cases z)]
            rw [if_neg (by intro z; have := z.2; unfold okA iv at this; rw [h2] at this; cases this)] at h
            exact h
          | true =>
            rw [if_pos rfl]
            rw [if_pos ⟨h1, h2⟩] at h
            obtain ⟨i, rfl, i0, i1⟩ := wi_int h1
            obtain ⟨j, rfl, j0, j1⟩ := wi_int h2
            intro l hl'
            refine ⟨by omega, by omega, ?_⟩
            rw [cut_ints i0 (by omega) (by omega)]
            have hks : ((ws.drop i.toNat).take k.toNat).length = k.toNat := by rw [List.length_take, List.length_drop]; omega
            simp only [iv] at h
            generalize hK : (ws.drop i.toNat).take k.toNat = ks at *
            refine LoopW.range (fun t σ H' => ∃ v5, σ = [some (.ref p), some (.int i), some (.int j), some (.int k), some (.ref l), v5] ∧ MemAt A.c_Memory H' p q (cp ws ks j.toNat t) ∧ H' l = some (.lst (ks.map V.int)) ∧ (∀ b o, H b = some o → b ≠ q → H' b = some o))
              ⟨_, rfl, mm.same (Same.upd hl'), upd_same, fun b o eb _ => Same.upd hl' b o eb⟩ ?_ ?_
            · rintro t σ H1 ht ⟨v5, rfl, m1, l1, b1⟩
              obtain ⟨dy, e1⟩ := m1.ob
              have nlq : l ≠ q := fun z => by rw [z] at hl'; rw [mm.ls] at hl'; cases hl'
              simp only [tRet, tRetN, tNext, tDrop, tSeq, tIfS, tTest, tB, tOp, tUn, tAnd, tOr, tNot, tAndV, tOrV, tNotV, tIf, tCB, tCons, tNil, tC, cVar, tLst, tTup, tAsg, gName, tCallE, tRaise, tTry, tDNewK, cAdd, cSub, cMul, cFdiv, cMod, cPow, cLt, cLe, cGt, cGe, cCmp, cEq, cNe, eqv, cIs, cIsNot, isNon, cNeg, tChain, rIxM, rIsi, kitV, cIx, cLen, cIxS, cLenS, cAbs, cInt, cxOf_K, TruV, and_assoc, CDiv, CMul, CPow, true_or, or_true, Int.reduceLT, Int.reduceEq, Int.reduceMod, Int.reduceDiv, Int.reduceNe, Int.reduceGT, Int.reduceGE, Nat.reduceEqDiff, Nat.reduceMul, Nat.reduceLT, Int.cast_ofNat_Int, Int.reduceLE, Int.reduceNeg, Int.reducePow, Int.reduceToNat, Int.reduceMul, Int.reduceAdd, Int.reduceSub, ofs_inj, ofs_app, emp_ofs, String.reduceAppend, String.reduceEq, Nat.reduceLeDiff, reduceIte, Bool.not_eq_true', Bool.not_true, Bool.not_false, exc_rt, rm_upd, upd_same, decide_true, decide_false, Bool.true_eq_false, tFor_eq, tComp, capt, tYes, cAll, cList, cEqA, cNeA, cEqL, cNeL, rIsT, kitVs, iRng1, iRng2, iRng3, gLst, gCons, gNil, iList, iTup, cFld, cSFld, cMethE, cSetL, cRep, cSl, cSlS, cPart, tNoPart, tSl, cAppend, cMin2, cMax2, cBM, cDGet2, cDGet, cDPut, keyV, gSub, tMakeE, atI_0, atI_1, atI_2, atI_3, atI_4, atI_5, atI_6, atI_7, atI_8, atI_9, atI_10, atI_11, atI_12, eq_self, not_true_eq_false, not_false_eq_true, decide_eq_false_iff_not, L2.start, cSum, cCat, cListR, cInD, cNotInD, cDPop, cLenD, cIsA, cIsNotA, isBl, cSorted, tComp2, cExtend, intsV_map, List.map_cons, List.map_nil, List.length_cons, List.length_nil, List.replicate, List.cons_append, List.nil_append, List.append_nil, List.getElem?_cons_zero, List.getElem?_cons_succ, List.set_cons_zero, List.set_cons_succ, V.int.injEq, V.bl.injEq, V.str.injEq, V.ref.injEq, V.ty.injEq, List.cons.injEq, Option.some.injEq, and_true, true_and, exists_eq_left', exists_and_left, exists_eq_left, exists_const, reduceCtorEq, false_and, and_false, exists_false, ite_true, ite_false, Bool.false_eq_true, decide_eq_true_eq, Nat.reduceSub, Nat.reduceAdd, Nat.sub_self, sz0, sz1, sz2, sz3, sz4, sz5, sz6, sz7, sz8, sz9, sz10, sz11, sz12, sz13, sz14, sz15, sz16, sz17, sz18, sz19, sz20, sz21, sz22, sz23, sz24, sz25, sz26, sz27, sz28, sz29, sz30, sz31, sz32, sz33, sz34, sz35, sz36, sz37, sz38, sz39, sz40, sz41, sz42, sz43, sz44, sz45, sz46, sz47, sz48, sz49, sz50, sz51, sz52, sz53, sz54, sz55, sz56, sz57, sz58, sz59, sz60, ln_0, ln_1, ln_2, ln_3, ln_4, ln_5, ln_6, ln_7, ln_8, ln_9, ln_10, ln_11, ln_12, ln_13, ln_14, ln_15, ln_16, ln_17, ln_18, ln_19, ln_20, ln_21, e1, l1, m1.ls, T.cl_Memory, T.na_Memory_words, mfl_words, Int.zero_add, at_nat (show t < ks.length by omega)]
              rw [ixN_in (by omega) (by rw [List.length_map, cp_len]; omega), show (j + (t : Int)).toNat = j.toNat + t by omega]
              dsimp only
              rw [set_ints]
              refine ⟨m1.put (j.toNat + t) (ks.getD t 0), ?_, fun b o eb nb => ?_⟩
              · rw [upd_ne nlq]; exact l1
              · rw [upd_ne nb]; exact b1 b o eb nb
            · rintro σ H1 ⟨v5, rfl, m1, l1, b1⟩
              exact h _ m1 b1
def sp_Memory_write (A : Ad) : Sp := fun vs H Q E => ∃ p q ws v x, vs = [.ref p, v, x] ∧ MemAt A.c_Memory H p q ws ∧ Kn H v ∧ Kn H x ∧
  if wi v 0 (ws.length - 1) = true then (match kd x with
    | some _ => Q .non (upd H q (.lst ((ws.set (iv v).toNat (iv x)).map V.int)))
    | none => E (.ref A.c_BadWord) none H) else E (.ref A.c_NoPlace) none H
theorem sc_Memory_write : FnScope ["self", "at", "word"] ["self", "at", "word"] (defScope s_Memory_write) := ⟨rfl, rfl, rfl, by decide +kernel, rfl, by decide +kernel, by decide +kernel⟩
theorem ok_Memory_write (T : Txt K mg A) : FnOk P w K mg base (CXE P w) true 5 A.f_Memory_write A.d_Memory_write ["self", "at", "word"] (sp_Memory_write A) := by
  refine T.fn_Memory_write.okE sc_Memory_write (fun vs H Q E h => ?_) (fun cdv A' outer s H vs Q E hr hx h => ?_)
  · obtain ⟨p, q, ws, v, x, rfl, m, hk, hx', h⟩ := h
    rfl
  · obtain ⟨p, q, ws, v, x, rfl, m, hk, hx', h⟩ := h
    refine ⟨_, JSs.run (j_pss_cons (j_ps_expr (j_c_meth (j_cv 0) T.cl_Memory T.m_Memory_want_place ((ok_Memory_want_place T).mono (by decide)) hr T.b_Memory_want_place hx (j_pa_c (j_cv 1) j_pa_nil)))
      (j_pss_cons (j_ps_expr (j_pe_callF ((ok_kind T).mono (by decide)) hr rfl T.g_kind T.fn_kind.kp T.b_kind hx (j_pa_c (j_cv 2) j_pa_nil)))
      (j_pss_one (j_ps_asg (j_cv 2) (j_pg_sub (j_c_fld (j_cv 0) rfl) (j_cv 1) j_c_set))))), ?_⟩
    obtain ⟨dx, e⟩ := m.ob
    simp only [tRet, tRetN, tNext, tDrop, tSeq, tIfS, tTest, tB, tOp, tUn, tAnd, tOr, tNot, tAndV, tOrV, tNotV, tIf, tCB, tCons, tNil, tC, cVar, tLst, tTup, tAsg, gName, tCallE, tRaise, tTry, tDNewK, cAdd, cSub, cMul, cFdiv, cMod, cPow, cLt, cLe, cGt, cGe, cCmp, cEq, cNe, eqv, cIs, cIsNot, isNon, cNeg, tChain, rIxM, rIsi, kitV, cIx, cLen, cIxS, cLenS, cAbs, cInt, cxOf_K, TruV, and_assoc, CDiv, CMul, CPow, true_or, or_true, Int.reduceLT, Int.reduceEq, Int.reduceMod, Int.reduceDiv, Int.reduceNe, Int.reduceGT, Int.reduceGE, Nat.reduceEqDiff, Nat.reduceMul, Nat.reduceLT, Int.cast_ofNat_Int, Int.reduceLE, Int.reduceNeg, Int.reducePow, Int.reduceToNat, Int.reduceMul, Int.reduceAdd, Int.reduceSub, ofs_inj, ofs_app, emp_ofs, String.reduceAppend, String.reduceEq, Nat.reduceLeDiff, reduceIte, Bool.not_eq_true', Bool.not_true, Bool.not_false, exc_rt, rm_upd, upd_same, decide_true, decide_false, Bool.true_eq_false, tFor_eq, tComp, capt, tYes, cAll, cList, cEqA, cNeA, cEqL, cNeL, rIsT, kitVs, iRng1, iRng2, iRng3, gLst, gCons, gNil, iList, iTup, cFld, cSFld, cMethE, cSetL, cRep, cSl, cSlS, cPart, tNoPart, tSl, cAppend, cMin2, cMax2, cBM, cDGet2, cDGet, cDPut, keyV, gSub, tMakeE, atI_0, atI_1, atI_2, atI_3, atI_4, atI_5, atI_6, atI_7, atI_8, atI_9, atI_10, atI_11, atI_12, eq_self, not_true_eq_false, not_false_eq_true, decide_eq_false_iff_not, L2.start, cSum, cCat, cListR, cInD, cNotInD, cDPop, cLenD, cIsA, cIsNotA, isBl, cSorted, tComp2, cExtend, intsV_map, List.map_cons, List.map_nil, List.length_cons, List.length_nil, List.replicate, List.cons_append, List.nil_append, List.append_nil, List.getElem?_cons_zero, List.getElem?_cons_succ, List.set_cons_zero, List.set_cons_succ, V.int.injEq, V.bl.injEq, V.str.injEq, V.ref.injEq, V.ty.injEq, List.cons.injEq, Option.some.injEq, and_true, true_and, exists_eq_left', exists_and_left, exists_eq_left, exists_const, reduceCtorEq, false_and, and_false, exists_false, ite_true, ite_false, Bool.false_eq_true, decide_eq_true_eq, Nat.reduceSub, Nat.reduceAdd, Nat.sub_self, sz0, sz1, sz2, sz3, sz4, sz5, sz6, sz7, sz8, sz9, sz10, sz11, sz12, sz13, sz14, sz15, sz16, sz17, sz18, sz19, sz20, sz21, sz22, sz23, sz24, sz25, sz26, sz27, sz28, sz29, sz30, sz31, sz32, sz33, sz34, sz35, sz36, sz37, sz38, sz39, sz40, sz41, sz42, sz43, sz44, sz45, sz46, sz47, sz48, sz49, sz50, sz51, sz52, sz53, sz54, sz55, sz56, sz57, sz58, sz59, sz60, ln_0, ln_1, ln_2, ln_3, ln_4, ln_5, ln_6, ln_7, ln_8, ln_9, ln_10, ln_11, ln_12, ln_13, ln_14, ln_15, ln_16, ln_17, ln_18, ln_19, ln_20, ln_21, sp_Memory_want_place, sp_kind, e, T.cl_Memory, T.na_Memory_size, T.na_Memory_words, mfl_size, mfl_words, mfl_wp, m.ls]
    refine ⟨q, ws, m, hk, ?_⟩
    cases hw : wi v 0 (ws.length - 1)
    · simp [hw] at h ⊢; exact h
    · obtain ⟨i, rfl, h0, h1⟩ := wi_int hw
      simp only [hw, if_true] at h ⊢
      refine ⟨hx', ?_⟩
      cases hd : kd x with
      | none => rw [hd] at h; exact h
      | some y =>
        obtain ⟨j, rfl⟩ := kd_int hd
        rw [hd] at h
        simp only [m.ls, ix_ints h0 h1, set_ints, iv] at h ⊢
        exact h
def sp__law_copied (A : Ad) : Sp := fun vs H Q _ => ∃ p q ws r a g m, vs = [.ref p, .ref r, a, g, m] ∧ MemAt A.c_Memory H p q ws ∧ H r = some (.lst (ws.map V.int)) ∧ r ≠ q ∧ Kn H a ∧ Kn H g ∧ Kn H m ∧ ws.length ≤ 4000 ∧
  ∀ H' ws', MemAt A.c_Memory H' p q ws' → H' r = some (.lst (ws'.map V.int)) → ws'.length = ws.length → (∀ b o, H b = some o → b ≠ q → b ≠ r → H' b = some o) → Q (.bl true) H'
theorem sc__law_copied : FnScope ["_law_memory", "_law_row", "_law_start", "_law_goal", "_law_many", "_law_due_here", "_law_e", "_law_kept", "_law_k"] ["_law_memory", "_law_row", "_law_start", "_law_goal", "_law_many"] (defScope s__law_copied) := ⟨rfl, rfl, rfl, by decide +kernel, rfl, by decide +kernel, by decide +kernel⟩
theorem ok__law_copied (T : Txt K mg A) : FnOk P w K mg base (CXE P w) true 5 A.f__law_copied A.d__law_copied ["_law_memory", "_law_row", "_law_start", "_law_goal", "_law_many"] (sp__law_copied A) := by
  refine T.fn__law_copied.okE sc__law_copied (fun vs H Q E h => ?_) (fun cdv A' outer s H vs Q E hr hx h => ?_)
  · obtain ⟨p, q, ws, r, a, g, m, rfl, mm, hr', nrq, ka, kg, km, hl, k⟩ := h
    rfl
  · obtain ⟨p, q, ws, r, a, g, m, rfl, mm, hr', nrq, ka, kg, km, hl, k⟩ := h
    refine ⟨_, JSs.run (j_pss_cons (j_ps_set (i := 5) sc__law_copied.nd rfl (by first | exact Or.inl rfl | exact Or.inr rfl) (j_pe_callF ((ok__law_due T).mono (by decide)) hr rfl T.g__law_due T.fn__law_due.kp T.b__law_due hx (j_pa_c (j_cv 2) (j_pa_c (j_cv 3) (j_pa_c (j_cv 4) (j_pa_c (j_pe_callBF j_c_len (by rfl) T.n_len PyProof.Rows.Boot.«len» (j_pa_c (j_cv 1) j_pa_nil)) j_pa_nil))))))
      (j_pss_cons (j_ps_try rfl rfl (fun E1 W1 pins1 hx1 => (j_pss_one (j_ps_if (j_pt_cmpR j_c_isnot (j_c_meth (j_cv 0) T.cl_Memory T.m_Memory_copy ((ok_Memory_copy T).mono (by decide)) hr T.b_Memory_copy hx1 (j_pa_c (j_cv 2) (j_pa_c (j_cv 3) (j_pa_c (j_cv 4) j_pa_nil)))) j_pe_non (nomark _)) (j_pss_one (j_ps_ret j_pe_bl)) j_pss_nil))) (j_ph_as rfl rfl T.g_KeepError sc__law_copied.nd (i := 6) rfl rfl (fun a => (j_pss_one (j_ps_ret (j_pe_and (j_pe_cmpR j_c_ne (j_cv 5) j_pe_str (nomark _)) (j_pe_one (j_pe_cmpR j_c_eq (j_pe_callF ((ok__law_names T).mono (by decide)) hr.hnd rfl T.g__law_names T.fn__law_names.kp T.b__law_names exc_hnd (j_pa_c (j_cv 6) j_pa_nil)) (j_cv 5) (nomark _))))))) j_ph_nil))
      (j_pss_cons (j_ps_if (j_pt_cmpR j_c_ne (j_cv 5) j_pe_str (nomark _)) (j_pss_one (j_ps_ret j_pe_bl)) j_pss_nil)
      (j_pss_cons (j_ps_set (i := 7) sc__law_copied.nd rfl (by first | exact Or.inl rfl | exact Or.inr rfl) (j_pe_slice j_c_sl (j_cv 1) (j_c_part (j_cv 2)) (j_c_part (j_pe_op j_c_add (j_cv 2) (j_cv 4)))))
      (j_pss_cons (j_ps_for hx.own rfl (j_pi_range1 rfl T.n_range (j_pa_c (j_cv 4) j_pa_nil)) (j_pg_name (i := 8) sc__law_copied.nd rfl (by first | exact Or.inl rfl | exact Or.inr rfl))
        (j_pss_one (j_ps_asg (j_pe_ix j_c_ix (j_cv 7) (j_cv 8) (fun _ _ => rfl)) (j_pg_sub (j_cv 1) (j_pe_op j_c_add (j_cv 3) (j_cv 8)) j_c_set))))
      (j_pss_one (j_ps_ret j_pe_bl))))))), ?_⟩
    simp only [tRet, tRetN, tNext, tDrop, tSeq, tIfS, tTest, tB, tOp, tUn, tAnd, tOr, tNot, tAndV, tOrV, tNotV, tIf, tCB, tCons, tNil, tC, cVar, tLst, tTup, tAsg, gName, tCallE, tRaise, tTry, tDNewK, cAdd, cSub, cMul, cFdiv, cMod, cPow, cLt, cLe, cGt, cGe, cCmp, cEq, cNe, eqv, cIs, cIsNot, isNon, cNeg, tChain, rIxM, rIsi, kitV, cIx, cLen, cIxS, cLenS, cAbs, cInt, cxOf_K, TruV, and_assoc, CDiv, CMul, CPow, true_or, or_true, Int.reduceLT, Int.reduceEq, Int.reduceMod, Int.reduceDiv, Int.reduceNe, Int.reduceGT, Int.reduceGE, Nat.reduceEqDiff, Nat.reduceMul, Nat.reduceLT, Int.cast_ofNat_Int, Int.reduceLE, Int.reduceNeg, Int.reducePow, Int.reduceToNat, Int.reduceMul, Int.reduceAdd, Int.reduceSub, ofs_inj, ofs_app, emp_ofs, String.reduceAppend, String.reduceEq, Nat.reduceLeDiff, reduceIte, Bool.not_eq_true', Bool.not_true, Bool.not_false, exc_rt, rm_upd, upd_same, decide_true, decide_false, Bool.true_eq_false, tFor_eq, tComp, capt, tYes, cAll, cList, cEqA, cNeA, cEqL, cNeL, rIsT, kitVs, iRng1, iRng2, iRng3, gLst, gCons, gNil, iList, iTup, cFld, cSFld, cMethE, cSetL, cRep, cSl, cSlS, cPart, tNoPart, tSl, cAppend, cMin2, cMax2, cBM, cDGet2, cDGet, cDPut, keyV, gSub, tMakeE, atI_0, atI_1, atI_2, atI_3, atI_4, atI_5, atI_6, atI_7, atI_8, atI_9, atI_10, atI_11, atI_12, eq_self, not_true_eq_false, not_false_eq_true, decide_eq_false_iff_not, L2.start, cSum, cCat, cListR, cInD, cNotInD, cDPop, cLenD, cIsA, cIsNotA, isBl, cSorted, tComp2, cExtend, intsV_map, List.map_cons, List.map_nil, List.length_cons, List.length_nil, List.replicate, List.cons_append, List.nil_append, List.append_nil, List.getElem?_cons_zero, List.getElem?_cons_succ, List.set_cons_zero, List.set_cons_succ, V.int.injEq, V.bl.injEq, V.str.injEq, V.ref.injEq, V.ty.injEq, List.cons.injEq, Option.some.injEq, and_true, true_and, exists_eq_left', exists_and_left, exists_eq_left, exists_const, reduceCtorEq, false_and, and_false, exists_false, ite_true, ite_false, Bool.false_eq_true, decide_eq_true_eq, Nat.reduceSub, Nat.reduceAdd, Nat.sub_self, sz0, sz1, sz2, sz3, sz4, sz5, sz6, sz7, sz8, sz9, sz10, sz11, sz12, sz13, sz14, sz15, sz16, sz17, sz18, sz19, sz20, sz21, sz22, sz23, sz24, sz25, sz26, sz27, sz28, sz29, sz30, sz31, sz32, sz33, sz34, sz35, sz36, sz37, sz38, sz39, sz40, sz41, sz42, sz43, sz44, sz45, sz46, sz47, sz48, sz49, sz50, sz51, sz52, sz53, sz54, sz55, sz56, sz57, sz58, sz59, sz60, ln_0, ln_1, ln_2, ln_3, ln_4, ln_5, ln_6, ln_7, ln_8, ln_9, ln_10, ln_11, ln_12, ln_13, ln_14, ln_15, ln_16, ln_17, ln_18, ln_19, ln_20, ln_21, hr']
    refine ⟨a, g, m, _, rfl, ka, kg, km, fun H1 s1 => ?_⟩
    have m1 := mm.same s1
    have hr1 := s1 _ _ hr'
    have ka1 := ka.same s1
    have kg1 := kg.same s1
    have km1 := km.same s1
    obtain ⟨dx, e1⟩ := m1.ob
    rw [List.length_map]
    have same : Q (.bl true) H1 := k H1 ws m1 hr1 rfl fun b o e _ _ => s1 b o e
    by_cases c0 : isI m = true ∧ 0 ≤ iv m
    · by_cases c1 : okA a ws.length (iv m) = true ∧ okA g ws.length (iv m) = true
      · have ed : due3 a g m ws.length = Str.ofString "" := by unfold due3; rw [if_pos c0, if_pos c1]
        rw [ed]
        obtain ⟨i, rfl, i0, i1⟩ := wi_int c1.1
        obtain ⟨j, rfl, j0, j1⟩ := wi_int c1.2
        obtain ⟨n, rfl⟩ : ∃ i, m = .int i := by cases m <;> first | exact ⟨_, rfl⟩ | cases c0.1
        simp only [tRet, tRetN, tNext, tDrop, tSeq, tIfS, tTest, tB, tOp, tUn, tAnd, tOr, tNot, tAndV, tOrV, tNotV, tIf, tCB, tCons, tNil, tC, cVar, tLst, tTup, tAsg, gName, tCallE, tRaise, tTry, tDNewK, cAdd, cSub, cMul, cFdiv, cMod, cPow, cLt, cLe, cGt, cGe, cCmp, cEq, cNe, eqv, cIs, cIsNot, isNon, cNeg, tChain, rIxM, rIsi, kitV, cIx, cLen, cIxS, cLenS, cAbs, cInt, cxOf_K, TruV, and_assoc, CDiv, CMul, CPow, true_or, or_true, Int.reduceLT, Int.reduceEq, Int.reduceMod, Int.reduceDiv, Int.reduceNe, Int.reduceGT, Int.reduceGE, Nat.reduceEqDiff, Nat.reduceMul, Nat.reduceLT, Int.cast_ofNat_Int, Int.reduceLE, Int.reduceNeg, Int.reducePow, Int.reduceToNat, Int.reduceMul, Int.reduceAdd, Int.reduceSub, ofs_inj, ofs_app, emp_ofs, String.reduceAppend, String.reduceEq, Nat.reduceLeDiff, reduceIte, Bool.not_eq_true', Bool.not_true, Bool.not_false, exc_rt, rm_upd, upd_same, decide_true, decide_false, Bool.true_eq_false, tFor_eq, tComp, capt, tYes, cAll, cList, cEqA, cNeA, cEqL, cNeL, rIsT, kitVs, iRng1, iRng2, iRng3, gLst, gCons, gNil, iList, iTup, cFld, cSFld, cMethE, cSetL, cRep, cSl, cSlS, cPart, tNoPart, tSl, cAppend, cMin2, cMax2, cBM, cDGet2, cDGet, cDPut, keyV, gSub, tMakeE, atI_0, atI_1, atI_2, atI_3, atI_4, atI_5, atI_6, atI_7, atI_8, atI_9, atI_10, atI_11, atI_12, eq_self, not_true_eq_false, not_false_eq_true, decide_eq_false_iff_not, L2.start, cSum, cCat, cListR, cInD, cNotInD, cDPop, cLenD, cIsA, cIsNotA, isBl, cSorted, tComp2, cExtend, intsV_map, List.map_cons, List.map_nil, List.length_cons, List.length_nil, List.replicate, List.cons_append, List.nil_append, List.append_nil, List.getElem?_cons_zero, List.getElem?_cons_succ, List.set_cons_zero, List.set_cons_succ, V.int.injEq, V.bl.injEq, V.str.injEq, V.ref.injEq, V.ty.injEq, List.cons.injEq, Option.some.injEq, and_true, true_and, exists_eq_left', exists_and_left, exists_eq_left, exists_const, reduceCtorEq, false_and, and_false, exists_false, ite_true, ite_false, Bool.false_eq_true, decide_eq_true_eq, Nat.reduceSub, Nat.reduceAdd, Nat.sub_self, sz0, sz1, sz2, sz3, sz4, sz5, sz6, sz7, sz8, sz9, sz10, sz11, sz12, sz13, sz14, sz15, sz16, sz17, sz18, sz19, sz20, sz21, sz22, sz23, sz24, sz25, sz26, sz27, sz28, sz29, sz30, sz31, sz32, sz33, sz34, sz35, sz36, sz37, sz38, sz39, sz40, sz41, sz42, sz43, sz44, sz45, sz46, sz47, sz48, sz49, sz50, sz51, sz52, sz53, sz54, sz55, sz56, sz57, sz58, sz59, sz60, ln_0, ln_1, ln_2, ln_3, ln_4, ln_5, ln_6, ln_7, ln_8, ln_9, ln_10, ln_11, ln_12, ln_13, ln_14, ln_15, ln_16, ln_17, ln_18, ln_19, ln_20, ln_21, e1, mfl_cp, hr1]
        refine ⟨p, q, ws, _, _, _, rfl, m1, True.intro, True.intro, True.intro, hl, ?_⟩
        rw [if_pos c0, if_pos c1]
        intro H2 m2 b2
        have hr2 := b2 r _ hr1 nrq
        simp only [tRet, tRetN, tNext, tDrop, tSeq, tIfS, tTest, tB, tOp, tUn, tAnd, tOr, tNot, tAndV, tOrV, tNotV, tIf, tCB, tCons, tNil, tC, cVar, tLst, tTup, tAsg, gName, tCallE, tRaise, tTry, tDNewK, cAdd, cSub, cMul, cFdiv, cMod, cPow, cLt, cLe, cGt, cGe, cCmp, cEq, cNe, eqv, cIs, cIsNot, isNon, cNeg, tChain, rIxM, rIsi, kitV, cIx, cLen, cIxS, cLenS, cAbs, cInt, cxOf_K, TruV, and_assoc, CDiv, CMul, CPow, true_or, or_true, Int.reduceLT, Int.reduceEq, Int.reduceMod, Int.reduceDiv, Int.reduceNe, Int.reduceGT, Int.reduceGE, Nat.reduceEqDiff, Nat.reduceMul, Nat.reduceLT, Int.cast_ofNat_Int, Int.reduceLE, Int.reduceNeg, Int.reducePow, Int.reduceToNat, Int.reduceMul, Int.reduceAdd, Int.reduceSub, ofs_inj, ofs_app, emp_ofs, String.reduceAppend, String.reduceEq, Nat.reduceLeDiff, reduceIte, Bool.not_eq_true', Bool.not_true, Bool.not_false, exc_rt, rm_upd, upd_same, decide_true, decide_false, Bool.true_eq_false, tFor_eq, tComp, capt, tYes, cAll, cList, cEqA, cNeA, cEqL, cNeL, rIsT, kitVs, iRng1, iRng2, iRng3, gLst, gCons, gNil, iList, iTup, cFld, cSFld, cMethE, cSetL, cRep, cSl, cSlS, cPart, tNoPart, tSl, cAppend, cMin2, cMax2, cBM, cDGet2, cDGet, cDPut, keyV, gSub, tMakeE, atI_0, atI_1, atI_2, atI_3, atI_4, atI_5, atI_6, atI_7, atI_8, atI_9, atI_10, atI_11, atI_12, eq_self, not_true_eq_false, not_false_eq_true, decide_eq_false_iff_not, L2.start, cSum, cCat, cListR, cInD, cNotInD, cDPop, cLenD, cIsA, cIsNotA, isBl, cSorted, tComp2, cExtend, intsV_map, List.map_cons, List.map_nil, List.length_cons, List.length_nil, List.replicate, List.cons_append, List.nil_append, List.append_nil, List.getElem?_cons_zero, List.getElem?_cons_succ, List.set_cons_zero, List.set_cons_succ, V.int.injEq, V.bl.injEq, V.str.injEq, V.ref.injEq, V.ty.injEq, List.cons.injEq, Option.some.injEq, and_true, true_and, exists_eq_left', exists_and_left, exists_eq_left, exists_const, reduceCtorEq, false_and, and_false, exists_false, ite_true, ite_false, Bool.false_eq_true, decide_eq_true_eq, Nat.reduceSub, Nat.reduceAdd, Nat.sub_self, sz0, sz1, sz2, sz3, sz4, sz5, sz6, sz7, sz8, sz9, sz10, sz11, sz12, sz13, sz14, sz15, sz16, sz17, sz18, sz19, sz20, sz21, sz22, sz23, sz24, sz25, sz26, sz27, sz28, sz29, sz30, sz31, sz32, sz33, sz34, sz35, sz36, sz37, sz38, sz39, sz40, sz41, sz42, sz43, sz44, sz45, sz46, sz47, sz48, sz49, sz50, sz51, sz52, sz53, sz54, sz55, sz56, sz57, sz58, sz59, sz60, ln_0, ln_1, ln_2, ln_3, ln_4, ln_5, ln_6, ln_7, ln_8, ln_9, ln_10, ln_11, ln_12, ln_13, ln_14, ln_15, ln_16, ln_17, ln_18, ln_19, ln_20, ln_21, hr2]
        intro l hl'
        simp only [iv] at c0 i1 j1
        refine ⟨by omega, by omega, ?_⟩
        rw [cut_ints i0 c0.2 (by omega)]
        simp only [iv] at m2
        have hks : ((ws.drop i.toNat).take n.toNat).length = n.toNat := by rw [List.length_take, List.length_drop]; omega
        generalize hK : (ws.drop i.toNat).take n.toNat = ks at *
        obtain ⟨dy, e2⟩ := m2.ob
        have nlr : l ≠ r := fun z => by rw [z, hr2] at hl'; cases hl'
        have npr : p ≠ r := fun z => by rw [z, hr2] at e2; cases e2
        refine LoopW.range (copP p r i j n l ws ks H2) ⟨_, rfl, Same.upd hl' _ _ hr2, upd_same, fun b o eb _ => Same.upd hl' b o eb⟩ ?_ ?_
        · rintro t σ H3 ht ⟨v8, rfl, r1, l1, b1⟩
          simp only [tRet, tRetN, tNext, tDrop, tSeq, tIfS, tTest, tB, tOp, tUn, tAnd, tOr, tNot, tAndV, tOrV, tNotV, tIf, tCB, tCons, tNil, tC, cVar, tLst, tTup, tAsg, gName, tCallE, tRaise, tTry, tDNewK, cAdd, cSub, cMul, cFdiv, cMod, cPow, cLt, cLe, cGt, cGe, cCmp, cEq, cNe, eqv, cIs, cIsNot, isNon, cNeg, tChain, rIxM, rIsi, kitV, cIx, cLen, cIxS, cLenS, cAbs, cInt, cxOf_K, TruV, and_assoc, CDiv, CMul, CPow, true_or, or_true, Int.reduceLT, Int.reduceEq, Int.reduceMod, Int.reduceDiv, Int.reduceNe, Int.reduceGT, Int.reduceGE, Nat.reduceEqDiff, Nat.reduceMul, Nat.reduceLT, Int.cast_ofNat_Int, Int.reduceLE, Int.reduceNeg, Int.reducePow, Int.reduceToNat, Int.reduceMul, Int.reduceAdd, Int.reduceSub, ofs_inj, ofs_app, emp_ofs, String.reduceAppend, String.reduceEq, Nat.reduceLeDiff, reduceIte, Bool.not_eq_true', Bool.not_true, Bool.not_false, exc_rt, rm_upd, upd_same, decide_true, decide_false, Bool.true_eq_false, tFor_eq, tComp, capt, tYes, cAll, cList, cEqA, cNeA, cEqL, cNeL, rIsT, kitVs, iRng1, iRng2, iRng3, gLst, gCons, gNil, iList, iTup, cFld, cSFld, cMethE, cSetL, cRep, cSl, cSlS, cPart, tNoPart, tSl, cAppend, cMin2, cMax2, cBM, cDGet2, cDGet, cDPut, keyV, gSub, tMakeE, atI_0, atI_1, atI_2, atI_3, atI_4, atI_5, atI_6, atI_7, atI_8, atI_9, atI_10, atI_11, atI_12, eq_self, not_true_eq_false, not_false_eq_true, decide_eq_false_iff_not, L2.start, cSum, cCat, cListR, cInD, cNotInD, cDPop, cLenD, cIsA, cIsNotA, isBl, cSorted, tComp2, cExtend, intsV_map, List.map_cons, List.map_nil, List.length_cons, List.length_nil, List.replicate, List.cons_append, List.nil_append, List.append_nil, List.getElem?_cons_zero, List.getElem?_cons_succ, List.set_cons_zero, List.set_cons_succ, V.int.injEq, V.bl.injEq, V.str.injEq, V.ref.injEq, V.ty.injEq, List.cons.injEq, Option.some.injEq, and_true, true_and, exists_eq_left', exists_and_left, exists_eq_left, exists_const, reduceCtorEq, false_and, and_false, exists_false, ite_true, ite_false, Bool.false_eq_true, decide_eq_true_eq, Nat.reduceSub, Nat.reduceAdd, Nat.sub_self, sz0, sz1, sz2, sz3, sz4, sz5, sz6, sz7, sz8, sz9, sz10, sz11, sz12, sz13, sz14, sz15, sz16, sz17, sz18, sz19, sz20, sz21, sz22, sz23, sz24, sz25, sz26, sz27, sz28, sz29, sz30, sz31, sz32, sz33, sz34, sz35, sz36, sz37, sz38, sz39, sz40, sz41, sz42, sz43, sz44, sz45, sz46, sz47, sz48, sz49, sz50, sz51, sz52, sz53, sz54, sz55, sz56, sz57, sz58, sz59, sz60, ln_0, ln_1, ln_2, ln_3, ln_4, ln_5, ln_6, ln_7, ln_8, ln_9, ln_10, ln_11, ln_12, ln_13, ln_14, ln_15, ln_16, ln_17, ln_18, ln_19, ln_20, ln_21, r1, l1, Int.zero_add, at_nat (show t < ks.length by omega)]
          rw [ixN_in (by omega) (by rw [List.length_map, cp_len]; omega), show (j + (t : Int)).toNat = j.toNat + t by omega]
          dsimp only
          rw [set_ints]
          refine ⟨_, rfl, upd_same, ?_, fun b o eb nb => ?_⟩
          · rw [upd_ne nlr]; exact l1
          · rw [upd_ne nb]; exact b1 b o eb nb
        · rintro σ H3 ⟨v8, rfl, r1, l1, b1⟩
          simp only [tRet, tRetN, tNext, tDrop, tSeq, tIfS, tTest, tB, tOp, tUn, tAnd, tOr, tNot, tAndV, tOrV, tNotV, tIf, tCB, tCons, tNil, tC, cVar, tLst, tTup, tAsg, gName, tCallE, tRaise, tTry, tDNewK, cAdd, cSub, cMul, cFdiv, cMod, cPow, cLt, cLe, cGt, cGe, cCmp, cEq, cNe, eqv, cIs, cIsNot, isNon, cNeg, tChain, rIxM, rIsi, kitV, cIx, cLen, cIxS, cLenS, cAbs, cInt, cxOf_K, TruV, and_assoc, CDiv, CMul, CPow, true_or, or_true, Int.reduceLT, Int.reduceEq, Int.reduceMod, Int.reduceDiv, Int.reduceNe, Int.reduceGT, Int.reduceGE, Nat.reduceEqDiff, Nat.reduceMul, Nat.reduceLT, Int.cast_ofNat_Int, Int.reduceLE, Int.reduceNeg, Int.reducePow, Int.reduceToNat, Int.reduceMul, Int.reduceAdd, Int.reduceSub, ofs_inj, ofs_app, emp_ofs, String.reduceAppend, String.reduceEq, Nat.reduceLeDiff, reduceIte, Bool.not_eq_true', Bool.not_true, Bool.not_false, exc_rt, rm_upd, upd_same, decide_true, decide_false, Bool.true_eq_false, tFor_eq, tComp, capt, tYes, cAll, cList, cEqA, cNeA, cEqL, cNeL, rIsT, kitVs, iRng1, iRng2, iRng3, gLst, gCons, gNil, iList, iTup, cFld, cSFld, cMethE, cSetL, cRep, cSl, cSlS, cPart, tNoPart, tSl, cAppend, cMin2, cMax2, cBM, cDGet2, cDGet, cDPut, keyV, gSub, tMakeE, atI_0, atI_1, atI_2, atI_3, atI_4, atI_5, atI_6, atI_7, atI_8, atI_9, atI_10, atI_11, atI_12, eq_self, not_true_eq_false, not_false_eq_true, decide_eq_false_iff_not, L2.start, cSum, cCat, cListR, cInD, cNotInD, cDPop, cLenD, cIsA, cIsNotA, isBl, cSorted, tComp2, cExtend, intsV_map, List.map_cons, List.map_nil, List.length_cons, List.length_nil, List.replicate, List.cons_append, List.nil_append, List.append_nil, List.getElem?_cons_zero, List.getElem?_cons_succ, List.set_cons_zero, List.set_cons_succ, V.int.injEq, V.bl.injEq, V.str.injEq, V.ref.injEq, V.ty.injEq, List.cons.injEq, Option.some.injEq, and_true, true_and, exists_eq_left', exists_and_left, exists_eq_left, exists_const, reduceCtorEq, false_and, and_false, exists_false, ite_true, ite_false, Bool.false_eq_true, decide_eq_true_eq, Nat.reduceSub, Nat.reduceAdd, Nat.sub_self, sz0, sz1, sz2, sz3, sz4, sz5, sz6, sz7, sz8, sz9, sz10, sz11, sz12, sz13, sz14, sz15, sz16, sz17, sz18, sz19, sz20, sz21, sz22, sz23, sz24, sz25, sz26, sz27, sz28, sz29, sz30, sz31, sz32, sz33, sz34, sz35, sz36, sz37, sz38, sz39, sz40, sz41, sz42, sz43, sz44, sz45, sz46, sz47, sz48, sz49, sz50, sz51, sz52, sz53, sz54, sz55, sz56, sz57, sz58, sz59, sz60, ln_0, ln_1, ln_2, ln_3, ln_4, ln_5, ln_6, ln_7, ln_8, ln_9, ln_10, ln_11, ln_12, ln_13, ln_14, ln_15, ln_16, ln_17, ln_18, ln_19, ln_20, ln_21]
          refine k H3 _ (m2.keep fun b o eb hb => b1 b o eb ?_) r1 (cp_len _) fun b o eb nq nr => b1 b o (b2 b o (s1 b o eb) nq) nr
          rcases hb with rfl | rfl
          · exact npr
          · exact Ne.symm nrq
      · have ed : due3 a g m ws.length = Str.ofString "place value" := by unfold due3; rw [if_pos c0, if_neg c1]
        rw [ed]
        simp only [tRet, tRetN, tNext, tDrop, tSeq, tIfS, tTest, tB, tOp, tUn, tAnd, tOr, tNot, tAndV, tOrV, tNotV, tIf, tCB, tCons, tNil, tC, cVar, tLst, tTup, tAsg, gName, tCallE, tRaise, tTry, tDNewK, cAdd, cSub, cMul, cFdiv, cMod, cPow, cLt, cLe, cGt, cGe, cCmp, cEq, cNe, eqv, cIs, cIsNot, isNon, cNeg, tChain, rIxM, rIsi, kitV, cIx, cLen, cIxS, cLenS, cAbs, cInt, cxOf_K, TruV, and_assoc, CDiv, CMul, CPow, true_or, or_true, Int.reduceLT, Int.reduceEq, Int.reduceMod, Int.reduceDiv, Int.reduceNe, Int.reduceGT, Int.reduceGE, Nat.reduceEqDiff, Nat.reduceMul, Nat.reduceLT, Int.cast_ofNat_Int, Int.reduceLE, Int.reduceNeg, Int.reducePow, Int.reduceToNat, Int.reduceMul, Int.reduceAdd, Int.reduceSub, ofs_inj, ofs_app, emp_ofs, String.reduceAppend, String.reduceEq, Nat.reduceLeDiff, reduceIte, Bool.not_eq_true', Bool.not_true, Bool.not_false, exc_rt, rm_upd, upd_same, decide_true, decide_false, Bool.true_eq_false, tFor_eq, tComp, capt, tYes, cAll, cList, cEqA, cNeA, cEqL, cNeL, rIsT, kitVs, iRng1, iRng2, iRng3, gLst, gCons, gNil, iList, iTup, cFld, cSFld, cMethE, cSetL, cRep, cSl, cSlS, cPart, tNoPart, tSl, cAppend, cMin2, cMax2, cBM, cDGet2, cDGet, cDPut, keyV, gSub, tMakeE, atI_0, atI_1, atI_2, atI_3, atI_4, atI_5, atI_6, atI_7, atI_8, atI_9, atI_10, atI_11, atI_12, eq_self, not_true_eq_false, not_false_eq_true, decide_eq_false_iff_not, L2.start, cSum, cCat, cListR, cInD, cNotInD, cDPop, cLenD, cIsA, cIsNotA, isBl, cSorted, tComp2, cExtend, intsV_map, List.map_cons, List.map_nil, List.length_cons, List.length_nil, List.replicate, List.cons_append, List.nil_append, List.append_nil, List.getElem?_cons_zero, List.getElem?_cons_succ, List.set_cons_zero, List.set_cons_succ, V.int.injEq, V.bl.injEq, V.str.injEq, V.ref.injEq, V.ty.injEq, List.cons.injEq, Option.some.injEq, and_true, true_and, exists_eq_left', exists_and_left, exists_eq_left, exists_const, reduceCtorEq, false_and, and_false, exists_false, ite_true, ite_false, Bool.false_eq_true, decide_eq_true_eq, Nat.reduceSub, Nat.reduceAdd, Nat.sub_self, sz0, sz1, sz2, sz3, sz4, sz5, sz6, sz7, sz8, sz9, sz10, sz11, sz12, sz13, sz14, sz15, sz16, sz17, sz18, sz19, sz20, sz21, sz22, sz23, sz24, sz25, sz26, sz27, sz28, sz29, sz30, sz31, sz32, sz33, sz34, sz35, sz36, sz37, sz38, sz39, sz40, sz41, sz42, sz43, sz44, sz45, sz46, sz47, sz48, sz49, sz50, sz51, sz52, sz53, sz54, sz55, sz56, sz57, sz58, sz59, sz60, ln_0, ln_1, ln_2, ln_3, ln_4, ln_5, ln_6, ln_7, ln_8, ln_9, ln_10, ln_11, ln_12, ln_13, ln_14, ln_15, ln_16, ln_17, ln_18, ln_19, ln_20, ln_21, e1, mfl_cp, hr1, hAs, T.em_NoPlace_KeepError]
        refine ⟨p, q, ws, _, _, _, rfl, m1, ka1, kg1, km1, hl, ?_⟩
        rw [if_pos c0, if_neg c1]
        simp only [tRet, tRetN, tNext, tDrop, tSeq, tIfS, tTest, tB, tOp, tUn, tAnd, tOr, tNot, tAndV, tOrV, tNotV, tIf, tCB, tCons, tNil, tC, cVar, tLst, tTup, tAsg, gName, tCallE, tRaise, tTry, tDNewK, cAdd, cSub, cMul, cFdiv, cMod, cPow, cLt, cLe, cGt, cGe, cCmp, cEq, cNe, eqv, cIs, cIsNot, isNon, cNeg, tChain, rIxM, rIsi, kitV, cIx, cLen, cIxS, cLenS, cAbs, cInt, cxOf_K, TruV, and_assoc, CDiv, CMul, CPow, true_or, or_true, Int.reduceLT, Int.reduceEq, Int.reduceMod, Int.reduceDiv, Int.reduceNe, Int.reduceGT, Int.reduceGE, Nat.reduceEqDiff, Nat.reduceMul, Nat.reduceLT, Int.cast_ofNat_Int, Int.reduceLE, Int.reduceNeg, Int.reducePow, Int.reduceToNat, Int.reduceMul, Int.reduceAdd, Int.reduceSub, ofs_inj, ofs_app, emp_ofs, String.reduceAppend, String.reduceEq, Nat.reduceLeDiff, reduceIte, Bool.not_eq_true', Bool.not_true, Bool.not_false, exc_rt, rm_upd, upd_same, decide_true, decide_false, Bool.true_eq_false, tFor_eq, tComp, capt, tYes, cAll, cList, cEqA, cNeA, cEqL, cNeL, rIsT, kitVs, iRng1, iRng2, iRng3, gLst, gCons, gNil, iList, iTup, cFld, cSFld, cMethE, cSetL, cRep, cSl, cSlS, cPart, tNoPart, tSl, cAppend, cMin2, cMax2, cBM, cDGet2, cDGet, cDPut, keyV, gSub, tMakeE, atI_0, atI_1, atI_2, atI_3, atI_4, atI_5, atI_6, atI_7, atI_8, atI_9, atI_10, atI_11, atI_12, eq_self, not_true_eq_false, not_false_eq_true, decide_eq_false_iff_not, L2.start, cSum, cCat, cListR, cInD, cNotInD, cDPop, cLenD, cIsA, cIsNotA, isBl, cSorted, tComp2, cExtend, intsV_map, List.map_cons, List.map_nil, List.length_cons, List.length_nil, List.replicate, List.cons_append, List.nil_append, List.append_nil, List.getElem?_cons_zero, List.getElem?_cons_succ, List.set_cons_zero, List.set_cons_succ, V.int.injEq, V.bl.injEq, V.str.injEq, V.ref.injEq, V.ty.injEq, List.cons.injEq, Option.some.injEq, and_true, true_and, exists_eq_left', exists_and_left, exists_eq_left, exists_const, reduceCtorEq, false_and, and_false, exists_false, ite_true, ite_false, Bool.false_eq_true, decide_eq_true_eq, Nat.reduceSub, Nat.reduceAdd, Nat.sub_self, sz0, sz1, sz2, sz3, sz4, sz5, sz6, sz7, sz8, sz9, sz10, sz11, sz12, sz13, sz14, sz15, sz16, sz17, sz18, sz19, sz20, sz21, sz22, sz23, sz24, sz25, sz26, sz27, sz28, sz29, sz30, sz31, sz32, sz33, sz34, sz35, sz36, sz37, sz38, sz39, sz40, sz41, sz42, sz43, sz44, sz45, sz46, sz47, sz48, sz49, sz50, sz51, sz52, sz53, sz54, sz55, sz56, sz57, sz58, sz59, sz60, ln_0, ln_1, ln_2, ln_3, ln_4, ln_5, ln_6, ln_7, ln_8, ln_9, ln_10, ln_11, ln_12, ln_13, ln_14, ln_15, ln_16, ln_17, ln_18, ln_19, ln_20, ln_21, T.em_NoPlace_KeepError]
        intro x hx'
        refine ⟨x, rfl, .inr (.inl ⟨upd_same, ?_⟩)⟩
        simp only [tRet, tRetN, tNext, tDrop, tSeq, tIfS, tTest, tB, tOp, tUn, tAnd, tOr, tNot, tAndV, tOrV, tNotV, tIf, tCB, tCons, tNil, tC, cVar, tLst, tTup, tAsg, gName, tCallE, tRaise, tTry, tDNewK, cAdd, cSub, cMul, cFdiv, cMod, cPow, cLt, cLe, cGt, cGe, cCmp, cEq, cNe, eqv, cIs, cIsNot, isNon, cNeg, tChain, rIxM, rIsi, kitV, cIx, cLen, cIxS, cLenS, cAbs, cInt, cxOf_K, TruV, and_assoc, CDiv, CMul, CPow, true_or, or_true, Int.reduceLT, Int.reduceEq, Int.reduceMod, Int.reduceDiv, Int.reduceNe, Int.reduceGT, Int.reduceGE, Nat.reduceEqDiff, Nat.reduceMul, Nat.reduceLT, Int.cast_ofNat_Int, Int.reduceLE, Int.reduceNeg, Int.reducePow, Int.reduceToNat, Int.reduceMul, Int.reduceAdd, Int.reduceSub, ofs_inj, ofs_app, emp_ofs, String.reduceAppend, String.reduceEq, Nat.reduceLeDiff, reduceIte, Bool.not_eq_true', Bool.not_true, Bool.not_false, exc_rt, rm_upd, upd_same, decide_true, decide_false, Bool.true_eq_false, tFor_eq, tComp, capt, tYes, cAll, cList, cEqA, cNeA, cEqL, cNeL, rIsT, kitVs, iRng1, iRng2, iRng3, gLst, gCons, gNil, iList, iTup, cFld, cSFld, cMethE, cSetL, cRep, cSl, cSlS, cPart, tNoPart, tSl, cAppend, cMin2, cMax2, cBM, cDGet2, cDGet, cDPut, keyV, gSub, tMakeE, atI_0, atI_1, atI_2, atI_3, atI_4, atI_5, atI_6, atI_7, atI_8, atI_9, atI_10, atI_11, atI_12, eq_self, not_true_eq_false, not_false_eq_true, decide_eq_false_iff_not, L2.start, cSum, cCat, cListR, cInD, cNotInD, cDPop, cLenD, cIsA, cIsNotA, isBl, cSorted, tComp2, cExtend, intsV_map, List.map_cons, List.map_nil, List.length_cons, List.length_nil, List.replicate, List.cons_append, List.nil_append, List.append_nil, List.getElem?_cons_zero, List.getElem?_cons_succ, List.set_cons_zero, List.set_cons_succ, V.int.injEq, V.bl.injEq, V.str.injEq, V.ref.injEq, V.ty.injEq, List.cons.injEq, Option.some.injEq, and_true, true_and, exists_eq_left', exists_and_left, exists_eq_left, exists_const, reduceCtorEq, false_and, and_false, exists_false, ite_true, ite_false, Bool.false_eq_true, decide_eq_true_eq, Nat.reduceSub, Nat.reduceAdd, Nat.sub_self, sz0, sz1, sz2, sz3, sz4, sz5, sz6, sz7, sz8, sz9, sz10, sz11, sz12, sz13, sz14, sz15, sz16, sz17, sz18, sz19, sz20, sz21, sz22, sz23, sz24, sz25, sz26, sz27, sz28, sz29, sz30, sz31, sz32, sz33, sz34, sz35, sz36, sz37, sz38, sz39, sz40, sz41, sz42, sz43, sz44, sz45, sz46, sz47, sz48, sz49, sz50, sz51, sz52, sz53, sz54, sz55, sz56, sz57, sz58, sz59, sz60, ln_0, ln_1, ln_2, ln_3, ln_4, ln_5, ln_6, ln_7, ln_8, ln_9, ln_10, ln_11, ln_12, ln_13, ln_14, ln_15, ln_16, ln_17, ln_18, ln_19, ln_20, ln_21]
        rw [rm_upd hx']
        exact same
    · have ed : due3 a g m ws.length = Str.ofString "count value" := by unfold due3; rw [if_neg c0]
      rw [ed]
      simp only [tRet, tRetN, tNext, tDrop, tSeq, tIfS, tTest, tB, tOp, tUn, tAnd, tOr, tNot, tAndV, tOrV, tNotV, tIf, tCB, tCons, tNil, tC, cVar, tLst, tTup, tAsg, gName, tCallE, tRaise, tTry, tDNewK, cAdd, cSub, cMul, cFdiv, cMod, cPow, cLt, cLe, cGt, cGe, cCmp, cEq, cNe, eqv, cIs, cIsNot, isNon, cNeg, tChain, rIxM, rIsi, kitV, cIx, cLen, cIxS, cLenS, cAbs, cInt, cxOf_K, TruV, and_assoc, CDiv, CMul, CPow, true_or, or_true, Int.reduceLT, Int.reduceEq, Int.reduceMod, Int.reduceDiv, Int.reduceNe, Int.reduceGT, Int.reduceGE, Nat.reduceEqDiff, Nat.reduceMul, Nat.reduceLT, Int.cast_ofNat_Int, Int.reduceLE, Int.reduceNeg, Int.reducePow, Int.reduceToNat, Int.reduceMul, Int.reduceAdd, Int.reduceSub, ofs_inj, ofs_app, emp_ofs, String.reduceAppend, String.reduceEq, Nat.reduceLeDiff, reduceIte, Bool.not_eq_true', Bool.not_true, Bool.not_false, exc_rt, rm_upd, upd_same, decide_true, decide_false, Bool.true_eq_false, tFor_eq, tComp, capt, tYes, cAll, cList, cEqA, cNeA, cEqL, cNeL, rIsT, kitVs, iRng1, iRng2, iRng3, gLst, gCons, gNil, iList, iTup, cFld, cSFld, cMethE, cSetL, cRep, cSl, cSlS, cPart, tNoPart, tSl, cAppend, cMin2, cMax2, cBM, cDGet2, cDGet, cDPut, keyV, gSub, tMakeE, atI_0, atI_1, atI_2, atI_3, atI_4, atI_5, atI_6, atI_7, atI_8, atI_9, atI_10, atI_11, atI_12, eq_self, not_true_eq_false, not_false_eq_true, decide_eq_false_iff_not, L2.start, cSum, cCat, cListR, cInD, cNotInD, cDPop, cLenD, cIsA, cIsNotA, isBl, cSorted, tComp2, cExtend, intsV_map, List.map_cons, List.map_nil, List.length_cons, List.length_nil, List.replicate, List.cons_append, List.nil_append, List.append_nil, List.getElem?_cons_zero, List.getElem?_cons_succ, List.set_cons_zero, List.set_cons_succ, V.int.injEq, V.bl.injEq, V.str.injEq, V.ref.injEq, V.ty.injEq, List.cons.injEq, Option.some.injEq, and_true, true_and, exists_eq_left', exists_and_left, exists_eq_left, exists_const, reduceCtorEq, false_and, and_false, exists_false, ite_true, ite_false, Bool.false_eq_true, decide_eq_true_eq, Nat.reduceSub, Nat.reduceAdd, Nat.sub_self, sz0, sz1, sz2, sz3, sz4, sz5, sz6, sz7, sz8, sz9, sz10, sz11, sz12, sz13, sz14, sz15, sz16, sz17, sz18, sz19, sz20, sz21, sz22, sz23, sz24, sz25, sz26, sz27, sz28, sz29, sz30, sz31, sz32, sz33, sz34, sz35, sz36, sz37, sz38, sz39, sz40, sz41, sz42, sz43, sz44, sz45, sz46, sz47, sz48, sz49, sz50, sz51, sz52, sz53, sz54, sz55, sz56, sz57, sz58, sz59, sz60, ln_0, ln_1, ln_2, ln_3, ln_4, ln_5, ln_6, ln_7, ln_8, ln_9, ln_10, ln_11, ln_12, ln_13, ln_14, ln_15, ln_16, ln_17, ln_18, ln_19, ln_20, ln_21, e1, mfl_cp, hr1, hAs, T.em_BadCount_KeepError]
      refine ⟨p, q, ws, _, _, _, rfl, m1, ka1, kg1, km1, hl, ?_⟩
      rw [if_neg c0]
      simp only [tRet, tRetN, tNext, tDrop, tSeq, tIfS, tTest, tB, tOp, tUn, tAnd, tOr, tNot, tAndV, tOrV, tNotV, tIf, tCB, tCons, tNil, tC, cVar, tLst, tTup, tAsg, gName, tCallE, tRaise, tTry, tDNewK, cAdd, cSub, cMul, cFdiv, cMod, cPow, cLt, cLe, cGt, cGe, cCmp, cEq, cNe, eqv, cIs, cIsNot, isNon, cNeg, tChain, rIxM, rIsi, kitV, cIx, cLen, cIxS, cLenS, cAbs, cInt, cxOf_K, TruV, and_assoc, CDiv, CMul, CPow, true_or, or_true, Int.reduceLT, Int.reduceEq, Int.reduceMod, Int.reduceDiv, Int.reduceNe, Int.reduceGT, Int.reduceGE, Nat.reduceEqDiff, Nat.reduceMul, Nat.reduceLT, Int.cast_ofNat_Int, Int.reduceLE, Int.reduceNeg, Int.reducePow, Int.reduceToNat, Int.reduceMul, Int.reduceAdd, Int.reduceSub, ofs_inj, ofs_app, emp_ofs, String.reduceAppend, String.reduceEq, Nat.reduceLeDiff, reduceIte, Bool.not_eq_true', Bool.not_true, Bool.not_false, exc_rt, rm_upd, upd_same, decide_true, decide_false, Bool.true_eq_false, tFor_eq, tComp, capt, tYes, cAll, cList, cEqA, cNeA, cEqL, cNeL, rIsT, kitVs, iRng1, iRng2, iRng3, gLst, gCons, gNil, iList, iTup, cFld, cSFld, cMethE, cSetL, cRep, cSl, cSlS, cPart, tNoPart, tSl, cAppend, cMin2, cMax2, cBM, cDGet2, cDGet, cDPut, keyV, gSub, tMakeE, atI_0, atI_1, atI_2, atI_3, atI_4, atI_5, atI_6, atI_7, atI_8, atI_9, atI_10, atI_11, atI_12, eq_self, not_true_eq_false, not_false_eq_true, decide_eq_false_iff_not, L2.start, cSum, cCat, cListR, cInD, cNotInD, cDPop, cLenD, cIsA, cIsNotA, isBl, cSorted, tComp2, cExtend, intsV_map, List.map_cons, List.map_nil, List.length_cons, List.length_nil, List.replicate, List.cons_append, List.nil_append, List.append_nil, List.getElem?_cons_zero, List.getElem?_cons_succ, List.set_cons_zero, List.set_cons_succ, V.int.injEq, V.bl.injEq, V.str.injEq, V.ref.injEq, V.ty.injEq, List.cons.injEq, Option.some.injEq, and_true, true_and, exists_eq_left', exists_and_left, exists_eq_left, exists_const, reduceCtorEq, false_and, and_false, exists_false, ite_true, ite_false, Bool.false_eq_true, decide_eq_true_eq, Nat.reduceSub, Nat.reduceAdd, Nat.sub_self, sz0, sz1, sz2, sz3, sz4, sz5, sz6, sz7, sz8, sz9, sz10, sz11, sz12, sz13, sz14, sz15, sz16, sz17, sz18, sz19, sz20, sz21, sz22, sz23, sz24, sz25, sz26, sz27, sz28, sz29, sz30, sz31, sz32, sz33, sz34, sz35, sz36, sz37, sz38, sz39, sz40, sz41, sz42, sz43, sz44, sz45, sz46, sz47, sz48, sz49, sz50, sz51, sz52, sz53, sz54, sz55, sz56, sz57, sz58, sz59, sz60, ln_0, ln_1, ln_2, ln_3, ln_4, ln_5, ln_6, ln_7, ln_8, ln_9, ln_10, ln_11, ln_12, ln_13, ln_14, ln_15, ln_16, ln_17, ln_18, ln_19, ln_20, ln_21, T.em_BadCount_KeepError]
      intro x hx'
      refine ⟨x, rfl, .inl ⟨upd_same, ?_⟩⟩
      simp only [tRet, tRetN, tNext, tDrop, tSeq, tIfS, tTest, tB, tOp, tUn, tAnd, tOr, tNot, tAndV, tOrV, tNotV, tIf, tCB, tCons, tNil, tC, cVar, tLst, tTup, tAsg, gName, tCallE, tRaise, tTry, tDNewK, cAdd, cSub, cMul, cFdiv, cMod, cPow, cLt, cLe, cGt, cGe, cCmp, cEq, cNe, eqv, cIs, cIsNot, isNon, cNeg, tChain, rIxM, rIsi, kitV, cIx, cLen, cIxS, cLenS, cAbs, cInt, cxOf_K, TruV, and_assoc, CDiv, CMul, CPow, true_or, or_true, Int.reduceLT, Int.reduceEq, Int.reduceMod, Int.reduceDiv, Int.reduceNe, Int.reduceGT, Int.reduceGE, Nat.reduceEqDiff, Nat.reduceMul, Nat.reduceLT, Int.cast_ofNat_Int, Int.reduceLE, Int.reduceNeg, Int.reducePow, Int.reduceToNat, Int.reduceMul, Int.reduceAdd, Int.reduceSub, ofs_inj, ofs_app, emp_ofs, String.reduceAppend, String.reduceEq, Nat.reduceLeDiff, reduceIte, Bool.not_eq_true', Bool.not_true, Bool.not_false, exc_rt, rm_upd, upd_same, decide_true, decide_false, Bool.true_eq_false, tFor_eq, tComp, capt, tYes, cAll, cList, cEqA, cNeA, cEqL, cNeL, rIsT, kitVs, iRng1, iRng2, iRng3, gLst, gCons, gNil, iList, iTup, cFld, cSFld, cMethE, cSetL, cRep, cSl, cSlS, cPart, tNoPart, tSl, cAppend, cMin2, cMax2, cBM, cDGet2, cDGet, cDPut, keyV, gSub, tMakeE, atI_0, atI_1, atI_2, atI_3, atI_4, atI_5, atI_6, atI_7, atI_8, atI_9, atI_10, atI_11, atI_12, eq_self, not_true_eq_false, not_false_eq_true, decide_eq_false_iff_not, L2.start, cSum, cCat, cListR, cInD, cNotInD, cDPop, cLenD, cIsA, cIsNotA, isBl, cSorted, tComp2, cExtend, intsV_map, List.map_cons, List.map_nil, List.length_cons, List.length_nil, List.replicate, List.cons_append, List.nil_append, List.append_nil, List.getElem?_cons_zero, List.getElem?_cons_succ, List.set_cons_zero, List.set_cons_succ, V.int.injEq, V.bl.injEq, V.str.injEq, V.ref.injEq, V.ty.injEq, List.cons.injEq, Option.some.injEq, and_true, true_and, exists_eq_left', exists_and_left, exists_eq_left, exists_const, reduceCtorEq, false_and, and_false, exists_false, ite_true, ite_false, Bool.false_eq_true, decide_eq_true_eq, Nat.reduceSub, Nat.reduceAdd, Nat.sub_self, sz0, sz1, sz2, sz3, sz4, sz5, sz6, sz7, sz8, sz9, sz10, sz11, sz12, sz13, sz14, sz15, sz16, sz17, sz18, sz19, sz20, sz21, sz22, sz23, sz24, sz25, sz26, sz27, sz28, sz29, sz30, sz31, sz32, sz33, sz34, sz35, sz36, sz37, sz38, sz39, sz40, sz41, sz42, sz43, sz44, sz45, sz46, sz47, sz48, sz49, sz50, sz51, sz52, sz53, sz54, sz55, sz56, sz57, sz58, sz59, sz60, ln_0, ln_1, ln_2, ln_3, ln_4, ln_5, ln_6, ln_7, ln_8, ln_9, ln_10, ln_11, ln_12, ln_13, ln_14, ln_15, ln_16, ln_17, ln_18, ln_19, ln_20, ln_21]
      rw [rm_upd hx']
      exact same
def sp_law (K : PySem.W.Frag) : Sp := fun vs H Q _ => ∃ (a : Addr) (ns : List Int), vs = [.ref a] ∧ SqL K H a (ns.map V.int) ∧ ns.length ≤ 63 ∧ ∀ H', Q (.bl true) H'
def fillP (c a x q r : Addr) (n : Nat) (H : Hp) : Nat → St → Hp → Prop := fun i σ H' => ∃ rs v4 v5, σ = [some (.ref a), some (.int n), some (.ref x), some (.ref r), v4, v5, none, none, none, none, none] ∧ rs.length = i ∧
  MemAt c H' x q (rs ++ List.replicate (n - i) (-1)) ∧ H' r = some (.lst (rs.map V.int)) ∧ Same H H'
def mainP (c a x q r : Addr) (n : Nat) (H : Hp) : Nat → St → Hp → Prop := fun _ σ H' => ∃ ws v4 v5 v6 v7 v8 v9 v10, σ = [some (.ref a), some (.int n), some (.ref x), some (.ref r), v4, v5, v6, v7, v8, v9, v10] ∧ ws.length = n ∧
  MemAt c H' x q ws ∧ H' r = some (.lst (ws.map V.int)) ∧ Same H H'
def innerP (a x r : Addr) (n : Nat) (v5 v6 v7 v8 v9 : Option V) (H6 : Hp) : Nat → St → Hp → Prop := fun _ σ H' => H' = H6 ∧ ∃ v4 v10, σ = [some (.ref a), some (.int n), some (.ref x), some (.ref r), v4, v5, v6, v7, v8, v9, v10]
theorem sc_law : FnScope ["_law_script", "_law_size", "_law_memory", "_law_row", "_law_at", "_law_word", "_law_k", "_law_start", "_law_goal", "_law_many", "_law_found"] ["_law_script"] (defScope s_law) := ⟨rfl, rfl, rfl, by decide +kernel, rfl, by decide +kernel, by decide +kernel⟩
theorem ok_law (T : Txt K mg A) : FnOk P w K mg base (CXE P w) true 6 A.f_law A.d_law ["_law_script"] (sp_law K) := by
  refine T.fn_law.okE sc_law (fun vs H Q E h => ?_) (fun cdv A' outer s H vs Q E hr hx h => ?_)
  · obtain ⟨a, ns, rfl, hS, hl, q⟩ := h
    rfl
  · obtain ⟨a, ns, rfl, hS, hl, q⟩ := h
    refine ⟨_, JSs.run (j_pss_cons (j_ps_set (i := 1) sc_law.nd rfl (by first | exact Or.inl rfl | exact Or.inr rfl) (j_pe_op j_c_add j_pe_int (j_pe_op j_c_mod (j_pe_op j_c_fdiv (j_pe_callF ((ok__law_cell_at T).mono (by decide)) hr rfl T.g__law_cell_at T.fn__law_cell_at.kp T.b__law_cell_at hx (j_pa_c (j_cv 0) (j_pa_c j_pe_int j_pa_nil))) j_pe_int) j_pe_int)))
      (j_pss_cons (j_ps_if (j_pt_cmpR j_c_eq (j_pe_op j_c_mod (j_pe_callF ((ok__law_cell_at T).mono (by decide)) hr rfl T.g__law_cell_at T.fn__law_cell_at.kp T.b__law_cell_at hx (j_pa_c (j_cv 0) (j_pa_c j_pe_int j_pa_nil))) j_pe_int) j_pe_int (nomark _)) (j_pss_one (j_ps_set (i := 1) sc_law.nd rfl (by first | exact Or.inl rfl | exact Or.inr rfl) (j_pe_op j_c_add j_pe_int (j_pe_op j_c_mod (j_pe_op j_c_fdiv (j_pe_callF ((ok__law_cell_at T).mono (by decide)) hr rfl T.g__law_cell_at T.fn__law_cell_at.kp T.b__law_cell_at hx (j_pa_c (j_cv 0) (j_pa_c j_pe_int j_pa_nil))) j_pe_int) j_pe_int)))) j_pss_nil)
      (j_pss_cons (j_ps_set (i := 2) sc_law.nd rfl (by first | exact Or.inl rfl | exact Or.inr rfl) (j_pe_makeF T.mk_Memory ((ok_Memory_init T).mono (by decide)) hr rfl T.g_Memory T.b_Memory_init hx (j_pa_c (j_cv 1) j_pa_nil)))
      (j_pss_cons (j_ps_set (i := 3) sc_law.nd rfl (by first | exact Or.inl rfl | exact Or.inr rfl) (j_pe_lst j_pa_nil))
      (j_pss_cons (j_ps_for hx.own rfl (j_pi_range1 rfl T.n_range (j_pa_c (j_cv 1) j_pa_nil)) (j_pg_name (i := 4) sc_law.nd rfl (by first | exact Or.inl rfl | exact Or.inr rfl))
        (j_pss_cons (j_ps_set (i := 5) sc_law.nd rfl (by first | exact Or.inl rfl | exact Or.inr rfl) (j_pe_menu (j_pa_c (j_pe_op j_c_mul j_pe_int (j_pe_op j_c_add (j_pe_op j_c_mul (j_cv 4) (j_cv 4)) j_pe_int)) (j_pa_c (j_pe_op j_c_add (j_pe_op j_c_mul j_pe_int (j_cv 4)) j_pe_int) (j_pa_c (j_pe_un j_c_neg j_pe_int) (j_pa_c (j_pe_op j_c_mul (j_pe_un j_c_neg j_pe_int) (j_cv 4)) j_pa_nil)))) (j_pe_op j_c_mod (j_pe_op j_c_add (j_cv 4) (j_pe_callF ((ok__law_cell_at T).mono (by decide)) hr rfl T.g__law_cell_at T.fn__law_cell_at.kp T.b__law_cell_at hx (j_pa_c (j_cv 0) (j_pa_c j_pe_int j_pa_nil)))) j_pe_int) (fun _ _ => rfl)))
      (j_pss_cons (j_ps_expr (j_c_meth (j_cv 2) T.cl_Memory T.m_Memory_write ((ok_Memory_write T).mono (by decide)) hr T.b_Memory_write hx (j_pa_c (j_cv 4) (j_pa_c (j_cv 5) j_pa_nil))))
      (j_pss_one (j_ps_expr (j_c_bm PySem.F.slot_list_append PySem.F.type_list_append j_c_append (j_cv 3) (j_pa_c (j_cv 5) j_pa_nil)))))))
      (j_pss_cons (j_ps_for hx.own rfl (j_pi_range3 rfl T.n_range (j_pa_c j_pe_int (j_pa_c (j_pe_callBF (j_c_min2 (by rfl)) (by rfl) T.n_min PyProof.Rows.Boot.«min» (j_pa_c j_pe_int (j_pa_c (j_pe_callBF j_c_lenS (by rfl) T.n_len PyProof.Rows.Boot.«len» (j_pa_c (j_cv 0) j_pa_nil)) j_pa_nil))) (j_pa_c j_pe_int j_pa_nil)))) (j_pg_name (i := 6) sc_law.nd rfl (by first | exact Or.inl rfl | exact Or.inr rfl))
        (j_pss_cons (j_ps_asg (j_pe_callF ((ok__law_numbers T).mono (by decide)) hr rfl T.g__law_numbers T.fn__law_numbers.kp T.b__law_numbers hx (j_pa_c (j_cv 0) (j_pa_c (j_cv 6) (j_pa_c (j_cv 1) j_pa_nil)))) (j_pg_lst (n := 3) (by rfl) (j_pgs_cons (j_pg_name (i := 7) sc_law.nd rfl (by first | exact Or.inl rfl | exact Or.inr rfl)) (j_pgs_cons (j_pg_name (i := 8) sc_law.nd rfl (by first | exact Or.inl rfl | exact Or.inr rfl)) (j_pgs_cons (j_pg_name (i := 9) sc_law.nd rfl (by first | exact Or.inl rfl | exact Or.inr rfl)) j_pgs_nil)))))
      (j_pss_cons (j_ps_if (j_pt_not (j_pt_truth (j_pe_callF ((ok__law_copied T).mono (by decide)) hr rfl T.g__law_copied T.fn__law_copied.kp T.b__law_copied hx (j_pa_c (j_cv 2) (j_pa_c (j_cv 3) (j_pa_c (j_cv 7) (j_pa_c (j_cv 8) (j_pa_c (j_cv 9) j_pa_nil)))))) (fun _ => rfl))) (j_pss_one (j_ps_ret j_pe_bl)) j_pss_nil)
      (j_pss_one (j_ps_for hx.own rfl (j_pi_range1 rfl T.n_range (j_pa_c (j_cv 1) j_pa_nil)) (j_pg_name (i := 4) sc_law.nd rfl (by first | exact Or.inl rfl | exact Or.inr rfl))
        (j_pss_cons (j_ps_set (i := 10) sc_law.nd rfl (by first | exact Or.inl rfl | exact Or.inr rfl) (j_c_meth (j_cv 2) T.cl_Memory T.m_Memory_read ((ok_Memory_read T).mono (by decide)) hr T.b_Memory_read hx (j_pa_c (j_cv 4) j_pa_nil)))
      (j_pss_one (j_ps_if (j_PW_pt (j_pw_or (j_pt_not (j_pt_truth (j_pe_callF ((ok__law_whole T).mono (by decide)) hr rfl T.g__law_whole T.fn__law_whole.kp T.b__law_whole hx (j_pa_c (j_cv 10) j_pa_nil)) (fun _ => rfl))) (j_pw_or1 (j_pt_cmpR j_c_ne (j_cv 10) (j_pe_ix j_c_ix (j_cv 3) (j_cv 4) (fun _ _ => rfl)) (nomark _))))) (j_pss_one (j_ps_ret j_pe_bl)) j_pss_nil))))))))
      (j_pss_one (j_ps_ret j_pe_bl)))))))), ?_⟩
    simp only [tRet, tRetN, tNext, tDrop, tSeq, tIfS, tTest, tB, tOp, tUn, tAnd, tOr, tNot, tAndV, tOrV, tNotV, tIf, tCB, tCons, tNil, tC, cVar, tLst, tTup, tAsg, gName, tCallE, tRaise, tTry, tDNewK, cAdd, cSub, cMul, cFdiv, cMod, cPow, cLt, cLe, cGt, cGe, cCmp, cEq, cNe, eqv, cIs, cIsNot, isNon, cNeg, tChain, rIxM, rIsi, kitV, cIx, cLen, cIxS, cLenS, cAbs, cInt, cxOf_K, TruV, and_assoc, CDiv, CMul, CPow, true_or, or_true, Int.reduceLT, Int.reduceEq, Int.reduceMod, Int.reduceDiv, Int.reduceNe, Int.reduceGT, Int.reduceGE, Nat.reduceEqDiff, Nat.reduceMul, Nat.reduceLT, Int.cast_ofNat_Int, Int.reduceLE, Int.reduceNeg, Int.reducePow, Int.reduceToNat, Int.reduceMul, Int.reduceAdd, Int.reduceSub, ofs_inj, ofs_app, emp_ofs, String.reduceAppend, String.reduceEq, Nat.reduceLeDiff, reduceIte, Bool.not_eq_true', Bool.not_true, Bool.not_false, exc_rt, rm_upd, upd_same, decide_true, decide_false, Bool.true_eq_false, tFor_eq, tComp, capt, tYes, cAll, cList, cEqA, cNeA, cEqL, cNeL, rIsT, kitVs, iRng1, iRng2, iRng3, gLst, gCons, gNil, iList, iTup, cFld, cSFld, cMethE, cSetL, cRep, cSl, cSlS, cPart, tNoPart, tSl, cAppend, cMin2, cMax2, cBM, cDGet2, cDGet, cDPut, keyV, gSub, tMakeE, atI_0, atI_1, atI_2, atI_3, atI_4, atI_5, atI_6, atI_7, atI_8, atI_9, atI_10, atI_11, atI_12, eq_self, not_true_eq_false, not_false_eq_true, decide_eq_false_iff_not, L2.start, cSum, cCat, cListR, cInD, cNotInD, cDPop, cLenD, cIsA, cIsNotA, isBl, cSorted, tComp2, cExtend, intsV_map, List.map_cons, List.map_nil, List.length_cons, List.length_nil, List.replicate, List.cons_append, List.nil_append, List.append_nil, List.getElem?_cons_zero, List.getElem?_cons_succ, List.set_cons_zero, List.set_cons_succ, V.int.injEq, V.bl.injEq, V.str.injEq, V.ref.injEq, V.ty.injEq, List.cons.injEq, Option.some.injEq, and_true, true_and, exists_eq_left', exists_and_left, exists_eq_left, exists_const, reduceCtorEq, false_and, and_false, exists_false, ite_true, ite_false, Bool.false_eq_true, decide_eq_true_eq, Nat.reduceSub, Nat.reduceAdd, Nat.sub_self, sz0, sz1, sz2, sz3, sz4, sz5, sz6, sz7, sz8, sz9, sz10, sz11, sz12, sz13, sz14, sz15, sz16, sz17, sz18, sz19, sz20, sz21, sz22, sz23, sz24, sz25, sz26, sz27, sz28, sz29, sz30, sz31, sz32, sz33, sz34, sz35, sz36, sz37, sz38, sz39, sz40, sz41, sz42, sz43, sz44, sz45, sz46, sz47, sz48, sz49, sz50, sz51, sz52, sz53, sz54, sz55, sz56, sz57, sz58, sz59, sz60, ln_0, ln_1, ln_2, ln_3, ln_4, ln_5, ln_6, ln_7, ln_8, ln_9, ln_10, ln_11, ln_12, ln_13, ln_14, ln_15, ln_16, ln_17, ln_18, ln_19, ln_20, ln_21, sp__law_cell_at]
    refine ⟨ns, hS, ns, hS, ?_⟩
    split
    · refine ⟨ns, hS, ?_⟩
      have hn : 2 ≤ 2 + cat ns 0 / 8 % 299 ∧ 2 + cat ns 0 / 8 % 299 ≤ 300 := by omega
      obtain ⟨n, en⟩ : ∃ n : Nat, 2 + cat ns 0 / 8 % 299 = n := ⟨(2 + cat ns 0 / 8 % 299).toNat, by omega⟩
      rw [en] at hn ⊢
      have hn1 : wi (V.int (n : Int)) 1 4000 = true := by simp [wi]; omega
      intro x dx hx' hdx hne
      refine ⟨x, dx, _, rfl, upd_same, True.intro, ?_⟩
      rw [if_pos hn1]
      intro q1 H2 hq1 m1 k1
      have sH2 : Same H H2 := fun b o e => k1 b o (Same.own hx' hdx b o e) (ne_of_none e hx')
      have hq0 : H q1 = none := (Same.own hx' hdx).free hq1
      refine ⟨rfl, fun r hr1 => ⟨by omega, by omega, ?_⟩⟩
      have hr0 : H r = none := sH2.free hr1
      rw [Int.toNat_natCast]
      rw [show (iv (V.int (n : Int))).toNat = n from rfl] at m1
      have nrq : r ≠ q1 := fun z => by rw [z, m1.ls] at hr1; cases hr1
      refine LoopW.range (fillP A.c_Memory a x q1 r n H) ⟨[], _, _, rfl, rfl, m1.same (Same.upd hr1), upd_same, sH2.trans (Same.upd hr1)⟩ ?_ ?_
      · rintro i σ H3 hi ⟨rs, v4, v5, rfl, hl3, m3, r3, s3⟩
        simp only [tRet, tRetN, tNext, tDrop, tSeq, tIfS, tTest, tB, tOp, tUn, tAnd, tOr, tNot, tAndV, tOrV, tNotV, tIf, tCB, tCons, tNil, tC, cVar, tLst, tTup, tAsg, gName, tCallE, tRaise, tTry, tDNewK, cAdd, cSub, cMul, cFdiv, cMod, cPow, cLt, cLe, cGt, cGe, cCmp, cEq, cNe, eqv, cIs, cIsNot, isNon, cNeg, tChain, rIxM, rIsi, kitV, cIx, cLen, cIxS, cLenS, cAbs, cInt, cxOf_K, TruV, and_assoc, CDiv, CMul, CPow, true_or, or_true, Int.reduceLT, Int.reduceEq, Int.reduceMod, Int.reduceDiv, Int.reduceNe, Int.reduceGT, Int.reduceGE, Nat.reduceEqDiff, Nat.reduceMul, Nat.reduceLT, Int.cast_ofNat_Int, Int.reduceLE, Int.reduceNeg, Int.reducePow, Int.reduceToNat, Int.reduceMul, Int.reduceAdd, Int.reduceSub, ofs_inj, ofs_app, emp_ofs, String.reduceAppend, String.reduceEq, Nat.reduceLeDiff, reduceIte, Bool.not_eq_true', Bool.not_true, Bool.not_false, exc_rt, rm_upd, upd_same, decide_true, decide_false, Bool.true_eq_false, tFor_eq, tComp, capt, tYes, cAll, cList, cEqA, cNeA, cEqL, cNeL, rIsT, kitVs, iRng1, iRng2, iRng3, gLst, gCons, gNil, iList, iTup, cFld, cSFld, cMethE, cSetL, cRep, cSl, cSlS, cPart, tNoPart, tSl, cAppend, cMin2, cMax2, cBM, cDGet2, cDGet, cDPut, keyV, gSub, tMakeE, atI_0, atI_1, atI_2, atI_3, atI_4, atI_5, atI_6, atI_7, atI_8, atI_9, atI_10, atI_11, atI_12, eq_self, not_true_eq_false, not_false_eq_true, decide_eq_false_iff_not, L2.start, cSum, cCat, cListR, cInD, cNotInD, cDPop, cLenD, cIsA, cIsNotA, isBl, cSorted, tComp2, cExtend, intsV_map, List.map_cons, List.map_nil, List.length_cons, List.length_nil, List.replicate, List.cons_append, List.nil_append, List.append_nil, List.getElem?_cons_zero, List.getElem?_cons_succ, List.set_cons_zero, List.set_cons_succ, V.int.injEq, V.bl.injEq, V.str.injEq, V.ref.injEq, V.ty.injEq, List.cons.injEq, Option.some.injEq, and_true, true_and, exists_eq_left', exists_and_left, exists_eq_left, exists_const, reduceCtorEq, false_and, and_false, exists_false, ite_true, ite_false, Bool.false_eq_true, decide_eq_true_eq, Nat.reduceSub, Nat.reduceAdd, Nat.sub_self, sz0, sz1, sz2, sz3, sz4, sz5, sz6, sz7, sz8, sz9, sz10, sz11, sz12, sz13, sz14, sz15, sz16, sz17, sz18, sz19, sz20, sz21, sz22, sz23, sz24, sz25, sz26, sz27, sz28, sz29, sz30, sz31, sz32, sz33, sz34, sz35, sz36, sz37, sz38, sz39, sz40, sz41, sz42, sz43, sz44, sz45, sz46, sz47, sz48, sz49, sz50, sz51, sz52, sz53, sz54, sz55, sz56, sz57, sz58, sz59, sz60, ln_0, ln_1, ln_2, ln_3, ln_4, ln_5, ln_6, ln_7, ln_8, ln_9, ln_10, ln_11, ln_12, ln_13, ln_14, ln_15, ln_16, ln_17, ln_18, ln_19, ln_20, ln_21, sp__law_cell_at]
        refine ⟨.inl ⟨by omega, by omega⟩, fun p hp => ⟨ns, (s3.trans (Same.upd hp)).seq hS, ?_⟩⟩
        split
        case h_2 =>
          rename_i hv
          exact at_ne (by omega) (by simp only [List.length_cons, List.length_nil]; omega) hv
        rename_i v hv
        obtain ⟨w, rfl, hw⟩ : ∃ w, v = .int w ∧ (kd (.int w)).isSome = true := by
          have hm := at_in hv
          simp only [List.mem_cons, List.not_mem_nil, or_false] at hm
          have hii : 0 ≤ (0 + (i : Int)) * (0 + (i : Int)) ∧ (0 + (i : Int)) * (0 + (i : Int)) ≤ 300 * 300 := ⟨Int.mul_nonneg (by omega) (by omega), Int.mul_le_mul (by omega) (by omega) (by omega) (by omega)⟩
          generalize (0 + (i : Int)) * (0 + (i : Int)) = ii at *
          rcases hm with rfl | rfl | rfl | rfl
          · exact ⟨_, rfl, by rw [kd_is, if_neg (by omega), if_pos (by omega)]; rfl⟩
          · exact ⟨_, rfl, by rw [kd_is, if_neg (by omega), if_neg (by omega), if_pos (by omega)]; rfl⟩
          · exact ⟨_, rfl, by rw [kd_is, if_pos rfl]; rfl⟩
          · exact ⟨_, rfl, by rw [kd_is, if_neg (by omega), if_pos (by omega)]; rfl⟩
        simp only [rm_upd hp]
        obtain ⟨dy, e3⟩ := m3.ob
        simp only [tRet, tRetN, tNext, tDrop, tSeq, tIfS, tTest, tB, tOp, tUn, tAnd, tOr, tNot, tAndV, tOrV, tNotV, tIf, tCB, tCons, tNil, tC, cVar, tLst, tTup, tAsg, gName, tCallE, tRaise, tTry, tDNewK, cAdd, cSub, cMul, cFdiv, cMod, cPow, cLt, cLe, cGt, cGe, cCmp, cEq, cNe, eqv, cIs, cIsNot, isNon, cNeg, tChain, rIxM, rIsi, kitV, cIx, cLen, cIxS, cLenS, cAbs, cInt, cxOf_K, TruV, and_assoc, CDiv, CMul, CPow, true_or, or_true, Int.reduceLT, Int.reduceEq, Int.reduceMod, Int.reduceDiv, Int.reduceNe, Int.reduceGT, Int.reduceGE, Nat.reduceEqDiff, Nat.reduceMul, Nat.reduceLT, Int.cast_ofNat_Int, Int.reduceLE, Int.reduceNeg, Int.reducePow, Int.reduceToNat, Int.reduceMul, Int.reduceAdd, Int.reduceSub, ofs_inj, ofs_app, emp_ofs, String.reduceAppend, String.reduceEq, Nat.reduceLeDiff, reduceIte, Bool.not_eq_true', Bool.not_true, Bool.not_false, exc_rt, rm_upd, upd_same, decide_true, decide_false, Bool.true_eq_false, tFor_eq, tComp, capt, tYes, cAll, cList, cEqA, cNeA, cEqL, cNeL, rIsT, kitVs, iRng1, iRng2, iRng3, gLst, gCons, gNil, iList, iTup, cFld, cSFld, cMethE, cSetL, cRep, cSl, cSlS, cPart, tNoPart, tSl, cAppend, cMin2, cMax2, cBM, cDGet2, cDGet, cDPut, keyV, gSub, tMakeE, atI_0, atI_1, atI_2, atI_3, atI_4, atI_5, atI_6, atI_7, atI_8, atI_9, atI_10, atI_11, atI_12, eq_self, not_true_eq_false, not_false_eq_true, decide_eq_false_iff_not, L2.start, cSum, cCat, cListR, cInD, cNotInD, cDPop, cLenD, cIsA, cIsNotA, isBl, cSorted, tComp2, cExtend, intsV_map, List.map_cons, List.map_nil, List.length_cons, List.length_nil, List.replicate, List.cons_append, List.nil_append, List.append_nil, List.getElem?_cons_zero, List.getElem?_cons_succ, List.set_cons_zero, List.set_cons_succ, V.int.injEq, V.bl.injEq, V.str.injEq, V.ref.injEq, V.ty.injEq, List.cons.injEq, Option.some.injEq, and_true, true_and, exists_eq_left', exists_and_left, exists_eq_left, exists_const, reduceCtorEq, false_and, and_false, exists_false, ite_true, ite_false, Bool.false_eq_true, decide_eq_true_eq, Nat.reduceSub, Nat.reduceAdd, Nat.sub_self, sz0, sz1, sz2, sz3, sz4, sz5, sz6, sz7, sz8, sz9, sz10, sz11, sz12, sz13, sz14, sz15, sz16, sz17, sz18, sz19, sz20, sz21, sz22, sz23, sz24, sz25, sz26, sz27, sz28, sz29, sz30, sz31, sz32, sz33, sz34, sz35, sz36, sz37, sz38, sz39, sz40, sz41, sz42, sz43, sz44, sz45, sz46, sz47, sz48, sz49, sz50, sz51, sz52, sz53, sz54, sz55, sz56, sz57, sz58, sz59, sz60, ln_0, ln_1, ln_2, ln_3, ln_4, ln_5, ln_6, ln_7, ln_8, ln_9, ln_10, ln_11, ln_12, ln_13, ln_14, ln_15, ln_16, ln_17, ln_18, ln_19, ln_20, ln_21, e3, mfl_wr]
        refine ⟨x, q1, _, _, _, rfl, m3, True.intro, True.intro, ?_⟩
        have hin : wi (V.int (0 + (i : Int))) 0 (((rs ++ List.replicate (n - i) (-1)).length : Int) - 1) = true := by
          rw [List.length_append, List.length_replicate, hl3]; simp [wi]; omega
        rw [if_pos hin]
        cases hkd : kd (.int w) with
        | none => rw [hkd] at hw; cases hw
        | some y =>
          dsimp only
          rw [upd_ne nrq, r3]
          dsimp only
          have eI : (iv (V.int (0 + (i : Int)))).toNat = i := by show (0 + (i : Int)).toNat = i; omega
          rw [eI, show iv (V.int w) = w from rfl]
          have e4 : (rs ++ List.replicate (n - i) (-1)).set i w = (rs ++ [w]) ++ List.replicate (n - (i + 1)) (-1) := by subst hl3; exact set_fill hi
          have m5 := m3.put i w
          rw [e4] at m5 ⊢
          have nxr : x ≠ r := fun z => by rw [z, r3] at e3; cases e3
          refine ⟨by rw [List.length_map, hl3]; exact Nat.lt_of_lt_of_le (show i < 4000 by omega) (by decide), rs ++ [w], _, _, rfl, by simp [hl3], m5.keep fun b o eb hb => ?_, ?_, (s3.put hq0).put hr0⟩
          · rw [upd_ne (by rcases hb with rfl | rfl; exact nxr; exact Ne.symm nrq)]; exact eb
          · rw [upd_same]; simp
      · rintro σ H3 ⟨rs, v4, v5, rfl, hl3, m3, r3, s3⟩
        rw [Nat.sub_self, List.replicate_zero, List.append_nil] at m3
        simp only [tRet, tRetN, tNext, tDrop, tSeq, tIfS, tTest, tB, tOp, tUn, tAnd, tOr, tNot, tAndV, tOrV, tNotV, tIf, tCB, tCons, tNil, tC, cVar, tLst, tTup, tAsg, gName, tCallE, tRaise, tTry, tDNewK, cAdd, cSub, cMul, cFdiv, cMod, cPow, cLt, cLe, cGt, cGe, cCmp, cEq, cNe, eqv, cIs, cIsNot, isNon, cNeg, tChain, rIxM, rIsi, kitV, cIx, cLen, cIxS, cLenS, cAbs, cInt, cxOf_K, TruV, and_assoc, CDiv, CMul, CPow, true_or, or_true, Int.reduceLT, Int.reduceEq, Int.reduceMod, Int.reduceDiv, Int.reduceNe, Int.reduceGT, Int.reduceGE, Nat.reduceEqDiff, Nat.reduceMul, Nat.reduceLT, Int.cast_ofNat_Int, Int.reduceLE, Int.reduceNeg, Int.reducePow, Int.reduceToNat, Int.reduceMul, Int.reduceAdd, Int.reduceSub, ofs_inj, ofs_app, emp_ofs, String.reduceAppend, String.reduceEq, Nat.reduceLeDiff, reduceIte, Bool.not_eq_true', Bool.not_true, Bool.not_false, exc_rt, rm_upd, upd_same, decide_true, decide_false, Bool.true_eq_false, tFor_eq, tComp, capt, tYes, cAll, cList, cEqA, cNeA, cEqL, cNeL, rIsT, kitVs, iRng1, iRng2, iRng3, gLst, gCons, gNil, iList, iTup, cFld, cSFld, cMethE, cSetL, cRep, cSl, cSlS, cPart, tNoPart, tSl, cAppend, cMin2, cMax2, cBM, cDGet2, cDGet, cDPut, keyV, gSub, tMakeE, atI_0, atI_1, atI_2, atI_3, atI_4, atI_5, atI_6, atI_7, atI_8, atI_9, atI_10, atI_11, atI_12, eq_self, not_true_eq_false, not_false_eq_true, decide_eq_false_iff_not, L2.start, cSum, cCat, cListR, cInD, cNotInD, cDPop, cLenD, cIsA, cIsNotA, isBl, cSorted, tComp2, cExtend, intsV_map, List.map_cons, List.map_nil, List.length_cons, List.length_nil, List.replicate, List.cons_append, List.nil_append, List.append_nil, List.getElem?_cons_zero, List.getElem?_cons_succ, List.set_cons_zero, List.set_cons_succ, V.int.injEq, V.bl.injEq, V.str.injEq, V.ref.injEq, V.ty.injEq, List.cons.injEq, Option.some.injEq, and_true, true_and, exists_eq_left', exists_and_left, exists_eq_left, exists_const, reduceCtorEq, false_and, and_false, exists_false, ite_true, ite_false, Bool.false_eq_true, decide_eq_true_eq, Nat.reduceSub, Nat.reduceAdd, Nat.sub_self, sz0, sz1, sz2, sz3, sz4, sz5, sz6, sz7, sz8, sz9, sz10, sz11, sz12, sz13, sz14, sz15, sz16, sz17, sz18, sz19, sz20, sz21, sz22, sz23, sz24, sz25, sz26, sz27, sz28, sz29, sz30, sz31, sz32, sz33, sz34, sz35, sz36, sz37, sz38, sz39, sz40, sz41, sz42, sz43, sz44, sz45, sz46, sz47, sz48, sz49, sz50, sz51, sz52, sz53, sz54, sz55, sz56, sz57, sz58, sz59, sz60, ln_0, ln_1, ln_2, ln_3, ln_4, ln_5, ln_6, ln_7, ln_8, ln_9, ln_10, ln_11, ln_12, ln_13, ln_14, ln_15, ln_16, ln_17, ln_18, ln_19, ln_20, ln_21]
        refine ⟨_, s3.seq hS, ?_⟩
        rw [List.length_map]
        refine ⟨by split <;> omega, by split <;> omega, ?_⟩
        refine LoopW.rangeS (mainP A.c_Memory a x q1 r n H) ⟨rs, _, _, _, _, _, _, _, rfl, hl3, m3, r3, s3⟩ ?_ fun σ H4 _ => ?_
        · rintro i σ H4 hi ⟨ws, v4, v5, v6, v7, v8, v9, v10, rfl, hl4, m4, r4, s4⟩
          simp only [tRet, tRetN, tNext, tDrop, tSeq, tIfS, tTest, tB, tOp, tUn, tAnd, tOr, tNot, tAndV, tOrV, tNotV, tIf, tCB, tCons, tNil, tC, cVar, tLst, tTup, tAsg, gName, tCallE, tRaise, tTry, tDNewK, cAdd, cSub, cMul, cFdiv, cMod, cPow, cLt, cLe, cGt, cGe, cCmp, cEq, cNe, eqv, cIs, cIsNot, isNon, cNeg, tChain, rIxM, rIsi, kitV, cIx, cLen, cIxS, cLenS, cAbs, cInt, cxOf_K, TruV, and_assoc, CDiv, CMul, CPow, true_or, or_true, Int.reduceLT, Int.reduceEq, Int.reduceMod, Int.reduceDiv, Int.reduceNe, Int.reduceGT, Int.reduceGE, Nat.reduceEqDiff, Nat.reduceMul, Nat.reduceLT, Int.cast_ofNat_Int, Int.reduceLE, Int.reduceNeg, Int.reducePow, Int.reduceToNat, Int.reduceMul, Int.reduceAdd, Int.reduceSub, ofs_inj, ofs_app, emp_ofs, String.reduceAppend, String.reduceEq, Nat.reduceLeDiff, reduceIte, Bool.not_eq_true', Bool.not_true, Bool.not_false, exc_rt, rm_upd, upd_same, decide_true, decide_false, Bool.true_eq_false, tFor_eq, tComp, capt, tYes, cAll, cList, cEqA, cNeA, cEqL, cNeL, rIsT, kitVs, iRng1, iRng2, iRng3, gLst, gCons, gNil, iList, iTup, cFld, cSFld, cMethE, cSetL, cRep, cSl, cSlS, cPart, tNoPart, tSl, cAppend, cMin2, cMax2, cBM, cDGet2, cDGet, cDPut, keyV, gSub, tMakeE, atI_0, atI_1, atI_2, atI_3, atI_4, atI_5, atI_6, atI_7, atI_8, atI_9, atI_10, atI_11, atI_12, eq_self, not_true_eq_false, not_false_eq_true, decide_eq_false_iff_not, L2.start, cSum, cCat, cListR, cInD, cNotInD, cDPop, cLenD, cIsA, cIsNotA, isBl, cSorted, tComp2, cExtend, intsV_map, List.map_cons, List.map_nil, List.length_cons, List.length_nil, List.replicate, List.cons_append, List.nil_append, List.append_nil, List.getElem?_cons_zero, List.getElem?_cons_succ, List.set_cons_zero, List.set_cons_succ, V.int.injEq, V.bl.injEq, V.str.injEq, V.ref.injEq, V.ty.injEq, List.cons.injEq, Option.some.injEq, and_true, true_and, exists_eq_left', exists_and_left, exists_eq_left, exists_const, reduceCtorEq, false_and, and_false, exists_false, ite_true, ite_false, Bool.false_eq_true, decide_eq_true_eq, Nat.reduceSub, Nat.reduceAdd, Nat.sub_self, sz0, sz1, sz2, sz3, sz4, sz5, sz6, sz7, sz8, sz9, sz10, sz11, sz12, sz13, sz14, sz15, sz16, sz17, sz18, sz19, sz20, sz21, sz22, sz23, sz24, sz25, sz26, sz27, sz28, sz29, sz30, sz31, sz32, sz33, sz34, sz35, sz36, sz37, sz38, sz39, sz40, sz41, sz42, sz43, sz44, sz45, sz46, sz47, sz48, sz49, sz50, sz51, sz52, sz53, sz54, sz55, sz56, sz57, sz58, sz59, sz60, ln_0, ln_1, ln_2, ln_3, ln_4, ln_5, ln_6, ln_7, ln_8, ln_9, ln_10, ln_11, ln_12, ln_13, ln_14, ln_15, ln_16, ln_17, ln_18, ln_19, ln_20, ln_21]
          refine ⟨a, ns, _, _, rfl, s4.seq hS, by omega, by omega, by omega, fun p5 H5 y1 y2 y3 s5 e5 k1' k2' k3' => ?_⟩
          simp only [tRet, tRetN, tNext, tDrop, tSeq, tIfS, tTest, tB, tOp, tUn, tAnd, tOr, tNot, tAndV, tOrV, tNotV, tIf, tCB, tCons, tNil, tC, cVar, tLst, tTup, tAsg, gName, tCallE, tRaise, tTry, tDNewK, cAdd, cSub, cMul, cFdiv, cMod, cPow, cLt, cLe, cGt, cGe, cCmp, cEq, cNe, eqv, cIs, cIsNot, isNon, cNeg, tChain, rIxM, rIsi, kitV, cIx, cLen, cIxS, cLenS, cAbs, cInt, cxOf_K, TruV, and_assoc, CDiv, CMul, CPow, true_or, or_true, Int.reduceLT, Int.reduceEq, Int.reduceMod, Int.reduceDiv, Int.reduceNe, Int.reduceGT, Int.reduceGE, Nat.reduceEqDiff, Nat.reduceMul, Nat.reduceLT, Int.cast_ofNat_Int, Int.reduceLE, Int.reduceNeg, Int.reducePow, Int.reduceToNat, Int.reduceMul, Int.reduceAdd, Int.reduceSub, ofs_inj, ofs_app, emp_ofs, String.reduceAppend, String.reduceEq, Nat.reduceLeDiff, reduceIte, Bool.not_eq_true', Bool.not_true, Bool.not_false, exc_rt, rm_upd, upd_same, decide_true, decide_false, Bool.true_eq_false, tFor_eq, tComp, capt, tYes, cAll, cList, cEqA, cNeA, cEqL, cNeL, rIsT, kitVs, iRng1, iRng2, iRng3, gLst, gCons, gNil, iList, iTup, cFld, cSFld, cMethE, cSetL, cRep, cSl, cSlS, cPart, tNoPart, tSl, cAppend, cMin2, cMax2, cBM, cDGet2, cDGet, cDPut, keyV, gSub, tMakeE, atI_0, atI_1, atI_2, atI_3, atI_4, atI_5, atI_6, atI_7, atI_8, atI_9, atI_10, atI_11, atI_12, eq_self, not_true_eq_false, not_false_eq_true, decide_eq_false_iff_not, L2.start, cSum, cCat, cListR, cInD, cNotInD, cDPop, cLenD, cIsA, cIsNotA, isBl, cSorted, tComp2, cExtend, intsV_map, List.map_cons, List.map_nil, List.length_cons, List.length_nil, List.replicate, List.cons_append, List.nil_append, List.append_nil, List.getElem?_cons_zero, List.getElem?_cons_succ, List.set_cons_zero, List.set_cons_succ, V.int.injEq, V.bl.injEq, V.str.injEq, V.ref.injEq, V.ty.injEq, List.cons.injEq, Option.some.injEq, and_true, true_and, exists_eq_left', exists_and_left, exists_eq_left, exists_const, reduceCtorEq, false_and, and_false, exists_false, ite_true, ite_false, Bool.false_eq_true, decide_eq_true_eq, Nat.reduceSub, Nat.reduceAdd, Nat.sub_self, sz0, sz1, sz2, sz3, sz4, sz5, sz6, sz7, sz8, sz9, sz10, sz11, sz12, sz13, sz14, sz15, sz16, sz17, sz18, sz19, sz20, sz21, sz22, sz23, sz24, sz25, sz26, sz27, sz28, sz29, sz30, sz31, sz32, sz33, sz34, sz35, sz36, sz37, sz38, sz39, sz40, sz41, sz42, sz43, sz44, sz45, sz46, sz47, sz48, sz49, sz50, sz51, sz52, sz53, sz54, sz55, sz56, sz57, sz58, sz59, sz60, ln_0, ln_1, ln_2, ln_3, ln_4, ln_5, ln_6, ln_7, ln_8, ln_9, ln_10, ln_11, ln_12, ln_13, ln_14, ln_15, ln_16, ln_17, ln_18, ln_19, ln_20, ln_21, e5]
          refine ⟨x, q1, ws, r, _, _, _, rfl, m4.same s5, s5 _ _ r4, nrq, k1', k2', k3', by omega, fun H6 ws6 m6 r6 l6 b6 => ⟨true, rfl, ?_⟩⟩
          have s6 : Same H H6 := fun b o e => b6 b o (s5 b o (s4 b o e)) (ne_of_none e hq0) (ne_of_none e hr0)
          simp only [tRet, tRetN, tNext, tDrop, tSeq, tIfS, tTest, tB, tOp, tUn, tAnd, tOr, tNot, tAndV, tOrV, tNotV, tIf, tCB, tCons, tNil, tC, cVar, tLst, tTup, tAsg, gName, tCallE, tRaise, tTry, tDNewK, cAdd, cSub, cMul, cFdiv, cMod, cPow, cLt, cLe, cGt, cGe, cCmp, cEq, cNe, eqv, cIs, cIsNot, isNon, cNeg, tChain, rIxM, rIsi, kitV, cIx, cLen, cIxS, cLenS, cAbs, cInt, cxOf_K, TruV, and_assoc, CDiv, CMul, CPow, true_or, or_true, Int.reduceLT, Int.reduceEq, Int.reduceMod, Int.reduceDiv, Int.reduceNe, Int.reduceGT, Int.reduceGE, Nat.reduceEqDiff, Nat.reduceMul, Nat.reduceLT, Int.cast_ofNat_Int, Int.reduceLE, Int.reduceNeg, Int.reducePow, Int.reduceToNat, Int.reduceMul, Int.reduceAdd, Int.reduceSub, ofs_inj, ofs_app, emp_ofs, String.reduceAppend, String.reduceEq, Nat.reduceLeDiff, reduceIte, Bool.not_eq_true', Bool.not_true, Bool.not_false, exc_rt, rm_upd, upd_same, decide_true, decide_false, Bool.true_eq_false, tFor_eq, tComp, capt, tYes, cAll, cList, cEqA, cNeA, cEqL, cNeL, rIsT, kitVs, iRng1, iRng2, iRng3, gLst, gCons, gNil, iList, iTup, cFld, cSFld, cMethE, cSetL, cRep, cSl, cSlS, cPart, tNoPart, tSl, cAppend, cMin2, cMax2, cBM, cDGet2, cDGet, cDPut, keyV, gSub, tMakeE, atI_0, atI_1, atI_2, atI_3, atI_4, atI_5, atI_6, atI_7, atI_8, atI_9, atI_10, atI_11, atI_12, eq_self, not_true_eq_false, not_false_eq_true, decide_eq_false_iff_not, L2.start, cSum, cCat, cListR, cInD, cNotInD, cDPop, cLenD, cIsA, cIsNotA, isBl, cSorted, tComp2, cExtend, intsV_map, List.map_cons, List.map_nil, List.length_cons, List.length_nil, List.replicate, List.cons_append, List.nil_append, List.append_nil, List.getElem?_cons_zero, List.getElem?_cons_succ, List.set_cons_zero, List.set_cons_succ, V.int.injEq, V.bl.injEq, V.str.injEq, V.ref.injEq, V.ty.injEq, List.cons.injEq, Option.some.injEq, and_true, true_and, exists_eq_left', exists_and_left, exists_eq_left, exists_const, reduceCtorEq, false_and, and_false, exists_false, ite_true, ite_false, Bool.false_eq_true, decide_eq_true_eq, Nat.reduceSub, Nat.reduceAdd, Nat.sub_self, sz0, sz1, sz2, sz3, sz4, sz5, sz6, sz7, sz8, sz9, sz10, sz11, sz12, sz13, sz14, sz15, sz16, sz17, sz18, sz19, sz20, sz21, sz22, sz23, sz24, sz25, sz26, sz27, sz28, sz29, sz30, sz31, sz32, sz33, sz34, sz35, sz36, sz37, sz38, sz39, sz40, sz41, sz42, sz43, sz44, sz45, sz46, sz47, sz48, sz49, sz50, sz51, sz52, sz53, sz54, sz55, sz56, sz57, sz58, sz59, sz60, ln_0, ln_1, ln_2, ln_3, ln_4, ln_5, ln_6, ln_7, ln_8, ln_9, ln_10, ln_11, ln_12, ln_13, ln_14, ln_15, ln_16, ln_17, ln_18, ln_19, ln_20, ln_21]
          refine ⟨by omega, by omega, ?_⟩
          rw [Int.toNat_natCast]
          refine LoopW.range (innerP a x r n v5 (some (V.int (2 + ↑i * 3))) (some y1) (some y2) (some y3) H6) ⟨rfl, _, _, rfl⟩ ?_ ?_
          · rintro t σ H7 ht ⟨rfl, v4', v10', rfl⟩
            obtain ⟨dz, e6⟩ := m6.ob
            simp only [tRet, tRetN, tNext, tDrop, tSeq, tIfS, tTest, tB, tOp, tUn, tAnd, tOr, tNot, tAndV, tOrV, tNotV, tIf, tCB, tCons, tNil, tC, cVar, tLst, tTup, tAsg, gName, tCallE, tRaise, tTry, tDNewK, cAdd, cSub, cMul, cFdiv, cMod, cPow, cLt, cLe, cGt, cGe, cCmp, cEq, cNe, eqv, cIs, cIsNot, isNon, cNeg, tChain, rIxM, rIsi, kitV, cIx, cLen, cIxS, cLenS, cAbs, cInt, cxOf_K, TruV, and_assoc, CDiv, CMul, CPow, true_or, or_true, Int.reduceLT, Int.reduceEq, Int.reduceMod, Int.reduceDiv, Int.reduceNe, Int.reduceGT, Int.reduceGE, Nat.reduceEqDiff, Nat.reduceMul, Nat.reduceLT, Int.cast_ofNat_Int, Int.reduceLE, Int.reduceNeg, Int.reducePow, Int.reduceToNat, Int.reduceMul, Int.reduceAdd, Int.reduceSub, ofs_inj, ofs_app, emp_ofs, String.reduceAppend, String.reduceEq, Nat.reduceLeDiff, reduceIte, Bool.not_eq_true', Bool.not_true, Bool.not_false, exc_rt, rm_upd, upd_same, decide_true, decide_false, Bool.true_eq_false, tFor_eq, tComp, capt, tYes, cAll, cList, cEqA, cNeA, cEqL, cNeL, rIsT, kitVs, iRng1, iRng2, iRng3, gLst, gCons, gNil, iList, iTup, cFld, cSFld, cMethE, cSetL, cRep, cSl, cSlS, cPart, tNoPart, tSl, cAppend, cMin2, cMax2, cBM, cDGet2, cDGet, cDPut, keyV, gSub, tMakeE, atI_0, atI_1, atI_2, atI_3, atI_4, atI_5, atI_6, atI_7, atI_8, atI_9, atI_10, atI_11, atI_12, eq_self, not_true_eq_false, not_false_eq_true, decide_eq_false_iff_not, L2.start, cSum, cCat, cListR, cInD, cNotInD, cDPop, cLenD, cIsA, cIsNotA, isBl, cSorted, tComp2, cExtend, intsV_map, List.map_cons, List.map_nil, List.length_cons, List.length_nil, List.replicate, List.cons_append, List.nil_append, List.append_nil, List.getElem?_cons_zero, List.getElem?_cons_succ, List.set_cons_zero, List.set_cons_succ, V.int.injEq, V.bl.injEq, V.str.injEq, V.ref.injEq, V.ty.injEq, List.cons.injEq, Option.some.injEq, and_true, true_and, exists_eq_left', exists_and_left, exists_eq_left, exists_const, reduceCtorEq, false_and, and_false, exists_false, ite_true, ite_false, Bool.false_eq_true, decide_eq_true_eq, Nat.reduceSub, Nat.reduceAdd, Nat.sub_self, sz0, sz1, sz2, sz3, sz4, sz5, sz6, sz7, sz8, sz9, sz10, sz11, sz12, sz13, sz14, sz15, sz16, sz17, sz18, sz19, sz20, sz21, sz22, sz23, sz24, sz25, sz26, sz27, sz28, sz29, sz30, sz31, sz32, sz33, sz34, sz35, sz36, sz37, sz38, sz39, sz40, sz41, sz42, sz43, sz44, sz45, sz46, sz47, sz48, sz49, sz50, sz51, sz52, sz53, sz54, sz55, sz56, sz57, sz58, sz59, sz60, ln_0, ln_1, ln_2, ln_3, ln_4, ln_5, ln_6, ln_7, ln_8, ln_9, ln_10, ln_11, ln_12, ln_13, ln_14, ln_15, ln_16, ln_17, ln_18, ln_19, ln_20, ln_21, e6, mfl_rd]
            refine ⟨x, q1, ws6, _, rfl, m6, True.intro, ?_⟩
            rw [if_pos (show wi (V.int (0 + (t : Int))) 0 ((ws6.length : Int) - 1) = true by simp [wi]; omega), show (iv (V.int (0 + (t : Int)))).toNat = t by show (0 + (t : Int)).toNat = t; omega]
            have ea := at_nat (ks := ws6) (t := t) (by omega)
            simp only [tRet, tRetN, tNext, tDrop, tSeq, tIfS, tTest, tB, tOp, tUn, tAnd, tOr, tNot, tAndV, tOrV, tNotV, tIf, tCB, tCons, tNil, tC, cVar, tLst, tTup, tAsg, gName, tCallE, tRaise, tTry, tDNewK, cAdd, cSub, cMul, cFdiv, cMod, cPow, cLt, cLe, cGt, cGe, cCmp, cEq, cNe, eqv, cIs, cIsNot, isNon, cNeg, tChain, rIxM, rIsi, kitV, cIx, cLen, cIxS, cLenS, cAbs, cInt, cxOf_K, TruV, and_assoc, CDiv, CMul, CPow, true_or, or_true, Int.reduceLT, Int.reduceEq, Int.reduceMod, Int.reduceDiv, Int.reduceNe, Int.reduceGT, Int.reduceGE, Nat.reduceEqDiff, Nat.reduceMul, Nat.reduceLT, Int.cast_ofNat_Int, Int.reduceLE, Int.reduceNeg, Int.reducePow, Int.reduceToNat, Int.reduceMul, Int.reduceAdd, Int.reduceSub, ofs_inj, ofs_app, emp_ofs, String.reduceAppend, String.reduceEq, Nat.reduceLeDiff, reduceIte, Bool.not_eq_true', Bool.not_true, Bool.not_false, exc_rt, rm_upd, upd_same, decide_true, decide_false, Bool.true_eq_false, tFor_eq, tComp, capt, tYes, cAll, cList, cEqA, cNeA, cEqL, cNeL, rIsT, kitVs, iRng1, iRng2, iRng3, gLst, gCons, gNil, iList, iTup, cFld, cSFld, cMethE, cSetL, cRep, cSl, cSlS, cPart, tNoPart, tSl, cAppend, cMin2, cMax2, cBM, cDGet2, cDGet, cDPut, keyV, gSub, tMakeE, atI_0, atI_1, atI_2, atI_3, atI_4, atI_5, atI_6, atI_7, atI_8, atI_9, atI_10, atI_11, atI_12, eq_self, not_true_eq_false, not_false_eq_true, decide_eq_false_iff_not, L2.start, cSum, cCat, cListR, cInD, cNotInD, cDPop, cLenD, cIsA, cIsNotA, isBl, cSorted, tComp2, cExtend, intsV_map, List.map_cons, List.map_nil, List.length_cons, List.length_nil, List.replicate, List.cons_append, List.nil_append, List.append_nil, List.getElem?_cons_zero, List.getElem?_cons_succ, List.set_cons_zero, List.set_cons_succ, V.int.injEq, V.bl.injEq, V.str.injEq, V.ref.injEq, V.ty.injEq, List.cons.injEq, Option.some.injEq, and_true, true_and, exists_eq_left', exists_and_left, exists_eq_left, exists_const, reduceCtorEq, false_and, and_false, exists_false, ite_true, ite_false, Bool.false_eq_true, decide_eq_true_eq, Nat.reduceSub, Nat.reduceAdd, Nat.sub_self, sz0, sz1, sz2, sz3, sz4, sz5, sz6, sz7, sz8, sz9, sz10, sz11, sz12, sz13, sz14, sz15, sz16, sz17, sz18, sz19, sz20, sz21, sz22, sz23, sz24, sz25, sz26, sz27, sz28, sz29, sz30, sz31, sz32, sz33, sz34, sz35, sz36, sz37, sz38, sz39, sz40, sz41, sz42, sz43, sz44, sz45, sz46, sz47, sz48, sz49, sz50, sz51, sz52, sz53, sz54, sz55, sz56, sz57, sz58, sz59, sz60, ln_0, ln_1, ln_2, ln_3, ln_4, ln_5, ln_6, ln_7, ln_8, ln_9, ln_10, ln_11, ln_12, ln_13, ln_14, ln_15, ln_16, ln_17, ln_18, ln_19, ln_20, ln_21, sp__law_whole, isI, Kn, r6, Int.zero_add, ea]
            exact ⟨rfl, _, _, rfl⟩
          · rintro σ H7 ⟨rfl, v4', v10', rfl⟩
            exact ⟨ws6, _, _, _, _, _, _, _, rfl, l6.trans hl4, m6, r6, s6⟩
        · simp only [tRet, tRetN, tNext, tDrop, tSeq, tIfS, tTest, tB, tOp, tUn, tAnd, tOr, tNot, tAndV, tOrV, tNotV, tIf, tCB, tCons, tNil, tC, cVar, tLst, tTup, tAsg, gName, tCallE, tRaise, tTry, tDNewK, cAdd, cSub, cMul, cFdiv, cMod, cPow, cLt, cLe, cGt, cGe, cCmp, cEq, cNe, eqv, cIs, cIsNot, isNon, cNeg, tChain, rIxM, rIsi, kitV, cIx, cLen, cIxS, cLenS, cAbs, cInt, cxOf_K, TruV, and_assoc, CDiv, CMul, CPow, true_or, or_true, Int.reduceLT, Int.reduceEq, Int.reduceMod, Int.reduceDiv, Int.reduceNe, Int.reduceGT, Int.reduceGE, Nat.reduceEqDiff, Nat.reduceMul, Nat.reduceLT, Int.cast_ofNat_Int, Int.reduceLE, Int.reduceNeg, Int.reducePow, Int.reduceToNat, Int.reduceMul, Int.reduceAdd, Int.reduceSub, ofs_inj, ofs_app, emp_ofs, String.reduceAppend, String.reduceEq, Nat.reduceLeDiff, reduceIte, Bool.not_eq_true', Bool.not_true, Bool.not_false, exc_rt, rm_upd, upd_same, decide_true, decide_false, Bool.true_eq_false, tFor_eq, tComp, capt, tYes, cAll, cList, cEqA, cNeA, cEqL, cNeL, rIsT, kitVs, iRng1, iRng2, iRng3, gLst, gCons, gNil, iList, iTup, cFld, cSFld, cMethE, cSetL, cRep, cSl, cSlS, cPart, tNoPart, tSl, cAppend, cMin2, cMax2, cBM, cDGet2, cDGet, cDPut, keyV, gSub, tMakeE, atI_0, atI_1, atI_2, atI_3, atI_4, atI_5, atI_6, atI_7, atI_8, atI_9, atI_10, atI_11, atI_12, eq_self, not_true_eq_false, not_false_eq_true, decide_eq_false_iff_not, L2.start, cSum, cCat, cListR, cInD, cNotInD, cDPop, cLenD, cIsA, cIsNotA, isBl, cSorted, tComp2, cExtend, intsV_map, List.map_cons, List.map_nil, List.length_cons, List.length_nil, List.replicate, List.cons_append, List.nil_append, List.append_nil, List.getElem?_cons_zero, List.getElem?_cons_succ, List.set_cons_zero, List.set_cons_succ, V.int.injEq, V.bl.injEq, V.str.injEq, V.ref.injEq, V.ty.injEq, List.cons.injEq, Option.some.injEq, and_true, true_and, exists_eq_left', exists_and_left, exists_eq_left, exists_const, reduceCtorEq, false_and, and_false, exists_false, ite_true, ite_false, Bool.false_eq_true, decide_eq_true_eq, Nat.reduceSub, Nat.reduceAdd, Nat.sub_self, sz0, sz1, sz2, sz3, sz4, sz5, sz6, sz7, sz8, sz9, sz10, sz11, sz12, sz13, sz14, sz15, sz16, sz17, sz18, sz19, sz20, sz21, sz22, sz23, sz24, sz25, sz26, sz27, sz28, sz29, sz30, sz31, sz32, sz33, sz34, sz35, sz36, sz37, sz38, sz39, sz40, sz41, sz42, sz43, sz44, sz45, sz46, sz47, sz48, sz49, sz50, sz51, sz52, sz53, sz54, sz55, sz56, sz57, sz58, sz59, sz60, ln_0, ln_1, ln_2, ln_3, ln_4, ln_5, ln_6, ln_7, ln_8, ln_9, ln_10, ln_11, ln_12, ln_13, ln_14, ln_15, ln_16, ln_17, ln_18, ln_19, ln_20, ln_21]
          exact q _
    · have hn : 2 ≤ 2 + cat ns 0 / 8 % 39 ∧ 2 + cat ns 0 / 8 % 39 ≤ 300 := by omega
      obtain ⟨n, en⟩ : ∃ n : Nat, 2 + cat ns 0 / 8 % 39 = n := ⟨(2 + cat ns 0 / 8 % 39).toNat, by omega⟩
      rw [en] at hn ⊢
      have hn1 : wi (V.int (n : Int)) 1 4000 = true := by simp [wi]; omega
      intro x dx hx' hdx hne
      refine ⟨x, dx, _, rfl, upd_same, True.intro, ?_⟩
      rw [if_pos hn1]
      intro q1 H2 hq1 m1 k1
      have sH2 : Same H H2 := fun b o e => k1 b o (Same.own hx' hdx b o e) (ne_of_none e hx')
      have hq0 : H q1 = none := (Same.own hx' hdx).free hq1
      refine ⟨rfl, fun r hr1 => ⟨by omega, by omega, ?_⟩⟩
      have hr0 : H r = none := sH2.free hr1
      rw [Int.toNat_natCast]
      rw [show (iv (V.int (n : Int))).toNat = n from rfl] at m1
      have nrq : r ≠ q1 := fun z => by rw [z, m1.ls] at hr1; cases hr1
      refine LoopW.range (fillP A.c_Memory a x q1 r n H) ⟨[], _, _, rfl, rfl, m1.same (Same.upd hr1), upd_same, sH2.trans (Same.upd hr1)⟩ ?_ ?_
      · rintro i σ H3 hi ⟨rs, v4, v5, rfl, hl3, m3, r3, s3⟩
        simp only [tRet, tRetN, tNext, tDrop, tSeq, tIfS, tTest, tB, tOp, tUn, tAnd, tOr, tNot, tAndV, tOrV, tNotV, tIf, tCB, tCons, tNil, tC, cVar, tLst, tTup, tAsg, gName, tCallE, tRaise, tTry, tDNewK, cAdd, cSub, cMul, cFdiv, cMod, cPow, cLt, cLe, cGt, cGe, cCmp, cEq, cNe, eqv, cIs, cIsNot, isNon, cNeg, tChain, rIxM, rIsi, kitV, cIx, cLen, cIxS, cLenS, cAbs, cInt, cxOf_K, TruV, and_assoc, CDiv, CMul, CPow, true_or, or_true, Int.reduceLT, Int.reduceEq, Int.reduceMod, Int.reduceDiv, Int.reduceNe, Int.reduceGT, Int.reduceGE, Nat.reduceEqDiff, Nat.reduceMul, Nat.reduceLT, Int.cast_ofNat_Int, Int.reduceLE, Int.reduceNeg, Int.reducePow, Int.reduceToNat, Int.reduceMul, Int.reduceAdd, Int.reduceSub, ofs_inj, ofs_app, emp_ofs, String.reduceAppend, String.reduceEq, Nat.reduceLeDiff, reduceIte, Bool.not_eq_true', Bool.not_true, Bool.not_false, exc_rt, rm_upd, upd_same, decide_true, decide_false, Bool.true_eq_false, tFor_eq, tComp, capt, tYes, cAll, cList, cEqA, cNeA, cEqL, cNeL, rIsT, kitVs, iRng1, iRng2, iRng3, gLst, gCons, gNil, iList, iTup, cFld, cSFld, cMethE, cSetL, cRep, cSl, cSlS, cPart, tNoPart, tSl, cAppend, cMin2, cMax2, cBM, cDGet2, cDGet, cDPut, keyV, gSub, tMakeE, atI_0, atI_1, atI_2, atI_3, atI_4, atI_5, atI_6, atI_7, atI_8, atI_9, atI_10, atI_11, atI_12, eq_self, not_true_eq_false, not_false_eq_true, decide_eq_false_iff_not, L2.start, cSum, cCat, cListR, cInD, cNotInD, cDPop, cLenD, cIsA, cIsNotA, isBl, cSorted, tComp2, cExtend, intsV_map, List.map_cons, List.map_nil, List.length_cons, List.length_nil, List.replicate, List.cons_append, List.nil_append, List.append_nil, List.getElem?_cons_zero, List.getElem?_cons_succ, List.set_cons_zero, List.set_cons_succ, V.int.injEq, V.bl.injEq, V.str.injEq, V.ref.injEq, V.ty.injEq, List.cons.injEq, Option.some.injEq, and_true, true_and, exists_eq_left', exists_and_left, exists_eq_left, exists_const, reduceCtorEq, false_and, and_false, exists_false, ite_true, ite_false, Bool.false_eq_true, decide_eq_true_eq, Nat.reduceSub, Nat.reduceAdd, Nat.sub_self, sz0, sz1, sz2, sz3, sz4, sz5, sz6, sz7, sz8, sz9, sz10, sz11, sz12, sz13, sz14, sz15, sz16, sz17, sz18, sz19, sz20, sz21, sz22, sz23, sz24, sz25, sz26, sz27, sz28, sz29, sz30, sz31, sz32, sz33, sz34, sz35, sz36, sz37, sz38, sz39, sz40, sz41, sz42, sz43, sz44, sz45, sz46, sz47, sz48, sz49, sz50, sz51, sz52, sz53, sz54, sz55, sz56, sz57, sz58, sz59, sz60, ln_0, ln_1, ln_2, ln_3, ln_4, ln_5, ln_6, ln_7, ln_8, ln_9, ln_10, ln_11, ln_12, ln_13, ln_14, ln_15, ln_16, ln_17, ln_18, ln_19, ln_20, ln_21, sp__law_cell_at]
        refine ⟨.inl ⟨by omega, by omega⟩, fun p hp => ⟨ns, (s3.trans (Same.upd hp)).seq hS, ?_⟩⟩
        split
        case h_2 =>
          rename_i hv
          exact at_ne (by omega) (by simp only [List.length_cons, List.length_nil]; omega) hv
        rename_i v hv
        obtain ⟨w, rfl, hw⟩ : ∃ w, v = .int w ∧ (kd (.int w)).isSome = true := by
          have hm := at_in hv
          simp only [List.mem_cons, List.not_mem_nil, or_false] at hm
          have hii : 0 ≤ (0 + (i : Int)) * (0 + (i : Int)) ∧ (0 + (i : Int)) * (0 + (i : Int)) ≤ 300 * 300 := ⟨Int.mul_nonneg (by omega) (by omega), Int.mul_le_mul (by omega) (by omega) (by omega) (by omega)⟩
          generalize (0 + (i : Int)) * (0 + (i : Int)) = ii at *
          rcases hm with rfl | rfl | rfl | rfl
          · exact ⟨_, rfl, by rw [kd_is, if_neg (by omega), if_pos (by omega)]; rfl⟩
          · exact ⟨_, rfl, by rw [kd_is, if_neg (by omega), if_neg (by omega), if_pos (by omega)]; rfl⟩
          · exact ⟨_, rfl, by rw [kd_is, if_pos rfl]; rfl⟩
          · exact ⟨_, rfl, by rw [kd_is, if_neg (by omega), if_pos (by omega)]; rfl⟩
        simp only [rm_upd hp]
        obtain ⟨dy, e3⟩ := m3.ob
        simp only [tRet, tRetN, tNext, tDrop, tSeq, tIfS, tTest, tB, tOp, tUn, tAnd, tOr, tNot, tAndV, tOrV, tNotV, tIf, tCB, tCons, tNil, tC, cVar, tLst, tTup, tAsg, gName, tCallE, tRaise, tTry, tDNewK, cAdd, cSub, cMul, cFdiv, cMod, cPow, cLt, cLe, cGt, cGe, cCmp, cEq, cNe, eqv, cIs, cIsNot, isNon, cNeg, tChain, rIxM, rIsi, kitV, cIx, cLen, cIxS, cLenS, cAbs, cInt, cxOf_K, TruV, and_assoc, CDiv, CMul, CPow, true_or, or_true, Int.reduceLT, Int.reduceEq, Int.reduceMod, Int.reduceDiv, Int.reduceNe, Int.reduceGT, Int.reduceGE, Nat.reduceEqDiff, Nat.reduceMul, Nat.reduceLT, Int.cast_ofNat_Int, Int.reduceLE, Int.reduceNeg, Int.reducePow, Int.reduceToNat, Int.reduceMul, Int.reduceAdd, Int.reduceSub, ofs_inj, ofs_app, emp_ofs, String.reduceAppend, String.reduceEq, Nat.reduceLeDiff, reduceIte, Bool.not_eq_true', Bool.not_true, Bool.not_false, exc_rt, rm_upd, upd_same, decide_true, decide_false, Bool.true_eq_false, tFor_eq, tComp, capt, tYes, cAll, cList, cEqA, cNeA, cEqL, cNeL, rIsT, kitVs, iRng1, iRng2, iRng3, gLst, gCons, gNil, iList, iTup, cFld, cSFld, cMethE, cSetL, cRep, cSl, cSlS, cPart, tNoPart, tSl, cAppend, cMin2, cMax2, cBM, cDGet2, cDGet, cDPut, keyV, gSub, tMakeE, atI_0, atI_1, atI_2, atI_3, atI_4, atI_5, atI_6, atI_7, atI_8, atI_9, atI_10, atI_11, atI_12, eq_self, not_true_eq_false, not_false_eq_true, decide_eq_false_iff_not, L2.start, cSum, cCat, cListR, cInD, cNotInD, cDPop, cLenD, cIsA, cIsNotA, isBl, cSorted, tComp2, cExtend, intsV_map, List.map_cons, List.map_nil, List.length_cons, List.length_nil, List.replicate, List.cons_append, List.nil_append, List.append_nil, List.getElem?_cons_zero, List.getElem?_cons_succ, List.set_cons_zero, List.set_cons_succ, V.int.injEq, V.bl.injEq, V.str.injEq, V.ref.injEq, V.ty.injEq, List.cons.injEq, Option.some.injEq, and_true, true_and, exists_eq_left', exists_and_left, exists_eq_left, exists_const, reduceCtorEq, false_and, and_false, exists_false, ite_true, ite_false, Bool.false_eq_true, decide_eq_true_eq, Nat.reduceSub, Nat.reduceAdd, Nat.sub_self, sz0, sz1, sz2, sz3, sz4, sz5, sz6, sz7, sz8, sz9, sz10, sz11, sz12, sz13, sz14, sz15, sz16, sz17, sz18, sz19, sz20, sz21, sz22, sz23, sz24, sz25, sz26, sz27, sz28, sz29, sz30, sz31, sz32, sz33, sz34, sz35, sz36, sz37, sz38, sz39, sz40, sz41, sz42, sz43, sz44, sz45, sz46, sz47, sz48, sz49, sz50, sz51, sz52, sz53, sz54, sz55, sz56, sz57, sz58, sz59, sz60, ln_0, ln_1, ln_2, ln_3, ln_4, ln_5, ln_6, ln_7, ln_8, ln_9, ln_10, ln_11, ln_12, ln_13, ln_14, ln_15, ln_16, ln_17, ln_18, ln_19, ln_20, ln_21, e3, mfl_wr]
        refine ⟨x, q1, _, _, _, rfl, m3, True.intro, True.intro, ?_⟩
        have hin : wi (V.int (0 + (i : Int))) 0 (((rs ++ List.replicate (n - i) (-1)).length : Int) - 1) = true := by
          rw [List.length_append, List.length_replicate, hl3]; simp [wi]; omega
        rw [if_pos hin]
        cases hkd : kd (.int w) with
        | none => rw [hkd] at hw; cases hw
        | some y =>
          dsimp only
          rw [upd_ne nrq, r3]
          dsimp only
          have eI : (iv (V.int (0 + (i : Int)))).toNat = i := by show (0 + (i : Int)).toNat = i; omega
          rw [eI, show iv (V.int w) = w from rfl]
          have e4 : (rs ++ List.replicate (n - i) (-1)).set i w = (rs ++ [w]) ++ List.replicate (n - (i + 1)) (-1) := by subst hl3; exact set_fill hi
          have m5 := m3.put i w
          rw [e4] at m5 ⊢
          have nxr : x ≠ r := fun z => by rw [z, r3] at e3; cases e3
          refine ⟨by rw [List.length_map, hl3]; exact Nat.lt_of_lt_of_le (show i < 4000 by omega) (by decide), rs ++ [w], _, _, rfl, by simp [hl3], m5.keep fun b o eb hb => ?_, ?_, (s3.put hq0).put hr0⟩
          · rw [upd_ne (by rcases hb with rfl | rfl; exact nxr; exact Ne.symm nrq)]; exact eb
          · rw [upd_same]; simp
      · rintro σ H3 ⟨rs, v4, v5, rfl, hl3, m3, r3, s3⟩
        rw [Nat.sub_self, List.replicate_zero, List.append_nil] at m3
        simp only [tRet, tRetN, tNext, tDrop, tSeq, tIfS, tTest, tB, tOp, tUn, tAnd, tOr, tNot, tAndV, tOrV, tNotV, tIf, tCB, tCons, tNil, tC, cVar, tLst, tTup, tAsg, gName, tCallE, tRaise, tTry, tDNewK, cAdd, cSub, cMul, cFdiv, cMod, cPow, cLt, cLe, cGt, cGe, cCmp, cEq, cNe, eqv, cIs, cIsNot, isNon, cNeg, tChain, rIxM, rIsi, kitV, cIx, cLen, cIxS, cLenS, cAbs, cInt, cxOf_K, TruV, and_assoc, CDiv, CMul, CPow, true_or, or_true, Int.reduceLT, Int.reduceEq, Int.reduceMod, Int.reduceDiv, Int.reduceNe, Int.reduceGT, Int.reduceGE, Nat.reduceEqDiff, Nat.reduceMul, Nat.reduceLT, Int.cast_ofNat_Int, Int.reduceLE, Int.reduceNeg, Int.reducePow, Int.reduceToNat, Int.reduceMul, Int.reduceAdd, Int.reduceSub, ofs_inj, ofs_app, emp_ofs, String.reduceAppend, String.reduceEq, Nat.reduceLeDiff, reduceIte, Bool.not_eq_true', Bool.not_true, Bool.not_false, exc_rt, rm_upd, upd_same, decide_true, decide_false, Bool.true_eq_false, tFor_eq, tComp, capt, tYes, cAll, cList, cEqA, cNeA, cEqL, cNeL, rIsT, kitVs, iRng1, iRng2, iRng3, gLst, gCons, gNil, iList, iTup, cFld, cSFld, cMethE, cSetL, cRep, cSl, cSlS, cPart, tNoPart, tSl, cAppend, cMin2, cMax2, cBM, cDGet2, cDGet, cDPut, keyV, gSub, tMakeE, atI_0, atI_1, atI_2, atI_3, atI_4, atI_5, atI_6, atI_7, atI_8, atI_9, atI_10, atI_11, atI_12, eq_self, not_true_eq_false, not_false_eq_true, decide_eq_false_iff_not, L2.start, cSum, cCat, cListR, cInD, cNotInD, cDPop, cLenD, cIsA, cIsNotA, isBl, cSorted, tComp2, cExtend, intsV_map, List.map_cons, List.map_nil, List.length_cons, List.length_nil, List.replicate, List.cons_append, List.nil_append, List.append_nil, List.getElem?_cons_zero, List.getElem?_cons_succ, List.set_cons_zero, List.set_cons_succ, V.int.injEq, V.bl.injEq, V.str.injEq, V.ref.injEq, V.ty.injEq, List.cons.injEq, Option.some.injEq, and_true, true_and, exists_eq_left', exists_and_left, exists_eq_left, exists_const, reduceCtorEq, false_and, and_false, exists_false, ite_true, ite_false, Bool.false_eq_true, decide_eq_true_eq, Nat.reduceSub, Nat.reduceAdd, Nat.sub_self, sz0, sz1, sz2, sz3, sz4, sz5, sz6, sz7, sz8, sz9, sz10, sz11, sz12, sz13, sz14, sz15, sz16, sz17, sz18, sz19, sz20, sz21, sz22, sz23, sz24, sz25, sz26, sz27, sz28, sz29, sz30, sz31, sz32, sz33, sz34, sz35, sz36, sz37, sz38, sz39, sz40, sz41, sz42, sz43, sz44, sz45, sz46, sz47, sz48, sz49, sz50, sz51, sz52, sz53, sz54, sz55, sz56, sz57, sz58, sz59, sz60, ln_0, ln_1, ln_2, ln_3, ln_4, ln_5, ln_6, ln_7, ln_8, ln_9, ln_10, ln_11, ln_12, ln_13, ln_14, ln_15, ln_16, ln_17, ln_18, ln_19, ln_20, ln_21]
        refine ⟨_, s3.seq hS, ?_⟩
        rw [List.length_map]
        refine ⟨by split <;> omega, by split <;> omega, ?_⟩
        refine LoopW.rangeS (mainP A.c_Memory a x q1 r n H) ⟨rs, _, _, _, _, _, _, _, rfl, hl3, m3, r3, s3⟩ ?_ fun σ H4 _ => ?_
        · rintro i σ H4 hi ⟨ws, v4, v5, v6, v7, v8, v9, v10, rfl, hl4, m4, r4, s4⟩
          simp only [tRet, tRetN, tNext, tDrop, tSeq, tIfS, tTest, tB, tOp, tUn, tAnd, tOr, tNot, tAndV, tOrV, tNotV, tIf, tCB, tCons, tNil, tC, cVar, tLst, tTup, tAsg, gName, tCallE, tRaise, tTry, tDNewK, cAdd, cSub, cMul, cFdiv, cMod, cPow, cLt, cLe, cGt, cGe, cCmp, cEq, cNe, eqv, cIs, cIsNot, isNon, cNeg, tChain, rIxM, rIsi, kitV, cIx, cLen, cIxS, cLenS, cAbs, cInt, cxOf_K, TruV, and_assoc, CDiv, CMul, CPow, true_or, or_true, Int.reduceLT, Int.reduceEq, Int.reduceMod, Int.reduceDiv, Int.reduceNe, Int.reduceGT, Int.reduceGE, Nat.reduceEqDiff, Nat.reduceMul, Nat.reduceLT, Int.cast_ofNat_Int, Int.reduceLE, Int.reduceNeg, Int.reducePow, Int.reduceToNat, Int.reduceMul, Int.reduceAdd, Int.reduceSub, ofs_inj, ofs_app, emp_ofs, String.reduceAppend, String.reduceEq, Nat.reduceLeDiff, reduceIte, Bool.not_eq_true', Bool.not_true, Bool.not_false, exc_rt, rm_upd, upd_same, decide_true, decide_false, Bool.true_eq_false, tFor_eq, tComp, capt, tYes, cAll, cList, cEqA, cNeA, cEqL, cNeL, rIsT, kitVs, iRng1, iRng2, iRng3, gLst, gCons, gNil, iList, iTup, cFld, cSFld, cMethE, cSetL, cRep, cSl, cSlS, cPart, tNoPart, tSl, cAppend, cMin2, cMax2, cBM, cDGet2, cDGet, cDPut, keyV, gSub, tMakeE, atI_0, atI_1, atI_2, atI_3, atI_4, atI_5, atI_6, atI_7, atI_8, atI_9, atI_10, atI_11, atI_12, eq_self, not_true_eq_false, not_false_eq_true, decide_eq_false_iff_not, L2.start, cSum, cCat, cListR, cInD, cNotInD, cDPop, cLenD, cIsA, cIsNotA, isBl, cSorted, tComp2, cExtend, intsV_map, List.map_cons, List.map_nil, List.length_cons, List.length_nil, List.replicate, List.cons_append, List.nil_append, List.append_nil, List.getElem?_cons_zero, List.getElem?_cons_succ, List.set_cons_zero, List.set_cons_succ, V.int.injEq, V.bl.injEq, V.str.injEq, V.ref.injEq, V.ty.injEq, List.cons.injEq, Option.some.injEq, and_true, true_and, exists_eq_left', exists_and_left, exists_eq_left, exists_const, reduceCtorEq, false_and, and_false, exists_false, ite_true, ite_false, Bool.false_eq_true, decide_eq_true_eq, Nat.reduceSub, Nat.reduceAdd, Nat.sub_self, sz0, sz1, sz2, sz3, sz4, sz5, sz6, sz7, sz8, sz9, sz10, sz11, sz12, sz13, sz14, sz15, sz16, sz17, sz18, sz19, sz20, sz21, sz22, sz23, sz24, sz25, sz26, sz27, sz28, sz29, sz30, sz31, sz32, sz33, sz34, sz35, sz36, sz37, sz38, sz39, sz40, sz41, sz42, sz43, sz44, sz45, sz46, sz47, sz48, sz49, sz50, sz51, sz52, sz53, sz54, sz55, sz56, sz57, sz58, sz59, sz60, ln_0, ln_1, ln_2, ln_3, ln_4, ln_5, ln_6, ln_7, ln_8, ln_9, ln_10, ln_11, ln_12, ln_13, ln_14, ln_15, ln_16, ln_17, ln_18, ln_19, ln_20, ln_21]
          refine ⟨a, ns, _, _, rfl, s4.seq hS, by omega, by omega, by omega, fun p5 H5 y1 y2 y3 s5 e5 k1' k2' k3' => ?_⟩
          simp only [tRet, tRetN, tNext, tDrop, tSeq, tIfS, tTest, tB, tOp, tUn, tAnd, tOr, tNot, tAndV, tOrV, tNotV, tIf, tCB, tCons, tNil, tC, cVar, tLst, tTup, tAsg, gName, tCallE, tRaise, tTry, tDNewK, cAdd, cSub, cMul, cFdiv, cMod, cPow, cLt, cLe, cGt, cGe, cCmp, cEq, cNe, eqv, cIs, cIsNot, isNon, cNeg, tChain, rIxM, rIsi, kitV, cIx, cLen, cIxS, cLenS, cAbs, cInt, cxOf_K, TruV, and_assoc, CDiv, CMul, CPow, true_or, or_true, Int.reduceLT, Int.reduceEq, Int.reduceMod, Int.reduceDiv, Int.reduceNe, Int.reduceGT, Int.reduceGE, Nat.reduceEqDiff, Nat.reduceMul, Nat.reduceLT, Int.cast_ofNat_Int, Int.reduceLE, Int.reduceNeg, Int.reducePow, Int.reduceToNat, Int.reduceMul, Int.reduceAdd, Int.reduceSub, ofs_inj, ofs_app, emp_ofs, String.reduceAppend, String.reduceEq, Nat.reduceLeDiff, reduceIte, Bool.not_eq_true', Bool.not_true, Bool.not_false, exc_rt, rm_upd, upd_same, decide_true, decide_false, Bool.true_eq_false, tFor_eq, tComp, capt, tYes, cAll, cList, cEqA, cNeA, cEqL, cNeL, rIsT, kitVs, iRng1, iRng2, iRng3, gLst, gCons, gNil, iList, iTup, cFld, cSFld, cMethE, cSetL, cRep, cSl, cSlS, cPart, tNoPart, tSl, cAppend, cMin2, cMax2, cBM, cDGet2, cDGet, cDPut, keyV, gSub, tMakeE, atI_0, atI_1, atI_2, atI_3, atI_4, atI_5, atI_6, atI_7, atI_8, atI_9, atI_10, atI_11, atI_12, eq_self, not_true_eq_false, not_false_eq_true, decide_eq_false_iff_not, L2.start, cSum, cCat, cListR, cInD, cNotInD, cDPop, cLenD, cIsA, cIsNotA, isBl, cSorted, tComp2, cExtend, intsV_map, List.map_cons, List.map_nil, List.length_cons, List.length_nil, List.replicate, List.cons_append, List.nil_append, List.append_nil, List.getElem?_cons_zero, List.getElem?_cons_succ, List.set_cons_zero, List.set_cons_succ, V.int.injEq, V.bl.injEq, V.str.injEq, V.ref.injEq, V.ty.injEq, List.cons.injEq, Option.some.injEq, and_true, true_and, exists_eq_left', exists_and_left, exists_eq_left, exists_const, reduceCtorEq, false_and, and_false, exists_false, ite_true, ite_false, Bool.false_eq_true, decide_eq_true_eq, Nat.reduceSub, Nat.reduceAdd, Nat.sub_self, sz0, sz1, sz2, sz3, sz4, sz5, sz6, sz7, sz8, sz9, sz10, sz11, sz12, sz13, sz14, sz15, sz16, sz17, sz18, sz19, sz20, sz21, sz22, sz23, sz24, sz25, sz26, sz27, sz28, sz29, sz30, sz31, sz32, sz33, sz34, sz35, sz36, sz37, sz38, sz39, sz40, sz41, sz42, sz43, sz44, sz45, sz46, sz47, sz48, sz49, sz50, sz51, sz52, sz53, sz54, sz55, sz56, sz57, sz58, sz59, sz60, ln_0, ln_1, ln_2, ln_3, ln_4, ln_5, ln_6, ln_7, ln_8, ln_9, ln_10, ln_11, ln_12, ln_13, ln_14, ln_15, ln_16, ln_17, ln_18, ln_19, ln_20, ln_21, e5]
          refine ⟨x, q1, ws, r, _, _, _, rfl, m4.same s5, s5 _ _ r4, nrq, k1', k2', k3', by omega, fun H6 ws6 m6 r6 l6 b6 => ⟨true, rfl, ?_⟩⟩
          have s6 : Same H H6 := fun b o e => b6 b o (s5 b o (s4 b o e)) (ne_of_none e hq0) (ne_of_none e hr0)
          simp only [tRet, tRetN, tNext, tDrop, tSeq, tIfS, tTest, tB, tOp, tUn, tAnd, tOr, tNot, tAndV, tOrV, tNotV, tIf, tCB, tCons, tNil, tC, cVar, tLst, tTup, tAsg, gName, tCallE, tRaise, tTry, tDNewK, cAdd, cSub, cMul, cFdiv, cMod, cPow, cLt, cLe, cGt, cGe, cCmp, cEq, cNe, eqv, cIs, cIsNot, isNon, cNeg, tChain, rIxM, rIsi, kitV, cIx, cLen, cIxS, cLenS, cAbs, cInt, cxOf_K, TruV, and_assoc, CDiv, CMul, CPow, true_or, or_true, Int.reduceLT, Int.reduceEq, Int.reduceMod, Int.reduceDiv, Int.reduceNe, Int.reduceGT, Int.reduceGE, Nat.reduceEqDiff, Nat.reduceMul, Nat.reduceLT, Int.cast_ofNat_Int, Int.reduceLE, Int.reduceNeg, Int.reducePow, Int.reduceToNat, Int.reduceMul, Int.reduceAdd, Int.reduceSub, ofs_inj, ofs_app, emp_ofs, String.reduceAppend, String.reduceEq, Nat.reduceLeDiff, reduceIte, Bool.not_eq_true', Bool.not_true, Bool.not_false, exc_rt, rm_upd, upd_same, decide_true, decide_false, Bool.true_eq_false, tFor_eq, tComp, capt, tYes, cAll, cList, cEqA, cNeA, cEqL, cNeL, rIsT, kitVs, iRng1, iRng2, iRng3, gLst, gCons, gNil, iList, iTup, cFld, cSFld, cMethE, cSetL, cRep, cSl, cSlS, cPart, tNoPart, tSl, cAppend, cMin2, cMax2, cBM, cDGet2, cDGet, cDPut, keyV, gSub, tMakeE, atI_0, atI_1, atI_2, atI_3, atI_4, atI_5, atI_6, atI_7, atI_8, atI_9, atI_10, atI_11, atI_12, eq_self, not_true_eq_false, not_false_eq_true, decide_eq_false_iff_not, L2.start, cSum, cCat, cListR, cInD, cNotInD, cDPop, cLenD, cIsA, cIsNotA, isBl, cSorted, tComp2, cExtend, intsV_map, List.map_cons, List.map_nil, List.length_cons, List.length_nil, List.replicate, List.cons_append, List.nil_append, List.append_nil, List.getElem?_cons_zero, List.getElem?_cons_succ, List.set_cons_zero, List.set_cons_succ, V.int.injEq, V.bl.injEq, V.str.injEq, V.ref.injEq, V.ty.injEq, List.cons.injEq, Option.some.injEq, and_true, true_and, exists_eq_left', exists_and_left, exists_eq_left, exists_const, reduceCtorEq, false_and, and_false, exists_false, ite_true, ite_false, Bool.false_eq_true, decide_eq_true_eq, Nat.reduceSub, Nat.reduceAdd, Nat.sub_self, sz0, sz1, sz2, sz3, sz4, sz5, sz6, sz7, sz8, sz9, sz10, sz11, sz12, sz13, sz14, sz15, sz16, sz17, sz18, sz19, sz20, sz21, sz22, sz23, sz24, sz25, sz26, sz27, sz28, sz29, sz30, sz31, sz32, sz33, sz34, sz35, sz36, sz37, sz38, sz39, sz40, sz41, sz42, sz43, sz44, sz45, sz46, sz47, sz48, sz49, sz50, sz51, sz52, sz53, sz54, sz55, sz56, sz57, sz58, sz59, sz60, ln_0, ln_1, ln_2, ln_3, ln_4, ln_5, ln_6, ln_7, ln_8, ln_9, ln_10, ln_11, ln_12, ln_13, ln_14, ln_15, ln_16, ln_17, ln_18, ln_19, ln_20, ln_21]
          refine ⟨by omega, by omega, ?_⟩
          rw [Int.toNat_natCast]
          refine LoopW.range (innerP a x r n v5 (some (V.int (2 + ↑i * 3))) (some y1) (some y2) (some y3) H6) ⟨rfl, _, _, rfl⟩ ?_ ?_
          · rintro t σ H7 ht ⟨rfl, v4', v10', rfl⟩
            obtain ⟨dz, e6⟩ := m6.ob
            simp only [tRet, tRetN, tNext, tDrop, tSeq, tIfS, tTest, tB, tOp, tUn, tAnd, tOr, tNot, tAndV, tOrV, tNotV, tIf, tCB, tCons, tNil, tC, cVar, tLst, tTup, tAsg, gName, tCallE, tRaise, tTry, tDNewK, cAdd, cSub, cMul, cFdiv, cMod, cPow, cLt, cLe, cGt, cGe, cCmp, cEq, cNe, eqv, cIs, cIsNot, isNon, cNeg, tChain, rIxM, rIsi, kitV, cIx, cLen, cIxS, cLenS, cAbs, cInt, cxOf_K, TruV, and_assoc, CDiv, CMul, CPow, true_or, or_true, Int.reduceLT, Int.reduceEq, Int.reduceMod, Int.reduceDiv, Int.reduceNe, Int.reduceGT, Int.reduceGE, Nat.reduceEqDiff, Nat.reduceMul, Nat.reduceLT, Int.cast_ofNat_Int, Int.reduceLE, Int.reduceNeg, Int.reducePow, Int.reduceToNat, Int.reduceMul, Int.reduceAdd, Int.reduceSub, ofs_inj, ofs_app, emp_ofs, String.reduceAppend, String.reduceEq, Nat.reduceLeDiff, reduceIte, Bool.not_eq_true', Bool.not_true, Bool.not_false, exc_rt, rm_upd, upd_same, decide_true, decide_false, Bool.true_eq_false, tFor_eq, tComp, capt, tYes, cAll, cList, cEqA, cNeA, cEqL, cNeL, rIsT, kitVs, iRng1, iRng2, iRng3, gLst, gCons, gNil, iList, iTup, cFld, cSFld, cMethE, cSetL, cRep, cSl, cSlS, cPart, tNoPart, tSl, cAppend, cMin2, cMax2, cBM, cDGet2, cDGet, cDPut, keyV, gSub, tMakeE, atI_0, atI_1, atI_2, atI_3, atI_4, atI_5, atI_6, atI_7, atI_8, atI_9, atI_10, atI_11, atI_12, eq_self, not_true_eq_false, not_false_eq_true, decide_eq_false_iff_not, L2.start, cSum, cCat, cListR, cInD, cNotInD, cDPop, cLenD, cIsA, cIsNotA, isBl, cSorted, tComp2, cExtend, intsV_map, List.map_cons, List.map_nil, List.length_cons, List.length_nil, List.replicate, List.cons_append, List.nil_append, List.append_nil, List.getElem?_cons_zero, List.getElem?_cons_succ, List.set_cons_zero, List.set_cons_succ, V.int.injEq, V.bl.injEq, V.str.injEq, V.ref.injEq, V.ty.injEq, List.cons.injEq, Option.some.injEq, and_true, true_and, exists_eq_left', exists_and_left, exists_eq_left, exists_const, reduceCtorEq, false_and, and_false, exists_false, ite_true, ite_false, Bool.false_eq_true, decide_eq_true_eq, Nat.reduceSub, Nat.reduceAdd, Nat.sub_self, sz0, sz1, sz2, sz3, sz4, sz5, sz6, sz7, sz8, sz9, sz10, sz11, sz12, sz13, sz14, sz15, sz16, sz17, sz18, sz19, sz20, sz21, sz22, sz23, sz24, sz25, sz26, sz27, sz28, sz29, sz30, sz31, sz32, sz33, sz34, sz35, sz36, sz37, sz38, sz39, sz40, sz41, sz42, sz43, sz44, sz45, sz46, sz47, sz48, sz49, sz50, sz51, sz52, sz53, sz54, sz55, sz56, sz57, sz58, sz59, sz60, ln_0, ln_1, ln_2, ln_3, ln_4, ln_5, ln_6, ln_7, ln_8, ln_9, ln_10, ln_11, ln_12, ln_13, ln_14, ln_15, ln_16, ln_17, ln_18, ln_19, ln_20, ln_21, e6, mfl_rd]
            refine ⟨x, q1, ws6, _, rfl, m6, True.intro, ?_⟩
            rw [if_pos (show wi (V.int (0 + (t : Int))) 0 ((ws6.length : Int) - 1) = true by simp [wi]; omega), show (iv (V.int (0 + (t : Int)))).toNat = t by show (0 + (t : Int)).toNat = t; omega]
            have ea := at_nat (ks := ws6) (t := t) (by omega)
            simp only [tRet, tRetN, tNext, tDrop, tSeq, tIfS, tTest, tB, tOp, tUn, tAnd, tOr, tNot, tAndV, tOrV, tNotV, tIf, tCB, tCons, tNil, tC, cVar, tLst, tTup, tAsg, gName, tCallE, tRaise, tTry, tDNewK, cAdd, cSub, cMul, cFdiv, cMod, cPow, cLt, cLe, cGt, cGe, cCmp, cEq, cNe, eqv, cIs, cIsNot, isNon, cNeg, tChain, rIxM, rIsi, kitV, cIx, cLen, cIxS, cLenS, cAbs, cInt, cxOf_K, TruV, and_assoc, CDiv, CMul, CPow, true_or, or_true, Int.reduceLT, Int.reduceEq, Int.reduceMod, Int.reduceDiv, Int.reduceNe, Int.reduceGT, Int.reduceGE, Nat.reduceEqDiff, Nat.reduceMul, Nat.reduceLT, Int.cast_ofNat_Int, Int.reduceLE, Int.reduceNeg, Int.reducePow, Int.reduceToNat, Int.reduceMul, Int.reduceAdd, Int.reduceSub, ofs_inj, ofs_app, emp_ofs, String.reduceAppend, String.reduceEq, Nat.reduceLeDiff, reduceIte, Bool.not_eq_true', Bool.not_true, Bool.not_false, exc_rt, rm_upd, upd_same, decide_true, decide_false, Bool.true_eq_false, tFor_eq, tComp, capt, tYes, cAll, cList, cEqA, cNeA, cEqL, cNeL, rIsT, kitVs, iRng1, iRng2, iRng3, gLst, gCons, gNil, iList, iTup, cFld, cSFld, cMethE, cSetL, cRep, cSl, cSlS, cPart, tNoPart, tSl, cAppend, cMin2, cMax2, cBM, cDGet2, cDGet, cDPut, keyV, gSub, tMakeE, atI_0, atI_1, atI_2, atI_3, atI_4, atI_5, atI_6, atI_7, atI_8, atI_9, atI_10, atI_11, atI_12, eq_self, not_true_eq_false, not_false_eq_true, decide_eq_false_iff_not, L2.start, cSum, cCat, cListR, cInD, cNotInD, cDPop, cLenD, cIsA, cIsNotA, isBl, cSorted, tComp2, cExtend, intsV_map, List.map_cons, List.map_nil, List.length_cons, List.length_nil, List.replicate, List.cons_append, List.nil_append, List.append_nil, List.getElem?_cons_zero, List.getElem?_cons_succ, List.set_cons_zero, List.set_cons_succ, V.int.injEq, V.bl.injEq, V.str.injEq, V.ref.injEq, V.ty.injEq, List.cons.injEq, Option.some.injEq, and_true, true_and, exists_eq_left', exists_and_left, exists_eq_left, exists_const, reduceCtorEq, false_and, and_false, exists_false, ite_true, ite_false, Bool.false_eq_true, decide_eq_true_eq, Nat.reduceSub, Nat.reduceAdd, Nat.sub_self, sz0, sz1, sz2, sz3, sz4, sz5, sz6, sz7, sz8, sz9, sz10, sz11, sz12, sz13, sz14, sz15, sz16, sz17, sz18, sz19, sz20, sz21, sz22, sz23, sz24, sz25, sz26, sz27, sz28, sz29, sz30, sz31, sz32, sz33, sz34, sz35, sz36, sz37, sz38, sz39, sz40, sz41, sz42, sz43, sz44, sz45, sz46, sz47, sz48, sz49, sz50, sz51, sz52, sz53, sz54, sz55, sz56, sz57, sz58, sz59, sz60, ln_0, ln_1, ln_2, ln_3, ln_4, ln_5, ln_6, ln_7, ln_8, ln_9, ln_10, ln_11, ln_12, ln_13, ln_14, ln_15, ln_16, ln_17, ln_18, ln_19, ln_20, ln_21, sp__law_whole, isI, Kn, r6, Int.zero_add, ea]
            exact ⟨rfl, _, _, rfl⟩
          · rintro σ H7 ⟨rfl, v4', v10', rfl⟩
            exact ⟨ws6, _, _, _, _, _, _, _, rfl, l6.trans hl4, m6, r6, s6⟩
        · simp only [tRet, tRetN, tNext, tDrop, tSeq, tIfS, tTest, tB, tOp, tUn, tAnd, tOr, tNot, tAndV, tOrV, tNotV, tIf, tCB, tCons, tNil, tC, cVar, tLst, tTup, tAsg, gName, tCallE, tRaise, tTry, tDNewK, cAdd, cSub, cMul, cFdiv, cMod, cPow, cLt, cLe, cGt, cGe, cCmp, cEq, cNe, eqv, cIs, cIsNot, isNon, cNeg, tChain, rIxM, rIsi, kitV, cIx, cLen, cIxS, cLenS, cAbs, cInt, cxOf_K, TruV, and_assoc, CDiv, CMul, CPow, true_or, or_true, Int.reduceLT, Int.reduceEq, Int.reduceMod, Int.reduceDiv, Int.reduceNe, Int.reduceGT, Int.reduceGE, Nat.reduceEqDiff, Nat.reduceMul, Nat.reduceLT, Int.cast_ofNat_Int, Int.reduceLE, Int.reduceNeg, Int.reducePow, Int.reduceToNat, Int.reduceMul, Int.reduceAdd, Int.reduceSub, ofs_inj, ofs_app, emp_ofs, String.reduceAppend, String.reduceEq, Nat.reduceLeDiff, reduceIte, Bool.not_eq_true', Bool.not_true, Bool.not_false, exc_rt, rm_upd, upd_same, decide_true, decide_false, Bool.true_eq_false, tFor_eq, tComp, capt, tYes, cAll, cList, cEqA, cNeA, cEqL, cNeL, rIsT, kitVs, iRng1, iRng2, iRng3, gLst, gCons, gNil, iList, iTup, cFld, cSFld, cMethE, cSetL, cRep, cSl, cSlS, cPart, tNoPart, tSl, cAppend, cMin2, cMax2, cBM, cDGet2, cDGet, cDPut, keyV, gSub, tMakeE, atI_0, atI_1, atI_2, atI_3, atI_4, atI_5, atI_6, atI_7, atI_8, atI_9, atI_10, atI_11, atI_12, eq_self, not_true_eq_false, not_false_eq_true, decide_eq_false_iff_not, L2.start, cSum, cCat, cListR, cInD, cNotInD, cDPop, cLenD, cIsA, cIsNotA, isBl, cSorted, tComp2, cExtend, intsV_map, List.map_cons, List.map_nil, List.length_cons, List.length_nil, List.replicate, List.cons_append, List.nil_append, List.append_nil, List.getElem?_cons_zero, List.getElem?_cons_succ, List.set_cons_zero, List.set_cons_succ, V.int.injEq, V.bl.injEq, V.str.injEq, V.ref.injEq, V.ty.injEq, List.cons.injEq, Option.some.injEq, and_true, true_and, exists_eq_left', exists_and_left, exists_eq_left, exists_const, reduceCtorEq, false_and, and_false, exists_false, ite_true, ite_false, Bool.false_eq_true, decide_eq_true_eq, Nat.reduceSub, Nat.reduceAdd, Nat.sub_self, sz0, sz1, sz2, sz3, sz4, sz5, sz6, sz7, sz8, sz9, sz10, sz11, sz12, sz13, sz14, sz15, sz16, sz17, sz18, sz19, sz20, sz21, sz22, sz23, sz24, sz25, sz26, sz27, sz28, sz29, sz30, sz31, sz32, sz33, sz34, sz35, sz36, sz37, sz38, sz39, sz40, sz41, sz42, sz43, sz44, sz45, sz46, sz47, sz48, sz49, sz50, sz51, sz52, sz53, sz54, sz55, sz56, sz57, sz58, sz59, sz60, ln_0, ln_1, ln_2, ln_3, ln_4, ln_5, ln_6, ln_7, ln_8, ln_9, ln_10, ln_11, ln_12, ln_13, ln_14, ln_15, ln_16, ln_17, ln_18, ln_19, ln_20, ln_21]
          exact q _

theorem all_mk {l : PySem.W.OpenLaw} {w : World} {K : PySem.W.Frag} {h : Heap} {mg : Str → Option Value} {fa f_is_whole f__law_cell_at f__law_whole f__law_names f_is_within f__law_due f__law_numbers f_is_number f_is_place f_Memory_init f_Memory_want_place f_Memory_want_stretch f_kind f_Memory_read f_Memory_copy f_Memory_write f__law_copied f_law c_KeepError c_BadWord c_BadCount c_NoPlace c_Memory : Addr} {oc_is_whole kV_is_whole dc_is_whole pm_is_whole cd_is_whole ct_is_whole oc__law_cell_at kV__law_cell_at dc__law_cell_at pm__law_cell_at cd__law_cell_at ct__law_cell_at oc__law_whole kV__law_whole dc__law_whole pm__law_whole cd__law_whole ct__law_whole oc__law_names kV__law_names dc__law_names pm__law_names cd__law_names ct__law_names oc_is_within kV_is_within dc_is_within pm_is_within cd_is_within ct_is_within oc__law_due kV__law_due dc__law_due pm__law_due cd__law_due ct__law_due oc__law_numbers kV__law_numbers dc__law_numbers pm__law_numbers cd__law_numbers ct__law_numbers oc_is_number kV_is_number dc_is_number pm_is_number cd_is_number ct_is_number oc_is_place kV_is_place dc_is_place pm_is_place cd_is_place ct_is_place oc_Memory_init kV_Memory_init dc_Memory_init pm_Memory_init cd_Memory_init ct_Memory_init oc_Memory_want_place kV_Memory_want_place dc_Memory_want_place pm_Memory_want_place cd_Memory_want_place ct_Memory_want_place oc_Memory_want_stretch kV_Memory_want_stretch dc_Memory_want_stretch pm_Memory_want_stretch cd_Memory_want_stretch ct_Memory_want_stretch oc_kind kV_kind dc_kind pm_kind cd_kind ct_kind oc_Memory_read kV_Memory_read dc_Memory_read pm_Memory_read cd_Memory_read ct_Memory_read oc_Memory_copy kV_Memory_copy dc_Memory_copy pm_Memory_copy cd_Memory_copy ct_Memory_copy oc_Memory_write kV_Memory_write dc_Memory_write pm_Memory_write cd_Memory_write ct_Memory_write oc__law_copied kV__law_copied dc__law_copied pm__law_copied cd__law_copied ct__law_copied oc_law kV_law dc_law pm_law cd_law ct_law : Value} {od_is_whole an_is_whole : Option Addr} {sl_is_whole : Array (Option Value)} {od__law_cell_at an__law_cell_at : Option Addr} {sl__law_cell_at : Array (Option Value)} {od__law_whole an__law_whole : Option Addr} {sl__law_whole : Array (Option Value)} {od__law_names an__law_names : Option Addr} {sl__law_names : Array (Option Value)} {od_is_within an_is_within : Option Addr} {sl_is_within : Array (Option Value)} {od__law_due an__law_due : Option Addr} {sl__law_due : Array (Option Value)} {od__law_numbers an__law_numbers : Option Addr} {sl__law_numbers : Array (Option Value)} {od_is_number an_is_number : Option Addr} {sl_is_number : Array (Option Value)} {od_is_place an_is_place : Option Addr} {sl_is_place : Array (Option Value)} {od_Memory_init an_Memory_init : Option Addr} {sl_Memory_init : Array (Option Value)} {od_Memory_want_place an_Memory_want_place : Option Addr} {sl_Memory_want_place : Array (Option Value)} {od_Memory_want_stretch an_Memory_want_stretch : Option Addr} {sl_Memory_want_stretch : Array (Option Value)} {od_kind an_kind : Option Addr} {sl_kind : Array (Option Value)} {od_Memory_read an_Memory_read : Option Addr} {sl_Memory_read : Array (Option Value)} {od_Memory_copy an_Memory_copy : Option Addr} {sl_Memory_copy : Array (Option Value)} {od_Memory_write an_Memory_write : Option Addr} {sl_Memory_write : Array (Option Value)} {od__law_copied an__law_copied : Option Addr} {sl__law_copied : Array (Option Value)} {od_law an_law : Option Addr} {sl_law : Array (Option Value)} {t_NOTHING : Tok} {t_MOST_NUMBER : Tok} {t_MOST_PLACE : Tok} {t_MOST_WORDS : Tok}
    (X : K.In h) (G : h.Ns mainGlobals mg) (hfa : mg "law" = some (.ref fa))
    (g_KeepError : PySem.W.nsIn K mainGlobals "KeepError" = some (some (.ref c_KeepError)))
    (g_BadWord : PySem.W.nsIn K mainGlobals "BadWord" = some (some (.ref c_BadWord)))
    (g_BadCount : PySem.W.nsIn K mainGlobals "BadCount" = some (some (.ref c_BadCount)))
    (g_NoPlace : PySem.W.nsIn K mainGlobals "NoPlace" = some (some (.ref c_NoPlace)))
    (g_Memory : PySem.W.nsIn K mainGlobals "Memory" = some (some (.ref c_Memory)))
    (pg_Memory : PySem.W.plainGet K c_Memory Str.empty = true)
    (hd_Memory : PySem.W.hasDictIn K c_Memory = true)
    (po_Memory : PySem.W.plainOver K c_Memory = true)
    (sa_Memory : PySem.W.findIn K (.ref c_Memory) "__setattr__" = some (some (.builtin "object.__setattr__")))
    (mk_Memory : PySem.W.makesIn K c_Memory = true)
    (kc_Memory : PySem.W.keepIn K (.ref c_Memory) = true)
    (na_Memory_size : PySem.W.findIn K (.ref c_Memory) "size" = some none)
    (na_Memory_words : PySem.W.findIn K (.ref c_Memory) "words" = some none)
    (g_is_whole : PySem.W.nsIn K mainGlobals "is_whole" = some (some (.ref f_is_whole)))
    (l_is_whole : K.lookup f_is_whole = some ⟨oc_is_whole, od_is_whole, .func (PySem.W.fnOf "is_whole" "is_whole" (defArgs s_is_whole) (defBody s_is_whole) (defScope s_is_whole) .none kV_is_whole dc_is_whole pm_is_whole an_is_whole cd_is_whole ct_is_whole), sl_is_whole⟩)
    (d_is_whole : PySem.W.codeIn K cd_is_whole "is_whole" = true)
    (k_is_whole : PySem.W.keepIn K (.ref f_is_whole) = true)
    (g__law_cell_at : PySem.W.nsIn K mainGlobals "_law_cell_at" = some (some (.ref f__law_cell_at)))
    (l__law_cell_at : K.lookup f__law_cell_at = some ⟨oc__law_cell_at, od__law_cell_at, .func (PySem.W.fnOf "_law_cell_at" "_law_cell_at" (defArgs s__law_cell_at) (defBody s__law_cell_at) (defScope s__law_cell_at) .none kV__law_cell_at dc__law_cell_at pm__law_cell_at an__law_cell_at cd__law_cell_at ct__law_cell_at), sl__law_cell_at⟩)
    (d__law_cell_at : PySem.W.codeIn K cd__law_cell_at "_law_cell_at" = true)
    (k__law_cell_at : PySem.W.keepIn K (.ref f__law_cell_at) = true)
    (g__law_whole : PySem.W.nsIn K mainGlobals "_law_whole" = some (some (.ref f__law_whole)))
    (l__law_whole : K.lookup f__law_whole = some ⟨oc__law_whole, od__law_whole, .func (PySem.W.fnOf "_law_whole" "_law_whole" (defArgs s__law_whole) (defBody s__law_whole) (defScope s__law_whole) .none kV__law_whole dc__law_whole pm__law_whole an__law_whole cd__law_whole ct__law_whole), sl__law_whole⟩)
    (d__law_whole : PySem.W.codeIn K cd__law_whole "_law_whole" = true)
    (k__law_whole : PySem.W.keepIn K (.ref f__law_whole) = true)
    (g__law_names : PySem.W.nsIn K mainGlobals "_law_names" = some (some (.ref f__law_names)))
    (l__law_names : K.lookup f__law_names = some ⟨oc__law_names, od__law_names, .func (PySem.W.fnOf "_law_names" "_law_names" (defArgs s__law_names) (defBody s__law_names) (defScope s__law_names) .none kV__law_names dc__law_names pm__law_names an__law_names cd__law_names ct__law_names), sl__law_names⟩)
    (d__law_names : PySem.W.codeIn K cd__law_names "_law_names" = true)
    (k__law_names : PySem.W.keepIn K (.ref f__law_names) = true)
    (g_is_within : PySem.W.nsIn K mainGlobals "is_within" = some (some (.ref f_is_within)))
    (l_is_within : K.lookup f_is_within = some ⟨oc_is_within, od_is_within, .func (PySem.W.fnOf "is_within" "is_within" (defArgs s_is_within) (defBody s_is_within) (defScope s_is_within) .none kV_is_within dc_is_within pm_is_within an_is_within cd_is_within ct_is_within), sl_is_within⟩)
    (d_is_within : PySem.W.codeIn K cd_is_within "is_within" = true)
    (k_is_within : PySem.W.keepIn K (.ref f_is_within) = true)
    (g__law_due : PySem.W.nsIn K mainGlobals "_law_due" = some (some (.ref f__law_due)))
    (l__law_due : K.lookup f__law_due = some ⟨oc__law_due, od__law_due, .func (PySem.W.fnOf "_law_due" "_law_due" (defArgs s__law_due) (defBody s__law_due) (defScope s__law_due) .none kV__law_due dc__law_due pm__law_due an__law_due cd__law_due ct__law_due), sl__law_due⟩)
    (d__law_due : PySem.W.codeIn K cd__law_due "_law_due" = true)
    (k__law_due : PySem.W.keepIn K (.ref f__law_due) = true)
    (g__law_numbers : PySem.W.nsIn K mainGlobals "_law_numbers" = some (some (.ref f__law_numbers)))
    (l__law_numbers : K.lookup f__law_numbers = some ⟨oc__law_numbers, od__law_numbers, .func (PySem.W.fnOf "_law_numbers" "_law_numbers" (defArgs s__law_numbers) (defBody s__law_numbers) (defScope s__law_numbers) .none kV__law_numbers dc__law_numbers pm__law_numbers an__law_numbers cd__law_numbers ct__law_numbers), sl__law_numbers⟩)
    (d__law_numbers : PySem.W.codeIn K cd__law_numbers "_law_numbers" = true)
    (k__law_numbers : PySem.W.keepIn K (.ref f__law_numbers) = true)
    (g_is_number : PySem.W.nsIn K mainGlobals "is_number" = some (some (.ref f_is_number)))
    (l_is_number : K.lookup f_is_number = some ⟨oc_is_number, od_is_number, .func (PySem.W.fnOf "is_number" "is_number" (defArgs s_is_number) (defBody s_is_number) (defScope s_is_number) .none kV_is_number dc_is_number pm_is_number an_is_number cd_is_number ct_is_number), sl_is_number⟩)
    (d_is_number : PySem.W.codeIn K cd_is_number "is_number" = true)
    (k_is_number : PySem.W.keepIn K (.ref f_is_number) = true)
    (g_is_place : PySem.W.nsIn K mainGlobals "is_place" = some (some (.ref f_is_place)))
    (l_is_place : K.lookup f_is_place = some ⟨oc_is_place, od_is_place, .func (PySem.W.fnOf "is_place" "is_place" (defArgs s_is_place) (defBody s_is_place) (defScope s_is_place) .none kV_is_place dc_is_place pm_is_place an_is_place cd_is_place ct_is_place), sl_is_place⟩)
    (d_is_place : PySem.W.codeIn K cd_is_place "is_place" = true)
    (k_is_place : PySem.W.keepIn K (.ref f_is_place) = true)
    (a_Memory_init : PySem.W.findIn K (.ref c_Memory) "__init__" = some (some (.ref f_Memory_init)))
    (i_Memory_init : PySem.W.isFn K (.ref f_Memory_init) = true)
    (l_Memory_init : K.lookup f_Memory_init = some ⟨oc_Memory_init, od_Memory_init, .func (PySem.W.fnOf "__init__" "Memory.__init__" (defArgs s_Memory_init) (defBody s_Memory_init) (defScope s_Memory_init) .none kV_Memory_init dc_Memory_init pm_Memory_init an_Memory_init cd_Memory_init ct_Memory_init), sl_Memory_init⟩)
    (d_Memory_init : PySem.W.codeIn K cd_Memory_init "Memory.__init__" = true)
    (k_Memory_init : PySem.W.keepIn K (.ref f_Memory_init) = true)
    (a_Memory_want_place : PySem.W.findIn K (.ref c_Memory) "want_place" = some (some (.ref f_Memory_want_place)))
    (i_Memory_want_place : PySem.W.isFn K (.ref f_Memory_want_place) = true)
    (l_Memory_want_place : K.lookup f_Memory_want_place = some ⟨oc_Memory_want_place, od_Memory_want_place, .func (PySem.W.fnOf "want_place" "Memory.want_place" (defArgs s_Memory_want_place) (defBody s_Memory_want_place) (defScope s_Memory_want_place) .none kV_Memory_want_place dc_Memory_want_place pm_Memory_want_place an_Memory_want_place cd_Memory_want_place ct_Memory_want_place), sl_Memory_want_place⟩)
    (d_Memory_want_place : PySem.W.codeIn K cd_Memory_want_place "Memory.want_place" = true)
    (k_Memory_want_place : PySem.W.keepIn K (.ref f_Memory_want_place) = true)
    (a_Memory_want_stretch : PySem.W.findIn K (.ref c_Memory) "want_stretch" = some (some (.ref f_Memory_want_stretch)))
    (i_Memory_want_stretch : PySem.W.isFn K (.ref f_Memory_want_stretch) = true)
    (l_Memory_want_stretch : K.lookup f_Memory_want_stretch = some ⟨oc_Memory_want_stretch, od_Memory_want_stretch, .func (PySem.W.fnOf "want_stretch" "Memory.want_stretch" (defArgs s_Memory_want_stretch) (defBody s_Memory_want_stretch) (defScope s_Memory_want_stretch) .none kV_Memory_want_stretch dc_Memory_want_stretch pm_Memory_want_stretch an_Memory_want_stretch cd_Memory_want_stretch ct_Memory_want_stretch), sl_Memory_want_stretch⟩)
    (d_Memory_want_stretch : PySem.W.codeIn K cd_Memory_want_stretch "Memory.want_stretch" = true)
    (k_Memory_want_stretch : PySem.W.keepIn K (.ref f_Memory_want_stretch) = true)
    (g_kind : PySem.W.nsIn K mainGlobals "kind" = some (some (.ref f_kind)))
    (l_kind : K.lookup f_kind = some ⟨oc_kind, od_kind, .func (PySem.W.fnOf "kind" "kind" (defArgs s_kind) (defBody s_kind) (defScope s_kind) .none kV_kind dc_kind pm_kind an_kind cd_kind ct_kind), sl_kind⟩)
    (d_kind : PySem.W.codeIn K cd_kind "kind" = true)
    (k_kind : PySem.W.keepIn K (.ref f_kind) = true)
    (a_Memory_read : PySem.W.findIn K (.ref c_Memory) "read" = some (some (.ref f_Memory_read)))
    (i_Memory_read : PySem.W.isFn K (.ref f_Memory_read) = true)
    (l_Memory_read : K.lookup f_Memory_read = some ⟨oc_Memory_read, od_Memory_read, .func (PySem.W.fnOf "read" "Memory.read" (defArgs s_Memory_read) (defBody s_Memory_read) (defScope s_Memory_read) .none kV_Memory_read dc_Memory_read pm_Memory_read an_Memory_read cd_Memory_read ct_Memory_read), sl_Memory_read⟩)
    (d_Memory_read : PySem.W.codeIn K cd_Memory_read "Memory.read" = true)
    (k_Memory_read : PySem.W.keepIn K (.ref f_Memory_read) = true)
    (a_Memory_copy : PySem.W.findIn K (.ref c_Memory) "copy" = some (some (.ref f_Memory_copy)))
    (i_Memory_copy : PySem.W.isFn K (.ref f_Memory_copy) = true)
    (l_Memory_copy : K.lookup f_Memory_copy = some ⟨oc_Memory_copy, od_Memory_copy, .func (PySem.W.fnOf "copy" "Memory.copy" (defArgs s_Memory_copy) (defBody s_Memory_copy) (defScope s_Memory_copy) .none kV_Memory_copy dc_Memory_copy pm_Memory_copy an_Memory_copy cd_Memory_copy ct_Memory_copy), sl_Memory_copy⟩)
    (d_Memory_copy : PySem.W.codeIn K cd_Memory_copy "Memory.copy" = true)
    (k_Memory_copy : PySem.W.keepIn K (.ref f_Memory_copy) = true)
    (a_Memory_write : PySem.W.findIn K (.ref c_Memory) "write" = some (some (.ref f_Memory_write)))
    (i_Memory_write : PySem.W.isFn K (.ref f_Memory_write) = true)
    (l_Memory_write : K.lookup f_Memory_write = some ⟨oc_Memory_write, od_Memory_write, .func (PySem.W.fnOf "write" "Memory.write" (defArgs s_Memory_write) (defBody s_Memory_write) (defScope s_Memory_write) .none kV_Memory_write dc_Memory_write pm_Memory_write an_Memory_write cd_Memory_write ct_Memory_write), sl_Memory_write⟩)
    (d_Memory_write : PySem.W.codeIn K cd_Memory_write "Memory.write" = true)
    (k_Memory_write : PySem.W.keepIn K (.ref f_Memory_write) = true)
    (g__law_copied : PySem.W.nsIn K mainGlobals "_law_copied" = some (some (.ref f__law_copied)))
    (l__law_copied : K.lookup f__law_copied = some ⟨oc__law_copied, od__law_copied, .func (PySem.W.fnOf "_law_copied" "_law_copied" (defArgs s__law_copied) (defBody s__law_copied) (defScope s__law_copied) .none kV__law_copied dc__law_copied pm__law_copied an__law_copied cd__law_copied ct__law_copied), sl__law_copied⟩)
    (d__law_copied : PySem.W.codeIn K cd__law_copied "_law_copied" = true)
    (k__law_copied : PySem.W.keepIn K (.ref f__law_copied) = true)
    (g_law : PySem.W.nsIn K mainGlobals "law" = some (some (.ref f_law)))
    (l_law : K.lookup f_law = some ⟨oc_law, od_law, .func (PySem.W.fnOf "law" "law" (defArgs s_law) (defBody s_law) (defScope s_law) .none kV_law dc_law pm_law an_law cd_law ct_law), sl_law⟩)
    (d_law : PySem.W.codeIn K cd_law "law" = true)
    (k_law : PySem.W.keepIn K (.ref f_law) = true)
    (v_NOTHING : PySem.W.nsIn K mainGlobals "NOTHING" = some (some (.int (-1) t_NOTHING)))
    (v_MOST_NUMBER : PySem.W.nsIn K mainGlobals "MOST_NUMBER" = some (some (.int (1000000000000) t_MOST_NUMBER)))
    (v_MOST_PLACE : PySem.W.nsIn K mainGlobals "MOST_PLACE" = some (some (.int (9999) t_MOST_PLACE)))
    (v_MOST_WORDS : PySem.W.nsIn K mainGlobals "MOST_WORDS" = some (some (.int (4000) t_MOST_WORDS)))
    (x_BadWord : PySem.W.excIn K c_BadWord bmV "ValueError.__new__" = true)
    (kiga_BadWord : PySem.W.findIn K (.ref c_BadWord) "__getattribute__" = some (some (.builtin "BaseException.__getattribute__")))
    (kigt_BadWord : PySem.W.findIn K (.ref c_BadWord) "__getattr__" = some none)
    (kicl_BadWord : PySem.W.findIn K (.ref c_BadWord) "__class__" = some (some (.builtin "object.__class__")))
    (kimb_BadWord : PySem.W.mroIn K c_BadWord (.type "BaseException") = some true)
    (kimo_BadWord : PySem.W.mroIn K c_BadWord (.type "object") = some true)
    (em_BadWord_KeepError : PySem.W.exmOne K (.ref c_BadWord) (.ref c_KeepError) = some true)
    (k2_BadWord_BadCount : PySem.W.kitOne K (.ref c_BadWord) (.ref c_BadCount) = some false)
    (k2_BadWord_NoPlace : PySem.W.kitOne K (.ref c_BadWord) (.ref c_NoPlace) = some false)
    (k2_BadWord_BadWord : PySem.W.kitOne K (.ref c_BadWord) (.ref c_BadWord) = some true)
    (k2_BadWord_ValueError : PySem.W.kitOne K (.ref c_BadWord) (.type "ValueError") = some true)
    (x_BadCount : PySem.W.excIn K c_BadCount bmV "ValueError.__new__" = true)
    (kiga_BadCount : PySem.W.findIn K (.ref c_BadCount) "__getattribute__" = some (some (.builtin "BaseException.__getattribute__")))
    (kigt_BadCount : PySem.W.findIn K (.ref c_BadCount) "__getattr__" = some none)
    (kicl_BadCount : PySem.W.findIn K (.ref c_BadCount) "__class__" = some (some (.builtin "object.__class__")))
    (kimb_BadCount : PySem.W.mroIn K c_BadCount (.type "BaseException") = some true)
    (kimo_BadCount : PySem.W.mroIn K c_BadCount (.type "object") = some true)
    (em_BadCount_KeepError : PySem.W.exmOne K (.ref c_BadCount) (.ref c_KeepError) = some true)
    (k2_BadCount_BadCount : PySem.W.kitOne K (.ref c_BadCount) (.ref c_BadCount) = some true)
    (k2_BadCount_NoPlace : PySem.W.kitOne K (.ref c_BadCount) (.ref c_NoPlace) = some false)
    (k2_BadCount_BadWord : PySem.W.kitOne K (.ref c_BadCount) (.ref c_BadWord) = some false)
    (k2_BadCount_ValueError : PySem.W.kitOne K (.ref c_BadCount) (.type "ValueError") = some true)
    (x_NoPlace : PySem.W.excIn K c_NoPlace bmV "ValueError.__new__" = true)
    (kiga_NoPlace : PySem.W.findIn K (.ref c_NoPlace) "__getattribute__" = some (some (.builtin "BaseException.__getattribute__")))
    (kigt_NoPlace : PySem.W.findIn K (.ref c_NoPlace) "__getattr__" = some none)
    (kicl_NoPlace : PySem.W.findIn K (.ref c_NoPlace) "__class__" = some (some (.builtin "object.__class__")))
    (kimb_NoPlace : PySem.W.mroIn K c_NoPlace (.type "BaseException") = some true)
    (kimo_NoPlace : PySem.W.mroIn K c_NoPlace (.type "object") = some true)
    (em_NoPlace_KeepError : PySem.W.exmOne K (.ref c_NoPlace) (.ref c_KeepError) = some true)
    (k2_NoPlace_BadCount : PySem.W.kitOne K (.ref c_NoPlace) (.ref c_BadCount) = some false)
    (k2_NoPlace_NoPlace : PySem.W.kitOne K (.ref c_NoPlace) (.ref c_NoPlace) = some true)
    (k2_NoPlace_BadWord : PySem.W.kitOne K (.ref c_NoPlace) (.ref c_BadWord) = some false)
    (k2_NoPlace_ValueError : PySem.W.kitOne K (.ref c_NoPlace) (.type "ValueError") = some true)
    (kihn : PySem.W.specialIn K (.builtin "object.__class__") "__get__" = some (some (.builtin "getset_descriptor.__get__")))
    (kitk : PySem.W.takesIn K (.builtin "object.__class__") = some true)
    (kt_NoneType_int : PySem.W.kitOne K (.type "NoneType") (.type "int") = some false)
    (kt_NoneType_bool : PySem.W.kitOne K (.type "NoneType") (.type "bool") = some false)
    (kt_bool_int : PySem.W.kitOne K (.type "bool") (.type "int") = some true)
    (kt_bool_bool : PySem.W.kitOne K (.type "bool") (.type "bool") = some true)
    (kt_int_int : PySem.W.kitOne K (.type "int") (.type "int") = some true)
    (kt_int_bool : PySem.W.kitOne K (.type "int") (.type "bool") = some false)
    (kt_str_int : PySem.W.kitOne K (.type "str") (.type "int") = some false)
    (kt_str_bool : PySem.W.kitOne K (.type "str") (.type "bool") = some false)
    (kt_list_int : PySem.W.kitOne K (.type "list") (.type "int") = some false)
    (kt_list_bool : PySem.W.kitOne K (.type "list") (.type "bool") = some false)
    (kt_tuple_int : PySem.W.kitOne K (.type "tuple") (.type "int") = some false)
    (kt_tuple_bool : PySem.W.kitOne K (.type "tuple") (.type "bool") = some false)
    (kt_dict_int : PySem.W.kitOne K (.type "dict") (.type "int") = some false)
    (kt_dict_bool : PySem.W.kitOne K (.type "dict") (.type "bool") = some false)
    (n_ValueError : PySem.W.nsIn K mainGlobals "ValueError" = some none)
    (n_bool : PySem.W.nsIn K mainGlobals "bool" = some none)
    (n_int : PySem.W.nsIn K mainGlobals "int" = some none)
    (n_isinstance : PySem.W.nsIn K mainGlobals "isinstance" = some none)
    (n_len : PySem.W.nsIn K mainGlobals "len" = some none)
    (n_max : PySem.W.nsIn K mainGlobals "max" = some none)
    (n_min : PySem.W.nsIn K mainGlobals "min" = some none)
    (n_range : PySem.W.nsIn K mainGlobals "range" = some none)
    : ∃ fd : FuncData, (∀ (s : Shared) (v : Value), BindsTo s fd ⟨[v], []⟩ [("_law_script", v)]) ∧ ∀ base : Heap, K.In base → base.Ns mainGlobals mg → FnOk l.prog w K mg base (CXE l.prog w) true 6 fa fd ["_law_script"] (sp_law K) := by
  have e := hfa.symm.trans (PySem.W.mg_of X G g_law)
  cases e
  let A : Ad := ⟨f_is_whole, (PySem.W.fnOf "is_whole" "is_whole" (defArgs s_is_whole) (defBody s_is_whole) (defScope s_is_whole) .none kV_is_whole dc_is_whole pm_is_whole an_is_whole cd_is_whole ct_is_whole), f__law_cell_at, (PySem.W.fnOf "_law_cell_at" "_law_cell_at" (defArgs s__law_cell_at) (defBody s__law_cell_at) (defScope s__law_cell_at) .none kV__law_cell_at dc__law_cell_at pm__law_cell_at an__law_cell_at cd__law_cell_at ct__law_cell_at), f__law_whole, (PySem.W.fnOf "_law_whole" "_law_whole" (defArgs s__law_whole) (defBody s__law_whole) (defScope s__law_whole) .none kV__law_whole dc__law_whole pm__law_whole an__law_whole cd__law_whole ct__law_whole), f__law_names, (PySem.W.fnOf "_law_names" "_law_names" (defArgs s__law_names) (defBody s__law_names) (defScope s__law_names) .none kV__law_names dc__law_names pm__law_names an__law_names cd__law_names ct__law_names), f_is_within, (PySem.W.fnOf "is_within" "is_within" (defArgs s_is_within) (defBody s_is_within) (defScope s_is_within) .none kV_is_within dc_is_within pm_is_within an_is_within cd_is_within ct_is_within), f__law_due, (PySem.W.fnOf "_law_due" "_law_due" (defArgs s__law_due) (defBody s__law_due) (defScope s__law_due) .none kV__law_due dc__law_due pm__law_due an__law_due cd__law_due ct__law_due), f__law_numbers, (PySem.W.fnOf "_law_numbers" "_law_numbers" (defArgs s__law_numbers) (defBody s__law_numbers) (defScope s__law_numbers) .none kV__law_numbers dc__law_numbers pm__law_numbers an__law_numbers cd__law_numbers ct__law_numbers), f_is_number, (PySem.W.fnOf "is_number" "is_number" (defArgs s_is_number) (defBody s_is_number) (defScope s_is_number) .none kV_is_number dc_is_number pm_is_number an_is_number cd_is_number ct_is_number), f_is_place, (PySem.W.fnOf "is_place" "is_place" (defArgs s_is_place) (defBody s_is_place) (defScope s_is_place) .none kV_is_place dc_is_place pm_is_place an_is_place cd_is_place ct_is_place), f_Memory_init, (PySem.W.fnOf "__init__" "Memory.__init__" (defArgs s_Memory_init) (defBody s_Memory_init) (defScope s_Memory_init) .none kV_Memory_init dc_Memory_init pm_Memory_init an_Memory_init cd_Memory_init ct_Memory_init), f_Memory_want_place, (PySem.W.fnOf "want_place" "Memory.want_place" (defArgs s_Memory_want_place) (defBody s_Memory_want_place) (defScope s_Memory_want_place) .none kV_Memory_want_place dc_Memory_want_place pm_Memory_want_place an_Memory_want_place cd_Memory_want_place ct_Memory_want_place), f_Memory_want_stretch, (PySem.W.fnOf "want_stretch" "Memory.want_stretch" (defArgs s_Memory_want_stretch) (defBody s_Memory_want_stretch) (defScope s_Memory_want_stretch) .none kV_Memory_want_stretch dc_Memory_want_stretch pm_Memory_want_stretch an_Memory_want_stretch cd_Memory_want_stretch ct_Memory_want_stretch), f_kind, (PySem.W.fnOf "kind" "kind" (defArgs s_kind) (defBody s_kind) (defScope s_kind) .none kV_kind dc_kind pm_kind an_kind cd_kind ct_kind), f_Memory_read, (PySem.W.fnOf "read" "Memory.read" (defArgs s_Memory_read) (defBody s_Memory_read) (defScope s_Memory_read) .none kV_Memory_read dc_Memory_read pm_Memory_read an_Memory_read cd_Memory_read ct_Memory_read), f_Memory_copy, (PySem.W.fnOf "copy" "Memory.copy" (defArgs s_Memory_copy) (defBody s_Memory_copy) (defScope s_Memory_copy) .none kV_Memory_copy dc_Memory_copy pm_Memory_copy an_Memory_copy cd_Memory_copy ct_Memory_copy), f_Memory_write, (PySem.W.fnOf "write" "Memory.write" (defArgs s_Memory_write) (defBody s_Memory_write) (defScope s_Memory_write) .none kV_Memory_write dc_Memory_write pm_Memory_write an_Memory_write cd_Memory_write ct_Memory_write), f__law_copied, (PySem.W.fnOf "_law_copied" "_law_copied" (defArgs s__law_copied) (defBody s__law_copied) (defScope s__law_copied) .none kV__law_copied dc__law_copied pm__law_copied an__law_copied cd__law_copied ct__law_copied), fa, (PySem.W.fnOf "law" "law" (defArgs s_law) (defBody s_law) (defScope s_law) .none kV_law dc_law pm_law an_law cd_law ct_law), c_KeepError, c_BadWord, c_BadCount, c_NoPlace, c_Memory⟩
  have T : Txt K mg A := {
    g_KeepError := PySem.W.mg_of X G g_KeepError,
    g_BadWord := PySem.W.mg_of X G g_BadWord,
    g_BadCount := PySem.W.mg_of X G g_BadCount,
    g_NoPlace := PySem.W.mg_of X G g_NoPlace,
    g_Memory := PySem.W.mg_of X G g_Memory,
    v_KeepError := ⟨_, PySem.W.mg_of X G g_KeepError, rfl⟩,
    v_BadWord := ⟨_, PySem.W.mg_of X G g_BadWord, rfl⟩,
    v_BadCount := ⟨_, PySem.W.mg_of X G g_BadCount, rfl⟩,
    v_NoPlace := ⟨_, PySem.W.mg_of X G g_NoPlace, rfl⟩,
    cl_Memory := ⟨pg_Memory, hd_Memory, po_Memory, sa_Memory⟩,
    mk_Memory := ⟨mk_Memory, a_Memory_init, i_Memory_init, kc_Memory⟩,
    na_Memory_size := na_Memory_size,
    na_Memory_words := na_Memory_words,
    g_is_whole := PySem.W.mg_of X G g_is_whole,
    fn_is_whole := fun_mk (st := s_is_whole) l_is_whole d_is_whole k_is_whole,
    b_is_whole := (fun_mk (st := s_is_whole) l_is_whole d_is_whole k_is_whole).binds (ps := ["thing"]) fun _ _ _ _ _ _ us hl => match us, hl with | [_], _ => rfl,
    g__law_cell_at := PySem.W.mg_of X G g__law_cell_at,
    fn__law_cell_at := fun_mk (st := s__law_cell_at) l__law_cell_at d__law_cell_at k__law_cell_at,
    b__law_cell_at := (fun_mk (st := s__law_cell_at) l__law_cell_at d__law_cell_at k__law_cell_at).binds (ps := ["_law_script", "_law_k"]) fun _ _ _ _ _ _ us hl => match us, hl with | [_, _], _ => rfl,
    g__law_whole := PySem.W.mg_of X G g__law_whole,
    fn__law_whole := fun_mk (st := s__law_whole) l__law_whole d__law_whole k__law_whole,
    b__law_whole := (fun_mk (st := s__law_whole) l__law_whole d__law_whole k__law_whole).binds (ps := ["_law_found"]) fun _ _ _ _ _ _ us hl => match us, hl with | [_], _ => rfl,
    g__law_names := PySem.W.mg_of X G g__law_names,
    fn__law_names := fun_mk (st := s__law_names) l__law_names d__law_names k__law_names,
    b__law_names := (fun_mk (st := s__law_names) l__law_names d__law_names k__law_names).binds (ps := ["_law_e"]) fun _ _ _ _ _ _ us hl => match us, hl with | [_], _ => rfl,
    g_is_within := PySem.W.mg_of X G g_is_within,
    fn_is_within := fun_mk (st := s_is_within) l_is_within d_is_within k_is_within,
    b_is_within := (fun_mk (st := s_is_within) l_is_within d_is_within k_is_within).binds (ps := ["thing", "least", "most"]) fun _ _ _ _ _ _ us hl => match us, hl with | [_, _, _], _ => rfl,
    g__law_due := PySem.W.mg_of X G g__law_due,
    fn__law_due := fun_mk (st := s__law_due) l__law_due d__law_due k__law_due,
    b__law_due := (fun_mk (st := s__law_due) l__law_due d__law_due k__law_due).binds (ps := ["_law_start", "_law_goal", "_law_many", "_law_size"]) fun _ _ _ _ _ _ us hl => match us, hl with | [_, _, _, _], _ => rfl,
    g__law_numbers := PySem.W.mg_of X G g__law_numbers,
    fn__law_numbers := fun_mk (st := s__law_numbers) l__law_numbers d__law_numbers k__law_numbers,
    b__law_numbers := (fun_mk (st := s__law_numbers) l__law_numbers d__law_numbers k__law_numbers).binds (ps := ["_law_script", "_law_k", "_law_size"]) fun _ _ _ _ _ _ us hl => match us, hl with | [_, _, _], _ => rfl,
    g_is_number := PySem.W.mg_of X G g_is_number,
    fn_is_number := fun_mk (st := s_is_number) l_is_number d_is_number k_is_number,
    b_is_number := (fun_mk (st := s_is_number) l_is_number d_is_number k_is_number).binds (ps := ["thing"]) fun _ _ _ _ _ _ us hl => match us, hl with | [_], _ => rfl,
    g_is_place := PySem.W.mg_of X G g_is_place,
    fn_is_place := fun_mk (st := s_is_place) l_is_place d_is_place k_is_place,
    b_is_place := (fun_mk (st := s_is_place) l_is_place d_is_place k_is_place).binds (ps := ["thing"]) fun _ _ _ _ _ _ us hl => match us, hl with | [_], _ => rfl,
    fn_Memory_init := fun_mk (st := s_Memory_init) l_Memory_init d_Memory_init k_Memory_init,
    b_Memory_init := (fun_mk (st := s_Memory_init) l_Memory_init d_Memory_init k_Memory_init).binds (ps := ["self", "size"]) fun _ _ _ _ _ _ us hl => match us, hl with | [_, _], _ => rfl,
    m_Memory_want_place := ⟨a_Memory_want_place, i_Memory_want_place, k_Memory_want_place⟩,
    fn_Memory_want_place := fun_mk (st := s_Memory_want_place) l_Memory_want_place d_Memory_want_place k_Memory_want_place,
    b_Memory_want_place := (fun_mk (st := s_Memory_want_place) l_Memory_want_place d_Memory_want_place k_Memory_want_place).binds (ps := ["self", "at"]) fun _ _ _ _ _ _ us hl => match us, hl with | [_, _], _ => rfl,
    m_Memory_want_stretch := ⟨a_Memory_want_stretch, i_Memory_want_stretch, k_Memory_want_stretch⟩,
    fn_Memory_want_stretch := fun_mk (st := s_Memory_want_stretch) l_Memory_want_stretch d_Memory_want_stretch k_Memory_want_stretch,
    b_Memory_want_stretch := (fun_mk (st := s_Memory_want_stretch) l_Memory_want_stretch d_Memory_want_stretch k_Memory_want_stretch).binds (ps := ["self", "begin", "many"]) fun _ _ _ _ _ _ us hl => match us, hl with | [_, _, _], _ => rfl,
    g_kind := PySem.W.mg_of X G g_kind,
    fn_kind := fun_mk (st := s_kind) l_kind d_kind k_kind,
    b_kind := (fun_mk (st := s_kind) l_kind d_kind k_kind).binds (ps := ["word"]) fun _ _ _ _ _ _ us hl => match us, hl with | [_], _ => rfl,
    m_Memory_read := ⟨a_Memory_read, i_Memory_read, k_Memory_read⟩,
    fn_Memory_read := fun_mk (st := s_Memory_read) l_Memory_read d_Memory_read k_Memory_read,
    b_Memory_read := (fun_mk (st := s_Memory_read) l_Memory_read d_Memory_read k_Memory_read).binds (ps := ["self", "at"]) fun _ _ _ _ _ _ us hl => match us, hl with | [_, _], _ => rfl,
    m_Memory_copy := ⟨a_Memory_copy, i_Memory_copy, k_Memory_copy⟩,
    fn_Memory_copy := fun_mk (st := s_Memory_copy) l_Memory_copy d_Memory_copy k_Memory_copy,
    b_Memory_copy := (fun_mk (st := s_Memory_copy) l_Memory_copy d_Memory_copy k_Memory_copy).binds (ps := ["self", "start", "goal", "many"]) fun _ _ _ _ _ _ us hl => match us, hl with | [_, _, _, _], _ => rfl,
    m_Memory_write := ⟨a_Memory_write, i_Memory_write, k_Memory_write⟩,
    fn_Memory_write := fun_mk (st := s_Memory_write) l_Memory_write d_Memory_write k_Memory_write,
    b_Memory_write := (fun_mk (st := s_Memory_write) l_Memory_write d_Memory_write k_Memory_write).binds (ps := ["self", "at", "word"]) fun _ _ _ _ _ _ us hl => match us, hl with | [_, _, _], _ => rfl,
    g__law_copied := PySem.W.mg_of X G g__law_copied,
    fn__law_copied := fun_mk (st := s__law_copied) l__law_copied d__law_copied k__law_copied,
    b__law_copied := (fun_mk (st := s__law_copied) l__law_copied d__law_copied k__law_copied).binds (ps := ["_law_memory", "_law_row", "_law_start", "_law_goal", "_law_many"]) fun _ _ _ _ _ _ us hl => match us, hl with | [_, _, _, _, _], _ => rfl,
    g_law := PySem.W.mg_of X G g_law,
    fn_law := fun_mk (st := s_law) l_law d_law k_law,
    b_law := (fun_mk (st := s_law) l_law d_law k_law).binds (ps := ["_law_script"]) fun _ _ _ _ _ _ us hl => match us, hl with | [_], _ => rfl,
    v_NOTHING := ⟨_, PySem.W.mg_of X G v_NOTHING, ⟨_, rfl⟩⟩,
    v_MOST_NUMBER := ⟨_, PySem.W.mg_of X G v_MOST_NUMBER, ⟨_, rfl⟩⟩,
    v_MOST_PLACE := ⟨_, PySem.W.mg_of X G v_MOST_PLACE, ⟨_, rfl⟩⟩,
    v_MOST_WORDS := ⟨_, PySem.W.mg_of X G v_MOST_WORDS, ⟨_, rfl⟩⟩,
    x_BadWord := x_BadWord,
    ki_BadWord := ⟨kiga_BadWord, kigt_BadWord, kicl_BadWord, kihn, kitk, kimb_BadWord, kimo_BadWord⟩,
    em_BadWord_KeepError := em_BadWord_KeepError,
    k2_BadWord_BadCount := k2_BadWord_BadCount,
    k2_BadWord_NoPlace := k2_BadWord_NoPlace,
    k2_BadWord_BadWord := k2_BadWord_BadWord,
    k2_BadWord_ValueError := k2_BadWord_ValueError,
    x_BadCount := x_BadCount,
    ki_BadCount := ⟨kiga_BadCount, kigt_BadCount, kicl_BadCount, kihn, kitk, kimb_BadCount, kimo_BadCount⟩,
    em_BadCount_KeepError := em_BadCount_KeepError,
    k2_BadCount_BadCount := k2_BadCount_BadCount,
    k2_BadCount_NoPlace := k2_BadCount_NoPlace,
    k2_BadCount_BadWord := k2_BadCount_BadWord,
    k2_BadCount_ValueError := k2_BadCount_ValueError,
    x_NoPlace := x_NoPlace,
    ki_NoPlace := ⟨kiga_NoPlace, kigt_NoPlace, kicl_NoPlace, kihn, kitk, kimb_NoPlace, kimo_NoPlace⟩,
    em_NoPlace_KeepError := em_NoPlace_KeepError,
    k2_NoPlace_BadCount := k2_NoPlace_BadCount,
    k2_NoPlace_NoPlace := k2_NoPlace_NoPlace,
    k2_NoPlace_BadWord := k2_NoPlace_BadWord,
    k2_NoPlace_ValueError := k2_NoPlace_ValueError,
    kt_NoneType_int := kt_NoneType_int,
    kt_NoneType_bool := kt_NoneType_bool,
    kt_bool_int := kt_bool_int,
    kt_bool_bool := kt_bool_bool,
    kt_int_int := kt_int_int,
    kt_int_bool := kt_int_bool,
    kt_str_int := kt_str_int,
    kt_str_bool := kt_str_bool,
    kt_list_int := kt_list_int,
    kt_list_bool := kt_list_bool,
    kt_tuple_int := kt_tuple_int,
    kt_tuple_bool := kt_tuple_bool,
    kt_dict_int := kt_dict_int,
    kt_dict_bool := kt_dict_bool,
    n_ValueError := PySem.W.mg_none_of X G n_ValueError,
    n_bool := PySem.W.mg_none_of X G n_bool,
    n_int := PySem.W.mg_none_of X G n_int,
    n_isinstance := PySem.W.mg_none_of X G n_isinstance,
    n_len := PySem.W.mg_none_of X G n_len,
    n_max := PySem.W.mg_none_of X G n_max,
    n_min := PySem.W.mg_none_of X G n_min,
    n_range := PySem.W.mg_none_of X G n_range }
  exact ⟨_, fun s v => .of_eq rfl, fun base _ _ => ok_law T⟩
theorem walk {l : PySem.W.OpenLaw} {q : Program} {loose : List Str} {XP : (Str → Option Value) → Heap → Prop} {YP : World → Heap → Prop} {d : DefRec} {K : Params → PySem.W.Frag} (hn : l.most = some 63) (hdf : d.params.defaults = [])
    (hY : ∀ (w : World) (h : Heap), YP w h → (K w.params).In h)
    (F : ∀ (w : World) (mg : Str → Option Value) (fa : Addr) (h : Heap), (K w.params).In h → h.Ns mainGlobals mg → mg d.name = some (.ref fa) →
      ∃ fd : FuncData, (∀ (s : Shared) (u : Value), BindsTo s fd ⟨[u], []⟩ [("_law_script", u)]) ∧ ∀ base : Heap, (K w.params).In base → base.Ns mainGlobals mg → FnOk l.prog w (K w.params) mg base (CXE l.prog w) true 6 fa fd ["_law_script"] (sp_law (K w.params))) :
    PySem.W.WalkO q loose XP YP l.row.toRowW d [] (fun f vs => PySem.call f vs) :=
  L2.walk_of (n := 63) (k := 6) (x := "_law_script") (ca := true) (CX := fun w => CXE l.prog w) (sp := fun w => sp_law (K w.params)) hn (by decide) hdf ⟨fun _ => rfl, by decide, by decide⟩ hY F (fun _ _ a ns hl _ hS => ⟨a, ns, rfl, hS, hl, fun _ => rfl⟩)
    fun _ _ _ _ _ ⟨_, _, _, _, _, _, _, _, _, _, _, _, z⟩ => z
theorem walkZ {l : PySem.W.OpenLaw} {q : Program} {loose : List Str} {XP : (Str → Option Value) → Heap → Prop} {d : DefRec} {K : Params → PySem.W.Frag} (hn : l.most = some 63) (hdf : d.params.defaults = [])
    (F : ∀ (w : World) (mg : Str → Option Value) (fa : Addr) (h : Heap), (K w.params).In h → h.Ns mainGlobals mg → mg d.name = some (.ref fa) →
      ∃ fd : FuncData, (∀ (s : Shared) (u : Value), BindsTo s fd ⟨[u], []⟩ [("_law_script", u)]) ∧ ∀ base : Heap, (K w.params).In base → base.Ns mainGlobals mg → FnOk l.prog w (K w.params) mg base (CXE l.prog w) true 6 fa fd ["_law_script"] (sp_law (K w.params))) :
    PySem.W.WalkO q loose XP (PySem.W.InK K) l.row.toRowW d [] (fun f vs => PySem.call f vs) := walk hn hdf (fun _ _ Y => Y) F
end
end K03
open PySem PySem.W PySem.W.X PySem.W.ZRun PyProof.Rows
set_option maxRecDepth 100000 in
set_option maxHeartbeats 0 in
theorem PySem.Challenge.cw_cellkeep_k03_memory_copied_holds : PySem.Challenge.rw_cellkeep_k03_memory_copied.Holds := by
  w_on; o_law; z_head; (case hw => w_witness2)
  k_fill
  intro w s₀ s₁ mg mb G y fa o pm cd doc dV kV ho hd hcd hD hmg hg args vals as L hpre hlay hrd hwl hlo
  z_open y L KX ZH ZN ZT
  refine K03.walkZ (l := PySem.Challenge.rw_cellkeep_k03_memory_copied) rfl rfl ?F w s₀ s₁ mg mb G KX fa o pm cd doc dV kV ho hd hcd hD hmg hg args vals as hpre hlay hrd hwl hlo
  case F =>
    intro w mg fa h KX G hmg
    refine' K03.all_mk KX G hmg ?g_KeepError ?g_BadWord ?g_BadCount ?g_NoPlace ?g_Memory ?pg_Memory ?hd_Memory ?po_Memory ?sa_Memory ?mk_Memory ?kc_Memory ?na_Memory_size ?na_Memory_words ?g_is_whole ?l_is_whole ?d_is_whole ?k_is_whole ?g__law_cell_at ?l__law_cell_at ?d__law_cell_at ?k__law_cell_at ?g__law_whole ?l__law_whole ?d__law_whole ?k__law_whole ?g__law_names ?l__law_names ?d__law_names ?k__law_names ?g_is_within ?l_is_within ?d_is_within ?k_is_within ?g__law_due ?l__law_due ?d__law_due ?k__law_due ?g__law_numbers ?l__law_numbers ?d__law_numbers ?k__law_numbers ?g_is_number ?l_is_number ?d_is_number ?k_is_number ?g_is_place ?l_is_place ?d_is_place ?k_is_place ?a_Memory_init ?i_Memory_init ?l_Memory_init ?d_Memory_init ?k_Memory_init ?a_Memory_want_place ?i_Memory_want_place ?l_Memory_want_place ?d_Memory_want_place ?k_Memory_want_place ?a_Memory_want_stretch ?i_Memory_want_stretch ?l_Memory_want_stretch ?d_Memory_want_stretch ?k_Memory_want_stretch ?g_kind ?l_kind ?d_kind ?k_kind ?a_Memory_read ?i_Memory_read ?l_Memory_read ?d_Memory_read ?k_Memory_read ?a_Memory_copy ?i_Memory_copy ?l_Memory_copy ?d_Memory_copy ?k_Memory_copy ?a_Memory_write ?i_Memory_write ?l_Memory_write ?d_Memory_write ?k_Memory_write ?g__law_copied ?l__law_copied ?d__law_copied ?k__law_copied ?g_law ?l_law ?d_law ?k_law ?v_NOTHING ?v_MOST_NUMBER ?v_MOST_PLACE ?v_MOST_WORDS ?x_BadWord ?kiga_BadWord ?kigt_BadWord ?kicl_BadWord ?kimb_BadWord ?kimo_BadWord ?em_BadWord_KeepError ?k2_BadWord_BadCount ?k2_BadWord_NoPlace ?k2_BadWord_BadWord ?k2_BadWord_ValueError ?x_BadCount ?kiga_BadCount ?kigt_BadCount ?kicl_BadCount ?kimb_BadCount ?kimo_BadCount ?em_BadCount_KeepError ?k2_BadCount_BadCount ?k2_BadCount_NoPlace ?k2_BadCount_BadWord ?k2_BadCount_ValueError ?x_NoPlace ?kiga_NoPlace ?kigt_NoPlace ?kicl_NoPlace ?kimb_NoPlace ?kimo_NoPlace ?em_NoPlace_KeepError ?k2_NoPlace_BadCount ?k2_NoPlace_NoPlace ?k2_NoPlace_BadWord ?k2_NoPlace_ValueError ?kihn ?kitk ?kt_NoneType_int ?kt_NoneType_bool ?kt_bool_int ?kt_bool_bool ?kt_int_int ?kt_int_bool ?kt_str_int ?kt_str_bool ?kt_list_int ?kt_list_bool ?kt_tuple_int ?kt_tuple_bool ?kt_dict_int ?kt_dict_bool ?n_ValueError ?n_bool ?n_int ?n_isinstance ?n_len ?n_max ?n_min ?n_range
    (case g_KeepError => k_is)
    (case g_BadWord => k_is)
    (case g_BadCount => k_is)
    (case g_NoPlace => k_is)
    (case g_Memory => k_is)
    (case pg_Memory => k_is)
    (case hd_Memory => k_is)
    (case po_Memory => k_is)
    (case sa_Memory => k_is)
    (case mk_Memory => k_is)
    (case kc_Memory => k_is)
    (case na_Memory_size => k_is)
    (case na_Memory_words => k_is)
    (case g_is_whole => k_is)
    (case l_is_whole => k_is)
    (case d_is_whole => k_is)
    (case k_is_whole => k_is)
    (case g__law_cell_at => k_is)
    (case l__law_cell_at => k_is)
    (case d__law_cell_at => k_is)
    (case k__law_cell_at => k_is)
    (case g__law_whole => k_is)
    (case l__law_whole => k_is)
    (case d__law_whole => k_is)
    (case k__law_whole => k_is)
    (case g__law_names => k_is)
    (case l__law_names => k_is)
    (case d__law_names => k_is)
    (case k__law_names => k_is)
    (case g_is_within => k_is)
    (case l_is_within => k_is)
    (case d_is_within => k_is)
    (case k_is_within => k_is)
    (case g__law_due => k_is)
    (case l__law_due => k_is)
    (case d__law_due => k_is)
    (case k__law_due => k_is)
    (case g__law_numbers => k_is)
    (case l__law_numbers => k_is)
    (case d__law_numbers => k_is)
    (case k__law_numbers => k_is)
    (case g_is_number => k_is)
    (case l_is_number => k_is)
    (case d_is_number => k_is)
    (case k_is_number => k_is)
    (case g_is_place => k_is)
    (case l_is_place => k_is)
    (case d_is_place => k_is)
    (case k_is_place => k_is)
    (case a_Memory_init => k_is)
    (case i_Memory_init => k_is)
    (case l_Memory_init => k_is)
    (case d_Memory_init => k_is)
    (case k_Memory_init => k_is)
    (case a_Memory_want_place => k_is)
    (case i_Memory_want_place => k_is)
    (case l_Memory_want_place => k_is)
    (case d_Memory_want_place => k_is)
    (case k_Memory_want_place => k_is)
    (case a_Memory_want_stretch => k_is)
    (case i_Memory_want_stretch => k_is)
    (case l_Memory_want_stretch => k_is)
    (case d_Memory_want_stretch => k_is)
    (case k_Memory_want_stretch => k_is)
    (case g_kind => k_is)
    (case l_kind => k_is)
    (case d_kind => k_is)
    (case k_kind => k_is)
    (case a_Memory_read => k_is)
    (case i_Memory_read => k_is)
    (case l_Memory_read => k_is)
    (case d_Memory_read => k_is)
    (case k_Memory_read => k_is)
    (case a_Memory_copy => k_is)
    (case i_Memory_copy => k_is)
    (case l_Memory_copy => k_is)
    (case d_Memory_copy => k_is)
    (case k_Memory_copy => k_is)
    (case a_Memory_write => k_is)
    (case i_Memory_write => k_is)
    (case l_Memory_write => k_is)
    (case d_Memory_write => k_is)
    (case k_Memory_write => k_is)
    (case g__law_copied => k_is)
    (case l__law_copied => k_is)
    (case d__law_copied => k_is)
    (case k__law_copied => k_is)
    (case g_law => k_is)
    (case l_law => k_is)
    (case d_law => k_is)
    (case k_law => k_is)
    (case v_NOTHING => k_is)
    (case v_MOST_NUMBER => k_is)
    (case v_MOST_PLACE => k_is)
    (case v_MOST_WORDS => k_is)
    (case x_BadWord => k_exc)
    (case kiga_BadWord => k_is)
    (case kigt_BadWord => k_is)
    (case kicl_BadWord => k_is)
    (case kimb_BadWord => k_is)
    (case kimo_BadWord => k_is)
    (case em_BadWord_KeepError => kts_exm)
    (case k2_BadWord_BadCount => kit_is)
    (case k2_BadWord_NoPlace => kit_is)
    (case k2_BadWord_BadWord => kit_is)
    (case k2_BadWord_ValueError => kit_is)
    (case x_BadCount => k_exc)
    (case kiga_BadCount => k_is)
    (case kigt_BadCount => k_is)
    (case kicl_BadCount => k_is)
    (case kimb_BadCount => k_is)
    (case kimo_BadCount => k_is)
    (case em_BadCount_KeepError => kts_exm)
    (case k2_BadCount_BadCount => kit_is)
    (case k2_BadCount_NoPlace => kit_is)
    (case k2_BadCount_BadWord => kit_is)
    (case k2_BadCount_ValueError => kit_is)
    (case x_NoPlace => k_exc)
    (case kiga_NoPlace => k_is)
    (case kigt_NoPlace => k_is)
    (case kicl_NoPlace => k_is)
    (case kimb_NoPlace => k_is)
    (case kimo_NoPlace => k_is)
    (case em_NoPlace_KeepError => kts_exm)
    (case k2_NoPlace_BadCount => kit_is)
    (case k2_NoPlace_NoPlace => kit_is)
    (case k2_NoPlace_BadWord => kit_is)
    (case k2_NoPlace_ValueError => kit_is)
    (case kihn => k_is)
    (case kitk => k_is)
    (case kt_NoneType_int => kit_is)
    (case kt_NoneType_bool => kit_is)
    (case kt_bool_int => kit_is)
    (case kt_bool_bool => kit_is)
    (case kt_int_int => kit_is)
    (case kt_int_bool => kit_is)
    (case kt_str_int => kit_is)
    (case kt_str_bool => kit_is)
    (case kt_list_int => kit_is)
    (case kt_list_bool => kit_is)
    (case kt_tuple_int => kit_is)
    (case kt_tuple_bool => kit_is)
    (case kt_dict_int => kit_is)
    (case kt_dict_bool => kit_is)
    (case n_ValueError => k_is)
    (case n_bool => k_is)
    (case n_int => k_is)
    (case n_isinstance => k_is)
    (case n_len => k_is)
    (case n_max => k_is)
    (case n_min => k_is)
    (case n_range => k_is)


