import PyProof.Rows.All
import Wide.All
import OpenK.AllK
import Wide.FinOn
import Lean
import PyProof.EqAt
import PyProof.EqKinds
import PyProof.TupleCall
import PySem.Challenge.RW_cellkeep_k20_what_is_not_sound
set_option Elab.async false
set_option linter.all false
set_option maxRecDepth 100000
set_option maxHeartbeats 4000000
abbrev aa := @List.getElem?_cons_zero
abbrev ae := @List.getElem?_cons_succ
abbrev af := @List.length_cons
abbrev ah := @Option.some.injEq
abbrev ai := @List.cons.injEq
abbrev aj := @Ne.symm
abbrev ak := @List.length_nil
abbrev aq := @List.map_cons
abbrev au := @True.intro
abbrev av := @List.map_nil
abbrev ax := @List.length_map
abbrev az := @List.append_nil
abbrev aA := @Nat.le_trans
abbrev aB := @Nat.sub_self
abbrev aC := @PySem.W.mg_of
abbrev aD := @List.set_cons_succ
abbrev aE := @List.set_cons_zero
abbrev aF := @Nat.le_refl
abbrev aG := @List.getElem?_eq_getElem
abbrev aH := @Bool.false_eq_true
abbrev aI := @Bool.and_eq_true
abbrev aJ := @List.cons_append
abbrev aK := @List.length_set
abbrev aL := @List.getD_eq_getElem?_getD
abbrev aM := @Bool.not_eq_true'
abbrev aN := @List.nil_append
abbrev aO := @List.length_append
abbrev aP := @List.size_toArray
abbrev aQ := @Nat.lt_of_lt_of_le
abbrev aR := @Bool.false_ne_true
abbrev aS := @Nat.ne_of_lt
abbrev aT := @Option.some.inj
abbrev aU := @List.mem_singleton
abbrev aV := @List.map_append
abbrev aW := @List.map_map
abbrev aX := @List.mem_append_left
abbrev aY := @List.mem_append_right
abbrev aZ := @List.mem_cons_of_mem
abbrev a_ := @List.mem_cons_self
abbrev ba := @List.all_cons
abbrev bb := @List.getElem?_map
abbrev bc := @Bool.true_eq_false
abbrev bf := @List.getElem_mem
abbrev bg := @List.length_replicate
abbrev bh := @List.getElem?_set
abbrev bj := @List.find?_cons
abbrev bp := @List.length_take
abbrev bq := @PySem.W.kia_one
abbrev br := @Int.le_refl
abbrev bt := @List.any_cons
abbrev bu := @Nat.lt_irrefl
abbrev bw := @Nat.zero_le
abbrev bz := @PySem.F.slot_list_append
abbrev bA := @PySem.F.type_list_append
abbrev bB := @PySem.W.mg_none_of
abbrev bC := @List.length_filter_le
abbrev bD := @List.mem_append
abbrev bE := @List.take_length
abbrev bF := @Int.emod_lt_of_pos
abbrev bG := @Int.emod_nonneg
abbrev bH := @List.replicate_succ
abbrev bI := @Nat.lt_of_le_of_lt
abbrev bJ := @Option.join_some
abbrev bK := @List.lookup_cons
abbrev bL := @List.mem_map_of_mem
abbrev bM := @List.take_add_one
abbrev bN := @Nat.add_le_add
abbrev bO := @List.sum_cons
abbrev bP := @Nat.min_self
abbrev bQ := @Or.inr
abbrev bR := @Sum.inl.inj
abbrev bS := @List.filter_map
abbrev bT := @List.flatten_cons
abbrev bU := @List.getElem?_zipWith
abbrev bV := @List.length_zipWith
abbrev bW := @Nat.le_of_lt
abbrev bX := @PyProof.Rows.callWith_type1
abbrev bY := @Bool.eq_iff_iff
abbrev bZ := @Int.toNat_of_nonneg
abbrev b9 := @List.any_eq_false
abbrev b_ := @List.any_map
abbrev cb := @List.eq_of_mem_replicate
abbrev cf := @List.flatMap_cons
abbrev cg := @List.getElem?_eq_none
abbrev cj := @List.map_congr_left
abbrev ck := @List.mem_or_eq_of_mem_set
abbrev cm := @List.sum_append
abbrev cq := @Nat.lt_succ_self
abbrev cu := @Nat.succ_le_succ
abbrev cw := @PySem.mem_of_lookup
abbrev cx := @List.any_eq_true
abbrev cy := @List.append_assoc
abbrev cz := @List.append_inj'
abbrev cD := @List.filterMap_cons
abbrev cE := @List.filter_append
abbrev cG := @List.getElem?_replicate
abbrev cI := @List.length_drop
abbrev cJ := @List.mem_filter
abbrev cK := @List.mem_map
abbrev cN := @List.mem_of_getElem?
abbrev cO := @List.mem_range
abbrev cQ := @Nat.ne_of_gt
abbrev cT := @Option.map_some
abbrev cU := @PySem.F.slot_list_extend
abbrev cV := @PySem.F.type_list_extend
abbrev cX := @PySem.W.hideAll_get
abbrev cY := @PySem.W.looks_findIn
abbrev cZ := @List.Pairwise.nil
abbrev c6 := @List.filter_congr
abbrev c7 := @List.getElem?_append_right
abbrev c8 := @List.length_range
abbrev c_ := @List.length_singleton
abbrev de := @List.map_id''
abbrev df := @List.of_mem_zip
abbrev dg := @List.pairwise_append
abbrev di := @List.pairwise_cons
abbrev dj := @List.range_succ_eq_map
abbrev dk := @Option.getD_some
abbrev dt := @Option.isSome_map
abbrev du := @PySem.W.callWith_K
abbrev dv := @PySem.W.of_hideAll
abbrev dw := @PySem.W.plainGet_of
namespace L2
open PySem PySem.Spec PyProof.Rows
noncomputable abbrev Key:=Sum Int Str
noncomputable def B3:Key->Value->Bool
 | .inl k,v=>Value.isInt k v
 | .inr x,v=>Value.isStrOf x v
noncomputable def SO (w:World):Key->Int
 | .inl k=>hashInt k
 | .inr x=>hashStr w x
theorem iu:∀{k:Key} {v:Value},B3 k v=true->(∃i t,k=Sum.inl i/\v=Value.int i t)∨(∃x t,k=Sum.inr x/\v=Value.str x t)
 | .inl i,v,h=>by
  obtain⟨t,e⟩:=Value.isInt_shape (k:=i) (v:=v) h
  exact .inl ⟨i,t,rfl,e⟩
 | .inr x,v,h=>by
  obtain⟨t,e⟩:=Value.isStrOf_shape (x:=x) (v:=v) h
  exact .inr ⟨x,t,rfl,e⟩
theorem K_(i:Int)(t:Tok):B3 (.inl i) (.int i t)=true:=by simp[B3,Value.isInt]
theorem La(x:Str)(t:Tok):B3 (.inr x) (.str x t)=true:=by simp[B3,Value.isStrOf]
theorem PU(a b:Int):decide ((Sum.inl a:Key)=Sum.inl b)=(a==b):=by
 by_cases e:a=b
 ·subst e;simp
 ·have h:¬(Sum.inl a:Key)=Sum.inl b:=λq=>e (bR q)
  rw[decide_eq_false h]
  exact(beq_eq_false_iff_ne.mpr e).symm
theorem PY(a b:Str):decide ((Sum.inr a:Key)=Sum.inr b)=decide (a=b):=by
 by_cases e:a=b
 ·subst e;simp
 ·have h:¬(Sum.inr a:Key)=Sum.inr b:=λq=>e (Sum.inr.inj q)
  rw[decide_eq_false h,decide_eq_false e]
theorem PV(a:Int)(b:Str):decide ((Sum.inl a:Key)=Sum.inr b)=false:=decide_eq_false (λq=>nomatch q)
theorem PX(a:Str)(b:Int):decide ((Sum.inr a:Key)=Sum.inl b)=false:=decide_eq_false (λq=>nomatch q)
noncomputable def jL (prog:Program) (w:World):PySem.KeyKind prog w Key where
 is:=B3
 hash:=SO w
 inj:=λv a b ha hb=>by
  rcases iu ha with ⟨i,t,rfl,rfl⟩|⟨x,t,rfl,rfl⟩
  ·rcases iu hb with ⟨j,u,rfl,e⟩|⟨y,u,rfl,e⟩
   ·injection e with e1 _;rw[e1]
   ·exact nomatch e
  ·rcases iu hb with ⟨j,u,rfl,e⟩|⟨y,u,rfl,e⟩
   ·exact nomatch e
   ·injection e with e1 _;rw[e1]
 byValue:=λk v h=>by
  rcases iu h with ⟨i,t,rfl,rfl⟩|⟨x,t,rfl,rfl⟩<;>rfl
 pyHash:=λhv h=>by
  rcases iu hv with ⟨i,t,rfl,rfl⟩|⟨x,t,rfl,rfl⟩
  ·exact wpAny_pyHash_int h
  ·exact wpAny_pyHash_str h
 eqBool:=λhu hv h=>by
  rcases iu hu with ⟨i,t,rfl,rfl⟩|⟨x,t,rfl,rfl⟩
  ·rcases iu hv with ⟨j,u,rfl,rfl⟩|⟨y,u,rfl,rfl⟩
   ·rw[PU]at h;exact wpAny_eqBool_int h
   ·rw[PV]at h;exact SeqAt.EqAt.int_str i t y u _ _ _ _ h
  ·rcases iu hv with ⟨j,u,rfl,rfl⟩|⟨y,u,rfl,rfl⟩
   ·rw[PX]at h;exact SeqAt.EqAt.str_int x t j u _ _ _ _ h
   ·rw[PY]at h;exact wpAny_eqBool_str h
 «strs»:=λk x t v h=>by
  rcases iu h with ⟨i,u,rfl,e⟩|⟨y,u,rfl,e⟩
  ·exact nomatch e
  ·injection e with e1 _
   subst e1
   cases v<;>rfl
theorem HE(prog:Program)(w:World)(i:Int)(t:Tok):(jL prog w).is (.inl i) (.int i t)=true:=K_ i t
theorem HF(prog:Program)(w:World)(x:Str)(t:Tok):(jL prog w).is (.inr x) (.str x t)=true:=La x t
end L2
namespace L2
open PySem PySem.Spec PyProof.Rows
inductive V where
 |gT|bl (b:Bool)|int (i:Int)|str (x:Str)|byt (b:Array UInt8)|KU (b:UInt64)|ref (a:Addr)|ty (n:String)
 deriving DecidableEq
noncomputable def RelV:V->Value->Prop
 | .gT,u=>u=Value.none
 | .bl b,u=>u=Value.bool b
 | .int i,u=>∃t,u=Value.int i t
 | .str x,u=>∃t,u=Value.str x t
 | .byt b,u=>∃t,u=Value.bytes b t
 | .KU b,u=>∃t,u=Value.float b t
 | .ref a,u=>u=Value.ref a
 | .ty n,u=>u=Value.type n
noncomputable abbrev Vals:List V->List Value->Prop:=Paired RelV
theorem Vals.length{xs:List V}{us:List Value}(r:Vals xs us):xs.length=us.length:=Paired.length r
theorem Vals.get:∀{xs:List V} {us:List Value} {i:Nat} {x:V},Vals xs us->xs[i]? =some x->∃u,us[i]? =some u/\RelV x u
 |_,_,_,_,.nil,e=>by simp at e
 |_,_,0,_,.cons r _,e=>by simp at e;subst e;exact⟨_,rfl,r⟩
 |_,_,i+1,x,.cons _ t,e=>by
  obtain⟨u,h1,h2⟩:=Vals.get (i:=i) (x:=x) t (by simpa using e)
  exact⟨u,by simpa using h1,h2⟩
theorem Vals.set{x:V}{u:Value}(r:RelV x u):∀{xs:List V} {us:List Value} (i:Nat),Vals xs us->Vals (xs.set i x) (us.set i u)
 |_,_,_,.nil=> .nil
 |_,_,0,.cons _ t=> .cons r t
 |_,_,i+1,.cons q t=> .cons q (Vals.set r i t)
theorem Vals.append:∀{xs ys:List V} {us ws:List Value},Vals xs us->Vals ys ws->Vals (xs++ys) (us++ws)
 |_,_,_,_,.nil,s=>s
 |_,_,_,_,.cons r t,s=> .cons r (Vals.append t s)
theorem Vals.take:∀{xs:List V} {us:List Value} (n:Nat),Vals xs us->Vals (xs.take n) (us.take n)
 |_,_,0,_=> .nil
 |_,_,_+1,.nil=> .nil
 |_,_,n+1,.cons r t=> .cons r (Vals.take n t)
theorem Vals.drop:∀{xs:List V} {us:List Value} (n:Nat),Vals xs us->Vals (xs.drop n) (us.drop n)
 |_,_,0,r=>r
 |_,_,_+1,.nil=> .nil
 |_,_,n+1,.cons _ t=>Vals.drop n t
noncomputable def wm:Option V->Option Value->Prop
 |some v,some u=>RelV v u
 |none,none=>True
 |_,_=>False
noncomputable def KV {κ:Type}:List (κ×V)->List (κ×Value)->Prop:=Paired λ(p:κ×V) (q:κ×Value)=>p.1=q.1/\RelV p.2 q.2
noncomputable def kV:Key->V
 | .inl i=> .int i
 | .inr x=> .str x
inductive HO where
 |lst (xs:List V)
 |tup (xs:List V)
 |dK (fA:List (Key×V))|dT (fA:List (List Key×V))
 |set (S:Int->Bool) (n:Nat)
 |ins (C dx:Addr) (fs:List (Str×V))
 |own (x:Addr)
 |xd (fs:List (Str×V))
 |met (f x:Addr)
 |R9 (lo hi:Int)
 |Fb (o:Obj) (u:HO)
 |Nq (ps:Array Value)
 |ext (φ:Heap->Prop)
 |exc (cls:Value)
noncomputable abbrev Hp:=Addr->Option HO
noncomputable def upd (H:Hp) (a:Addr) (o:HO):Hp:=λb=>if b=a then some o else H b
theorem dH{H:Hp}{a:Addr}{o:HO}:upd H a o a=some o:=by unfold upd;rw[if_pos rfl]
theorem dO{H:Hp}{a b:Addr}{o:HO}(h:b≠a):upd H a o b=H b:=by unfold upd;rw[if_neg h]
theorem OO{H:Hp}{a:Addr}{o u:HO}:upd (upd H a o) a u=upd H a u:=by
 funext b;unfold upd;split<;>rfl
theorem RM{H:Hp}{a b:Addr}{o u:HO}(h:H a=some o)(h':H b=some u)(d:o≠u):a≠b:=by
 intro e;subst e;rw[h]at h';exact d (aT h')
theorem dD{H:Hp}{a b:Addr}{o:HO}(h:H a=some o)(h':H b=none):a≠b:=by
 intro e;subst e;rw[h]at h';cases h'
section
variable(P:Program)(w:World)
noncomputable def iT (H:Hp) (h:Heap) (a:Addr):HO->Prop
 | .lst xs=>xs.length<=sizeLine/\∃(its:List Value) (n:Nat),Vals xs its/\h.get? a=some {cls:= .type "list",data:= .seq its.toArray n}
 | .tup xs=>xs.length<=sizeLine/\∃its:List Value,Vals xs its/\IsTup h a its.toArray
 | .dK fA=>fA.length<=sizeLine/\(a==sysModules)=false/\∃vs,KV fA vs/\h.DictOf (jL P w) a vs
 | .dT fA=>fA.length<=sizeLine/\(a==sysModules)=false/\∃xs:List (List Key×Addr×Value),
   Paired (λ(p:List Key×V) (q:List Key×Addr×Value)=>p.1=q.1/\H q.2.1=some (.tup (p.1.map kV))/\RelV p.2 q.2.2) fA xs/\
   ∃o es ep,h.get? a=some o/\o.ExactDict/\o.data= .dict es ep/\es.toList=xs.map (entryOfKey (tupleKind (jL P w)))/\(xs.map (·.1)).Nodup
 | .set S n=>h.SetOf (intKind P w) a S n
 | .ins C dx fs=>H dx=some (.own a)/\fs.length<=1000/\dx≠a/\h.get? a=some (PySem.W.instObj C dx)/\
   ∃mA,h.Ns1 dx mA/\(∀f,wm (fs.lookup f) (mA f))/\PySem.Within mA (fs.map (·.1))
 | .own _=>∃o,h.get? a=some o
 | .xd fs=>∃mA,h.Ns1 a mA/\∀f,wm (fs.lookup f) (mA f)
 | .R9 lo hi=>∃t u v,h.get? a=some {cls:= .type "range",data:= .fields #[.int lo t,.int hi u,.int 1 v]}
 | .Fb o u=>h.get? a=some o/\iT H h a u
 | .Nq ps=>h.get? a=some {cls:= .none,data:= .fields ps}
 | .met f x=>h.get? a=some (PySem.W.methodObj (.ref f) (.ref x))
 | .exc cls=>∃o vs,h.get? a=some o/\o.cls=cls/\o.data= .fields vs
 | .ext φ=>φ h/\(∃o,h.get? a=some o)/\∀h1 h2:Heap,φ h1->(∀o,h1.get? a=some o->h2.get? a=some o)->φ h2
noncomputable def v7 (H:Hp) (h:Heap):Prop:=∀a o,H a=some o->iT P w H h a o
end
section
variable{P:Program}{w:World}{H H':Hp}{h h':Heap}{a:Addr}{o:HO}
theorem iT.lt(x:iT P w H h a o):a<h.objs.size:=by
 cases o with
 |lst xs=>obtain⟨_,_,_,_,e⟩:=x;exact Heap.lt_size e
 |tup xs=>obtain⟨_,_,_,p⟩:=x;exact p.lt
 |dK fA=>obtain⟨_,_,_,_,o,_,_,e,_⟩:=x;exact Heap.lt_size e
 |dT fA=>obtain⟨_,_,_,_,o,_,_,e,_⟩:=x;exact Heap.lt_size e
 |set S n=>obtain⟨o,_,_,_,e,_⟩:=x;exact Heap.lt_size e
 |ins C dx fs=>obtain⟨_,_,_,e,_⟩:=x;exact Heap.lt_size e
 |own y=>obtain⟨_,e⟩:=x;exact Heap.lt_size e
 |xd fs=>obtain⟨_,⟨_,_,_,e,_⟩,_⟩:=x;exact Heap.lt_size e
 |R9 lo hi=>obtain⟨_,_,_,e⟩:=x;exact Heap.lt_size e
 |Fb ob u=>obtain⟨e,_⟩:=x;exact Heap.lt_size e
 |Nq ps=>exact Heap.lt_size (show h.get? a=some _ from x)
 |met f y=>exact Heap.lt_size (show h.get? a=some _ from x)
 |ext φ=>obtain⟨_,⟨_,e⟩,_⟩:=x;exact Heap.lt_size e
 |exc cls=>obtain⟨_,_,e,_⟩:=x;exact Heap.lt_size e
theorem Paired.P2{α β:Type}{F G:α->β->Prop}:∀{l₁:List α} {l₂:List β},Paired F l₁ l₂->(∀a b,F a b->G a b)->Paired G l₁ l₂
 |_,_,.nil,_=> .nil
 |_,_,.cons r t,f=> .cons (f _ _ r) (Paired.P2 t f)
theorem iT.CG(x:iT P w H h a o)(k:∀b u,(b=a∨H b=some (.own a))->h.get? b=some u->h'.get? b=some u)
  (ho:∀b,H b=some (.own a)->H' b=some (.own a)) (ht:∀b xs,H b=some (.tup xs)->H' b=some (.tup xs)):iT P w H' h' a o:=by
 induction o with
 |lst xs=>obtain⟨z,its,n,r,e⟩:=x;exact⟨z,its,n,r,k _ _ (.inl rfl) e⟩
 |tup xs=>obtain⟨z,its,r,ob,e,c⟩:=x;exact⟨z,its,r,ob,k _ _ (.inl rfl) e,c⟩
 |dK fA=>obtain⟨z,y,vs,r,ob,es,ep,e,c⟩:=x;exact⟨z,y,vs,r,ob,es,ep,k _ _ (.inl rfl) e,c⟩
 |dT fA=>
  obtain⟨z,y,xs,r,ob,es,ep,e,c⟩:=x
  exact⟨z,y,xs,Paired.P2 r λp q z=>⟨z.1,ht _ _ z.2.1,z.2.2⟩,ob,es,ep,k _ _ (.inl rfl) e,c⟩
 |set S n=>obtain⟨ob,es,ep,t,e,c⟩:=x;exact⟨ob,es,ep,t,k _ _ (.inl rfl) e,c⟩
 |ins C dx fs=>
  obtain⟨d,z,ne,e,mA,⟨od,es,ep,e2,c⟩,r⟩:=x
  exact⟨ho _ d,z,ne,k _ _ (.inl rfl) e,mA,⟨od,es,ep,k _ _ (.inr d) e2,c⟩,r⟩
 |own y=>obtain⟨ob,e⟩:=x;exact⟨ob,k _ _ (.inl rfl) e⟩
 |xd fs=>obtain⟨mA,⟨od,es,ep,e,c⟩,r⟩:=x;exact⟨mA,⟨od,es,ep,k _ _ (.inl rfl) e,c⟩,r⟩
 |R9 lo hi=>obtain⟨t,u,v,e⟩:=x;exact⟨t,u,v,k _ _ (.inl rfl) e⟩
 |Fb ob u ih=>obtain⟨e,q⟩:=x;exact⟨k _ _ (.inl rfl) e,ih q⟩
 |Nq ps=>
  have e:h.get? a=some {cls:= .none,data:= .fields ps}:=x
  show h'.get? a=some {cls:= .none,data:= .fields ps}
  exact k a _ (.inl rfl) e
 |met f y=>
  have e:h.get? a=some (PySem.W.methodObj (.ref f) (.ref y)):=x
  show h'.get? a=some (PySem.W.methodObj (.ref f) (.ref y))
  exact k a _ (.inl rfl) e
 |exc cls=>obtain⟨o,vs,e,c⟩:=x;exact⟨o,vs,k _ _ (.inl rfl) e,c⟩
 |ext φ=>obtain⟨p,⟨o,e⟩,st⟩:=x;exact⟨st _ _ p λo q=>k _ _ (.inl rfl) q,⟨o,k _ _ (.inl rfl) e⟩,st⟩
theorem v7.lt(x:v7 P w H h)(e:H a=some o):a<h.objs.size:=(x a o e).lt
theorem v7.fresh(x:v7 P w H h)(e:h.objs.size<=a):H a=none:=by
 cases q:H a with
 |none=>rfl
 |some u=>exact absurd (aQ (x.lt q) e) (bu _)
theorem v7.kept(x:v7 P w H h)(k:∀b u,h.get? b=some u->h'.get? b=some u):v7 P w H h':=λa o e=>
 (x a o e).CG (λb u _ q=>k b u q) (λ_ q=>q) λ_ _ q=>q
theorem v7.laid(x:v7 P w H h)(k:∀b u,h.get? b=some u->h'.get? b=some u)(hp:h.objs.size<=a)(new:iT P w (upd H a o) h' a o):v7 P w (upd H a o) h':=λb u e=>by
 have hn:=x.fresh hp
 by_cases hb:b=a
 ·subst hb;rw[dH]at e;cases e;exact new
 ·rw[dO hb]at e
  exact(x b u e).CG (λc v _ q=>k c v q) (λc q=>by rw[dO (dD q hn)];exact q) λc xs q=>by rw[dO (dD q hn)];exact q
end
noncomputable def Rd (H:Hp) (a:Addr) (u:HO):Prop:=H a=some u∨∃o,H a=some (.Fb o u)
theorem Rd.ok{P:Program}{w:World}{H:Hp}{h:Heap}{a:Addr}{u:HO}(r:Rd H a u)(x:v7 P w H h):iT P w H h a u:=by
 rcases r with r|⟨o,r⟩
 ·exact x a u r
 ·obtain⟨_,q⟩:=x a _ r
  exact q
noncomputable def QX:Option HO->Prop
 |some (.lst _)=>True
 |some (.dK _)=>True
 |some (.dT _)=>True
 |some (.set _ _)=>True
 |some (.ins _ _ _)=>True
 |some (.ext _)=>True
 |_=>False
section
variable{P:Program}{w:World}{H:Hp}{h h':Heap}{x e:Addr}{o':HO}
theorem v7.write(ok:v7 P w H h)(mu:QX (H x))(he:e=x∨H e=some (.own x))(k:∀b u,b≠e->h.get? b=some u->h'.get? b=some u)(heo:∃u,h'.get? e=some u)
  (new:iT P w (upd H x o') h' x o'):v7 P w (upd H x o') h':=λb u q=>by
 have nown:∀c y,H c=some (.own y)->c≠x:=λc y r z=>by subst z;rw[r]at mu;exact mu
 have ntup:∀c xs,H c=some (.tup xs)->c≠x:=λc xs r z=>by subst z;rw[r]at mu;exact mu
 by_cases hb:b=x
 ·subst hb;rw[dH]at q;cases q;exact new
 ·rw[dO hb]at q
  by_cases hbe:b=e
  ·have q':H b=some (.own x):=by
    rcases he with z|z
    ·exact absurd (hbe.trans z) hb
    ·rw[hbe];exact z
   rw[q]at q';cases q'
   obtain⟨v,hv⟩:=heo
   exact⟨v,by rw[hbe];exact hv⟩
  ·refine(ok b u q).CG (λc v hc r=>k c v ?_ r) (λc r=>by rw[dO (nown c b r)];exact r) λc xs r=>by rw[dO (ntup c xs r)];exact r
   rcases hc with rfl|hc
   ·exact hbe
   ·rintro rfl
    rcases he with z|z
    ·exact nown c b hc z
    ·rw[hc]at z;cases z;exact hb rfl
end
structure Un(fs ex:List Addr)(H H':Hp)(h h':Heap):Prop where
 keep:∀b o,h.get? b=some o->H b=none->b∉fs->b∉ex->h'.get? b=some o
 slot:∀b o,h.get? b=some o->H b=none->b∈fs->b∉ex->∃sl,h'.get? b=some {o with slots:=sl}
 free:∀b o,h.get? b=some o->H b=none->b∉ex->H' b=none
 there:∀b o,h.get? b=some o->b∉ex->∃o',h'.get? b=some o'
 xR:∀b xs,H b=some (.tup xs)->H' b=some (.tup xs)
 v9:∀b o u,H b=some (.Fb o u)->H' b=some (.Fb o u)
 xQ:∀b ps,H b=some (.Nq ps)->∃more,H' b=some (.Nq (ps++more))
section
variable{fs fs' ex ex':List Addr}{H H1 H2:Hp}{h h1 h2 h':Heap}{a x e:Addr}{o:HO}
theorem Un.any(u:Un fs ex H H1 h h1){b:Addr}{ob:Obj}(q:h.get? b=some ob)(n:H b=none)(hx:b∉ex):∃sl,h1.get? b=some {ob with slots:=sl}:=by
 by_cases hb:b∈fs
 ·exact u.slot b ob q n hb hx
 ·exact⟨ob.slots,u.keep b ob q n hb hx⟩
theorem Un.kept(k:∀b u,h.get? b=some u->h'.get? b=some u):Un fs ex H H h h':=
 ⟨λb ob q _ _ _=>k b ob q,λb ob q _ _ _=>⟨ob.slots,k b ob q⟩,λ_ _ _ n _=>n,λb ob q _=>⟨ob,k b ob q⟩,λ_ _ q=>q,λ_ _ _ q=>q,λ_ ps q=>⟨#[],by rw[q];simp⟩⟩
theorem Un.refl:Un fs ex H H h h:=Un.kept λ_ _ q=>q
theorem Un.laid(k:∀b u,h.get? b=some u->h'.get? b=some u)(hp:h.objs.size<=a)(hn:H a=none):Un fs ex H (upd H a o) h h' where
 keep:=λb u q _ _ _=>k b u q
 slot:=λb u q _ _ _=>⟨u.slots,k b u q⟩
 free:=λb u q n _=>by rw[dO (aS (aQ (Heap.lt_size q) hp))];exact n
 there:=λb u q _=>⟨u,k b u q⟩
 xR:=λb xs q=>by rw[dO (dD q hn)];exact q
 v9:=λb u xs q=>by rw[dO (dD q hn)];exact q
 xQ:=λb ps q=>⟨#[],by rw[dO (dD q hn),q];simp⟩
theorem Un.write(mu:QX (H x))(he:e=x∨H e=some (.own x))(k:∀b u,b≠e->h.get? b=some u->h'.get? b=some u)(heo:∃u,h'.get? e=some u):Un fs ex H (upd H x o) h h':=by
 have hx:∀b,H b=none->b≠x:=λb n z=>by subst z;rw[n]at mu;exact mu
 have hb:∀b,H b=none->b≠e:=λb n z=>by
  subst z
  rcases he with r|r
  ·exact hx b n r
  ·rw[n]at r;cases r
 have hm:∀b u,H b=some u->¬QX (some u)->b≠x:=λb u q nm z=>by subst z;rw[q]at mu;exact nm mu
 refine⟨λb u q n _ _=>k b u (hb b n) q,λb u q n _ _=>⟨u.slots,k b u (hb b n) q⟩,λb u q n _=>by rw[dO (hx b n)];exact n,λb u q _=> ?_,
  λb xs q=>by rw[dO (hm b _ q λz=>z)];exact q,λb u xs q=>by rw[dO (hm b _ q λz=>z)];exact q,λb ps q=>⟨#[],by rw[dO (hm b _ q λz=>z),q];simp⟩⟩
 by_cases hbe:b=e
 ·subst hbe;exact heo
 ·exact⟨u,k b u hbe q⟩
end
noncomputable def Sn (h:Heap) (H:Hp):List Addr:=(List.range h.objs.size).filter λa=>(H a).isSome
noncomputable def FV (h:Heap) (H:Hp):Heap:=PySem.W.hideAll h (Sn h H)
theorem KZ(h:Heap)(H:Hp):(FV h H).objs.size=h.objs.size:=PySem.W.hideAll_size _ _
theorem Mm{h:Heap}{H:Hp}{b:Addr}{o:Obj}(e:h.get? b=some o)(n:H b=none):(FV h H).get? b=some o:=
 cX _ e λhm=>by
  have q:(H b).isSome=true:=(List.mem_filter.mp hm).2
  rw[n]at q;simp at q
theorem N_{h:Heap}{H:Hp}{b:Addr}{o:Obj}(e:(FV h H).get? b=some o):h.get? b=some o/\H b=none:=by
 have e':h.get? b=some o:=dv (Sn h H) e
 refine⟨e',?_⟩
 cases q:H b with
 |none=>rfl
 |some x=>
  have hm:b∈Sn h H:=List.mem_filter.mpr ⟨List.mem_range.mpr (Heap.lt_size e'),by simp[q]⟩
  have z:(FV h H).get? b=none:=PySem.W.hideAll_none (Sn h H) hm
  rw[z]at e;cases e
noncomputable def Nx (g h:Heap) (L:Addr):List (Addr×Obj):=(List.range h.objs.size).filterMap λa=>if a=L∨(g.get? a).isSome=true then none else(h.get? a).map λo=>(a,o)
noncomputable def rest (g h:Heap) (L d:Addr):List (Addr×Obj):=(Nx g h L).filter λp=>decide (p.1≠d)
end L2
namespace L2
open PySem PySem.Spec PyProof.Rows
structure Mod(K:PySem.W.Frag)(mg:Str->Option Value)(base:Heap):Prop where
 QU:K.In base
 glob:base.Ns mainGlobals mg
 blt:∃mb,base.Ns builtinsNs mb/\∀x:Str,x≠"__name__"->mb x=bootBuiltins x
 nolimit:base.NoLimit
structure Cx where
 prog:Program
 w:World
 K:PySem.W.Frag
 mg:Str->Option Value
 base:Heap
 A:Around
 N:List Str
 s₀:Shared
 H₀:Hp
 env:Env
 outer:List Env
 stack:List Env
 ex:List Addr
 fn:Str->Bool
 calm:Bool
 pn:List (Addr×Obj)
 xe:Value->Shared->Prop
noncomputable def zu (l:List Env):List Addr:=l.filterMap (·.frame)
noncomputable abbrev Cx.fs (X:Cx):List Addr:=zu X.outer
noncomputable def Sk (sc:Scope) (x:Str):Prop:=sc.names.lookup x=some .local∨sc.names.lookup x=some .cell∨sc.names.lookup x=some .free
noncomputable def Loc (sc:Scope) (x:Str):Prop:=sc.names.lookup x=some .local∨sc.names.lookup x=some .cell
noncomputable def Look (env:Env) (h:Heap) (m:Str->Option Value) (x:Str) (u:Value):Prop:=
 (env.kindOf x=some .local/\m x=some u)∨((env.kindOf x=some .cell∨env.kindOf x=some .free)/\∃c,env.cells.lookup x=some c/\h.IsCell c (some u))
structure Cx.Ok(X:Cx):Prop where
 mod:Mod X.K X.mg X.base
 kind:X.env.scope.kind= .function
 glob:X.env.globals=mainGlobals
 blt:X.env.builtins=builtinsNs
 above:X.s₀.heap.objs.size<=X.env.locals
 inj:∀x y c,X.env.cells.lookup x=some c->X.env.cells.lookup y=some c->x=y
 has:∀x,(X.env.kindOf x=some .cell∨X.env.kindOf x=some .free)->∃c,X.env.cells.lookup x=some c
 OW:∀x c,X.fn x=true->X.env.cells.lookup x=some c->X.s₀.heap.objs.size<=c
 hd:X.calm=true->X.A.handled=none
 frames:X.A.frames=some X.stack
 QG:X.stack=X.outer∨(X.stack=X.env::X.outer/\X.env.frame=some X.env.locals)
 Rv:∀b∈X.ex,b≠X.env.locals/\∀x c,X.env.cells.lookup x=some c->c≠b
 bs:∀b o,X.base.get? b=some o->X.s₀.heap.get? b=some o/\X.H₀ b=none
 LF:X.base.objs.size<=X.s₀.heap.objs.size
 Bj:∀b o,X.base.get? b=some o->b∉X.ex
 IP:∀b∈X.ex,b∉X.fs
 v_:X.s₀.heap.FunFrames X.base X.outer
 Mh:∀b∈X.fs,X.H₀ b=none
structure Inv(X:Cx)(pins:List (Addr×Obj))(σ:List (Option V))(H:Hp)(s:Shared):Prop where
 ok:X.Ok
 os:s.os=X.s₀.os
 bare:AllBare s.gens
 base:Un X.fs X.ex X.H₀ H X.s₀.heap s.heap
 loc:∃m,s.heap.Ns X.env.locals m/\∀(i:Nat) (x:Str) (v:V),X.N[i]? =some x->σ[i]? =some (some v)->Sk X.env.scope x->∃u,RelV v u/\Look X.env s.heap m x u
 cell:∀x c,X.env.cells.lookup x=some c->∃v,s.heap.IsCell c v
 free:H X.env.locals=none
 pb:∀x c,X.env.cells.lookup x=some c->H c=none
 pin:∀p∈X.pn++pins,s.heap.get? p.1=some p.2/\H p.1=none/\p.1≠X.env.locals/\p.1∉X.fs/\∀v,p.2.data≠ .cell v
 gw:v7 X.prog X.w H s.heap
 len:σ.length=X.N.length
section
variable{X:Cx}{pins:List (Addr×Obj)}{σ:List (Option V)}{H H':Hp}{s:Shared}{h':Heap}
theorem Cx.Ok.Ta(ok:X.Ok){b:Addr}{o:Obj}(e:X.base.get? b=some o):b∉X.fs:=λhb=>by
 have:=(ok.v_.mem hb).1
 rw[e]at this;cases this
theorem Inv.bs(I:Inv X pins σ H s):∀b o,X.base.get? b=some o->s.heap.get? b=some o/\H b=none:=λb o e=>
 ⟨I.base.keep b o (I.ok.bs b o e).1 (I.ok.bs b o e).2 (I.ok.Ta e) (I.ok.Bj b o e),I.base.free b o (I.ok.bs b o e).1 (I.ok.bs b o e).2 (I.ok.Bj b o e)⟩
theorem Inv.bk(I:Inv X pins σ H s):∀b o,X.base.get? b=some o->s.heap.get? b=some o:=λb o e=>(I.bs b o e).1
theorem Inv.mod(I:Inv X pins σ H s):Mod X.K X.mg X.base:=I.ok.mod
theorem Inv.A2(I:Inv X pins σ H s):X.K.In s.heap:=I.ok.mod.QU.keeps I.bk
theorem Inv.lt(I:Inv X pins σ H s):X.env.locals<s.heap.objs.size:=let ⟨_,hn,_⟩:=I.loc;hn.lt
theorem Inv.sz(I:Inv X pins σ H s):X.s₀.heap.objs.size<=s.heap.objs.size:=aA I.ok.above (bW I.lt)
theorem Inv.Tb(I:Inv X pins σ H s){a:Addr}(h:s.heap.objs.size<=a):a∉X.fs:=λhb=>by
 obtain⟨_,o,ho,_⟩:=I.ok.v_.mem hb
 exact absurd (aQ (Heap.lt_size ho) (aA I.sz h)) (bu _)
theorem Inv.Py(I:Inv X pins σ H s):∀x c,X.env.cells.lookup x=some c->c≠X.env.locals:=λx c e z=>by
 obtain⟨v,o,ho,hd⟩:=I.cell x c e
 obtain⟨m,⟨o',es,ep,ho',hd',_⟩,_⟩:=I.loc
 rw[z,ho']at ho;cases ho;rw[hd']at hd;cases hd
theorem Inv.v_(I:Inv X pins σ H s):s.heap.FunFrames X.base X.outer:=by
 have all:∀(l:List Env),(∀b∈zu l,b∈X.fs)->X.s₀.heap.FunFrames X.base l->s.heap.FunFrames X.base l:=by
  intro l
  induction l with
  |nil=>intro _ _;trivial
  |cons env r ih=>
   intro hs hl
   obtain⟨hk,⟨L,o,hf,hn,ho,hd⟩,hr⟩:=hl
   have hL:L∈X.fs:=hs L (by unfold zu;rw[cD,hf];exact a_)
   obtain⟨sl,e⟩:=I.base.slot L o ho (I.ok.Mh L hL) hL λz=>I.ok.IP L z hL
   exact⟨hk,⟨L,_,hf,hn,e,hd⟩,ih (λb hb=>hs b (by unfold zu;rw[cD,hf];exact aZ _ hb)) hr⟩
 exact all X.outer (λ_ hb=>hb) I.ok.v_
theorem Inv.stack(I:Inv X pins σ H s):s.heap.FunFrames X.base X.stack:=by
 rcases I.ok.QG with e|⟨e,hf⟩
 ·rw[e];exact I.v_
 ·rw[e]
  obtain⟨m,hn,_⟩:=I.loc
  refine .cons (by rw[I.ok.kind];decide) hf hn ?_ I.v_
  exact Heap.get?_none_of_le (aA I.ok.LF I.ok.above)
theorem Inv.D5(I:Inv X pins σ H s):∀b∈zu X.stack,b∈X.env.locals::X.fs:=λb hb=>by
 rcases I.ok.QG with e|⟨e,hf⟩
 ·rw[e]at hb;exact aZ _ hb
 ·rw[e]at hb
  unfold zu at hb
  rw[cD,hf]at hb
  exact hb
theorem Inv.C3(I:Inv X pins σ H s):∀b∈zu X.stack,H b=none:=λb hb=>by
 rcases List.mem_cons.mp (I.D5 b hb) with e|hb
 ·rw[e];exact I.free
 ·obtain⟨_,o,ho,_⟩:=I.ok.v_.mem hb
  exact I.base.free b o ho (I.ok.Mh b hb) λz=>I.ok.IP b z hb
theorem Inv.step{g':Array GenState}{t':Nat}{d':Drawn}{ch:List Addr}(I:Inv X pins σ H s)
  (hch:∀b∈ch,(b∈X.ex∨X.s₀.heap.objs.size<=b)/\b≠X.env.locals/\(∀x c,X.env.cells.lookup x=some c->c≠b)/\∀p∈X.pn++pins,p.1≠b)
  (keep:∀b o,b≠X.env.locals->b∉X.fs->b∉ch->s.heap.get? b=some o->H b=none->h'.get? b=some o)
  (slot:∀b o,b≠X.env.locals->b∈X.fs->b∉ch->s.heap.get? b=some o->H b=none->∃sl,h'.get? b=some {o with slots:=sl}) (free:∀b o,b∉ch->s.heap.get? b=some o->H b=none->H' b=none)
  (there:∀b o,b∉ch->s.heap.get? b=some o->∃o',h'.get? b=some o')
  (xR:∀b xs,H b=some (.tup xs)->H' b=some (.tup xs)) (v9:∀b o u,H b=some (.Fb o u)->H' b=some (.Fb o u)) (xQ:∀b ps,H b=some (.Nq ps)->∃more,H' b=some (.Nq (ps++more)))
  (ns:∀m,s.heap.Ns X.env.locals m->h'.Ns X.env.locals m) (gw:v7 X.prog X.w H' h') (hg:AllBare g'):
  Inv X pins σ H' {s with heap:=h',gens:=g',drawn:=d',toks:=t'}:=by
 have neL:∀b o,X.s₀.heap.get? b=some o->b≠X.env.locals:=λb o e=>aS (aQ (Heap.lt_size e) I.ok.above)
 have neC:∀b o,X.s₀.heap.get? b=some o->b∉X.ex->b∉ch:=λb o e hx hb=>by
  rcases (hch b hb).1 with z|z
  ·exact hx z
  ·exact absurd (aQ (Heap.lt_size e) z) (bu _)
 have cellK:∀x c,X.env.cells.lookup x=some c->∀v,s.heap.IsCell c v->h'.IsCell c v:=λx c e v ⟨o,ho,hd⟩=>by
  have nch:c∉ch:=λz=>(hch c z).2.2.1 x c e rfl
  by_cases hc:c∈X.fs
  ·obtain⟨sl,q⟩:=slot c o (I.Py x c e) hc nch ho (I.pb x c e)
   exact⟨_,q,hd⟩
  ·exact⟨o,keep c o (I.Py x c e) hc nch ho (I.pb x c e),hd⟩
 refine⟨I.ok,I.os,hg,⟨λb o e n hb hx=> ?_,λb o e n hb hx=> ?_,λb o e n hx=> ?_,λb o e hx=> ?_,λb xs e=>xR b xs (I.base.xR b xs e),λb o xs e=>v9 b o xs (I.base.v9 b o xs e),λb ps e=> ?_⟩,?_,λx c e=> ?_,?_,λx c e=> ?_,λp hp=> ?_,gw,I.len⟩
 ·exact keep b o (neL b o e) hb (neC b o e hx) (I.base.keep b o e n hb hx) (I.base.free b o e n hx)
 ·obtain⟨sl,e1⟩:=I.base.slot b o e n hb hx
  obtain⟨sl',e2⟩:=slot b _ (neL b o e) hb (neC b o e hx) e1 (I.base.free b o e n hx)
  exact⟨sl',e2⟩
 ·obtain⟨o',e1⟩:=I.base.there b o e hx
  exact free b o' (neC b o e hx) e1 (I.base.free b o e n hx)
 ·obtain⟨o',e1⟩:=I.base.there b o e hx
  exact there b o' (neC b o e hx) e1
 ·obtain⟨m1,e1⟩:=I.base.xQ b ps e
  obtain⟨m2,e2⟩:=xQ b _ e1
  exact⟨m1++m2,by rw[e2,Array.append_assoc]⟩
 ·obtain⟨m,hn,hl⟩:=I.loc
  refine⟨m,ns m hn,λi x v e1 e2 e3=> ?_⟩
  obtain⟨u,r,l⟩:=hl i x v e1 e2 e3
  refine⟨u,r,?_⟩
  rcases l with l|⟨k,c,e,z⟩
  ·exact .inl l
  ·exact .inr ⟨k,c,e,cellK x c e _ z⟩
 ·obtain⟨v,z⟩:=I.cell x c e
  exact⟨v,cellK x c e v z⟩
 ·obtain⟨m,⟨o,_,_,ho,_⟩,_⟩:=I.loc
  exact free _ o (λz=>(hch _ z).2.1 rfl) ho I.free
 ·obtain⟨v,o,ho,hd⟩:=I.cell x c e
  exact free c o (λz=>(hch c z).2.2.1 x c e rfl) ho (I.pb x c e)
 ·obtain⟨e,n,ne,nf,d⟩:=I.pin p hp
  have nch:p.1∉ch:=λz=>(hch p.1 z).2.2.2 p hp rfl
  exact⟨keep p.1 p.2 ne nf nch e n,free p.1 p.2 nch e n,ne,nf,d⟩
theorem Inv.un{t':Nat}(I:Inv X pins σ H s)(u:Un X.fs [] H H' s.heap h')(gw:v7 X.prog X.w H' h'):Inv X pins σ H' {s with heap:=h',toks:=t'}:=by
 obtain⟨m,⟨o,es,ep,ho,r⟩,_⟩:=id I.loc
 obtain⟨sl,hL⟩:=u.any ho I.free (by simp)
 exact I.step (g':=s.gens) (d':=s.drawn) (ch:=[]) (λ_ z=>nomatch z) (λb o _ hb _ e n=>u.keep b o e n hb (by simp)) (λb o _ hb _ e n=>u.slot b o e n hb (by simp)) (λb o _ e n=>u.free b o e n (by simp)) (λb o _ e=>u.there b o e (by simp)) u.xR u.v9 u.xQ (λm' hm=>by
  obtain⟨o',es',ep',ho',r'⟩:=hm
  rw[ho]at ho';cases ho'
  exact⟨_,es',ep',hL,r'⟩) gw I.bare
theorem Inv.call{g':Array GenState}{t':Nat}{d':Drawn}{ch:List Addr}(I:Inv X pins σ H s)(u:Un (zu X.stack) ch H H' s.heap h')(gw:v7 X.prog X.w H' h')(hg:AllBare g')
  (hch:∀b∈ch,(b∈X.ex∨X.s₀.heap.objs.size<=b)/\b≠X.env.locals/\(∀x c,X.env.cells.lookup x=some c->c≠b)/\∀p∈X.pn++pins,p.1≠b):
  Inv X pins σ H' {s with heap:=h',gens:=g',drawn:=d',toks:=t'}:=by
 obtain⟨m,⟨o,es,ep,ho,r⟩,_⟩:=id I.loc
 obtain⟨sl,hL⟩:=u.any ho I.free λz=>(hch _ z).2.1 rfl
 exact I.step (ch:=ch) hch (λb o hL hb hc e n=>u.keep b o e n (λz=>(List.mem_cons.mp (I.D5 b z)).elim hL hb) hc) (λb o _ _ hc e n=>u.any e n hc) (λb o hc e n=>u.free b o e n hc) (λb o hc e=>u.there b o e hc) u.xR u.v9 u.xQ (λm' hm=>by
  obtain⟨o',es',ep',ho',r'⟩:=hm
  rw[ho]at ho';cases ho'
  exact⟨_,es',ep',hL,r'⟩) gw hg
theorem Inv.turned{t':Nat}{it:Addr}(I:Inv X pins σ H s)(k:∀b o,b≠it->s.heap.get? b=some o->h'.get? b=some o)(hn:H it=none)(hL:it≠X.env.locals)
  (h1:it∈X.ex∨X.s₀.heap.objs.size<=it) (h2:∀x c,X.env.cells.lookup x=some c->c≠it) (h3:∀p∈X.pn++pins,p.1≠it):Inv X pins σ H {s with heap:=h',toks:=t'}:=by
 have nit:∀b u,H b=some u->b≠it:=λb u e z=>by rw[z,hn]at e;cases e
 refine I.step (g':=s.gens) (d':=s.drawn) (ch:=[it]) (λb hb=> ?_) (λb o _ _ hc e _=>k b o (λz=>hc (by simp[z])) e) (λb o _ _ hc e _=>⟨o.slots,k b o (λz=>hc (by simp[z])) e⟩) (λ_ _ _ _ n=>n)
  (λb o hc e=>⟨o,k b o (λz=>hc (by simp[z])) e⟩) (λ_ _ e=>e) (λ_ _ _ e=>e) (λb ps e=>⟨#[],by rw[e];simp⟩) (λm hm=> ?_) (λb u e=> ?_) I.bare
 ·have e:b=it:=by simpa using hb
  subst e
  exact⟨h1,hL,h2,h3⟩
 ·obtain⟨o,es,ep,ho,r⟩:=hm
  exact⟨o,es,ep,k _ o (aj hL) ho,r⟩
 ·refine(I.gw b u e).CG (λc v hc q=>k c v ?_ q) (λ_ q=>q) λ_ _ q=>q
  rcases hc with z|z
  ·rw[z];exact nit b u e
  ·exact nit c _ z
theorem Inv.tok(I:Inv X pins σ H s)(t:Nat):Inv X pins σ H {s with toks:=t}:=I.un (h':=s.heap) (t':=t) Un.refl I.gw
theorem Inv.kept{t':Nat}(I:Inv X pins σ H s)(k:∀b u,s.heap.get? b=some u->h'.get? b=some u):Inv X pins σ H {s with heap:=h',toks:=t'}:=I.un (Un.kept k) (I.gw.kept k)
theorem Inv.laid{a:Addr}{o:HO}{t':Nat}(I:Inv X pins σ H s)(k:∀b u,s.heap.get? b=some u->h'.get? b=some u)(hp:s.heap.objs.size<=a)(new:iT X.prog X.w (upd H a o) h' a o):
  Inv X pins σ (upd H a o) {s with heap:=h',toks:=t'}:=I.un (Un.laid k hp (I.gw.fresh hp)) (I.gw.laid k hp new)
theorem Inv.write{x e:Addr}{o:HO}{t':Nat}(I:Inv X pins σ H s)(mu:QX (H x))(he:e=x∨H e=some (.own x))(k:∀b u,b≠e->s.heap.get? b=some u->h'.get? b=some u)(heo:∃u,h'.get? e=some u)
  (new:iT X.prog X.w (upd H x o) h' x o):Inv X pins σ (upd H x o) {s with heap:=h',toks:=t'}:=I.un (Un.write mu he k heo) (I.gw.write mu he k heo new)
theorem Inv.AB{pins':List (Addr×Obj)}(I:Inv X pins σ H s)(h:∀p∈pins',s.heap.get? p.1=some p.2/\H p.1=none/\p.1≠X.env.locals/\p.1∉X.fs/\∀v,p.2.data≠ .cell v):Inv X pins' σ H s:=
 ⟨I.ok,I.os,I.bare,I.base,I.loc,I.cell,I.free,I.pb,λp hp=>(List.mem_append.mp hp).elim (λz=>I.pin p (aX _ z)) (h p),I.gw,I.len⟩
theorem HH{N:List Str}(hN:N.Nodup){i j:Nat}{x:Str}(a:N[i]? =some x)(b:N[j]? =some x):i=j:=by
 obtain⟨h1,e1⟩:=List.getElem?_eq_some_iff.mp a
 obtain⟨h2,e2⟩:=List.getElem?_eq_some_iff.mp b
 exact(List.getElem_inj hN).mp (e1.trans e2.symm)
theorem Fu{M:Model}{A:Around}{E:Value->Shared->Prop}{i:Nat}{x:Str}{v:V}{u:Value}{Q:Unit->Shared->Prop}(I:Inv X pins σ H s)(hN:X.N.Nodup)(hi:X.N[i]? =some x)(hx:Loc X.env.scope x)(r:RelV v u)
  (h:∀s',Inv X pins (σ.set i (some v)) H s'->(∃a,Heap.SameBut a s.heap s'.heap/\(a=X.env.locals∨X.env.cells.lookup x=some a))->Q () s') (hf:X.fn x=true∨X.env.scope.names.lookup x=some .local:=by first|exact .inl rfl|exact .inr rfl|assumption):wpAny M A (storeName X.env x u) Q E s:=by
 obtain⟨m,hn,hl⟩:=id I.loc
 have hcls:(X.env.scope.kind== .class ||(X.env.scope.kind== .module&&X.env.locals !=X.env.globals))=false:=by rw[I.ok.kind];rfl
 have hiσ:i<σ.length:=by rw[I.len];exact(List.getElem?_eq_some_iff.mp hi).1
 have Py:=I.Py
 have tracked:∀{a:Addr} {h':Heap},(∃o,s.heap.get? a=some o/\H a=none)->Heap.SameBut a s.heap h'->v7 X.prog X.w H h':=λ{a h'} ha hs b ob e=>by
  obtain⟨_,_,hfree⟩:=ha
  refine(I.gw b ob e).CG (λc w' hc q=>(hs.2 c ?_).trans q) (λ_ q=>q) λ_ _ q=>q
  rintro rfl
  rcases hc with rfl|hc
  ·rw[hfree]at e;cases e
  ·rw[hfree]at hc;cases hc
 rcases hx with hk|hk
 ·refine wpAny_storeName_local hk hn (λh' hn' hs=> ?_) hcls
  obtain⟨oL,_,_,hoL,_⟩:=id hn
  refine h _ ⟨I.ok,I.os,I.bare,⟨λb o e n hb hx=> ?_,λb o e n hb hx=> ?_,I.base.free,λb o e hx=> ?_,I.base.xR,I.base.v9,I.base.xQ⟩,⟨_,hn',λj y v' e1 e2 e3=> ?_⟩,λy c e=> ?_,I.free,I.pb,λp hp=> ?_,tracked ⟨oL,hoL,I.free⟩ hs,by simpa using I.len⟩ ⟨_,hs,.inl rfl⟩
  ·exact(hs.2 b (aS (aQ (Heap.lt_size e) I.ok.above))).trans (I.base.keep b o e n hb hx)
  ·obtain⟨sl,e1⟩:=I.base.slot b o e n hb hx
   exact⟨sl,(hs.2 b (aS (aQ (Heap.lt_size e) I.ok.above))).trans e1⟩
  ·obtain⟨o',e1⟩:=I.base.there b o e hx
   exact⟨o',(hs.2 b (aS (aQ (Heap.lt_size e) I.ok.above))).trans e1⟩
  ·by_cases hj:j=i
   ·subst hj
    rw[hi]at e1;cases e1
    rw[List.getElem?_set_self hiσ]at e2
    cases e2
    exact⟨u,r,.inl ⟨hk,by simp⟩⟩
   ·rw[List.getElem?_set_ne (aj hj)]at e2
    obtain⟨u',r',q⟩:=hl j y v' e1 e2 e3
    refine⟨u',r',?_⟩
    rcases q with ⟨k,e⟩|⟨k,c,e,z⟩
    ·refine .inl ⟨k,?_⟩
     have:y≠x:=λe=>hj (HH hN e1 (e▸hi))
     simp[this,e]
    ·exact .inr ⟨k,c,e,z.sameBut hs (Py y c e)⟩
  ·obtain⟨w',z⟩:=I.cell y c e
   exact⟨w',z.sameBut hs (Py y c e)⟩
  ·obtain⟨e,n,ne,nf,d⟩:=I.pin p hp
   exact⟨(hs.2 p.1 ne).trans e,n,ne,nf,d⟩
 ·have hfn:X.fn x=true:=by
   rcases hf with z|z
   ·exact z
   ·rw[z]at hk;cases hk
  obtain⟨c,hc⟩:=I.ok.has x (.inl hk)
  obtain⟨w',z⟩:=I.cell x c hc
  refine wpAny_storeName_cell I.ok.kind hk hc z (λh' hc' hs=> ?_)
  obtain⟨oc,hoc,hocd⟩:=id z
  refine h {s with heap:=h'} ⟨I.ok,I.os,I.bare,⟨λb o e n hb hx=> ?_,λb o e n hb hx=> ?_,I.base.free,λb o e hx=> ?_,I.base.xR,I.base.v9,I.base.xQ⟩,⟨m,hn.sameBut hs (aj (Py x c hc)),λj y v' e1 e2 e3=> ?_⟩,λy c' e=> ?_,I.free,I.pb,λp hp=> ?_,tracked ⟨oc,hoc,I.pb x c hc⟩ hs,by simpa using I.len⟩ ⟨c,hs,.inr hc⟩
  ·exact(hs.2 b (aS (aQ (Heap.lt_size e) (I.ok.OW x c hfn hc)))).trans (I.base.keep b o e n hb hx)
  ·obtain⟨sl,e1⟩:=I.base.slot b o e n hb hx
   exact⟨sl,(hs.2 b (aS (aQ (Heap.lt_size e) (I.ok.OW x c hfn hc)))).trans e1⟩
  ·obtain⟨o',e1⟩:=I.base.there b o e hx
   exact⟨o',(hs.2 b (aS (aQ (Heap.lt_size e) (I.ok.OW x c hfn hc)))).trans e1⟩
  ·by_cases hj:j=i
   ·subst hj
    rw[hi]at e1;cases e1
    rw[List.getElem?_set_self hiσ]at e2
    cases e2
    exact⟨u,r,.inr ⟨.inl hk,c,hc,hc'⟩⟩
   ·rw[List.getElem?_set_ne (aj hj)]at e2
    obtain⟨u',r',q⟩:=hl j y v' e1 e2 e3
    refine⟨u',r',?_⟩
    rcases q with q|⟨k,c',e,z'⟩
    ·exact .inl q
    ·refine .inr ⟨k,c',e,z'.sameBut hs ?_⟩
     rintro rfl
     exact hj (HH hN e1 (I.ok.inj _ _ _ e hc▸hi))
  ·by_cases hcc:c'=c
   ·subst hcc;exact⟨_,hc'⟩
   ·obtain⟨w2,z2⟩:=I.cell y c' e
    exact⟨w2,z2.sameBut hs hcc⟩
  ·obtain⟨e,n,ne,nf,d⟩:=I.pin p hp
   refine⟨(hs.2 p.1 ?_).trans e,n,ne,nf,d⟩
   intro q
   rw[q,hoc]at e
   have q':oc=p.2:=aT e
   exact d w' (by rw[←q'];exact hocd)
theorem Ih{M:Model}{A:Around}{E:Value->Shared->Prop}{i:Nat}{x:Str}{v:V}{u:Value}{Q:Unit->Shared->Prop}(I:Inv X pins σ H s)(hN:X.N.Nodup)(hi:X.N[i]? =some x)(hx:Loc X.env.scope x)(r:RelV v u)
  (h:∀s',Inv X pins (σ.set i (some v)) H s'->Q () s') (hf:X.fn x=true∨X.env.scope.names.lookup x=some .local:=by first|exact .inl rfl|exact .inr rfl|assumption):wpAny M A (storeName X.env x u) Q E s:=
 Fu I hN hi hx r (λs' I' _=>h s' I') hf
theorem Inv.OX{s':Shared}{ch:List Addr}(I:Inv X pins σ H s)(ho:s'.os=s.os)(u:Un (zu X.stack) ch H H' s.heap s'.heap)(gw:v7 X.prog X.w H' s'.heap)(hg:AllBare s'.gens)
  (hch:∀b∈ch,(b∈X.ex∨X.s₀.heap.objs.size<=b)/\b≠X.env.locals/\(∀x c,X.env.cells.lookup x=some c->c≠b)/\∀p∈X.pn++pins,p.1≠b):Inv X pins σ H' s':=by
 obtain⟨h',g',d',t',o'⟩:=s'
 have e:o'=s.os:=ho
 subst e
 exact I.call (g':=g') (t':=t') (d':=d') u gw hg hch
end
noncomputable abbrev XK:=Value->Option Addr->Hp->Prop
noncomputable abbrev St:=List (Option V)
noncomputable abbrev VK:=V->Hp->Prop
noncomputable abbrev TE:=St->Hp->VK->Prop
noncomputable abbrev TT:=St->Hp->(Bool->Hp->Prop)->Prop
noncomputable abbrev TA:=St->Hp->(List V->Hp->Prop)->Prop
structure Ends where
 nx:St->Hp->Prop
 rt:VK
 bk:St->Hp->Prop:=λ_ _=>False
 ct:St->Hp->Prop:=λ_ _=>False
noncomputable abbrev TS:=Ends->St->Hp->Prop
noncomputable def EP (X:Cx) (pins:List (Addr×Obj)) (σ:St) (Q:VK) (u:Value) (s':Shared):Prop:=∃v H',Inv X pins σ H' s'/\RelV v u/\Q v H'
noncomputable def TP (X:Cx) (pins:List (Addr×Obj)) (σ:St) (Q:Bool->Hp->Prop) (b:Bool) (s':Shared):Prop:=∃H',Inv X pins σ H' s'/\Q b H'
noncomputable def AP (X:Cx) (pins:List (Addr×Obj)) (σ:St) (Q:List V->Hp->Prop) (us:List Value) (s':Shared):Prop:=∃vs H',Inv X pins σ H' s'/\Vals vs us/\Q vs H'
noncomputable def SP (X:Cx) (pins:List (Addr×Obj)) (D:Ends) (f:Flow) (s':Shared):Prop:=
 match f with
 | .next=>∃σ' H',Inv X pins σ' H' s'/\D.nx σ' H'
 | .brk=>∃σ' H',Inv X pins σ' H' s'/\D.bk σ' H'
 | .cont=>∃σ' H',Inv X pins σ' H' s'/\D.ct σ' H'
 | .ret u=>∃v σ' H',Inv X pins σ' H' s'/\RelV v u/\D.rt v H'
noncomputable def PE (X:Cx) (e:Expr) (t:TE):Prop:=
 ∀(pins:List (Addr×Obj)) (s:Shared) (σ:St) (H:Hp) (Q:VK),Inv X pins σ H s->t σ H Q->wpAny (model X.prog X.w) X.A (eval e X.env) (EP X pins σ Q) X.xe s
noncomputable def PT (X:Cx) (e:Expr) (t:TT):Prop:=
 ∀(pins:List (Addr×Obj)) (s:Shared) (σ:St) (H:Hp) (Q:Bool->Hp->Prop),Inv X pins σ H s->t σ H Q->wpAny (model X.prog X.w) X.A (isTrue e X.env (eval e X.env)) (TP X pins σ Q) X.xe s
noncomputable def PW (X:Cx) (e:Expr) (t:TT):Prop:=
 ∀(whole:Sem Value) (pins:List (Addr×Obj)) (s:Shared) (σ:St) (H:Hp) (Q:Bool->Hp->Prop),Inv X pins σ H s->t σ H Q->wpAny (model X.prog X.w) X.A (isTrue e X.env whole) (TP X pins σ Q) X.xe s
theorem PW.pt{X:Cx}{e:Expr}{t:TT}(h:PW X e t):PT X e t:=h _
noncomputable def PA (X:Cx) (es:List Expr) (t:TA):Prop:=
 ∀(pos:Pos) (pins:List (Addr×Obj)) (s:Shared) (σ:St) (H:Hp) (Q:List V->Hp->Prop),Inv X pins σ H s->t σ H Q->wpAny (model X.prog X.w) X.A (spliced (backTo pos (starEach es X.env))) (AP X pins σ Q) X.xe s
noncomputable def PS (X:Cx) (st:Stmt) (t:TS):Prop:=
 ∀(pins:List (Addr×Obj)) (s:Shared) (σ:St) (H:Hp) (D:Ends),Inv X pins σ H s->t D σ H->wpAny (model X.prog X.w) X.A (exec st X.env) (SP X pins D) X.xe s
noncomputable def Ip (X:Cx) (st:List Stmt) (t:TS):Prop:=
 ∀(pins:List (Addr×Obj)) (s:Shared) (σ:St) (H:Hp) (D:Ends),Inv X pins σ H s->t D σ H->wpAny (model X.prog X.w) X.A (execs st X.env) (SP X pins D) X.xe s
theorem kX{α:Type}{t:Sem α}{Q Q':α->Shared->Prop}{M:Model}{A:Around}{E:Value->Shared->Prop}{s:Shared}(h:wpAny M A t Q E s)(hQ:∀a s,Q a s->Q' a s):wpAny M A t Q' E s:=wpAny_mono h hQ λ_ _ x=>x
end L2
namespace L2
open PySem PySem.Spec PyProof.Rows
section
variable{X:Cx}
noncomputable def To (i:Nat):TE:=λσ H Q=>∃v,σ[i]? =some (some v)/\Q v H
noncomputable def tC (v:V):TE:=λ_ H Q=>Q v H
theorem Qt{i:Nat}{x:Str}{pos:Pos}(hN:X.N[i]? =some x)(hv:Sk X.env.scope x)(hd:(x==("__debug__":Str))=false:=by decide)(hcd:(x==("__classdict__":Str))=false:=by decide):PE X (.Name x pos) (To i):=by
 intro pins s σ H Q I h
 obtain⟨v,e,h⟩:=h
 obtain⟨m,hn,hl⟩:=I.loc
 obtain⟨u,r,l⟩:=hl i x v hN e hv
 have fin:EP X pins σ Q u s:=⟨v,H,I,r,h⟩
 rcases l with ⟨hk,hm⟩|⟨hk,c,hc,hcell⟩
 ·exact wpAny_Name (wpAny_loadName_local I.ok.kind hk hn hm fin) hd
 ·rcases hk with hk|hk
  ·exact wpAny_Name (wpAny_loadName_cell I.ok.kind hk hc hcell fin) hd
  ·exact wpAny_Name (wpAny_loadName_free I.ok.kind hk hc hcell fin hcd) hd
theorem Qn{i j pos}:PE X (.Constant (.int i) j pos) (tC (.int i)):=λ_ _ _ H _ I h=>wpAny_Constant_int ⟨.int i,H,I.tok _,⟨_,rfl⟩,h⟩
theorem RW{b j pos}:PE X (.Constant (.bool b) j pos) (tC (.bl b)):=λ_ _ _ H _ I h=>Constant_bool ⟨.bl b,H,I,rfl,h⟩
theorem Qo{j pos}:PE X (.Constant .none j pos) (tC .gT):=λ_ _ _ H _ I h=>Constant_none ⟨.gT,H,I,rfl,h⟩
theorem Qr{x j pos}:PE X (.Constant (.str x) j pos) (tC (.str x)):=λ_ _ _ H _ I h=>Calls.Constant_str ⟨.str x,H,I.tok _,⟨_,rfl⟩,h⟩
noncomputable def Gl (X:Cx) (x:Str):Prop:=X.env.kindOf x=some .globalImplicit
theorem yc{E:Value->Shared->Prop}{pins:List (Addr×Obj)}{s:Shared}{σ:St}{H:Hp}{x:Str}{u:Value}{pos:Pos}{Q:Value->Shared->Prop}(I:Inv X pins σ H s)(hg:Gl X x)(hm:X.mg x=some u)(h:Q u s)
  (hd:(x==("__debug__":Str))=false:=by decide):wpAny (model X.prog X.w) X.A (eval (.Name x pos) X.env) Q E s:=
 Calls.Name_function_global I.ok.kind hg (Calls.loadGlobal_global (by rw[I.ok.glob];exact I.mod.glob.keeps I.bk) hm h) hd
theorem wZ{E:Value->Shared->Prop}{pins:List (Addr×Obj)}{s:Shared}{σ:St}{H:Hp}{x:Str}{u:Value}{pos:Pos}{Q:Value->Shared->Prop}(I:Inv X pins σ H s)(hg:Gl X x)(hm:X.mg x=none)(hv:bootBuiltins x=some u)(h:Q u s)
  (hn:x≠"__name__":=by decide) (hd:(x==("__debug__":Str))=false:=by decide):wpAny (model X.prog X.w) X.A (eval (.Name x pos) X.env) Q E s:=by
 obtain⟨mb,h1,h2⟩:=I.mod.blt
 exact Calls.Name_function_global I.ok.kind hg (Calls.loadGlobal_builtin (by rw[I.ok.glob];exact I.mod.glob.keeps I.bk) hm (by rw[I.ok.blt];exact h1.keeps I.bk) ((h2 x hn).trans hv) h) hd
theorem Oh{x:Str}{v:V}{u:Value}{pos:Pos}(hg:Gl X x)(hm:X.mg x=some u)(r:RelV v u)(hd:(x==("__debug__":Str))=false:=by decide):PE X (.Name x pos) (tC v):=
 λ_ _ _ H _ I h=>yc I hg hm ⟨v,H,I,r,h⟩ hd
theorem Oe{x:Str}{v:V}{u:Value}{pos:Pos}(hg:Gl X x)(hm:X.mg x=none)(hv:bootBuiltins x=some u)(r:RelV v u)(hn:x≠"__name__":=by decide)(hd:(x==("__debug__":Str))=false:=by decide):PE X (.Name x pos) (tC v):=
 λ_ _ _ H _ I h=>wZ I hg hm hv ⟨v,H,I,r,h⟩ hn hd
variable{a b:Expr}{ta tb:TE}{pos:Pos}
variable{tA tB':TT}{rest:List Expr}
noncomputable def Ij (t u:TT):TT:=λσ H Q=>t σ H λc H1=>if c=true then u σ H1 Q else Q false H1
noncomputable def Kw (t u:TT):TT:=λσ H Q=>t σ H λc H1=>if c=true then Q true H1 else u σ H1 Q
noncomputable def nQ (t:TT):TT:=λσ H Q=>t σ H λc H1=>Q (!c) H1
theorem Oy(ha:PT X a tA):PW X (.BoolOp .And [a] pos) tA:=by
 intro wh pins s σ H Q I h
 refine isTrue_and (kX (ha pins s σ H Q I h) λc s1 e=> ?_)
 cases c with
 |true=>exact isTrue_and_nil e
 |false=>exact e
theorem QD(ha:PT X a tA):PW X (.BoolOp .Or [a] pos) tA:=by
 intro wh pins s σ H Q I h
 refine isTrue_or (kX (ha pins s σ H Q I h) λc s1 e=> ?_)
 cases c with
 |false=>exact isTrue_or_nil e
 |true=>exact e
theorem QC(ha:PT X a tA)(hb:PW X (.BoolOp .And (b::rest) pos) tB'):PW X (.BoolOp .And (a::b::rest) pos) (Ij tA tB'):=by
 intro wh pins s σ H Q I h
 refine isTrue_and (kX (ha pins s σ H _ I h) λc s1 ⟨H1,I1,q1⟩=> ?_)
 cases c with
 |true=>exact hb wh pins s1 σ H1 Q I1 q1
 |false=>exact⟨H1,I1,q1⟩
theorem R5(ha:PT X a tA)(hb:PW X (.BoolOp .Or (b::rest) pos) tB'):PW X (.BoolOp .Or (a::b::rest) pos) (Kw tA tB'):=by
 intro wh pins s σ H Q I h
 refine isTrue_or (kX (ha pins s σ H _ I h) λc s1 ⟨H1,I1,q1⟩=> ?_)
 cases c with
 |true=>exact⟨H1,I1,q1⟩
 |false=>exact hb wh pins s1 σ H1 Q I1 q1
theorem QB(ha:PT X a tA):PT X (.UnaryOp .Not a pos) (nQ tA):=by
 intro pins s σ H Q I h
 exact isTrue_not (ha pins s σ H (λc H1=>Q (!c) H1) I h)
noncomputable def Cn (ta tb:TE):TE:=λσ H Q=>ta σ H λx H1=>∃c,x= .bl c/\if c=true then tb σ H1 Q else Q (.bl false) H1
noncomputable def QI (ta tb:TE):TE:=λσ H Q=>ta σ H λx H1=>∃c,x= .bl c/\if c=true then Q (.bl true) H1 else tb σ H1 Q
noncomputable def Nh (ta:TE):TE:=λσ H Q=>ta σ H λx H1=>∃c,x= .bl c/\Q (.bl (!c)) H1
theorem Qq{op}{t:TE}(h:PE X a t):PE X (.BoolOp op [a] pos) t:=λpins s σ H Q I hw=>BoolOp_one (h pins s σ H Q I hw)
theorem Qm(ha:PE X a ta)(hb:PE X (.BoolOp .And (b::rest) pos) tb):PE X (.BoolOp .And (a::b::rest) pos) (Cn ta tb):=by
 intro pins s σ H Q I h
 refine BoolOp_and (kX (ha pins s σ H _ I h) λv s1 ⟨x,H1,I1,r1,q1⟩=> ?_)
 obtain⟨c,rfl,q1⟩:=q1
 cases r1
 refine wpAny_truthy_bool ?_
 cases c with
 |true=>exact hb pins s1 σ H1 Q I1 q1
 |false=>exact⟨.bl false,H1,I1,rfl,q1⟩
theorem RZ(ha:PE X a ta)(hb:PE X (.BoolOp .Or (b::rest) pos) tb):PE X (.BoolOp .Or (a::b::rest) pos) (QI ta tb):=by
 intro pins s σ H Q I h
 refine BoolOp_or (kX (ha pins s σ H _ I h) λv s1 ⟨x,H1,I1,r1,q1⟩=> ?_)
 obtain⟨c,rfl,q1⟩:=q1
 cases r1
 refine wpAny_truthy_bool ?_
 cases c with
 |false=>exact hb pins s1 σ H1 Q I1 q1
 |true=>exact⟨.bl true,H1,I1,rfl,q1⟩
theorem Qp(ha:PE X a ta):PE X (.UnaryOp .Not a pos) (Nh ta):=by
 intro pins s σ H Q I h
 refine UnaryOp_ (kX (ha pins s σ H _ I h) λv s1 ⟨x,H1,I1,r1,q1⟩=> ?_)
 obtain⟨c,rfl,q1⟩:=q1
 cases r1
 exact not_of (wpAny_truthy_bool ⟨.bl (!c),H1,I1,rfl,q1⟩)
noncomputable def Sa (t:TT) (ta tb:TE):TE:=λσ H Q=>t σ H λc H1=>if c=true then ta σ H1 Q else tb σ H1 Q
theorem MP{c:Expr}(hc:PT X c tA)(ha:PE X a ta)(hb:PE X b tb):PE X (.IfExp c a b pos) (Sa tA ta tb):=by
 intro pins s σ H Q I h
 refine wpAny_IfExp (kX (hc pins s σ H _ I h) λd s1 ⟨H1,I1,q1⟩=> ?_)
 cases d with
 |true=>exact ha pins s1 σ H1 Q I1 q1
 |false=>exact hb pins s1 σ H1 Q I1 q1
end
end L2
namespace L2
open PySem PySem.Spec PyProof.Rows
noncomputable def iC (K:PySem.W.Frag) (H:Hp) (a:Addr) (xs:List V):Prop:=
 Rd H a (.lst xs)∨
  ∃(o:Obj) (its:Array Value) (n:Nat),K.lookup a=some o/\o.cls= .type "list"/\o.dict=none/\o.data= .seq its n/\its.size<=sizeLine/\Vals xs its.toList
noncomputable def Ef (K:PySem.W.Frag) (H:Hp) (a:Addr) (xs:List V):Prop:=
 Rd H a (.tup xs)∨
  ∃(o:Obj) (its:Array Value) (n:Nat),K.lookup a=some o/\o.cls= .type "tuple"/\o.data= .seq its n/\its.size<=sizeLine/\Vals xs its.toList
noncomputable def Sy:Value->Option V
 | .none=>some .gT
 | .bool b=>some (.bl b)
 | .int i _=>some (.int i)
 | .str x _=>some (.str x)
 | .bytes b _=>some (.byt b)
 | .float b _=>some (.KU b)
 | .ref a=>some (.ref a)
 | .type n=>some (.ty n)
 |_=>none
theorem RelV.abs{x:V}{u:Value}(r:RelV x u):Sy u=some x:=by
 cases x with
 |gT=>cases r;rfl
 |bl _=>cases r;rfl
 |int _=>obtain⟨t,rfl⟩:=r;rfl
 |str _=>obtain⟨t,rfl⟩:=r;rfl
 |byt _=>obtain⟨t,rfl⟩:=r;rfl
 |KU _=>obtain⟨t,rfl⟩:=r;rfl
 |ref _=>cases r;rfl
 |ty _=>cases r;rfl
theorem RelV.inj{x y:V}{u:Value}(r:RelV x u)(q:RelV y u):x=y:=aT (r.abs.symm.trans q.abs)
theorem Vals.inj:∀{xs ys:List V} {us:List Value},Vals xs us->Vals ys us->xs=ys
 |_,_,_,.nil,.nil=>rfl
 |_,_,_,.cons r t,.cons r' t'=>by rw[r.inj r',Vals.inj t t']
section
variable{X:Cx}{pins:List (Addr×Obj)}{σ:St}{H:Hp}{s:Shared}{a:Addr}{xs ys:List V}
theorem iC.of{K:PySem.W.Frag}(h:H a=some (.lst xs)):iC K H a xs:= .inl (.inl h)
theorem Ef.of{K:PySem.W.Frag}(h:H a=some (.tup xs)):Ef K H a xs:= .inl (.inl h)
theorem Inv.list(I:Inv X pins σ H s)(h:iC X.K H a xs):∃its:List Value,Vals xs its/\PlainL s.heap a its.toArray/\xs.length<=sizeLine:=by
 rcases h with h|⟨o,its,n,hk,hc,hd,hs,hz,r⟩
 ·obtain⟨z,its,n,r,e⟩:=h.ok I.gw
  exact⟨its,r,⟨_,n,e,rfl,rfl,rfl⟩,z⟩
 ·refine⟨its.toList,r,⟨o,n,I.A2 a o hk,hc,hd,by simpa using hs⟩,?_⟩
  have e:=r.length
  simp only[Array.length_toList]at e
  omega
theorem Inv.tuple(I:Inv X pins σ H s)(h:Ef X.K H a xs):∃its:List Value,Vals xs its/\IsTup s.heap a its.toArray/\xs.length<=sizeLine:=by
 rcases h with h|⟨o,its,n,hk,hc,hs,hz,r⟩
 ·obtain⟨z,its,r,p⟩:=h.ok I.gw
  exact⟨its,r,p,z⟩
 ·refine⟨its.toList,r,⟨o,I.A2 a o hk,hc,n,by simpa using hs⟩,?_⟩
  have e:=r.length
  simp only[Array.length_toList]at e
  omega
theorem Inv.HD(I:Inv X pins σ H s)(h:iC X.K H a xs)(h':iC X.K H a ys):xs=ys:=by
 obtain⟨its,r,⟨o,n,e,_,_,d⟩,_⟩:=I.list h
 obtain⟨its',r',⟨o',n',e',_,_,d'⟩,_⟩:=I.list h'
 rw[e]at e';cases e'
 rw[d]at d'
 injection d' with d1 _
 have:its=its':=by simpa using congrArg Array.toList d1
 subst this
 exact r.inj r'
end
noncomputable abbrev Cx.ud (X:Cx) (E:Value->Shared->Prop):Cx:={X with xe:=E}
theorem Cx.Ok.ud{X:Cx}(ok:X.Ok)(E:Value->Shared->Prop):(X.ud E).Ok:=
 ⟨ok.mod,ok.kind,ok.glob,ok.blt,ok.above,ok.inj,ok.has,ok.OW,ok.hd,ok.frames,ok.QG,ok.Rv,ok.bs,ok.LF,ok.Bj,ok.IP,ok.v_,ok.Mh⟩
theorem Cx.Ok.o6{X:Cx}{E:Value->Shared->Prop}(ok:(X.ud E).Ok):X.Ok:=
 ⟨ok.mod,ok.kind,ok.glob,ok.blt,ok.above,ok.inj,ok.has,ok.OW,ok.hd,ok.frames,ok.QG,ok.Rv,ok.bs,ok.LF,ok.Bj,ok.IP,ok.v_,ok.Mh⟩
section
variable{X:Cx}{pins:List (Addr×Obj)}{σ:St}{H:Hp}{s:Shared}{E:Value->Shared->Prop}
theorem Inv.ud(I:Inv X pins σ H s)(E:Value->Shared->Prop):Inv (X.ud E) pins σ H s:=⟨I.ok.ud E,I.os,I.bare,I.base,I.loc,I.cell,I.free,I.pb,I.pin,I.gw,I.len⟩
theorem Inv.o6(I:Inv (X.ud E) pins σ H s):Inv X pins σ H s:=⟨I.ok.o6,I.os,I.bare,I.base,I.loc,I.cell,I.free,I.pb,I.pin,I.gw,I.len⟩
theorem SP.o6{D:Ends}{f:Flow}{s':Shared}(h:SP (X.ud E) pins D f s'):SP X pins D f s':=by
 cases f with
 |next=>obtain⟨σ',H',I,q⟩:=h;exact⟨σ',H',I.o6,q⟩
 |brk=>obtain⟨σ',H',I,q⟩:=h;exact⟨σ',H',I.o6,q⟩
 |cont=>obtain⟨σ',H',I,q⟩:=h;exact⟨σ',H',I.o6,q⟩
 |ret u=>obtain⟨v,σ',H',I,r,q⟩:=h;exact⟨v,σ',H',I.o6,r,q⟩
end
section
variable{X:Cx}{st:Stmt}{rest:List Stmt}{t u:TS}{e:Expr}{te:TE}{pos:Pos}
noncomputable def gc:TS:=λD σ H=>D.nx σ H
noncomputable def gj (t u:TS):TS:=λD σ H=>t {D with nx:=u D} σ H
theorem Ou:Ip X [] gc:=λ_ _ σ H _ I h=>wpAny_execs_nil ⟨σ,H,I,h⟩
theorem M5(h1:PS X st t)(h2:Ip X rest u):Ip X (st::rest) (gj t u):=by
 intro pins s σ H D I h
 refine wpAny_execs_cons (kX (h1 pins s σ H {D with nx:=u D} I h) λf s1 q=> ?_)
 cases f with
 |next=>
  obtain⟨σ',H',I',q⟩:=q
  exact h2 pins s1 σ' H' D I' q
 |ret v=>exact q
 |brk=>exact q
 |cont=>exact q
theorem Ov(h1:PS X st t):Ip X [st] t:=by
 intro pins s σ H D I h
 refine wpAny_execs_cons (kX (h1 pins s σ H D I h) λf s1 q=> ?_)
 cases f with
 |next=>exact wpAny_execs_nil q
 |ret v=>exact q
 |brk=>exact q
 |cont=>exact q
theorem Inv.quiet{pins:List (Addr×Obj)}{σ:St}{H:Hp}{s:Shared}(I:Inv X pins σ H s):interactive X.env=false:=by simp[interactive,I.ok.kind]
noncomputable def fj (te:TE):TS:=λD σ H=>te σ H λ_ H1=>D.nx σ H1
theorem Ot(he:PE X e te)(hs:swapsWith e none pos.line X.env=pure false:=by rfl):PS X (.Expr e pos) (fj te):=by
 intro pins s σ H D I h
 exact wpAny_Expr_any (kX (he pins s σ H _ I h) λv s1 ⟨x,H1,I1,r1,q1⟩=>⟨σ,H1,I1,q1⟩) I.quiet hs
noncomputable def fW (te:TE):TS:=λD σ H=>te σ H D.rt
theorem Qy(he:PE X e te):PS X (.Return (some e) pos) (fW te):=by
 intro pins s σ H D I h
 exact wpAny_Return_some (kX (he pins s σ H _ I h) λv s1 ⟨x,H1,I1,r1,q1⟩=>⟨x,σ,H1,I1,r1,q1⟩)
noncomputable def gO (c:TT) (t u:TS):TS:=λD σ H=>c σ H λb H1=>if b=true then t D σ H1 else u D σ H1
theorem R4{c:Expr}{a b:List Stmt}{tc:TT}(hc:PT X c tc)(ha:Ip X a t)(hb:Ip X b u):PS X (.If c a b pos) (gO tc t u):=by
 intro pins s σ H D I h
 refine wpAny_If (kX (hc pins s σ H _ I h) λd s1 ⟨H1,I1,q1⟩=> ?_)
 cases d with
 |true=>exact ha pins s1 σ H1 D I1 q1
 |false=>exact hb pins s1 σ H1 D I1 q1
end
noncomputable abbrev TG:=V->St->Hp->(St->Hp->Prop)->Prop
noncomputable abbrev O_:=List V->St->Hp->(St->Hp->Prop)->Prop
noncomputable def PG (X:Cx) (target:Expr) (t:TG):Prop:=
 ∀(pins:List (Addr×Obj)) (s:Shared) (σ:St) (H:Hp) (v:V) (u:Value) (Q:St->Hp->Prop),Inv X pins σ H s->RelV v u->t v σ H Q->
  wpAny (model X.prog X.w) X.A (assign target X.env u) (λ_ s'=>∃σ' H',Inv X pins σ' H' s'/\Q σ' H') X.xe s
noncomputable def Si (X:Cx) (ts:List Expr) (t:O_):Prop:=
 ∀(pins:List (Addr×Obj)) (s:Shared) (σ:St) (H:Hp) (vs:List V) (us:List Value) (Q:St->Hp->Prop),Inv X pins σ H s->Vals vs us->t vs σ H Q->
  wpAny (model X.prog X.w) X.A (assignInOrder ((assignEach ts X.env).map (·.2)) us) (λ_ s'=>∃σ' H',Inv X pins σ' H' s'/\Q σ' H') X.xe s
noncomputable abbrev KH:=V->V->V->Hp->(Hp->Prop)->Prop
noncomputable def Nu (X:Cx) (t:KH):Prop:=
 ∀(pins:List (Addr×Obj)) (s:Shared) (σ:St) (H:Hp) (o i v:V) (ov iv u:Value) (Q:Hp->Prop),Inv X pins σ H s->RelV o ov->RelV i iv->RelV v u->t o i v H Q->
  wpAny (model X.prog X.w) X.A (setItem ov iv u) (λ_ s'=>∃H',Inv X pins σ H' s'/\Q H') X.xe s
section
variable{X:Cx}{pos:Pos}
noncomputable def eZ (i:Nat):TG:=λv σ H Q=>Q (σ.set i (some v)) H
theorem vh{i:Nat}{x:Str}(hN:X.N.Nodup)(hi:X.N[i]? =some x)(hx:Loc X.env.scope x)(hf:X.fn x=true∨X.env.scope.names.lookup x=some .local:=by first|exact .inl rfl|exact .inr rfl|assumption):PG X (.Name x pos) (eZ i):=by
 intro pins s σ H v u Q I r h
 exact wpAny_assign_Name (Ih I hN hi hx r (λs' I'=>⟨_,H,I',h⟩) hf)
noncomputable def PC:O_:=λvs σ H Q=>vs=[]/\Q σ H
noncomputable def Fc (t:TG) (u:O_):O_:=λvs σ H Q=>∃v r,vs=v::r/\t v σ H λσ' H'=>u r σ' H' Q
theorem Kj:Si X [] PC:=by
 intro pins s σ H vs us Q I r h
 obtain⟨e,h⟩:=h
 subst e
 cases r
 exact assignInOrder_nil ⟨σ,H,I,h⟩
theorem xi{e:Expr}{es:List Expr}{t:TG}{u:O_}(h1:PG X e t)(h2:Si X es u)
  (hs:(assignEach (e::es) X.env).map (·.2)=assign e X.env::(assignEach es X.env).map (·.2):=by rfl):Si X (e::es) (Fc t u):=by
 intro pins s σ H vs us Q I r h
 obtain⟨v,vr,e1,h⟩:=h
 subst e1
 cases r with
 |cons r rr=>
  rw[hs]
  refine assignInOrder_cons (kX (h1 pins s σ H _ _ _ I r h) λ_ s1 ⟨σ1,H1,I1,q1⟩=> ?_)
  exact h2 pins s1 σ1 H1 _ _ Q I1 rr q1
noncomputable def PD (K:PySem.W.Frag) (n:Nat) (t:O_):TG:=λv σ H Q=>∃a xs,v= .ref a/\Ef K H a xs/\xs.length=n/\t xs σ H Q
theorem MW{es:List Expr}{k:Nat}{t:O_}{n:Nat}(hc:X.calm=true)(h:Si X es t)
  (hn:(assignEach es X.env).length=n:=by rfl) (hst:(assignEach es X.env).findIdx? (·.1)=none:=by rfl):PG X (.Tuple es k pos) (PD X.K n t):=by
 intro pins s σ H v u Q I r hw
 obtain⟨a,xs,e1,hq,hl,hw⟩:=hw
 subst e1
 cases r
 obtain⟨its,rv,ht,hz⟩:=I.tuple hq
 refine assign_Tuple_tuple (I.ok.hd hc) ht (by simp[hn,←hl,rv.length]) hst λh' hx=> ?_
 have I1:Inv X pins σ H {s with heap:=h'}:=I.kept (t':=s.toks) λb o e=>hx b o (aS (Heap.lt_size e)) e
 exact h pins _ σ H xs _ Q I1 (by simpa using rv) hw
noncomputable def Mi (to ti:TE) (t:KH):TG:=λv σ H Q=>to σ H λo H1=>ti σ H1 λi H2=>t o i v H2 λH3=>Q σ H3
theorem Qu{o i:Expr}{to ti:TE}{t:KH}(ho:PE X o to)(hi:PE X i ti)(hs:Nu X t)
  (ha:∀v,assign (.Subscript o i pos) X.env v=(do
   let ov←holding [v] (eval o X.env)
   let iv←holding [v,ov] (eval i X.env)
   standAt pos
   holding [v,ov,iv] (setItem ov iv v)
   release [v,ov,iv] []):=by intro _;rfl):PG X (.Subscript o i pos) (Mi to ti t):=by
 intro pins s σ H v u Q I r h
 rw[ha]
 refine wpAny_bind (wpAny_holding (kX (ho pins s σ H _ I h) λov s1 ⟨x,H1,I1,r1,q1⟩=> ?_))
 refine wpAny_bind (wpAny_holding (kX (hi pins s1 σ H1 _ I1 q1) λiv s2 ⟨y,H2,I2,r2,q2⟩=> ?_))
 refine wpAny_bind (wpAny_standAt (wpAny_bind (wpAny_holding (kX (hs pins s2 σ H2 x y v ov iv u _ I2 r1 r2 r q2) λ_ s3 ⟨H3,I3,q3⟩=> ?_))))
 exact wpAny_release ⟨σ,H3,I3,q3⟩
noncomputable def gh (te:TE) (g:TG):TS:=λD σ H=>te σ H λx H1=>g x σ H1 D.nx
theorem Qw{tg e:Expr}{te:TE}{g:TG}(he:PE X e te)(hg:PG X tg g)(hs:swapsWithSole [tg] e pos.line X.env=pure false:=by rfl)(hw:swappedStores [tg] e X.env=pure none:=by rfl)
  (h1:(assignEach [tg] X.env).map (·.2)=[assign tg X.env]:=by rfl):PS X (.Assign [tg] e pos) (gh te g):=by
 intro pins s σ H D I h
 refine wpAny_Assign_stores (kX (he pins s σ H _ I h) λv s1 ⟨x,H1,I1,r1,q1⟩=> ?_) hs hw
 rw[h1]
 exact kX (hg pins s1 σ H1 x v _ I1 r1 q1) λ_ s2 q=>q
theorem Qz{i:Nat}{x:Str}{e:Expr}{te:TE}{pos':Pos}(hN:X.N.Nodup)(hi:X.N[i]? =some x)(hx:Loc X.env.scope x)(he:PE X e te)(hs:swapsWith e (some (.Name x pos')) pos.line X.env=pure false:=by rfl)(hf:X.fn x=true∨X.env.scope.names.lookup x=some .local:=by first|exact .inl rfl|exact .inr rfl|assumption):
  PS X (.Assign [.Name x pos'] e pos) (gh te (eZ i)):=by
 intro pins s σ H D I h
 refine wpAny_Assign_Name (kX (he pins s σ H _ I h) λv s1 ⟨y,H1,I1,r1,q1⟩=> ?_) hs
 exact Ih I1 hN hi hx r1 (λs2 I2=>⟨_,H1,I2,q1⟩) hf
end
section
variable{X:Cx}{pos:Pos}
noncomputable def Ni (c:TT) (tb:TS):TS:=λD σ H=>∃W:Nat->St->Hp->Prop,(∃m,W m σ H)/\∀m σ H,W m σ H->
 c σ H λb H1=>if b=true then∃N:St->Hp->Prop,(∀σ' H',N σ' H'->∃m',m'<m/\W m' σ' H')/\tb {D with nx:=N,ct:=N,bk:=D.nx} σ H1 else D.nx σ H1
theorem M4{c:Expr}{body:List Stmt}{tc:TT}{tb:TS}(hp:PassesOwn (model X.prog X.w) X.A X.env X.xe)(hc:PT X c tc)(hb:Ip X body tb):PS X (.While c body [] pos) (Ni tc tb):=by
 intro pins s σ H D I h
 obtain⟨W,⟨m0,w0⟩,turn⟩:=h
 refine wpAny_While (codeAny_whileLoop (λn s'=>∃σ' H',Inv X pins σ' H' s'/\W n σ' H') ?_ m0 ⟨σ,H,I,w0⟩)
 rintro n s1 ⟨σ1,H1,I1,w1⟩
 refine wpAny_passesOwn hp (kX (hc pins s1 σ1 H1 _ I1 (turn n σ1 H1 w1)) λb s2 ⟨H2,I2,q2⟩=> ?_)
 cases b with
 |true=>
  obtain⟨N,hN,q2⟩:=q2
  rw[if_pos rfl]
  refine wpAny_passesOwn hp (kX (hb pins s2 σ1 H2 _ I2 q2) λf s3 q3=> ?_)
  cases f with
  |next=>
   obtain⟨σ3,H3,I3,n3⟩:=q3
   obtain⟨m',hm,w3⟩:=hN σ3 H3 n3
   exact⟨m',hm,σ3,H3,I3,w3⟩
  |cont=>
   obtain⟨σ3,H3,I3,n3⟩:=q3
   obtain⟨m',hm,w3⟩:=hN σ3 H3 n3
   exact⟨m',hm,σ3,H3,I3,w3⟩
  |brk=>exact q3
  |ret v=>exact q3
 |false=>
  rw[if_neg aR]
  exact wpAny_execs_nil ⟨σ1,H2,I2,q2⟩
end
structure It where
 go:Nat->Hp->Prop
 OS:Nat->Hp->V->Hp->Prop
 stop:Nat->Hp->Prop
noncomputable def A3 (X:Cx) (pins:List (Addr×Obj)) (H:Hp) (b:Addr):Prop:=
 H b=none/\b≠X.env.locals/\b∉X.fs/\(b∈X.ex∨X.s₀.heap.objs.size<=b)/\(∀x c,X.env.cells.lookup x=some c->c≠b)/\∀p∈X.pn++pins,p.1≠b
theorem Inv.IS{X:Cx}{pins:List (Addr×Obj)}{σ:St}{H H':Hp}{s:Shared}{b:Addr}(I:Inv X pins σ H s)(hb:s.heap.objs.size<=b)(hn:H' b=none):A3 X pins H' b:=by
 refine⟨hn,cQ (aQ I.lt hb),I.Tb hb,.inr (aA I.sz hb),λx c e z=> ?_,λp hp z=> ?_⟩
 ·obtain⟨v,q⟩:=I.cell x c e
  exact absurd (aQ q.lt (by rw[z];exact hb)) (bu _)
 ·exact absurd (aQ (Heap.lt_size (I.pin p hp).1) (by rw[z];exact hb)) (bu _)
structure Turn(P:Program)(w:World)(K:PySem.W.Frag)(tg:Expr)(J:It)(fp:List Addr)(it:Addr)(tn:Nat->Heap->Prop):Prop where
 mem:it∈fp
 obj:∀i h,tn i h->∀b∈fp,∃o,h.get? b=some o/\∀v,o.data≠ .cell v
 keep:∀i h h',tn i h->(∀b∈fp,∀o,h.get? b=some o->h'.get? b=some o)->tn i h'
 item:∀(X:Cx),X.prog=P->X.w=w->X.K=K->X.calm=true->∀(i:Nat) (pins:List (Addr×Obj)) (s:Shared) (σ:St) (H:Hp) (E:Value->Shared->Prop),Inv X pins σ H s->(∀b∈fp,A3 X pins H b)->tn i s.heap->J.go i H->
  wpAny (model P w) X.A (pyNext (.ref it)) (λr s1=>∃u,r=some u/\
   wpAny (model P w) X.A (letOwnedTupleGo tg (.ref it) u) (λ_ s2=>∃x H',Inv X pins σ H' s2/\RelV x u/\J.OS i H x H'/\tn (i+1) s2.heap/\∀b∈fp,H' b=none) E s1) E s
 done:∀(X:Cx),X.prog=P->X.w=w->X.K=K->X.calm=true->∀(i:Nat) (pins:List (Addr×Obj)) (s:Shared) (σ:St) (H:Hp) (E:Value->Shared->Prop),Inv X pins σ H s->(∀b∈fp,A3 X pins H b)->tn i s.heap->J.stop i H->
  wpAny (model P w) X.A (pyNext (.ref it)) (λr s1=>r=none/\Inv X pins σ H s1) E s
 self:∀(A:Around) (i:Nat) (s:Shared) (Q:Value->Shared->Prop) (E:Value->Shared->Prop),tn i s.heap->Q (.ref it) s->wpAny (model P w) A (pyIter (.ref it)) Q E s
noncomputable abbrev TI:=St->Hp->(It->Hp->Prop)->Prop
noncomputable def Tu (X:Cx) (pins:List (Addr×Obj)) (σ:St) (tg:Expr) (R:It->Hp->Prop) (itv:Value) (s2:Shared):Prop:=
 ∃(it:Addr) (fp:List Addr) (tn:Nat->Heap->Prop) (J:It) (H':Hp),itv= .ref it/\Inv X pins σ H' s2/\Turn X.prog X.w X.K tg J fp it tn/\tn 0 s2.heap/\(∀b∈fp,A3 X pins H' b)/\R J H'
noncomputable def PI (X:Cx) (tg iter:Expr) (wi:TI):Prop:=
 ∀(pins:List (Addr×Obj)) (s:Shared) (σ:St) (H:Hp) (R:It->Hp->Prop),Inv X pins σ H s->wi σ H R->
  wpAny (model X.prog X.w) X.A (eval iter X.env) (λv s1=>wpAny (model X.prog X.w) X.A (pyIter v) (Tu X pins σ tg R) X.xe s1) X.xe s
theorem OY{M:Model}{A:Around}{E:Value->Shared->Prop}{s:Shared}{tg:Expr}{it:Addr}{u:Value}{o:Obj}{n:String}{vs:Array Value}{Q:Unit->Shared->Prop}(ho:s.heap.get? it=some o)(hc:o.cls= .type n)(hd:o.data= .fields vs)
  (hn: ["enumerate","zip","dict_itemiterator","dict_reverseitemiterator","odict_iterator","itertools.zip_longest","itertools.pairwise"].contains n=false) (hQ:Q () s):wpAny M A (letOwnedTupleGo tg (.ref it) u) Q E s:=by
 unfold letOwnedTupleGo
 cases tg<;>first
  |exact wpAny_pure hQ
  |(cases u<;>first
    |exact wpAny_pure hQ
    |(refine wpAny_bind (wpAny_load ho ?_)
      rw[hc,hd]
      show wpAny M A (if (["enumerate","zip","dict_itemiterator","dict_reverseitemiterator","odict_iterator","itertools.zip_longest","itertools.pairwise"].contains n&&vs[0]? ==some (rawInt _))=true then _ else _) Q E s
      rw[if_neg (by intro h;rw[hn,Bool.false_and]at h;cases h)]
      exact wpAny_pure hQ))
noncomputable def KD (K:PySem.W.Frag) (a:Addr):It:=
 ⟨λi H=>∃xs x,iC K H a xs/\xs[i]? =some x,λi H x H'=>H'=H/\∀xs,iC K H a xs->xs[i]? =some x,λi H=>∃xs,iC K H a xs/\xs.length<=i⟩
noncomputable def Nt (lo:Int) (n:Nat):It:=⟨λi _=>i<n,λi H x H'=>H'=H/\x= .int (lo+i),λi _=>n<=i⟩
theorem Lv{P:Program}{w:World}{K:PySem.W.Frag}{tg:Expr}(a it:Addr):Turn P w K tg (KD K a) [it] it (λi h=>h.IsListIter it a i) where
 mem:=by simp
 obj:=λi h st b hb=>by
  have e:b=it:=by simpa using hb
  subst e
  obtain⟨o,e,c,d⟩:=st
  exact⟨o,e,λv z=>by rw[d]at z;cases z⟩
 keep:=λi h h' st k=>st.at λo e=>k it (by simp) o e
 item:=by
  intro X hP hw hK hc i pins s σ H E I hf st hg
  subst hP hw hK
  obtain⟨xs,x,hq,hx⟩:=hg
  obtain⟨its,rv,p,hz⟩:=I.list hq
  obtain⟨u,hu,ru⟩:=rv.get hx
  obtain⟨f0,f1,f2,f3,f4,f5⟩:=hf it (by simp)
  refine wpAny_pyNext_list_item st p.isList (x:=u) (by simpa using hu) λh' st' sb=> ?_
  have I1:Inv X pins σ H {s with heap:=h'}:=I.turned (t':=s.toks) (λb o hb e=>(sb.2 b hb).trans e) f0 f1 f3 f4 f5
  obtain⟨o,e,c,d⟩:=id st'
  exact⟨u,rfl,OY (s:={s with heap:=h'}) e c d (by decide) ⟨x,H,I1,ru,⟨rfl,λys hy=>by rw[I.HD hy hq];exact hx⟩,st',λb hb=>(hf b hb).1⟩⟩
 done:=by
  intro X hP hw hK hc i pins s σ H E I hf st hg
  subst hP hw hK
  obtain⟨xs,hq,hx⟩:=hg
  obtain⟨its,rv,p,hz⟩:=I.list hq
  obtain⟨f0,f1,f2,f3,f4,f5⟩:=hf it (by simp)
  have hl:=rv.length
  exact wpAny_pyNext_list_end (I.ok.hd hc) st p.isList (by simp;omega) λh' eb=>⟨rfl,I.turned (t':=s.toks) (λb o hb e=>eb b o hb e) f0 f1 f3 f4 f5⟩
 self:=λ_ _ _ _ _ st h=>wpAny_pyIter_listiter st h
theorem Jz{P:Program}{w:World}{K:PySem.W.Frag}{tg:Expr}(it:Addr)(lo:Int)(n:Nat):Turn P w K tg (Nt lo n) [it] it (λi h=>IsRangeIter h it (lo+(i:Nat)*1) ((n:Int)-(i:Nat)) 1) where
 mem:=by simp
 obj:=λi h st b hb=>by
  have e:b=it:=by simpa using hb
  subst e
  exact⟨_,st,λv z=>by
   have z':Data.fields _=Data.cell v:=z
   cases z'⟩
 keep:=λi h h' st k=>k it (by simp) _ st
 item:=by
  intro X hP hw hK hc i pins s σ H E I hf st hg
  subst hP hw hK
  obtain⟨f0,f1,f2,f3,f4,f5⟩:=hf it (by simp)
  have W:=Walks.range (prog:=X.prog) (w:=X.w) (I.ok.hd hc) it lo 1 n
  refine W.item i s _ _ hg st λv h' tk hv st' kk=> ?_
  obtain⟨t,rfl⟩:=hv
  have I1:Inv X pins σ H {s with heap:=h',toks:=tk}:=I.turned (λb o hb e=>kk b o (by simpa using hb) e) f0 f1 f3 f4 f5
  refine⟨_,rfl,OY (s:={s with heap:=h',toks:=tk}) (n:="range_iterator") st' rfl rfl (by decide) ⟨.int (lo+i),H,I1,⟨t,?_⟩,⟨rfl,rfl⟩,st',λb hb=>(hf b hb).1⟩⟩
  rw[Int.mul_one]
 done:=by
  intro X hP hw hK hc i pins s σ H E I hf st hg
  subst hP hw hK
  obtain⟨f0,f1,f2,f3,f4,f5⟩:=hf it (by simp)
  exact wpAny_pyNext_range_end (I.ok.hd hc) st (by have:n<=i:=hg;omega) λh' eb=>⟨rfl,I.turned (t':=s.toks) (λb o hb e=>eb b o hb e) f0 f1 f3 f4 f5⟩
 self:=λ_ _ _ _ _ st h=>wpAny_pyIter_rangeiter st h
end L2
namespace L2
open PySem PySem.Spec PyProof.Rows
section
variable{X:Cx}{tg:Expr}
noncomputable def mH (K:PySem.W.Frag) (tl:TE):TI:=λσ H R=>tl σ H λx H1=>∃a,x= .ref a/\(∃xs,iC K H1 a xs)/\R (KD K a) H1
theorem Oo{l:Expr}{tl:TE}(hl:PE X l tl):PI X tg l (mH X.K tl):=by
 intro pins s σ H R I h
 refine kX (hl pins s σ H _ I h) λv s1 ⟨x,H1,I1,r1,q1⟩=> ?_
 obtain⟨a,e,⟨xs,hq⟩,q⟩:=q1
 subst e
 cases r1
 obtain⟨its,rv,p,hz⟩:=I1.list hq
 refine wpAny_pyIter_list p.isList ?_
 refine⟨s1.heap.objs.size,[s1.heap.objs.size],_,_,H1,rfl,I1.kept (t':=s1.toks) λb o e=>Heap.get?_push_of_some _ e,Lv a _,⟨_,Heap.get?_push_size _ rfl,rfl,rfl⟩,λb hb=> ?_,q⟩
 have e:b=s1.heap.objs.size:=by simpa using hb
 subst e
 exact I1.IS (aF _) (I1.gw.fresh (aF _))
theorem HQ{pins:List (Addr×Obj)}{σ:St}{H:Hp}{s:Shared}{R:It->Hp->Prop}{E:Value->Shared->Prop}{lo hi:Int}{t u v:Tok}{tk:Nat}(I:Inv X pins σ H s)(h1: -(2^62)<=lo)(h2:lo<2^62)(h3: -(2^62)<=hi)(h4:hi<2^62)
  (q:R (Nt lo (hi-lo).toNat) H):wpAny (model X.prog X.w) X.A (pyIter (.ref s.heap.objs.size)) (Tu X pins σ tg R) E {s with heap:=s.heap.push {cls:= .type "range",data:= .fields #[.int lo t,.int hi u,.int 1 v]},toks:=tk}:=by
 refine wpAny_pyIter_range (IsRange.new ..) (small_one h1 h2 h3 h4) ?_
 have I1:Inv X pins σ H {s with heap:=s.heap.push {cls:= .type "range",data:= .fields #[.int lo t,.int hi u,.int 1 v]},toks:=tk}:=I.kept λb o e=>Heap.get?_push_of_some _ e
 refine⟨(s.heap.push {cls:= .type "range",data:= .fields #[.int lo t,.int hi u,.int 1 v]}).objs.size,[(s.heap.push {cls:= .type "range",data:= .fields #[.int lo t,.int hi u,.int 1 v]}).objs.size],_,_,H,rfl,
  I1.kept (t':=tk) λb o e=>Heap.get?_push_of_some _ e,Jz _ lo (hi-lo).toNat,?_,λb hb=> ?_,q⟩
 ·have e1:lo+((0:Nat):Int)*1=lo:=by simp
  have e2:(((hi-lo).toNat:Nat):Int)-((0:Nat):Int)=Builtin.Range.rangeSize lo hi 1:=by rw[rangeSize_one];split<;>omega
  show IsRangeIter _ _ (lo+((0:Nat):Int)*1) ((((hi-lo).toNat:Nat):Int)-((0:Nat):Int)) 1
  rw[e1,e2]
  exact Heap.get?_push_size _ rfl
 ·have e:b=(s.heap.push {cls:= .type "range",data:= .fields #[.int lo t,.int hi u,.int 1 v]}).objs.size:=by simpa using hb
  subst e
  exact I1.IS (aF _) (I1.gw.fresh (aF _))
noncomputable def J4 (ta:TA):TI:=λσ H R=>ta σ H λvs H1=>∃j:Int,vs=[.int j]/\ -(2^62)<=j/\j<2^62/\R (Nt 0 j.toNat) H1
noncomputable def Mo (ta:TA):TI:=λσ H R=>ta σ H λvs H1=>∃i j:Int,vs=[.int i,.int j]/\(-(2^62)<=i/\i<2^62/\ -(2^62)<=j/\j<2^62)/\R (Nt i (j-i).toNat) H1
theorem Lk{a:Expr}{ta:TA}{p pos:Pos}(hg:Gl X "range")(hm:X.mg "range"=none)(ha:PA X [a] ta)(hs:starEach [a] X.env=[(false,eval a X.env)]:=by rfl):PI X tg (.Call (.Name "range" p) [a] [] pos) (J4 ta):=by
 intro pins s σ H R I h
 refine Call_ (wZ I hg hm boot_range (bX (kX (ha pos pins s σ H _ I h) λus s1 ⟨vs,H1,I1,r1,q1⟩=> ?_) hs rfl))
 obtain⟨j,e,q1,q2,q⟩:=q1
 subst e
 cases r1 with
 |cons r rr=>
  cases rr
  obtain⟨t,rfl⟩:=r
  exact call_range_1 (HQ I1 (by omega) (by omega) q1 q2 (by simpa using q))
theorem Ll{a b:Expr}{ta:TA}{p pos:Pos}(hg:Gl X "range")(hm:X.mg "range"=none)(ha:PA X [a,b] ta)(hs:starEach [a,b] X.env=[(false,eval a X.env),(false,eval b X.env)]:=by rfl)(hs2:starEach [b] X.env=[(false,eval b X.env)]:=by rfl):
  PI X tg (.Call (.Name "range" p) [a,b] [] pos) (Mo ta):=by
 intro pins s σ H R I h
 refine Call_ (wZ I hg hm boot_range (bX (kX (ha pos pins s σ H _ I h) λus s1 ⟨vs,H1,I1,r1,q1⟩=> ?_) (by rw[hs,hs2]) (by rw[hs2];rfl)))
 obtain⟨i,j,e,⟨q1,q2,q3,q4⟩,q⟩:=q1
 subst e
 cases r1 with
 |cons r rr=>
  cases rr with
  |cons r' rr=>
   cases rr
   obtain⟨t,rfl⟩:=r
   obtain⟨t',rfl⟩:=r'
   exact call_range_2 (HQ I1 q1 q2 q3 q4 q)
noncomputable def QH (wi:TI) (g:TG) (tb:TS):TS:=λD σ H=>wi σ H λJ H1=>∃W:Nat->Nat->St->Hp->Prop,(∃m,W 0 m σ H1)/\∀i m σ H,W i m σ H->
 (J.stop i H/\D.nx σ H)∨(J.go i H/\∃N:St->Hp->Prop,(∀σ' H',N σ' H'->∃m',m'<m/\W (i+1) m' σ' H')/\∀x H',J.OS i H x H'->g x σ H' λσ2 H2=>tb {D with nx:=N,ct:=N,bk:=D.nx} σ2 H2)
noncomputable def DP (fp:List Addr) (h:Heap):List (Addr×Obj):=fp.filterMap λb=>(h.get? b).map λo=>(b,o)
theorem vg{fp:List Addr}{h:Heap}{b:Addr}{o:Obj}(hb:b∈fp)(e:h.get? b=some o):(b,o)∈DP fp h:=List.mem_filterMap.mpr ⟨b,hb,by rw[e];rfl⟩
theorem Lf{fp:List Addr}{h:Heap}{p:Addr×Obj}(hp:p∈DP fp h):p.1∈fp/\h.get? p.1=some p.2:=by
 obtain⟨b,hb,e⟩:=List.mem_filterMap.mp hp
 cases q:h.get? b with
 |none=>rw[q]at e;cases e
 |some o=>
  rw[q]at e
  have e':(b,o)=p:=aT e
  subst e'
  exact⟨hb,q⟩
theorem Inv.pinned{pins:List (Addr×Obj)}{σ:St}{H:Hp}{s:Shared}{fp:List Addr}(I:Inv X pins σ H s)(hf:∀b∈fp,A3 X pins H b)(ho:∀b∈fp,∃o,s.heap.get? b=some o/\∀v,o.data≠ .cell v):Inv X (pins++DP fp s.heap) σ H s:=
 I.AB λp hp=>(List.mem_append.mp hp).elim (λz=>I.pin p (aY _ z)) λz=>by
  obtain⟨hb,e⟩:=Lf z
  obtain⟨f0,f1,f2,_⟩:=hf p.1 hb
  obtain⟨o,e',d⟩:=ho p.1 hb
  rw[e]at e';cases e'
  exact⟨e,f0,f1,f2,d⟩
theorem Inv.D_{pins pl:List (Addr×Obj)}{σ:St}{H:Hp}{s:Shared}(I:Inv X (pins++pl) σ H s):Inv X pins σ H s:=I.AB λp hp=>I.pin p (aY _ (aX _ hp))
theorem Qx{iter:Expr}{body:List Stmt}{wi:TI}{g:TG}{tb:TS}{pos:Pos}(hp:PassesOwn (model X.prog X.w) X.A X.env X.xe)(hc:X.calm=true)(hi:PI X tg iter wi)(hg:PG X tg g)(hb:Ip X body tb)
  (hs:∀x,foldedSetIterable iter X.env x=pure x:=by intro _;rfl):PS X (.For tg iter body [] pos) (QH wi g tb):=by
 intro pins s σ H D I h
 refine wpAny_For (kX (hi pins s σ H _ I h) λv s1 h1=>kX h1 λitv s2 h2=> ?_) hs
 obtain⟨it,fp,tn,J,H2,e,I2,T,st2,f2,W,⟨m0,w0⟩,turn⟩:=h2
 subst e
 have stat:∀{H':Hp},(∀b∈fp,H' b=none)->∀b∈fp,A3 X pins H' b:=λhn b hb=>⟨hn b hb,(f2 b hb).2⟩
 refine codeAny_forLoop_any (λn s'=>∃i σ' H',Inv X pins σ' H' s'/\tn i s'.heap/\(∀b∈fp,H' b=none)/\W i n σ' H') ?_ m0 ⟨0,σ,H2,I2,st2,λb hb=>(f2 b hb).1,w0⟩
 rintro n s3 ⟨i,σ3,H3,I3,st3,fr3,w3⟩
 rcases turn i n σ3 H3 w3 with ⟨stop,qn⟩|⟨go,N,hN,step⟩
 ·refine wpAny_passesOwn hp (kX (T.done X rfl rfl rfl hc i pins s3 σ3 H3 X.xe I3 (stat fr3) st3 stop) λr s4 ⟨hr,I4⟩=> ?_)
  subst hr
  exact wpAny_execs_nil ⟨σ3,H3,I4,qn⟩
 ·refine wpAny_passesOwn hp (kX (T.item X rfl rfl rfl hc i pins s3 σ3 H3 X.xe I3 (stat fr3) st3 go) λr s4 ⟨u,hr,h4⟩=> ?_)
  subst hr
  refine wpAny_passesOwn hp (kX h4 λ_ s5 ⟨x,H5,I5,r5,y5,st5,fr5⟩=> ?_)
  have I5':=I5.pinned (stat fr5) (T.obj _ _ st5)
  refine wpAny_passesOwn hp (kX (hg _ s5 σ3 H5 x u _ I5' r5 (step x H5 y5)) λ_ s6 ⟨σ6,H6,I6,q6⟩=> ?_)
  refine wpAny_passesOwn hp (kX (hb _ s6 σ6 H6 _ I6 q6) λf s7 q7=> ?_)
  have again:∀{σ7:St} {H7:Hp},Inv X (pins++DP fp s5.heap) σ7 H7 s7->N σ7 H7->∃m,m<n/\∃i σ' H',Inv X pins σ' H' s7/\tn i s7.heap/\(∀b∈fp,H' b=none)/\W i m σ' H':=λ{σ7 H7} I7 n7=>by
   obtain⟨m',hm,w7⟩:=hN σ7 H7 n7
   refine⟨m',hm,i+1,σ7,H7,I7.D_,T.keep _ _ _ st5 λb hb o e=>(I7.pin (b,o) (aY _ (aY _ (vg hb e)))).1,λb hb=> ?_,w7⟩
   obtain⟨o,e,d⟩:=T.obj _ _ st5 b hb
   exact(I7.pin (b,o) (aY _ (aY _ (vg hb e)))).2.1
  cases f with
  |next=>obtain⟨σ7,H7,I7,n7⟩:=q7;exact again I7 n7
  |cont=>obtain⟨σ7,H7,I7,n7⟩:=q7;exact again I7 n7
  |brk=>obtain⟨σ7,H7,I7,q7⟩:=q7;exact⟨σ7,H7,I7.D_,q7⟩
  |ret v=>obtain⟨x7,σ7,H7,I7,r7,q7⟩:=q7;exact⟨x7,σ7,H7,I7.D_,r7,q7⟩
end
theorem Mg{K:PySem.W.Frag}{a:Addr}{xs:List V}{g:TG}{tb:TS}{D:Ends}{σ:St}{H:Hp}(Pv:Nat->St->Hp->Prop)(h0:Pv 0 σ H)(hl:∀i σ H,i<=xs.length->Pv i σ H->iC K H a xs)
  (hs:∀i x σ H,xs[i]? =some x->Pv i σ H->g x σ H λσ2 H2=>tb {D with nx:=Pv (i+1),ct:=Pv (i+1),bk:=D.nx} σ2 H2) (hd:∀σ H,Pv xs.length σ H->D.nx σ H):
  ∃W:Nat->Nat->St->Hp->Prop,(∃m,W 0 m σ H)/\∀i m σ H,W i m σ H->
   ((KD K a).stop i H/\D.nx σ H)∨((KD K a).go i H/\∃N:St->Hp->Prop,(∀σ' H',N σ' H'->∃m',m'<m/\W (i+1) m' σ' H')/\∀x H',(KD K a).OS i H x H'->g x σ H' λσ2 H2=>tb {D with nx:=N,ct:=N,bk:=D.nx} σ2 H2):=by
 refine⟨λi m σ H=>m=xs.length-i/\i<=xs.length/\Pv i σ H,⟨xs.length,by simp,bw _,h0⟩,?_⟩
 rintro i m σ H ⟨rfl,hi,p⟩
 have q:=hl i σ H hi p
 by_cases hlt:i<xs.length
 ·refine .inr ⟨⟨xs,xs[i],q,by simp[hlt]⟩,Pv (i+1),λσ' H' p'=>⟨xs.length-(i+1),by omega,rfl,hlt,p'⟩,λx H' y=> ?_⟩
  obtain⟨e,y⟩:=y
  subst e
  exact hs i x σ _ (y xs q) p
 ·have e:i=xs.length:=by omega
  subst e
  exact .inl ⟨⟨xs,q,aF _⟩,hd σ H p⟩
theorem KW{lo:Int}{n:Nat}{g:TG}{tb:TS}{D:Ends}{σ:St}{H:Hp}(Pv:Nat->St->Hp->Prop)(h0:Pv 0 σ H)
  (hs:∀i σ H,i<n->Pv i σ H->g (.int (lo+i)) σ H λσ2 H2=>tb {D with nx:=Pv (i+1),ct:=Pv (i+1),bk:=D.nx} σ2 H2) (hd:∀σ H,Pv n σ H->D.nx σ H):
  ∃W:Nat->Nat->St->Hp->Prop,(∃m,W 0 m σ H)/\∀i m σ H,W i m σ H->
   ((Nt lo n).stop i H/\D.nx σ H)∨((Nt lo n).go i H/\∃N:St->Hp->Prop,(∀σ' H',N σ' H'->∃m',m'<m/\W (i+1) m' σ' H')/\∀x H',(Nt lo n).OS i H x H'->g x σ H' λσ2 H2=>tb {D with nx:=N,ct:=N,bk:=D.nx} σ2 H2):=by
 refine⟨λi m σ H=>m=n-i/\i<=n/\Pv i σ H,⟨n,by simp,bw _,h0⟩,?_⟩
 rintro i m σ H ⟨rfl,hi,p⟩
 by_cases hlt:i<n
 ·refine .inr ⟨hlt,Pv (i+1),λσ' H' p'=>⟨n-(i+1),by omega,rfl,hlt,p'⟩,λx H' y=> ?_⟩
  obtain⟨e,y⟩:=y
  subst e y
  exact hs i σ _ hlt p
 ·have e:i=n:=by omega
  subst e
  exact .inl ⟨aF _,hd σ H p⟩
end L2
namespace L2
open PySem PySem.Spec PyProof.Rows
noncomputable abbrev R2:=V->V->Hp->VK->Prop
noncomputable def qb (X:Cx) (f:Value->Value->Sem Value) (r:R2):Prop:=
 ∀(pins:List (Addr×Obj)) (s:Shared) (σ:St) (H:Hp) (x y:V) (v u:Value) (Q:VK),Inv X pins σ H s->RelV x v->RelV y u->r x y H Q->
  wpAny (model X.prog X.w) X.A (f v u) (EP X pins σ Q) X.xe s
noncomputable def QZ (X:Cx) (f:Value->Sem Value) (r:V->Hp->VK->Prop):Prop:=
 ∀(pins:List (Addr×Obj)) (s:Shared) (σ:St) (H:Hp) (x:V) (v:Value) (Q:VK),Inv X pins σ H s->RelV x v->r x H Q->
  wpAny (model X.prog X.w) X.A (f v) (EP X pins σ Q) X.xe s
noncomputable def mF (X:Cx) (f:Value) (r:List V->Hp->VK->Prop):Prop:=
 ∀(pins:List (Addr×Obj)) (s:Shared) (σ:St) (H:Hp) (xs:List V) (us:List Value) (Q:VK),Inv X pins σ H s->Vals xs us->r xs H Q->
  wpAny (model X.prog X.w) X.A (call f us) (EP X pins σ Q) X.xe s
noncomputable def Su (X:Cx) (r:V->Hp->(Bool->Hp->Prop)->Prop):Prop:=
 ∀(pins:List (Addr×Obj)) (s:Shared) (σ:St) (H:Hp) (x:V) (v:Value) (Q:Bool->Hp->Prop),Inv X pins σ H s->RelV x v->r x H Q->
  wpAny (model X.prog X.w) X.A (truthy v) (TP X pins σ Q) X.xe s
noncomputable def gU (r:R2) (ta tb:TE):TE:=λσ H Q=>ta σ H λx H1=>tb σ H1 λy H2=>r x y H2 Q
noncomputable def Sm (r:V->Hp->VK->Prop) (ta:TE):TE:=λσ H Q=>ta σ H λx H1=>r x H1 Q
noncomputable def rI (C:Int->Int->Prop) (g:Int->Int->V):R2:=λx y H Q=>∃i j,x= .int i/\y= .int j/\C i j/\Q (g i j) H
noncomputable def O3 (g:Int->Int->V):R2:=λx y H Q=>∃i j,x= .int i/\y= .int j/\Q (g i j) H
noncomputable def rU (g:Int->V):V->Hp->VK->Prop:=λx H Q=>∃i,x= .int i/\Q (g i) H
section
variable{X:Cx}{a b c:Expr}{ta tb tc:TE}{pos:Pos}
theorem Pf(ha:PE X a ta)(hb:PE X b tb){pins:List (Addr×Obj)}{s:Shared}{σ:St}{H:Hp}{R:V->V->Hp->Prop}(I:Inv X pins σ H s)
  (h:ta σ H λx H1=>tb σ H1 λy H2=>R x y H2) {Q:Value->Shared->Prop} {f:Value->Value->Sem Value}
  (hf:∀v u s2 x y H2,Inv X pins σ H2 s2->RelV x v->RelV y u->R x y H2->wpAny (model X.prog X.w) X.A (f v u) Q X.xe s2):
  wpAny (model X.prog X.w) X.A (eval a X.env) (λv s₁=>wpAny (model X.prog X.w) X.A (eval b X.env) (λu s₂=>wpAny (model X.prog X.w) X.A (f v u) Q X.xe s₂) X.xe s₁) X.xe s:=by
 refine kX (ha pins s σ H _ I h) λv s1 ⟨x,H1,I1,r1,q1⟩=> ?_
 refine kX (hb pins s1 σ H1 _ I1 q1) λu s2 ⟨y,H2,I2,r2,q2⟩=> ?_
 exact hf v u s2 x y H2 I2 r1 r2 q2
theorem RY{op:Operator}{r:R2}(ho:qb X (binaryOp op) r)(ha:PE X a ta)(hb:PE X b tb):PE X (.BinOp a op b pos) (gU r ta tb):=by
 intro pins s σ H Q I h
 exact wpAny_BinOp (Pf ha hb I h λv u s2 x y H2 I2 rx ry q=>ho pins s2 σ H2 x y v u Q I2 rx ry q)
theorem R1{op:UnaryOp}{r:V->Hp->VK->Prop}(ho:QZ X (unaryOp op) r)(ha:PE X a ta):PE X (.UnaryOp op a pos) (Sm r ta):=by
 intro pins s σ H Q I h
 exact UnaryOp_ (kX (ha pins s σ H _ I h) λv s1 ⟨x,H1,I1,r1,q1⟩=>ho pins s1 σ H1 x v Q I1 r1 q1)
theorem Tc{f:Value->Value->Sem Value}{C:Int->Int->Prop}{g:Int->Int->Int}
  (rule:∀(i j:Int) (t u:Tok) (s:Shared) (Q:Value->Shared->Prop) (E:Value->Shared->Prop),C i j->Q (.int (g i j) s.toks) {s with toks:=s.toks+1}->wpAny (model X.prog X.w) X.A (f (.int i t) (.int j u)) Q E s):
  qb X f (rI C λi j=> .int (g i j)):=by
 intro pins s σ H x y v u Q I rx ry h
 obtain⟨i,j,rfl,rfl,hc,q⟩:=h
 obtain⟨t,rfl⟩:=rx
 obtain⟨t',rfl⟩:=ry
 exact rule i j t t' s _ _ hc ⟨.int (g i j),H,I.tok _,⟨_,rfl⟩,q⟩
theorem RP{f:Value->Value->Sem Value}{g:Int->Int->Int}
  (rule:∀(i j:Int) (t u:Tok) (s:Shared) (Q:Value->Shared->Prop) (E:Value->Shared->Prop),Q (.int (g i j) s.toks) {s with toks:=s.toks+1}->wpAny (model X.prog X.w) X.A (f (.int i t) (.int j u)) Q E s):
  qb X f (O3 λi j=> .int (g i j)):=by
 intro pins s σ H x y v u Q I rx ry h
 obtain⟨i,j,rfl,rfl,q⟩:=h
 obtain⟨t,rfl⟩:=rx
 obtain⟨t',rfl⟩:=ry
 exact rule i j t t' s _ _ ⟨.int (g i j),H,I.tok _,⟨_,rfl⟩,q⟩
theorem Qc{f:Value->Value->Sem Value}{g:Int->Int->Bool}
  (rule:∀(i j:Int) (t u:Tok) (s:Shared) (Q:Value->Shared->Prop) (E:Value->Shared->Prop),Q (.bool (g i j)) s->wpAny (model X.prog X.w) X.A (f (.int i t) (.int j u)) Q E s):
  qb X f (O3 λi j=> .bl (g i j)):=by
 intro pins s σ H x y v u Q I rx ry h
 obtain⟨i,j,rfl,rfl,q⟩:=h
 obtain⟨t,rfl⟩:=rx
 obtain⟨t',rfl⟩:=ry
 exact rule i j t t' s _ _ ⟨.bl (g i j),H,I,rfl,q⟩
noncomputable def wg (i j:Int):Prop:=0<j/\j<1073741824
noncomputable def Cp (i j:Int):Prop:=(-(2^64)<i/\i<2^64)∨(-(2^64)<j/\j<2^64)
theorem Cp.ok{i j:Int}(h:Cp i j):IntMulOk i j:=by
 rcases h with ⟨h1,h2⟩|⟨h1,h2⟩
 ·exact .of_left (intBits_le_64 h1 h2)
 ·exact .of_right (intBits_le_64 h1 h2)
theorem Qd:qb X (binaryOp .Add) (O3 λi j=> .int (i+j)):=RP λ_ _ _ _ _ _ _ q=>add_int q
theorem Qj:qb X (binaryOp .Sub) (O3 λi j=> .int (i-j)):=RP λ_ _ _ _ _ _ _ q=>sub_int q
theorem Qh:qb X (binaryOp .Mult) (rI Cp λi j=> .int (i*j)):=Tc λ_ _ _ _ _ _ _ hc q=>mul_int q hc.ok
theorem Ob:qb X (binaryOp .FloorDiv) (rI wg λi j=> .int (i/j)):=Tc λi j _ _ _ _ _ hc q=>by
 have h1:(0:Int)<j:=hc.1
 have h2:j<1073741824:=hc.2
 exact floordiv_int (by omega) (by rw[Int.fdiv_eq_ediv_of_nonneg i (by omega)];exact q) (.inl (PyProof.noPylong_small (by omega)))
theorem Qg:qb X (binaryOp .Mod) (rI (λ_ j=>0<j) λi j=> .int (i%j)):=Tc λi j _ _ _ _ _ hc q=>by
 have h1:(0:Int)<j:=hc
 exact mod_int' (by omega) (by rw[Int.fmod_eq_emod_of_nonneg i (by omega)];exact q)
theorem TZ{f:Value->Sem Value}{g:Int->Int}
  (rule:∀(i:Int) (t:Tok) (s:Shared) (Q:Value->Shared->Prop) (E:Value->Shared->Prop),Q (.int (g i) s.toks) {s with toks:=s.toks+1}->wpAny (model X.prog X.w) X.A (f (.int i t)) Q E s):
  QZ X f (rU λi=> .int (g i)):=by
 intro pins s σ H x v Q I rx h
 obtain⟨i,rfl,q⟩:=h
 obtain⟨t,rfl⟩:=rx
 exact rule i t s _ _ ⟨.int (g i),H,I.tok _,⟨_,rfl⟩,q⟩
theorem QN:QZ X (unaryOp .USub) (rU λi=> .int (-i)):=TZ λ_ _ _ _ _ q=>neg_int q
end
noncomputable def QF:V->V->Bool
 | .gT,.gT=>true| .gT,.int _=>true| .int _,.gT=>true| .gT,.bl _=>true| .bl _,.gT=>true| .gT,.str _=>true| .str _,.gT=>true
 | .int _,.int _=>true| .bl _,.bl _=>true| .str _,.str _=>true| .byt _,.byt _=>true
 | .int _,.str _=>true| .str _,.int _=>true| .bl _,.str _=>true| .str _,.bl _=>true
 |_,_=>false
noncomputable def TV:R2:=λx y H Q=>QF x y=true/\Q (.bl (decide (x=y))) H
noncomputable def TX:R2:=λx y H Q=>QF x y=true/\Q (.bl (!decide (x=y))) H
theorem JY{i j:Int}:decide (V.int i=V.int j)=(i==j):=by
 rw[bY]
 simp
theorem L8{i j:Bool}:decide (V.bl i=V.bl j)=(i==j):=by
 rw[bY]
 simp
theorem JZ{i j:Str}:decide (V.str i=V.str j)=(i==j):=by
 rw[bY]
 simp
theorem JX{i j:Array UInt8}:decide (V.byt i=V.byt j)=(i.toList==j.toList):=by
 rw[bY]
 cases i
 cases j
 simp
section
variable{X:Cx}{a b c:Expr}{ta tb tc:TE}{pos:Pos}
theorem gq{pins:List (Addr×Obj)}{σ:St}{H:Hp}{s:Shared}{Q:VK}{k k':Bool}(I:Inv X pins σ H s)(q:Q (.bl k) H)(e:k=k'):EP X pins σ Q (.bool k') s:=by
 subst e
 exact⟨.bl k,H,I,rfl,q⟩
theorem RQ:qb X (compareOp .Eq) TV:=by
 intro pins s σ H x y v u Q I rx ry h
 obtain⟨hs,q⟩:=h
 cases x with
 |gT=>
  cases rx
  cases y with
  |gT=>cases ry;exact PySem.EqNone.eq_none_none (gq I q (by simp))
  |bl j=>cases ry;exact PySem.EqNone.eq_none_bool (gq I q (by simp))
  |int j=>obtain⟨t',rfl⟩:=ry;exact PySem.EqNone.eq_none_int (gq I q (by simp))
  |str j=>obtain⟨t',rfl⟩:=ry;exact PySem.EqNone.eq_none_str (gq I q (by simp))
  |_=>exact absurd (show false=true from hs) aR
 |bl i=>
  cases rx
  cases y with
  |gT=>cases ry;exact PySem.EqNone.eq_bool_none (gq I q (by simp))
  |bl j=>cases ry;exact eq_bool (gq I q L8)
  |str j=>obtain⟨t',rfl⟩:=ry;exact PySem.EqMixed.eq_bool_str (gq I q (by simp))
  |_=>exact absurd (show false=true from hs) aR
 |int i=>
  obtain⟨t,rfl⟩:=rx
  cases y with
  |gT=>cases ry;exact PySem.EqNone.eq_int_none (gq I q (by simp))
  |int j=>obtain⟨t',rfl⟩:=ry;exact eq_int (gq I q JY)
  |str j=>obtain⟨t',rfl⟩:=ry;exact PySem.EqMixed.eq_int_str (gq I q (by simp))
  |_=>exact absurd (show false=true from hs) aR
 |str i=>
  obtain⟨t,rfl⟩:=rx
  cases y with
  |gT=>cases ry;exact PySem.EqNone.eq_str_none (gq I q (by simp))
  |bl j=>cases ry;exact PySem.EqMixed.eq_str_bool (gq I q (by simp))
  |int j=>obtain⟨t',rfl⟩:=ry;exact PySem.EqMixed.eq_str_int (gq I q (by simp))
  |str j=>obtain⟨t',rfl⟩:=ry;exact eq_str (gq I q JZ)
  |_=>exact absurd (show false=true from hs) aR
 |byt i=>
  obtain⟨t,rfl⟩:=rx
  cases y with
  |byt j=>obtain⟨t',rfl⟩:=ry;exact PySem.W.eq_bytes (gq I q JX)
  |_=>exact absurd (show false=true from hs) aR
 |_=>cases y<;>exact absurd (show false=true from hs) aR
theorem RU:qb X (compareOp .NotEq) TX:=by
 intro pins s σ H x y v u Q I rx ry h
 obtain⟨hs,q⟩:=h
 cases x with
 |gT=>
  cases rx
  cases y with
  |gT=>cases ry;exact PySem.EqNone.ne_none_none (gq I q (by simp))
  |bl j=>cases ry;exact PySem.EqNone.ne_none_bool (gq I q (by simp))
  |int j=>obtain⟨t',rfl⟩:=ry;exact PySem.EqNone.ne_none_int (gq I q (by simp))
  |str j=>obtain⟨t',rfl⟩:=ry;exact PySem.EqNone.ne_none_str (gq I q (by simp))
  |_=>exact absurd (show false=true from hs) aR
 |bl i=>
  cases rx
  cases y with
  |gT=>cases ry;exact PySem.EqNone.ne_bool_none (gq I q (by simp))
  |bl j=>cases ry;exact ne_bool (gq I q (congrArg not L8))
  |str j=>obtain⟨t',rfl⟩:=ry;exact PySem.EqMixed.ne_bool_str (gq I q (by simp))
  |_=>exact absurd (show false=true from hs) aR
 |int i=>
  obtain⟨t,rfl⟩:=rx
  cases y with
  |gT=>cases ry;exact PySem.EqNone.ne_int_none (gq I q (by simp))
  |int j=>obtain⟨t',rfl⟩:=ry;exact ne_int (gq I q (congrArg not JY))
  |str j=>obtain⟨t',rfl⟩:=ry;exact PySem.EqMixed.ne_int_str (gq I q (by simp))
  |_=>exact absurd (show false=true from hs) aR
 |str i=>
  obtain⟨t,rfl⟩:=rx
  cases y with
  |gT=>cases ry;exact PySem.EqNone.ne_str_none (gq I q (by simp))
  |bl j=>cases ry;exact PySem.EqMixed.ne_str_bool (gq I q (by simp))
  |int j=>obtain⟨t',rfl⟩:=ry;exact PySem.EqMixed.ne_str_int (gq I q (by simp))
  |str j=>obtain⟨t',rfl⟩:=ry;exact ne_str (gq I q (congrArg not JZ))
  |_=>exact absurd (show false=true from hs) aR
 |byt i=>
  obtain⟨t,rfl⟩:=rx
  cases y with
  |byt j=>obtain⟨t',rfl⟩:=ry;exact PySem.W.ne_bytes (gq I q (congrArg not JX))
  |_=>exact absurd (show false=true from hs) aR
 |_=>cases y<;>exact absurd (show false=true from hs) aR
theorem RT:qb X (compareOp .Lt) (O3 λi j=> .bl (decide (i<j))):=Qc λ_ _ _ _ _ _ _ q=>lt_int q
theorem RS:qb X (compareOp .LtE) (O3 λi j=> .bl (decide (i<=j))):=Qc λ_ _ _ _ _ _ _ q=>le_int q
theorem RR:qb X (compareOp .Gt) (O3 λi j=> .bl (decide (j<i))):=Qc λ_ _ _ _ _ _ _ q=>gt_int q
theorem Qf:qb X (compareOp .Is) (λx y H Q=>y= .gT/\Q (.bl (decide (x= .gT))) H):=by
 intro pins s σ H x y v u Q I rx ry h
 obtain⟨rfl,q⟩:=h
 cases ry
 refine is_none_gen (gq I q ?_)
 cases x<;>first
  |(cases rx;rfl)
  |(obtain⟨t,rfl⟩:=rx;rfl)
theorem Oc:qb X (compareOp .IsNot) (λx y H Q=>y= .gT/\Q (.bl (!decide (x= .gT))) H):=by
 intro pins s σ H x y v u Q I rx ry h
 obtain⟨rfl,q⟩:=h
 cases ry
 refine isnot_none_gen (gq I q ?_)
 cases x<;>first
  |(cases rx;rfl)
  |(obtain⟨t,rfl⟩:=rx;rfl)
theorem fk(b:Expr){op:CmpOp}(h:op≠ .In:=by decide)(h2:op≠ .NotIn:=by decide):behindInMarks op b=false:=by
 have e1:(op==CmpOp.In)=false:=by cases op<;>first|rfl|exact absurd rfl h
 have e2:(op==CmpOp.NotIn)=false:=by cases op<;>first|rfl|exact absurd rfl h2
 cases b<;>simp[behindInMarks,e1,e2]
theorem Of{op:CmpOp}{r:R2}(ho:qb X (compareOp op) r)(ha:PE X a ta)(hb:PE X b tb)(hm:behindInMarks op b=false):PE X (.Compare a [op] [b] pos) (gU r ta tb):=by
 intro pins s σ H Q I h
 exact wpAny_Compare1 (Pf ha hb I h λv u s2 x y H2 I2 rx ry q=>ho pins s2 σ H2 x y v u Q I2 rx ry q) hm
noncomputable def gp (t:TE):TT:=λσ H Q=>t σ H λx H'=>∃k,x= .bl k/\Q k H'
theorem Ox{op:CmpOp}{r:R2}(ho:qb X (compareOp op) r)(ha:PE X a ta)(hb:PE X b tb)(hm:behindInMarks op b=false):PT X (.Compare a [op] [b] pos) (gp (gU r ta tb)):=by
 intro pins s σ H Q I h
 refine wpAny_isTrue_Compare1 (kX (ha pins s σ H _ I h) λv s1 ⟨x,H1,I1,r1,q1⟩=>kX (hb pins s1 σ H1 _ I1 q1) λu s2 ⟨y,H2,I2,r2,q2⟩=>
  kX (ho pins s2 σ H2 x y v u _ I2 r1 r2 q2) λc s3 ⟨z,H3,I3,r3,k,e,q3⟩=> ?_) hm
 subst e
 cases r3
 exact wpAny_truthy_bool ⟨H3,I3,q3⟩
noncomputable def Jw (r r':R2) (ta tb tc:TE):TE:=λσ H Q=>ta σ H λx H1=>tb σ H1 λy H2=>r x y H2 λz H3=>∃k,z= .bl k/\
 (if k=true then tc σ H3 λw' H4=>r' y w' H4 Q else Q (.bl false) H3)
theorem ML{op op':CmpOp}{r r':R2}(ho:qb X (compareOp op) r)(ho':qb X (compareOp op') r')(ha:PE X a ta)(hb:PE X b tb)(hc:PE X c tc)
  (hm:lastMarks [op,op'] [b,c]=false:=by with_unfolding_all rfl):PE X (.Compare a [op,op'] [b,c] pos) (Jw r r' ta tb tc):=by
 intro pins s σ H Q I h
 refine Compare_chain (kX (ha pins s σ H _ I h) λv s1 ⟨x,H1,I1,r1,q1⟩=>chain_link (kX (hb pins s1 σ H1 _ I1 q1) λu s2 ⟨y,H2,I2,r2,q2⟩=>
  kX (ho pins s2 σ H2 x y v u _ I2 r1 r2 q2) λd s3 ⟨z,H3,I3,r3,k,e,q3⟩=> ?_)) hm
 subst e
 cases r3
 refine wpAny_truthy_bool ?_
 cases k with
 |false=>exact ite_ff ⟨.bl false,H3,I3,rfl,q3⟩
 |true=>exact ite_tt (chain_last (kX (hc pins s3 σ H3 _ I3 q3) λw' s4 ⟨z',H4,I4,r4,q4⟩=>ho' pins s4 σ H4 y z' u w' Q I4 r2 r4 q4))
noncomputable def jH (K:PySem.W.Frag) (x:V) (H:Hp) (k:Bool):Prop:=
 match x with
 | .gT=>k=false
 | .bl b=>k=b
 | .int i=>k=(i !=0)
 | .str y=>y.length<=sizeLine/\k=((y.length:Int) !=0)
 | .byt y=>y.size<=sizeLine/\k=((y.size:Int) !=0)
 | .ref p=>(∃xs,iC K H p xs/\k= !xs.isEmpty)∨(∃xs,Ef K H p xs/\k= !xs.isEmpty)∨∃fA,H p=some (.dK fA)/\k= !fA.isEmpty
 |_=>False
theorem IU{κ:Type}{fA:List (κ×V)}{vs:List (κ×Value)}(r:KV fA vs):(!vs.isEmpty)= !fA.isEmpty:=by
 cases r<;>rfl
theorem Dw{xs:List V}{its:List Value}(r:Vals xs its):(!its.toArray.isEmpty)= !xs.isEmpty:=by
 cases r<;>simp
theorem DH:(sizeLine:Nat)<2^63:=by rw[sizeLine_eq];decide
theorem QJ:Su X (λx H Q=>∃k,jH X.K x H k/\Q k H):=by
 intro pins s σ H x v Q I rx h
 obtain⟨k,e,q⟩:=h
 have hl:=DH
 have hs:sizeLine=16777216:=sizeLine_eq
 cases x with
 |gT=>
  cases rx
  have e':k=false:=e
  subst e'
  exact truthy_none ⟨H,I,q⟩
 |bl b=>
  cases rx
  have e':k=b:=e
  subst e'
  exact wpAny_truthy_bool ⟨H,I,q⟩
 |int i=>
  obtain⟨t,rfl⟩:=rx
  have e':k=(i !=0):=e
  subst e'
  exact PySem.P.truthy_int ⟨H,I,q⟩
 |str y=>
  obtain⟨t,rfl⟩:=rx
  obtain⟨hy,e'⟩:y.length<=sizeLine/\k=((y.length:Int) !=0):=e
  subst e'
  exact PySem.P.truthy_str (by omega) ⟨H,I.tok _,q⟩
 |byt y=>
  obtain⟨t,rfl⟩:=rx
  obtain⟨hy,e'⟩:y.size<=sizeLine/\k=((y.size:Int) !=0):=e
  subst e'
  exact PySem.W.truthy_bytes (by omega) ⟨H,I.tok _,q⟩
 |ref p=>
  cases rx
  have e':(∃xs,iC X.K H p xs/\k= !xs.isEmpty)∨(∃xs,Ef X.K H p xs/\k= !xs.isEmpty)∨∃fA,H p=some (.dK fA)/\k= !fA.isEmpty:=e
  rcases e' with ⟨xs,hx,e'⟩|⟨xs,hx,e'⟩|⟨fA,hx,e'⟩
  ·subst e'
   obtain⟨its,r,pl,hz⟩:=I.list hx
   have hlen:=r.length
   exact wpAny_truthy_list pl.isList (by simp only[aP];omega) ⟨H,I.tok _,by rw[Dw r];exact q⟩
  ·subst e'
   obtain⟨its,r,pl,hz⟩:=I.tuple hx
   have hlen:=r.length
   exact truthy_tuple pl (by simp only[aP];omega) ⟨H,I.tok _,by rw[Dw r];exact q⟩
  ·subst e'
   obtain⟨hz,hS,vs,r,m⟩:fA.length<=sizeLine/\(p==sysModules)=false/\∃vs,KV fA vs/\s.heap.DictOf (jL X.prog X.w) p vs:=I.gw p _ hx
   have hlen:fA.length=vs.length:=Paired.length r
   exact wpAny_truthy_dict hS m (by omega) ⟨H,I.tok _,by rw[IU r];exact q⟩
 |_=>exact(show False from e).elim
theorem M6(ha:PE X a ta)(he:∀whole,isTrue a X.env whole=(do let v←whole;standAt a.pos;holding [v] (truthy v))):
  PT X a (λσ H Q=>ta σ H λx H'=>∃k,jH X.K x H' k/\Q k H'):=by
 intro pins s σ H Q I h
 exact isTrue_plain (kX (ha pins s σ H _ I h) λv s1 ⟨x,H1,I1,r1,q1⟩=>QJ pins s1 σ H1 x v Q I1 r1 q1) (he _)
theorem Jl:qb X (binaryOp .Add) (λx y H Q=>∃i j,x= .str i/\y= .str j/\i.length+j.length<=sizeLine/\Q (.str (i++j)) H):=by
 intro pins s σ H x y v u Q I rx ry h
 obtain⟨i,j,rfl,rfl,hz,q⟩:=h
 obtain⟨t,rfl⟩:=rx
 obtain⟨t',rfl⟩:=ry
 exact add_str (λt' tk=>⟨.str (i++j),H,I.tok _,⟨_,rfl⟩,q⟩) hz
theorem vals1{x:V}{us:List Value}(r:Vals [x] us):∃u,us=[u]/\RelV x u:=by
 cases r with
 |cons r1 r2=>cases r2;exact⟨_,rfl,r1⟩
theorem vals2{x y:V}{us:List Value}(r:Vals [x,y] us):∃u w',us=[u,w']/\RelV x u/\RelV y w':=by
 cases r with
 |cons r1 r2=>
  cases r2 with
  |cons r3 r4=>cases r4;exact⟨_,_,rfl,r1,r3⟩
theorem KN:mF X (.type "int") (λxs H Q=>(∃i,xs=[.int i]/\Q (.int i) H)∨∃k,xs=[.bl k]/\Q (.int (if k then 1 else 0)) H):=by
 intro pins s σ H xs us Q I r h
 rcases h with ⟨i,rfl,q⟩|⟨k,rfl,q⟩
 ·obtain⟨u,rfl,t,rfl⟩:=vals1 r
  exact call_int_int ⟨.int i,H,I,⟨_,rfl⟩,q⟩
 ·obtain⟨u,rfl,r1⟩:=vals1 r
  cases r1
  exact call_int_bool ⟨.int (if k then 1 else 0),H,I.tok _,⟨_,rfl⟩,q⟩
end
end L2
namespace L2
open PySem PySem.Spec PyProof.Rows
structure Iz(h:Heap)(x dx C:Addr)(mA:Str->Option Value):Prop where
 obj:h.get? x=some (PySem.W.instObj C dx)
 ns:h.Ns1 dx mA
 ne:dx≠x
theorem Lb{h:Heap}{dx:Addr}{mA:Str->Option Value}(n:h.Ns1 dx mA):∃od,h.get? dx=some od/\∀name,PySem.W.lookIn name od=some (mA name):=by
 obtain⟨o,es,ep,ho,hd,hk,_,hm⟩:=n
 refine⟨o,ho,λname=> ?_⟩
 have e:=hm name
 unfold nsFind findBy at e
 rw[←Array.find?_toList]at e
 unfold PySem.W.lookIn
 rw[hd]
 dsimp only
 split
 ·rename_i y q
  rw[q]at e
  exact congrArg some e
 ·rename_i q
  rw[q]at e
  have a:es.toList.any (·.refKey)=false:=by
   rw[b9]
   intro y hy
   obtain⟨z,t,hkey⟩:=hk y (Array.mem_toList_iff.mp hy)
   simp[DictEntry.refKey,hkey]
  have a':¬es.toList.any (·.refKey)=true:=by rw[a];exact aR
  rw[if_neg a']
  exact congrArg some e
theorem Iz.look{h:Heap}{x dx C:Addr}{mA:Str->Option Value}(I:Iz h x dx C mA):∃od,PySem.W.InstAt h x (PySem.W.instObj C dx) C (some od)/\∀name,PySem.W.lookIn name od=some (mA name):=
 let ⟨od,ho,hl⟩:=Lb I.ns
 ⟨od,⟨I.obj,rfl,rfl,ho⟩,hl⟩
section
variable{prog:Program}{w:World}{A:Around}{E:Value->Shared->Prop}{s:Shared}{K:PySem.W.Frag}{x dx C f:Addr}{mA:Str->Option Value}{name:Str}{v:Value}
theorem get_map{expr:Bool}{Q:Value->Shared->Prop}(X:K.In s.heap)(I:Iz s.heap x dx C mA)(hg:PySem.W.plainGet K C name=true)(hh:PySem.W.hasDictIn K C=true)
  (ha:PySem.W.findIn K (.ref C) name=some none) (hv:mA name=some v) (hv':PySem.W.handedIn v=true) (h:Q v {s with toks:=s.toks+1}):
  wpAny (model prog w) A (getAttr (.ref x) name expr) Q E s:=by
 obtain⟨od,J,hl⟩:=I.look
 exact PySem.W.get_value X J (dw hg).1 (PySem.W.findObj_own hh ha rfl (by rw[hl,hv])) hv' h
theorem Mj{pl:Sem Bool}{Q:Value×List Value->Shared->Prop}(X:K.In s.heap)(I:Iz s.heap x dx C mA)(hg:PySem.W.plainGet K C name=true)
  (hf:PySem.W.findIn K (.ref C) name=some (some (.ref f))) (ht:PySem.W.isFn K (.ref f)=true) (hv:mA name=none) (h:Q (.ref f,[.ref x]) s):
  wpAny (model prog w) A (getMethod (.ref x) name pl) Q E s:=by
 obtain⟨od,J,hl⟩:=I.look
 exact PySem.W.method_fn X J (dw hg).1 (dw hg).2 hf (beq_iff_eq.mp ht) (by show(PySem.W.lookIn name od).map (·.isSome)=some false;rw[hl,hv];rfl) h
theorem OF{ns:List Str}{Q:Unit->Shared->Prop}(X:K.In s.heap)(I:Iz s.heap x dx C mA)
  (hs:PySem.W.findIn K (.ref C) "__setattr__"=some (some (.builtin "object.__setattr__"))) (hp:PySem.W.plainOver K C=true) (ht:PySem.W.takerIn K C name=some none) (hh:PySem.W.hasDictIn K C=true)
  (hw:PySem.Within mA ns) (hsz:ns.length<=sizeLine)
  (h:∀h',Iz h' x dx C (λy=>if y=name then some v else mA y)->Heap.SameBut dx s.heap h'->Q () {s with heap:=h',toks:=s.toks+2}):
  wpAny (model prog w) A (setAttr (.ref x) name v) Q E s:=by
 obtain⟨od,J,hl⟩:=I.look
 refine PySem.W.set_plain X J hs (PySem.W.osa_open (s:={s with toks:=s.toks+1}) (r:=none) X J hp ht λb=> ?_)
 obtain⟨cd,hc,hd'⟩:=PySem.W.any_some hh
 have hx:s.heap.get? x=some ⟨.ref C,some dx,.plain,#[]⟩:=I.obj
 refine wpAny_bind (wpAny_pure (wpAny_bind (wpAny_bind (wpAny_loadPart hx (wpAny_bind (PySem.W.Looks.here (s:={s with toks:=s.toks+1}) (PySem.W.looks_clsIn X hc) ?_))))))
 rw[hd']
 refine wpAny_pure (a:=some dx) (wpAny_bind (wpAny_pure (wpAny_bind ?_)))
 refine wpAny_nsSet1 (s:={s with toks:=s.toks+1}) I.ns λh' hn2 hs2=> ?_
 obtain⟨oD,esD,epD,hoD,hdD,hcD⟩:=hn2.count (PySem.Within.cons name v hw)
 refine wpAny_bind (wpAny_lookBehind hoD (by rw[hdD];exact pastItsLine_dict (aA hcD (by rw[af];omega))) ?_)
 exact wpAny_pure (h _ ⟨(hs2.2 _ (aj I.ne)).trans I.obj,hn2,I.ne⟩ hs2)
theorem MB{R:Result->Shared->Prop}{vs:List Value}{kw:List (Str×Value)}(X:K.In s.heap)(hm:PySem.W.makesIn K C=true)
  (hi:PySem.W.findIn K (.ref C) "__init__"=some (some (.ref f))) (hf:PySem.W.typeIn K (.ref f)=some (.type "function"))
  (h:codeAny (model prog w) (A.under (.builtin "type.__call__" ⟨.ref C::vs,kw⟩)) (.call (.ref f) ⟨.ref (s.heap.objs.size+1)::vs,kw⟩) (PySem.W.InitBack (s.heap.objs.size+1) R)
   {s with heap:=(s.heap.push PySem.W.emptyDict).push (PySem.W.instObj C s.heap.objs.size)}):
  codeAny (model prog w) A (.call (.ref C) ⟨vs,kw⟩) R s:=by
 obtain⟨hh,g,d,t,os⟩:=s
 exact PySem.W.make_core (PySem.W.makes_of X hm) (cY X hi) (λself=>PySem.W.bind_fn X self hf) (.inl rfl) h
end
noncomputable def gD (f:Str) (v:V):List (Str×V)->List (Str×V)
 | []=>[(f,v)]
 |(g,x)::r=>if g=f then(g,v)::r else(g,x)::gD f v r
theorem B6(f g:Str)(v:V):∀fs:List (Str×V),(gD f v fs).lookup g=if g=f then some v else fs.lookup g
 | []=>by
  show List.lookup g [(f,v)]=_
  by_cases h:g=f
  ·have hb:(g==f)=true:=beq_iff_eq.mpr h
   simp only[List.lookup,hb,if_pos h]
  ·have hb:(g==f)=false:=beq_eq_false_iff_ne.mpr h
   simp only[List.lookup,hb,if_neg h]
 |(k,x)::r=>by
  have ih:=B6 f g v r
  rw[show gD f v ((k,x)::r)=(if k=f then(k,v)::r else(k,x)::gD f v r) from rfl]
  by_cases hk:k=f
  ·rw[if_pos hk]
   by_cases h:g=k
   ·have hb:(g==k)=true:=beq_iff_eq.mpr h
    simp only[List.lookup,hb,if_pos (h.trans hk)]
   ·have hb:(g==k)=false:=beq_eq_false_iff_ne.mpr h
    simp only[List.lookup,hb,if_neg (λe:g=f=>h (e.trans hk.symm))]
  ·rw[if_neg hk]
   by_cases h:g=k
   ·have hb:(g==k)=true:=beq_iff_eq.mpr h
    simp only[List.lookup,hb,if_neg (λe:g=f=>hk (h.symm.trans e))]
   ·have hb:(g==k)=false:=beq_eq_false_iff_ne.mpr h
    simp only[List.lookup,hb]
    exact ih
theorem Bg(f:Str)(v:V):∀fs:List (Str×V),f∈(gD f v fs).map (·.1)/\∀g,g∈fs.map (·.1)->g∈(gD f v fs).map (·.1)
 | []=>⟨by simp[gD],λg h=>by simp at h⟩
 |(k,x)::r=>by
  obtain⟨i1,i2⟩:=Bg f v r
  rw[show gD f v ((k,x)::r)=(if k=f then(k,v)::r else(k,x)::gD f v r) from rfl]
  by_cases hk:k=f
  ·rw[if_pos hk]
   subst hk
   exact⟨by simp,λg h=>by simpa using h⟩
  ·rw[if_neg hk]
   refine⟨?_,λg h=> ?_⟩
   ·rw[aq]
    exact aZ _ i1
   ·rw[aq]at h⊢
    rcases List.mem_cons.mp h with e|e
    ·exact List.mem_cons.mpr (.inl e)
    ·exact aZ _ (i2 g e)
theorem B4(f:Str)(v:V):∀fs:List (Str×V),(gD f v fs).length<=fs.length+1
 | []=>by simp[gD]
 |(k,x)::r=>by
  have ih:=B4 f v r
  rw[show gD f v ((k,x)::r)=(if k=f then(k,v)::r else(k,x)::gD f v r) from rfl]
  by_cases hk:k=f
  ·rw[if_pos hk,af,af];omega
  ·rw[if_neg hk,af,af];omega
theorem wm.some_of{v:V}{o:Option Value}(r:wm (some v) o):∃u,o=some u/\RelV v u:=by
 cases o with
 |none=>exact(show False from r).elim
 |some u=>exact⟨u,rfl,r⟩
theorem wm.none_of{o:Option Value}(r:wm none o):o=none:=by
 cases o with
 |none=>rfl
 |some u=>exact(show False from r).elim
theorem KY{v:V}{u:Value}(r:RelV v u):PySem.W.handedIn u=true:=by
 cases v with
 |gT=>cases (show u=Value.none from r);rfl
 |bl b=>cases (show u=Value.bool b from r);rfl
 |int i=>obtain⟨t,e⟩:=(show∃t,u=Value.int i t from r);cases e;rfl
 |str x=>obtain⟨t,e⟩:=(show∃t,u=Value.str x t from r);cases e;rfl
 |byt b=>obtain⟨t,e⟩:=(show∃t,u=Value.bytes b t from r);cases e;rfl
 |KU b=>obtain⟨t,e⟩:=(show∃t,u=Value.float b t from r);cases e;rfl
 |ref a=>cases (show u=Value.ref a from r);rfl
 |ty n=>cases (show u=Value.type n from r);rfl
section
variable{P:Program}{w:World}{H H':Hp}{h h':Heap}{a C dx:Addr}{fs fs':List (Str×V)}
theorem CT(gw:v7 P w H h)(e:H a=some (.ins C dx fs)):∃mA,Iz h a dx C mA/\(∀f,wm (fs.lookup f) (mA f))/\PySem.Within mA (fs.map (·.1))/\fs.length<=1000/\H dx=some (.own a):=by
 obtain⟨d,z,ne,ob,mA,n,r,q⟩:=(show iT P w H h a (.ins C dx fs) from gw a _ e)
 exact⟨mA,⟨ob,n,ne⟩,r,q,z,d⟩
end
structure Cq(K:PySem.W.Frag)(C:Addr):Prop where
 pg:PySem.W.plainGet K C Str.empty=true
 hd:PySem.W.hasDictIn K C=true
 po:PySem.W.plainOver K C=true
 sa:PySem.W.findIn K (.ref C) "__setattr__"=some (some (.builtin "object.__setattr__"))
theorem Cq.get{K:PySem.W.Frag}{C:Addr}(c:Cq K C)(f:Str):PySem.W.plainGet K C f=true:=c.pg
noncomputable def gG (K:PySem.W.Frag) (C:Addr) (f:Str):Prop:=PySem.W.findIn K (.ref C) f=some none
theorem gG.Sb{K:PySem.W.Frag}{C:Addr}{f:Str}(n:gG K C f):PySem.W.takerIn K C f=some none:=by
 unfold PySem.W.takerIn
 rw[show PySem.W.findIn K (.ref C) f=some none from n]
 rfl
structure Meth(K:PySem.W.Frag)(C:Addr)(m:Str)(f:Addr):Prop where
 at_:PySem.W.findIn K (.ref C) m=some (some (.ref f))
 fn:PySem.W.isFn K (.ref f)=true
 kp:PySem.W.keepIn K (.ref f)=true
section
variable{X:Cx}{pins:List (Addr×Obj)}{σ:St}{H:Hp}{s:Shared}{a C dx:Addr}{fs:List (Str×V)}{f:Str}{v:V}{A:Around}{E:Value->Shared->Prop}
theorem IT{b:Bool}{Q:Value->Shared->Prop}(I:Inv X pins σ H s)(e:H a=some (.ins C dx fs))(c:Cq X.K C)(n:gG X.K C f)(l:fs.lookup f=some v)
  (h:∀u s',Inv X pins σ H s'->RelV v u->Q u s'):wpAny (model X.prog X.w) A (getAttr (.ref a) f b) Q E s:=by
 obtain⟨mA,O,r,_,_,_⟩:=CT I.gw e
 obtain⟨u,hu,ru⟩:=wm.some_of (v:=v) (o:=mA f) (by rw[←l];exact r f)
 exact get_map I.A2 O (c.get f) c.hd n hu (KY ru) (h u _ (I.tok _) ru)
theorem Dq{m:Str}{g:Addr}{pl:Sem Bool}{Q:Value×List Value->Shared->Prop}(I:Inv X pins σ H s)(e:H a=some (.ins C dx fs))(c:Cq X.K C)(k:Meth X.K C m g)(l:fs.lookup m=none)
  (h:Q (.ref g,[.ref a]) s):wpAny (model X.prog X.w) A (getMethod (.ref a) m pl) Q E s:=by
 obtain⟨mA,O,r,_,_,_⟩:=CT I.gw e
 have hn:mA m=none:=wm.none_of (by rw[←l];exact r m)
 exact Mj I.A2 O (c.get m) k.at_ k.fn hn h
theorem Jv{y:V}{u:Value}{Q:Unit->Shared->Prop}(I:Inv X pins σ H s)(e:H a=some (.ins C dx fs))(c:Cq X.K C)(n:gG X.K C f)(hl:fs.length<1000)(ry:RelV y u)
  (h:∀s',Inv X pins σ (upd H a (.ins C dx (gD f y fs))) s'->Q () s'):wpAny (model X.prog X.w) A (setAttr (.ref a) f u) Q E s:=by
 obtain⟨mA,O,r,wi,_,ho⟩:=CT I.gw e
 have hz:(fs.map (·.1)).length<=sizeLine:=by rw[ax,sizeLine_eq];omega
 refine OF I.A2 O c.sa c.po n.Sb c.hd wi hz λh' O' sb=>h _ ?_
 have hd:∃o,h'.get? dx=some o:=let ⟨o,_,_,e',_⟩:=O'.ns;⟨o,e'⟩
 refine I.write (x:=a) (e:=dx) (by rw[e];exact au) (.inr ho) (λb q hb z=>(sb.2 b hb).trans z) hd ?_
 refine⟨by rw[dO O.ne];exact ho,?_,O.ne,O'.obj,_,O'.ns,λg=> ?_,λg hg=> ?_⟩
 ·have:=B4 f y fs;omega
 ·show wm ((gD f y fs).lookup g) (if g=f then some u else mA g)
  rw[B6]
  by_cases q:g=f
  ·rw[if_pos q,if_pos q];exact ry
  ·rw[if_neg q,if_neg q];exact r g
 ·by_cases q:g=f
  ·rw[q];exact(Bg f y fs).1
  ·refine(Bg f y fs).2 g (wi g λz=>hg ?_)
   show(if g=f then some u else mA g)=none
   rw[if_neg q];exact z
theorem Inv.made(I:Inv X pins σ H s):Inv X pins σ (upd (upd H s.heap.objs.size (.own (s.heap.objs.size+1))) (s.heap.objs.size+1) (.ins C s.heap.objs.size []))
  {s with heap:=(s.heap.push PySem.W.emptyDict).push (PySem.W.instObj C s.heap.objs.size)}:=by
 have e1:(s.heap.push PySem.W.emptyDict).get? s.heap.objs.size=some PySem.W.emptyDict:=Heap.get?_push_size s.heap rfl
 have e2:((s.heap.push PySem.W.emptyDict).push (PySem.W.instObj C s.heap.objs.size)).get? (s.heap.objs.size+1)=some (PySem.W.instObj C s.heap.objs.size):=by
  have:=Heap.get?_push_size (s.heap.push PySem.W.emptyDict) (o:=PySem.W.instObj C s.heap.objs.size) rfl
  rwa[Heap.size_push]at this
 have e3:(s.heap.push PySem.W.emptyDict).Ns s.heap.objs.size (λ_=>none):=⟨PySem.W.emptyDict,#[],_,e1,rfl,(λe he=>absurd he (by simp)),λ_=>rfl⟩
 have I1:=I.laid (a:=s.heap.objs.size) (o:= .own (s.heap.objs.size+1)) (h':=s.heap.push PySem.W.emptyDict) (t':=s.toks) (λb u q=>Heap.get?_push_of_some _ q) (aF _) ⟨_,e1⟩
 refine I1.laid (a:=s.heap.objs.size+1) (o:= .ins C s.heap.objs.size []) (t':=s.toks) (λb u q=>Heap.get?_push_of_some _ q) (Nat.le_of_eq (Heap.size_push _ _)) ?_
 have ne:s.heap.objs.size≠s.heap.objs.size+1:=aS (cq _)
 refine⟨by rw[dO ne,dH],bw _,ne,e2,λ_=>none,(Heap.Ns1.of_empty e3).at λo q=>Heap.get?_push_of_some _ q,λ_=>au,λy hy=>absurd rfl hy⟩
theorem Nz{prog:Program}{w:World}{env:Env}{e:Expr}{f:Str}{pos:Pos}{s:Shared}{Q:Value->Shared->Prop}(hb:attributeBase e f env (eval e env)=eval e env)
  (h:wpAny (model prog w) A (eval e env) (λo s₁=>wpAny (model prog w) A (getAttr o f true) Q E s₁) E s):wpAny (model prog w) A (eval (.Attribute e f pos) env) Q E s:=
 Attribute_any_ h (by rw[arm_eval_Attribute,hb])
end
section
variable{X:Cx}{o e value:Expr}{f:Str}{pos pos' tpos:Pos}{ta tv:TE}
end
section
variable{X:Cx}{pins:List (Addr×Obj)}{σ:St}{H:Hp}{s:Shared}{A:Around}{E:Value->Shared->Prop}{Q:Value->Shared->Prop}{c:Value}{b:Bool}
inductive Cs (K:PySem.W.Frag) (H:Hp):V->Value->Prop where
 |gT:Cs K H .gT (.type "NoneType")
 |bl (x:Bool):Cs K H (.bl x) (.type "bool")
 |int (i:Int):Cs K H (.int i) (.type "int")
 |str (x:Str):Cs K H (.str x) (.type "str")
 |KU (x:UInt64):Cs K H (.KU x) (.type "float")
 |lst {a:Addr} {xs:List V} (e:H a=some (.lst xs)):Cs K H (.ref a) (.type "list")
 |Fb {a:Addr} {o:Obj} {xs:List V} (e:H a=some (.Fb o (.lst xs))):Cs K H (.ref a) (.type "list")
 |tup {a:Addr} {xs:List V} (e:H a=some (.tup xs)):Cs K H (.ref a) (.type "tuple")
 |dK {a:Addr} {fA:List (Key×V)} (e:H a=some (.dK fA)):Cs K H (.ref a) (.type "dict")
 |dT {a:Addr} {fA:List (List Key×V)} (e:H a=some (.dT fA)):Cs K H (.ref a) (.type "dict")
 |ins {a C dx:Addr} {fs:List (Str×V)} (e:H a=some (.ins C dx fs)) (cl:Cq K C) (ha:PySem.W.findIn K (.ref C) "__class__"=some (some (.builtin "object.__class__")))
   (hn:PySem.W.specialIn K (.builtin "object.__class__") "__get__"=some (some (.builtin "getset_descriptor.__get__"))) (htk:PySem.W.takesIn K (.builtin "object.__class__")=some true)
   (hm:PySem.W.mroIn K C (.type "object")=some true):Cs K H (.ref a) (.ref C)
theorem mv{x:V}{u t:Value}(I:Inv X pins σ H s)(rx:RelV x u)(ty:Cs X.K H x t)(e:PySem.W.kitOne X.K t c=some b)(h:∀tk,Q (.bool b) {s with toks:=tk}):
  wpAny (model X.prog X.w) A (call (.builtin "isinstance") [u,c]) Q E s:=by
 cases ty with
 |gT=>cases (show u=Value.none from rx);exact bq PySem.W.kitx_none I.A2 au e (λz=>nomatch z) h
 |bl y=>cases (show u=Value.bool y from rx);exact bq PySem.W.kitx_bool I.A2 au e (λz=>nomatch z) h
 |int i=>obtain⟨t,q⟩:=(show∃t,u=Value.int i t from rx);cases q;exact bq PySem.W.kitx_int I.A2 au e (λz=>nomatch z) h
 |str y=>obtain⟨t,q⟩:=(show∃t,u=Value.str y t from rx);cases q;exact bq PySem.W.kitx_str I.A2 au e (λz=>nomatch z) h
 |KU y=>obtain⟨t,q⟩:=(show∃t,u=Value.float y t from rx);cases q;exact bq PySem.W.kitx_float I.A2 au e (λz=>nomatch z) h
 | @lst a xs ea=>
  cases (show u=Value.ref a from rx)
  obtain⟨_,_,n,_,h1⟩:=(show iT X.prog X.w H s.heap a (.lst xs) from I.gw a _ ea)
  exact bq PySem.W.kitx_list I.A2 ⟨_,h1,rfl⟩ e (λz=>nomatch z) h
 | @Fb a ob xs ea=>
  cases (show u=Value.ref a from rx)
  obtain⟨_,_,_,n,_,h1⟩:=(show iT X.prog X.w H s.heap a (.Fb ob (.lst xs)) from I.gw a _ ea)
  exact bq PySem.W.kitx_list I.A2 ⟨_,h1,rfl⟩ e (λz=>nomatch z) h
 | @tup a xs ea=>
  cases (show u=Value.ref a from rx)
  obtain⟨_,_,_,p⟩:=(show iT X.prog X.w H s.heap a (.tup xs) from I.gw a _ ea)
  obtain⟨o,h1,h2,_⟩:=p
  exact bq PySem.W.kitx_tuple I.A2 ⟨o,h1,h2⟩ e (λz=>nomatch z) h
 | @dK a fA ea=>
  cases (show u=Value.ref a from rx)
  obtain⟨_,_,vs,_,p⟩:=(show iT X.prog X.w H s.heap a (.dK fA) from I.gw a _ ea)
  obtain⟨o,es,ep,h1,h2,_⟩:=p
  exact bq PySem.W.kitx_dict I.A2 ⟨o,h1,h2.1⟩ e (λz=>nomatch z) h
 | @dT a fA ea=>
  cases (show u=Value.ref a from rx)
  obtain⟨_,_,xs,_,o,es,ep,h1,h2,_⟩:=(show iT X.prog X.w H s.heap a (.dT fA) from I.gw a _ ea)
  exact bq PySem.W.kitx_dict I.A2 ⟨o,h1,h2.1⟩ e (λz=>nomatch z) h
 | @ins a C dx fs ea cl ha hn htk hm=>
  cases (show u=Value.ref a from rx)
  obtain⟨mA,O,_⟩:=CT I.gw ea
  obtain⟨od,J,_⟩:=O.look
  exact bq (PySem.W.kitx_own (cl.get _) cl.hd ha hn htk hm) I.A2 J e (λz=>nomatch z) h
end
end L2
namespace L2
open PySem PySem.Spec PyProof.Rows
structure lP(ca:Bool)(k:Nat)(A:Around):Prop where
 hd:ca=true->A.handled=none
 dp:A.depth+3*k+5<recursionLimit
 un:A.units+16*k+200<cLine
theorem lP.mono{ca:Bool}{j k:Nat}{A:Around}(r:lP ca k A)(h:j<=k):lP ca j A:=⟨r.hd,by have:=r.dp;omega,by have:=r.un;omega⟩
theorem lP.deeper{ca:Bool}{k:Nat}{A:Around}(r:lP ca (k+1) A)(env:Env):lP ca k (A.deeper env):=
 ⟨r.hd,by have:=r.dp;show A.depth+1+3*k+5<_;omega,by have:=r.un;show A.units+3+16*k+200<_;omega⟩
theorem Je{A:Around}{C:Addr}{us:List Value}{kw:List (Str×Value)}:(A.under (.builtin "type.__call__" ⟨.ref C::us,kw⟩)).depth=A.depth+1:=by
 first|rfl|simp[Around.under,Code.weight,Code.isCreation,Code.isGuard,Code.isCaller,Code.frames,Code.isFrame,guardIds]
theorem Jf{A:Around}{C:Addr}{us:List Value}{kw:List (Str×Value)}:(A.under (.builtin "type.__call__" ⟨.ref C::us,kw⟩)).units=A.units+1:=by
 first|rfl|simp[Around.under,Code.cUnits,Code.frames,Code.isFrame]
theorem lP.make{ca:Bool}{k:Nat}{A:Around}(r:lP ca (k+1) A)(C:Addr)(us:List Value)(kw:List (Str×Value)):lP ca k (A.under (.builtin "type.__call__" ⟨.ref C::us,kw⟩)):=
 ⟨r.hd,by have:=r.dp;rw[Je];omega,by have:=r.un;rw[Jf];omega⟩
theorem lP.depth{ca:Bool}{k:Nat}{A:Around}(r:lP ca k A):A.depth<recursionLimit:=by have:=r.dp;omega
theorem lP.units{ca:Bool}{k:Nat}{A:Around}(r:lP ca k A):A.units+64<cLine:=by have:=r.un;omega
noncomputable def dZ:TA:=λ_ H Q=>Q [] H
noncomputable def dN (ta:TE) (tr:TA):TA:=λσ H Q=>ta σ H λx H1=>tr σ H1 λxs H2=>Q (x::xs) H2
section
variable{X:Cx}{e:Expr}{es:List Expr}{te:TE}{t:TA}{pos:Pos}
theorem Qk:PA X [] dZ:=λ_ _ _ _ H Q I h=>Calls.spliced_nil ⟨[],H,I,.nil,h⟩
theorem Od(ha:PE X e te)(hr:PA X es t)(hs:starEach (e::es) X.env=(false,eval e X.env)::starEach es X.env:=by rfl):PA X (e::es) (dN te t):=by
 intro pos pins s σ H Q I h
 rw[hs]
 show wpAny _ _ (spliced ((false,eval e X.env)::backTo pos (starEach es X.env))) _ _ s
 refine Calls.spliced_cons (kX (ha pins s σ H _ I h) λu s1 ⟨x,H1,I1,r1,q1⟩=> ?_)
 exact kX (hr pos pins s1 σ H1 _ I1 q1) λus s2 ⟨xs,H2,I2,r2,q2⟩=>⟨x::xs,H2,I2,.cons r1 r2,q2⟩
noncomputable def Jy (t:TA):TE:=λσ H Q=>t σ H λxs H1=>xs.length<=sizeLine/\∀p,H1 p=none->Q (.ref p) (upd H1 p (.tup xs))
noncomputable def qw (t:TA):TE:=λσ H Q=>t σ H λxs H1=>xs.length<=sizeLine/\∀p,H1 p=none->Q (.ref p) (upd H1 p (.lst xs))
theorem Qs{x1}(h:PA X es t):PE X (.Tuple es x1 pos) (Jy t):=by
 intro pins s σ H Q I hq
 refine wpAny_Tuple_spliced (kX (h pos pins s σ H _ I hq) λus s1 ⟨xs,H1,I1,r,z,q⟩=>⟨by rw[←r.length];exact z,?_⟩)
 have hf:H1 s1.heap.objs.size=none:=I1.gw.fresh (aF _)
 refine⟨.ref s1.heap.objs.size,upd H1 s1.heap.objs.size (.tup xs),I1.laid (t':=s1.toks) (λb u e=>Heap.get?_push_of_some _ e) (aF _) ?_,rfl,q _ hf⟩
 exact⟨z,us,r,⟨_,Heap.get?_push_size _ rfl,rfl,_,rfl⟩⟩
theorem MR(h:PA X es t):PE X (.List es pos) (qw t):=by
 intro pins s σ H Q I hq
 refine wpAny_List_spliced (kX (h pos pins s σ H _ I hq) λus s1 ⟨xs,H1,I1,r,z,q⟩=>⟨by rw[←r.length];exact z,?_⟩)
 have hf:H1 s1.heap.objs.size=none:=I1.gw.fresh (aF _)
 refine⟨.ref s1.heap.objs.size,upd H1 s1.heap.objs.size (.lst xs),I1.laid (t':=s1.toks) (λb u e=>Heap.get?_push_of_some _ e) (aF _) ?_,rfl,q _ hf⟩
 exact⟨z,us,0,r,Heap.get?_push_size _ rfl⟩
end
noncomputable abbrev Sp:=List V->Hp->VK->XK->Prop
noncomputable abbrev Ly:=List Env->Hp->Shared->XK->Value->Shared->Prop
structure Iw(P:Program)(w:World)(K:PySem.W.Frag)(mg:Str->Option Value)(base:Heap)(A:Around)(outer:List Env)(s:Shared)(H:Hp):Prop where
 frames:A.frames=some outer
 mod:Mod K mg base
 bs:∀b o,base.get? b=some o->s.heap.get? b=some o/\H b=none
 LF:base.objs.size<=s.heap.objs.size
 v_:s.heap.FunFrames base outer
 Mh:∀b∈zu outer,H b=none
 gw:v7 P w H s.heap
 bare:AllBare s.gens
noncomputable def CE (outer:List Env) (P:Program) (w:World) (H:Hp) (s:Shared) (Q:VK) (u:Value) (s':Shared):Prop:=
 ∃v H',s'.os=s.os/\AllBare s'.gens/\Un (zu outer) [] H H' s.heap s'.heap/\v7 P w H' s'.heap/\RelV v u/\Q v H'
noncomputable def CR (CX:Ly) (outer:List Env) (P:Program) (w:World) (H:Hp) (s:Shared) (Q:VK) (E:XK) (r:Result) (s':Shared):Prop:=
 match r with
 | .ok (.ret u)=>CE outer P w H s Q u s'
 | .ok _=>False
 | .error e=>CX outer H s E e s'
structure e_(P:Program)(w:World)(K:PySem.W.Frag)(mg:Str->Option Value)(base:Heap)(CX:Ly)(ca:Bool)(k:Nat)(f:Addr)(fd:FuncData)(ps:List Str)(sp:Sp):Prop where
 len:∀vs H Q E,sp vs H Q E->vs.length=ps.length
 run:∀(A:Around) (outer:List Env) (s:Shared) (H:Hp) (args:Args) (us:List Value) (vs:List V) (Q:VK) (E:XK),lP ca k A->Iw P w K mg base A outer s H->BindsTo s fd args (ps.zip us)->Vals vs us->sp vs H Q E->
  codeAny (model P w) A (.call (.ref f) args) (CR CX outer P w H s Q E) s
theorem e_.mono{P:Program}{w:World}{K:PySem.W.Frag}{mg:Str->Option Value}{base:Heap}{CX:Ly}{ca:Bool}{j k:Nat}{f:Addr}{fd:FuncData}{ps:List Str}{sp:Sp}(F:e_ P w K mg base CX ca j f fd ps sp)(h:j<=k):
  e_ P w K mg base CX ca k f fd ps sp:=⟨F.len,λA outer s H args us vs Q E hr=>F.run A outer s H args us vs Q E (hr.mono h)⟩
theorem Iw.make{P:Program}{w:World}{K:PySem.W.Frag}{mg:Str->Option Value}{base:Heap}{A:Around}{outer:List Env}{s:Shared}{H:Hp}(e:Iw P w K mg base A outer s H)(C:Addr)(us:List Value)(kw:List (Str×Value)):
  Iw P w K mg base (A.under (.builtin "type.__call__" ⟨.ref C::us,kw⟩)) outer s H:=⟨by first|exact e.frames|(simpa [Around.under,Code.envs,Code.isFrame,pushEnvs] using e.frames),e.mod,e.bs,e.LF,e.v_,e.Mh,e.gw,e.bare⟩
section
variable{X:Cx}{pins:List (Addr×Obj)}{σ:St}{H:Hp}{s s':Shared}
theorem Inv.Ru(I:Inv X pins σ H s):Iw X.prog X.w X.K X.mg X.base X.A X.stack s H:=
 ⟨I.ok.frames,I.ok.mod,I.bs,aA I.ok.LF I.sz,I.stack,I.C3,I.gw,I.bare⟩
theorem Inv.after{Q:VK}{u:Value}(I:Inv X pins σ H s)(h:CE X.stack X.prog X.w H s Q u s'):EP X pins σ Q u s':=by
 obtain⟨v,H',os,bare,un,gw,r,q⟩:=h
 obtain⟨hh,g,d,t,os'⟩:=s'
 obtain rfl:os'=s.os:=os
 exact⟨v,H',I.call (h':=hh) (g':=g) (d':=d) (t':=t) (ch:=[]) un gw bare (λb z=>absurd z (by simp)),r,q⟩
end
noncomputable def Binds (K:PySem.W.Frag) (fd:FuncData) (ps:List Str) (ds:List Value):Prop:=
 ∀(s:Shared) (us:List Value),K.In s.heap->(us++ds).length=ps.length->BindsTo s fd ⟨us,[]⟩ (ps.zip (us++ds))
theorem Binds.all{K:PySem.W.Frag}{fd:FuncData}{ps:List Str}(h:∀us:List Value,us.length=ps.length->bindArgs fd ⟨us,[]⟩=pure (ps.zip us)):Binds K fd ps []:=λs us _ hl=>by
 rw[az]at hl⊢
 exact .of_eq (h us hl)
section
variable{X:Cx}{CX:Ly}{ca:Bool}{k:Nat}{f C:Addr}{fd:FuncData}{ps:List Str}{sp:Sp}{dvs:List V}{ds:List Value}{E:XK}{x m:Str}{p pos apos:Pos}{e o:Expr}{es:List Expr}{ta:TE}{t:TA}
structure Mk(K:PySem.W.Frag)(C f:Addr):Prop where
 makes:PySem.W.makesIn K C=true
 init:PySem.W.findIn K (.ref C) "__init__"=some (some (.ref f))
 fn:PySem.W.isFn K (.ref f)=true
 kp:PySem.W.keepIn K (.ref C)=true
end
section
variable{X:Cx}{CX:Ly}{ca:Bool}{k:Nat}{f C:Addr}{fd:FuncData}{ps ks:List Str}{sp:Sp}{E:XK}{x m:Str}{p pos apos kpos:Pos}{e o:Expr}{es:List Expr}{kws:List Keyword}{te ta:TE}{t tk:TA}{nm:Option Str}
variable{g:List Value->List Value->List Value}{gV:List V->List V->List V}
end
structure dX(N P:List Str)(sc:Scope):Prop where
 kind:sc.kind= .function
 co:sc.isCoroutine=false
 gen:sc.isGenerator=false
 nd:N.Nodup
 pre:N.take P.length=P
 par:∀x∈P,sc.names.lookup x=some .local∨sc.names.lookup x=some .cell
 P_:∀y∈sc.names,y.2≠ .free
theorem E2{kindOf:Str->Option NameKind}{x:Str}:∀{binds:List (Str×Value)} {m:Str->Option Value},(∀v,(x,v)∉binds)->bindL kindOf binds m x=m x
 | [],_,_=>rfl
 |(n,v)::r,m,h=>by
  unfold bindL
  rw[E2 λw hw=>h w (aZ _ hw)]
  split
  ·have:x≠n:=by rintro rfl;exact h v a_
   simp[this]
  ·rfl
theorem EY{kindOf:Str->Option NameKind}{x:Str}:∀{binds:List (Str×Value)} {m:Str->Option Value},(∀v,(x,v)∉binds)->bindC kindOf binds m x=m x
 | [],_,_=>rfl
 |(n,v)::r,m,h=>by
  unfold bindC
  rw[EY λw hw=>h w (aZ _ hw)]
  split
  ·rfl
  ·have:x≠n:=by rintro rfl;exact h v a_
   simp[this]
theorem EZ{kindOf:Str->Option NameKind}{x:Str}{v:Value}:∀{P:List Str} {vs:List Value} {i:Nat} {m:Str->Option Value},P.Nodup->P[i]? =some x->vs[i]? =some v->kindOf x=some .local->
  bindL kindOf (P.zip vs) m x=some v
 | [],_,_,_,_,h,_,_=>by simp at h
 |_::_,[],_,_,_,_,h,_=>by simp at h
 |p::P,w::vs,0,m,nd,h1,h2,hk=>by
  simp at h1 h2;subst h1;subst h2
  show bindL kindOf ((p,w)::P.zip vs) m p=_
  unfold bindL
  rw[E2 λv hv=>(List.nodup_cons.mp nd).1 (df hv).1,if_pos hk]
  simp
 |p::P,w::vs,i+1,m,nd,h1,h2,hk=>by
  show bindL kindOf ((p,w)::P.zip vs) m x=_
  unfold bindL
  exact EZ (i:=i) (List.nodup_cons.mp nd).2 (by simpa using h1) (by simpa using h2) hk
theorem EX{kindOf:Str->Option NameKind}{x:Str}{v:Value}:∀{P:List Str} {vs:List Value} {i:Nat} {m:Str->Option Value},P.Nodup->P[i]? =some x->vs[i]? =some v->kindOf x≠some .local->
  bindC kindOf (P.zip vs) m x=some v
 | [],_,_,_,_,h,_,_=>by simp at h
 |_::_,[],_,_,_,_,h,_=>by simp at h
 |p::P,w::vs,0,m,nd,h1,h2,hk=>by
  simp at h1 h2;subst h1;subst h2
  show bindC kindOf ((p,w)::P.zip vs) m p=_
  unfold bindC
  rw[EY λv hv=>(List.nodup_cons.mp nd).1 (df hv).1,if_neg hk]
  simp
 |p::P,w::vs,i+1,m,nd,h1,h2,hk=>by
  show bindC kindOf ((p,w)::P.zip vs) m x=_
  unfold bindC
  exact EX (i:=i) (List.nodup_cons.mp nd).2 (by simpa using h1) (by simpa using h2) hk
noncomputable def start (N:List Str) (vs:List V):St:=vs.map some++List.replicate (N.length-vs.length) none
noncomputable def He (CX:Ly) (ca:Bool) (P:Program) (w:World) (K:PySem.W.Frag) (mg:Str->Option Value) (base:Heap) (N:List Str) (qual:Str) (scope:Scope) (f:Addr) (cd:Value) (A:Around) (outer:List Env) (s:Shared) (H:Hp) (E:XK):Cx where
 prog:=P
 w:=w
 K:=K
 mg:=mg
 base:=base
 A:=A.deeper (envOfC qual scope s.heap.objs.size f cd)
 N:=N
 s₀:=s
 H₀:=H
 env:=envOfC qual scope s.heap.objs.size f cd
 outer:=outer
 stack:=envOfC qual scope s.heap.objs.size f cd::outer
 ex:=[]
 calm:=ca
 fn:=λ_=>true
 pn:=[]
 xe:=λe s'=>wpAny (model P w) (A.deeper (envOfC qual scope s.heap.objs.size f cd)) (leaving (envOfC qual scope s.heap.objs.size f cd) e) (λ_ s''=>CX outer H s E e s'') (λe' s''=>CX outer H s E e' s'') s'
theorem Ha{sc:Scope}{n:Nat}{x:Str}(h:sc.names.lookup x=some .cell):∃c,(cellsFrom n sc.names []).lookup x=some c:=by
 have q:=PySem.W.cellsFrom_some sc.names n [] (.inl h)
 exact Option.isSome_iff_exists.mp q
theorem K3{CX:Ly}{ca:Bool}{P:Program}{w:World}{K:PySem.W.Frag}{mg:Str->Option Value}{base:Heap}{N ps:List Str}{qual:Str}{scope:Scope}{f:Addr}{cd:Value}{A:Around}{outer:List Env}{s s1:Shared}{H:Hp}{E:XK}{us:List Value}{vs:List V}
  (S:dX N ps scope) (hd:ca=true->A.handled=none) (e0:Iw P w K mg base A outer s H) (hl:vs.length=ps.length) (r:Vals vs us)
  (x:InCallC s s.heap.objs.size (bindL (envOfC qual scope s.heap.objs.size f cd).kindOf (ps.zip us) λ_=>none) (cellsFrom (s.heap.objs.size+1) scope.names []) (bindC (envOfC qual scope s.heap.objs.size f cd).kindOf (ps.zip us) λ_=>none) s1):
  Inv (He CX ca P w K mg base N qual scope f cd A outer s H E) [] (start N vs) H s1:=by
 have hpl:ps.length<=N.length:=by have:=congrArg List.length S.pre;rw[bp]at this;omega
 obtain⟨h1,tk,rfl,hk⟩:=x.done
 have noA:∀b:Addr,b∉(He CX ca P w K mg base N qual scope f cd A outer s H E).ex:=λb z=>absurd (show b∈([]:List Addr) from z) (by simp)
 refine⟨⟨e0.mod,S.kind,rfl,rfl,aF _,λy z c h1 h2=> ?_,λy hy=> ?_,λy c _ h=> ?_,λz=>hd z,Around.frames_deeper e0.frames,.inr ⟨rfl,rfl⟩,λb z=>absurd z (noA b),e0.bs,e0.LF,λb _ _=>noA b,λb z=>absurd z (noA b),e0.v_,e0.Mh⟩,
  rfl,e0.bare,Un.kept hk,⟨_,x.toInCall.ns,λi y v h1 h2 h3=> ?_⟩,λy c h=>⟨_,x.cell y c h⟩,e0.gw.fresh (aF _),λy c h=> ?_,λp hp=>absurd (show p∈([]:List (Addr×Obj)) from hp) (by simp),e0.gw.kept hk,?_⟩
 ·exact name_of_addr x.apart (cw h1) (cw h2)
 ·have hy:scope.names.lookup y=some .cell∨scope.names.lookup y=some .free:=hy
  rcases hy with hy|hy
  ·exact Ha hy
  ·exact absurd rfl (S.P_ _ (cw hy))
 ·exact bW (x.above y c (cw h))
 ·have hi:i<vs.length:=by
   unfold start at h2
   by_cases hi:i<vs.length
   ·exact hi
   ·rw[c7 (by simpa using hi)]at h2
    rw[cG]at h2
    split at h2<;>cases h2
  have ha:vs[i]? =some v:=by
   unfold start at h2
   rw[List.getElem?_append_left (by simpa using hi),bb]at h2
   cases e:vs[i]? with
   |none=>rw[e]at h2;cases h2
   |some a=>rw[e]at h2;cases h2;rfl
  obtain⟨u,hu,rv⟩:=r.get ha
  have hp:ps[i]? =some y:=by
   rw[←S.pre,List.getElem?_take_of_lt (by omega)];exact h1
  have ndP:ps.Nodup:=by rw[←S.pre];exact S.nd.sublist (List.take_sublist _ _)
  refine⟨u,rv,?_⟩
  rcases S.par y (cN hp) with k|k
  ·exact .inl ⟨k,EZ ndP hp hu k⟩
  ·obtain⟨c,e⟩:=Ha (n:=s.heap.objs.size+1) k
   refine .inr ⟨.inl k,c,e,?_⟩
   have q:=x.cell y c e
   rw[EX ndP hp hu (by show scope.names.lookup y≠_;rw[k];decide)]at q
   exact q
 ·exact e0.gw.fresh (bW (x.above y c (cw h)))
 ·unfold start
  show _=N.length
  rw[aO,ax,bg]
  omega
theorem Rz{CX:Ly}{ca:Bool}{P:Program}{w:World}{K:PySem.W.Frag}{mg:Str->Option Value}{base:Heap}{k:Nat}{f:Addr}{name qual:Str}{params:Arguments}{body:List Stmt}{scope:Scope}{dV kV doc pm cdv ct oc:Value}{an od:Option Addr}
  {osl:Array (Option Value)} {N ps:List Str} {sp:Sp} (lk:K.lookup f=some ⟨oc,od,.func (PySem.W.fnOf name qual params body scope dV kV doc pm an cdv ct),osl⟩) (hcd:PySem.W.codeIn K cdv qual=true) (S:dX N ps scope)
  (len:∀vs H Q E,sp vs H Q E->vs.length=ps.length)
  (hbody:∀(A:Around) (outer:List Env) (s:Shared) (H:Hp) (vs:List V) (Q:VK) (E:XK),lP ca k (A.deeper (envOfC qual scope s.heap.objs.size f cdv))->sp vs H Q E->
   ∃t,Ip (He CX ca P w K mg base N qual scope f cdv A outer s H E) body t/\t {nx:=λ_ H'=>Q .gT H',rt:=Q} (start N vs) H):
  e_ P w K mg base CX ca (k+1) f (PySem.W.fnOf name qual params body scope dV kV doc pm an cdv ct) ps sp:=by
 refine⟨len,λA outer s H args us vs Q E hr e0 hb r hsp=> ?_⟩
 have hl:=len _ _ _ _ hsp
 have KX:K.In s.heap:=e0.mod.QU.keeps λb o e=>(e0.bs b o e).1
 have lim:s.heap.NoLimit:=e0.mod.nolimit.keeps λb o e=>(e0.bs b o e).1
 have hkind:∀y∈ps.zip us,scope.names.lookup y.1=some .local∨(scope.names.lookup y.1=some .cell/\((cellsFrom (s.heap.objs.size+1) scope.names []).lookup y.1).isSome=true):=λ⟨n,v⟩ hy=>by
  rcases S.par n (df hy).1 with q|q
  ·exact .inl q
  ·exact .inr ⟨q,PySem.W.cellsFrom_some _ _ _ (.inl q)⟩
 refine codeAny_call_function hr.depth (KX _ _ lk) rfl S.co S.gen rfl (PySem.W.codeRec_of KX hcd) (hb _ _ _ _ ?_)
 refine wpAny_newFunctionEnv_cells S.kind hkind λenv he s1 x=> ?_
 subst he
 refine⟨lim.keeps x.toInCall.keep,codeAny_func ?_⟩
 obtain⟨t,ht,hq⟩:=hbody A outer s H vs Q E (hr.deeper _) hsp
 have I:Inv (He CX ca P w K mg base N qual scope f cdv A outer s H E) [] (start N vs) H s1:=K3 S hr.hd e0 hl r x
 refine wpAny_mono (ht [] s1 (start N vs) H _ I hq) (λfl s' hs=> ?_) λe s' hs=>hs
 have fin:∀{σ':St} {H':Hp} {v:V} {u:Value},Inv (He CX ca P w K mg base N qual scope f cdv A outer s H E) [] σ' H' s'->RelV v u->Q v H'->CE outer P w H s Q u s':=
  λ{σ' H' v u} J rv q=>⟨v,H',J.os,J.bare,J.base,J.gw,rv,q⟩
 cases fl with
 |ret u=>
  obtain⟨v,σ',H',J,rv,q⟩:=hs
  exact fin J rv q
 |next=>
  obtain⟨σ',H',J,q⟩:=hs
  exact fin (v:=V.gT) (u:=Value.none) J rfl q
 |brk=>
  obtain⟨_,_,_,q⟩:=hs
  exact False.elim q
 |cont=>
  obtain⟨_,_,_,q⟩:=hs
  exact False.elim q
end L2
namespace L2
open PySem PySem.Spec PyProof.Rows
section
variable{X:Cx}{x:Str}{p pos:Pos}{e:Expr}{es:List Expr}{t:TA}{id T:String}{r:List V->Hp->VK->Prop}
noncomputable def AV (r:List V->Hp->VK->Prop) (t:TA):TE:=λσ H Q=>t σ H λvs H1=>r vs H1 Q
theorem MI(hc:mF X (.builtin id) r)(hg:Gl X x)(hm:X.mg x=none)(hv:bootBuiltins x=some (.builtin id))(ha:PA X (e::es) t)(hn:x≠"__name__":=by decide)(hdb:(x==("__debug__":Str))=false:=by decide)
  (he:starEach (e::es) X.env=(false,eval e X.env)::starEach es X.env:=by rfl) (hpl:(backTo pos (starEach es X.env)).any (·.1)=false:=by rfl):PE X (.Call (.Name x p) (e::es) [] pos) (AV r t):=by
 intro pins s σ H Q I h
 refine wpAny_Call_Name_kw (wZ I hg hm hv ?_ hn hdb)
 exact PyProof.Rows.callWith_builtin1 (kX (ha pos pins s σ H _ I h) λus s1 ⟨vs,H1,I1,r1,q1⟩=>hc pins s1 σ H1 vs us Q I1 r1 q1) he hpl
theorem Li(hc:mF X (.type T) r)(hg:Gl X x)(hm:X.mg x=none)(hv:bootBuiltins x=some (.type T))(ha:PA X (e::es) t)(hn:x≠"__name__":=by decide)(hdb:(x==("__debug__":Str))=false:=by decide)
  (he:starEach (e::es) X.env=(false,eval e X.env)::starEach es X.env:=by rfl) (hpl:(backTo pos (starEach es X.env)).any (·.1)=false:=by rfl):PE X (.Call (.Name x p) (e::es) [] pos) (AV r t):=by
 intro pins s σ H Q I h
 refine wpAny_Call_Name_kw (wZ I hg hm hv ?_ hn hdb)
 exact bX (kX (ha pos pins s σ H _ I h) λus s1 ⟨vs,H1,I1,r1,q1⟩=>hc pins s1 σ H1 vs us Q I1 r1 q1) he hpl
end
end L2
namespace HT
open PySem PyProof.Rows
section
open PySem.SeqAt
open PySem.AutoSeq1 (wpAny_loadPart')
open PySem.MeetsSeq PySem.MeetsSeq2 PySem.MeetsSeq3
end
section
variable{prog:Program}{w:World}{A:Around}{E:Value->Shared->Prop}{s:Shared}
theorem NK{t b:Addr}{vs ws:List Value}{Q:Value->Shared->Prop}(ht:IsTup s.heap t vs.toArray)(hb:IsTup s.heap b ws.toArray)(hv:vs≠ [])
  (h1:ws=[]->Q (.ref t) s) (h2:ws≠ []->Q (.ref s.heap.objs.size) {s with heap:=s.heap.push {cls:= .type "tuple",data:= .seq (vs++ws).toArray}})
  (hsz:vs.length+ws.length<=sizeLine):wpAny (model prog w) A (binaryOp .Add (.ref t) (.ref b)) Q E s:=by
 obtain⟨⟨cls,dd,data,sl⟩,ho,hc,n,hd⟩:=id ht
 obtain⟨⟨cls2,dd2,data2,sl2⟩,ho2,hc2,n2,hd2⟩:=id hb
 simp only at hc hd hc2 hd2
 subst hc hd hc2 hd2
 have e:vs.toArray++ws.toArray=(vs++ws).toArray:=by simp
 by_cases hw:ws=[]
 ·exact concat_meets ⟨_,ho,rfl⟩ ⟨_,ho2,rfl⟩ noFill_tuple_add seq_tuple_add PySem.F.slot_tuple_add PySem.F.entry_tuple_add (PySem.F.args_tuple_add_2 _ _)
   (tuple_addW1 t b vs.toArray ws.toArray n n2 dd dd2 sl sl2 (by simpa using hv) (by simp[hw])) ⟨ho,ho2,h1 hw⟩
 ·refine concat_meets ⟨_,ho,rfl⟩ ⟨_,ho2,rfl⟩ noFill_tuple_add seq_tuple_add PySem.F.slot_tuple_add PySem.F.entry_tuple_add (PySem.F.args_tuple_add_2 _ _)
   (tuple_addW2 t b vs.toArray ws.toArray n n2 dd dd2 sl sl2 (by simpa using hv) (by simpa using hw) (by rw[aP,aP];exact hsz)) ⟨ho,ho2,?_⟩
  rw[e]
  exact h2 hw
noncomputable def Ir (n d:Nat):Option Int->Nat
 |none=>d
 |some v=>if v<0 then(v+(n:Int)).toNat else min v.toNat n
end
end HT
namespace L2
open PySem PySem.Spec PyProof.Rows
noncomputable abbrev TO:=St->Hp->(Option Int->Hp->Prop)->Prop
noncomputable def PO (X:Cx) (e:Option Expr) (t:TO):Prop:=
 ∀(pins:List (Addr×Obj)) (s:Shared) (σ:St) (H:Hp) (Q:Option Int->Hp->Prop),Inv X pins σ H s->t σ H Q->
  wpAny (model X.prog X.w) X.A (evalPart e X.env) (λu s'=>∃o H',Inv X pins σ H' s'/\IsPart u o/\Q o H') X.xe s
section
variable{X:Cx}{e:Expr}{te:TE}{lo hi:Option Expr}{tl th:TO}{pos p2:Pos}
noncomputable def O9 (X:Cx) (r:V->Option Int->Option Int->Hp->VK->Prop):Prop:=
 ∀(pins:List (Addr×Obj)) (s:Shared) (σ:St) (H:Hp) (x:V) (v vl vu:Value) (lo hi:Option Int) (sl:Addr) (Q:VK),Inv X pins σ H s->RelV x v->s.heap.IsSliceOf sl vl vu .none->IsPart vl lo->IsPart vu hi->r x lo hi H Q->
  ∃T id,typeLookup (.type T) "__getitem__"=pure (some (.builtin id))/\s.TypeIs v T/\wpAny (model X.prog X.w) X.A (getItem v (.ref sl)) (EP X pins σ Q) X.xe s
noncomputable def Tn (r:V->Option Int->Option Int->Hp->VK->Prop) (te:TE) (tl th:TO):TE:=λσ H Q=>te σ H λx H1=>tl σ H1 λl H2=>th σ H2 λu H3=>r x l u H3 Q
theorem MU{r:V->Option Int->Option Int->Hp->VK->Prop}(hr:O9 X r)(he:PE X e te)(hl:PO X lo tl)(hu:PO X hi th):PE X (.Subscript e (.Slice lo hi none p2) pos) (Tn r te tl th):=by
 intro pins s σ H Q I h
 refine Subscript_ (kX (he pins s σ H _ I h) λv s1 ⟨x,H1,I1,r1,q1⟩=> ?_)
 refine wpAny_Slice (kX (hl pins s1 σ H1 _ I1 q1) λvl s2 ⟨l,H2,I2,pl,q2⟩=>kX (hu pins s2 σ H2 _ I2 q2) λvu s3 ⟨u,H3,I3,pu,q3⟩=> ?_)
 rw[evalPart_none]
 refine wpAny_pure ?_
 have I4:Inv X pins σ H3 {s3 with heap:=s3.heap.push {cls:= .type "slice",data:= .fields #[vl,vu,.none]}}:=I3.kept (t':=s3.toks) λb ob q=>Heap.get?_push_of_some _ q
 obtain⟨T,id,hT,ht,hg⟩:=hr pins {s3 with heap:=s3.heap.push {cls:= .type "slice",data:= .fields #[vl,vu,.none]}} σ H3 x v vl vu l u s3.heap.objs.size Q I4 r1 (Heap.IsSliceOf.new ..) pl pu q3
 show wpAny (model X.prog X.w) X.A (subscriptTail e (.Slice lo hi none p2) v (.ref s3.heap.objs.size)) (EP X pins σ Q) X.xe {s3 with heap:=s3.heap.push {cls:= .type "slice",data:= .fields #[vl,vu,.none]}}
 exact tail_any (ops:=[.ref s3.heap.objs.size,v]) ht hT hg (by with_unfolding_all rfl)
noncomputable def IL (xs:List V) (lo hi:Option Int):List V:=(xs.drop (HT.Ir xs.length 0 lo)).take (HT.Ir xs.length xs.length hi-HT.Ir xs.length 0 lo)
theorem Hd(xs:List V)(lo hi:Option Int):(IL xs lo hi).length<=xs.length:=by
 unfold IL
 rw[bp,cI]
 omega
noncomputable def R6 (K:PySem.W.Frag):R2:=λx y H Q=>∃a b xs ys,x= .ref a/\y= .ref b/\Ef K H a xs/\Ef K H b ys/\xs≠ []/\xs.length+ys.length<=sizeLine/\
 (ys=[]->Q (.ref a) H)/\(ys≠ []->∀p,H p=none->Q (.ref p) (upd H p (.tup (xs++ys))))
theorem Vals.F6{xs:List V}{us:List Value}(r:Vals xs us):us=[]↔xs=[]:=by
 cases r with
 |nil=>simp
 |cons _ _=>simp
theorem Oa:qb X (binaryOp .Add) (R6 X.K):=by
 intro pins s σ H x y v u Q I rx ry h
 obtain⟨a,b,xs,ys,rfl,rfl,ha,hb,hx,hz,q1,q2⟩:=h
 cases rx
 cases ry
 obtain⟨its,r1,p1,_⟩:=I.tuple ha
 obtain⟨its2,r2,p2,_⟩:=I.tuple hb
 refine HT.NK p1 p2 (λz=>hx (r1.F6.mp z)) (λz=>⟨.ref a,H,I,rfl,q1 (r2.F6.mp z)⟩) (λz=> ?_) (by rw[←r1.length,←r2.length];exact hz)
 refine⟨.ref s.heap.objs.size,_,I.laid (t':=s.toks) (o:= .tup (xs++ys)) (λb ob q=>Heap.get?_push_of_some _ q) (aF _) ?_,rfl,q2 (λw=>z (r2.F6.mpr w)) _ (I.gw.fresh (aF _))⟩
 exact⟨by rw[aO];exact hz,_,r1.append r2,IsTup.new _ _⟩
end
end L2
namespace L2
open PySem PySem.Spec PyProof.Rows
noncomputable def K5 (n:Nat) (i:Int):Option Nat:=if 0<=i then(if i<n then some i.toNat else none) else if -(n:Int)<=i then some (i+n).toNat else none
noncomputable def FD {α:Type} (xs:List α) (i:Int):Option α:=(K5 xs.length i).bind λj=>xs[j]?
theorem J6{n:Nat}{i:Int}{j:Nat}(h:K5 n i=some j):seqIndex? i n=some j/\j<n/\ -(n:Int)<=i/\i<n:=by
 unfold K5 at h
 by_cases h0:0<=i
 ·rw[if_pos h0]at h
  by_cases h1:i<n
  ·rw[if_pos h1]at h
   have e:i.toNat=j:=aT h
   exact⟨by rw[seqIndex_of h0 h1,e],by omega,by omega,h1⟩
  ·rw[if_neg h1]at h;cases h
 ·rw[if_neg h0]at h
  by_cases h1: -(n:Int)<=i
  ·rw[if_pos h1]at h
   have e:(i+n).toNat=j:=aT h
   exact⟨by rw[seqIndex_neg (by omega) h1,e],by omega,h1,by omega⟩
  ·rw[if_neg h1]at h;cases h
theorem JB{α:Type}{xs:List α}{i:Int}{v:α}(h:FD xs i=some v):∃j,seqIndex? i xs.length=some j/\xs[j]? =some v/\j<xs.length/\ -(xs.length:Int)<=i/\i<xs.length:=by
 unfold FD at h
 cases e:K5 xs.length i with
 |none=>rw[e]at h;cases h
 |some j=>
  rw[e]at h
  obtain⟨h1,h2,h3,h4⟩:=J6 e
  exact⟨j,h1,h,h2,h3,h4⟩
theorem JC{α:Type}{xs:List α}{j:Nat}{v:α}(h:xs[j]? =some v):FD xs (j:Int)=some v:=by
 have hj:j<xs.length:=(List.getElem?_eq_some_iff.mp h).1
 have e:K5 xs.length (j:Int)=some j:=by
  unfold K5
  rw[if_pos (by omega),if_pos (by omega)];simp
 unfold FD;rw[e];exact h
noncomputable def CI (b:Expr):Prop:=∀o i,subscripted b false o i=operate [o,i] (getItem o i)
noncomputable def O6 (X:Cx) (r:R2):Prop:=
 ∀(value slice:Expr) (pins:List (Addr×Obj)) (s:Shared) (σ:St) (H:Hp) (x y:V) (v u:Value) (Q:VK),Inv X pins σ H s->RelV x v->RelV y u->r x y H Q->
  subscripted slice false v u=operate [v,u] (getItem v u)->wpAny (model X.prog X.w) X.A (subscriptTail value slice v u) (EP X pins σ Q) X.xe s
noncomputable def Tt (X:Cx) (id:String) (r:V->List V->Hp->VK->Prop):Prop:=
 ∀(pins:List (Addr×Obj)) (s:Shared) (σ:St) (H:Hp) (x:V) (xs:List V) (v:Value) (us:List Value) (Q:VK),Inv X pins σ H s->RelV x v->Vals xs us->r x xs H Q->
  wpAny (model X.prog X.w) X.A (call (.builtin id) (v::us)) (EP X pins σ Q) X.xe s
section
variable{X:Cx}{a b:Expr}{ta tb:TE}{pos:Pos}
theorem O1{r:R2}(hr:O6 X r)(ha:PE X a ta)(hb:PE X b tb)(hs:CI b):PE X (.Subscript a b pos) (gU r ta tb):=by
 intro pins s σ H Q I h
 exact Subscript_ (Pf ha hb I h λv u s2 x y H2 I2 rx ry q=>hr a b pins s2 σ H2 x y v u Q I2 rx ry q (hs _ _))
noncomputable def Tf (K:PySem.W.Frag):R2:=λx y H Q=>∃p xs i v,x= .ref p/\y= .int i/\iC K H p xs/\FD xs i=some v/\Q v H
noncomputable def Tg (K:PySem.W.Frag):R2:=λx y H Q=>∃p xs i v,x= .ref p/\y= .int i/\Ef K H p xs/\FD xs i=some v/\Q v H
theorem FZ:O6 X (Tf X.K):=by
 intro value slice pins s σ H x y v u Q I rx ry h hs
 obtain⟨p,xs,i,z,rfl,rfl,hq,he,q⟩:=h
 cases rx
 obtain⟨t,rfl⟩:=ry
 obtain⟨its,r,pl,hz⟩:=I.list hq
 obtain⟨j,h1,h2,h3,h4,h5⟩:=JB he
 obtain⟨w,ew,rw'⟩:=r.get h2
 have hl:=r.length
 have hn:=DH
 have fin:EP X pins σ Q w s:=⟨z,H,I,rw',q⟩
 by_cases h0:0<=i
 ·have hj:i.toNat=j:=by
   rw[seqIndex_of h0 h5]at h1
   exact aT h1
  exact item_listR pl.isList h0 (by omega) (by rw[hj];simpa using ew) fin hs
 ·have hj:(i+(its.toArray.size:Int)).toNat=j:=by
   rw[seqIndex_neg (by omega) h4]at h1
   rw[aP,←hl]
   exact aT h1
  exact subscriptTail_builtinR (x:=w) pl.isList.typeIs slot_list_getitem.lookup
   (wpAny_getItem_list_neg (Q:=λr s'=>r=w/\EP X pins σ Q r s') pl.isList (by omega) (by rw[aP]<;>omega) (by omega) (by rw[hj];simpa using ew) ⟨rfl,fin⟩) hs
theorem PQ:O6 X (Tg X.K):=by
 intro value slice pins s σ H x y v u Q I rx ry h hs
 obtain⟨p,xs,i,z,rfl,rfl,hq,he,q⟩:=h
 cases rx
 obtain⟨t,rfl⟩:=ry
 obtain⟨its,r,pl,hz⟩:=I.tuple hq
 obtain⟨j,h1,h2,h3,h4,h5⟩:=JB he
 obtain⟨w,ew,rw'⟩:=r.get h2
 have hl:=r.length
 have hn:=DH
 have fin:EP X pins σ Q w s:=⟨z,H,I,rw',q⟩
 exact subscriptTail_builtinR (x:=w) pl.typeIs slot_tuple_getitem.lookup
  (getItem_tuple (j:=j) (Q:=λr s'=>r=w/\EP X pins σ Q r s') pl (by omega) (by omega) (by rw[aP,←hl];exact h1) (by simpa using ew) ⟨rfl,fin⟩) hs
theorem Jg(its:List Value)(n j:Nat)(u:Value):Obj.mapSeq (·.setIfInBounds j u) {cls:= .type "list",data:= .seq its.toArray n}={cls:= .type "list",data:= .seq (its.set j u).toArray n}:=by
 simp[Obj.mapSeq]
theorem Inv.lst{pins:List (Addr×Obj)}{σ:St}{H:Hp}{s:Shared}{p:Addr}{xs:List V}(I:Inv X pins σ H s)(h:H p=some (.lst xs)):
  ∃(its:List Value) (n:Nat),Vals xs its/\s.heap.get? p=some {cls:= .type "list",data:= .seq its.toArray n}/\xs.length<=sizeLine:=by
 obtain⟨z,its,n,r,e⟩:=I.gw p _ h
 exact⟨its,n,r,e,z⟩
theorem Inv.P1{pins:List (Addr×Obj)}{σ:St}{H:Hp}{s:Shared}{p:Addr}{xs ys:List V}{its its':List Value}{n n':Nat}{f:Obj->Obj}(I:Inv X pins σ H s)(h:H p=some (.lst xs))
  (ho:s.heap.get? p=some {cls:= .type "list",data:= .seq its.toArray n}) (hf:f {cls:= .type "list",data:= .seq its.toArray n}={cls:= .type "list",data:= .seq its'.toArray n'}) (r:Vals ys its') (hz:ys.length<=sizeLine) (t:Nat):
  Inv X pins σ (upd H p (.lst ys)) {s with heap:=s.heap.update p f,toks:=t}:=by
 have e:(s.heap.update p f).get? p=some {cls:= .type "list",data:= .seq its'.toArray n'}:=by
  rw[Heap.get?_update_self f ho (by rw[hf]<;>rfl),hf]
 refine I.write (x:=p) (e:=p) (by rw[h];trivial) (.inl rfl) (λb u hb q=>(Heap.get?_update_other _ _ (aj hb)).trans q) ⟨_,e⟩ ?_
 exact⟨hz,its',n',r,e⟩
noncomputable def R7:V->V->V->Hp->(Hp->Prop)->Prop:=λo i v H Q=>∃p xs k j,o= .ref p/\i= .int k/\H p=some (.lst xs)/\K5 xs.length k=some j/\Q (upd H p (.lst (xs.set j v)))
theorem set_list:Nu X R7:=by
 intro pins s σ H o i v ov iv u Q I ro ri rv h
 obtain⟨p,xs,k,j,rfl,rfl,hp,hj,q⟩:=h
 cases ro
 obtain⟨t,rfl⟩:=ri
 obtain⟨its,n,r,ho,hz⟩:=I.lst hp
 obtain⟨h1,h2,h3,h4⟩:=J6 hj
 have hl:=r.length
 have hn:=DH
 have I':Inv X pins σ (upd H p (.lst (xs.set j v))) {s with heap:=s.heap.update p (Obj.mapSeq (·.setIfInBounds j u))}:=
  I.P1 hp ho (Jg its n j u) (r.set rv j) (by rw[aK];exact hz) s.toks
 by_cases h0:0<=k
 ·have hk:k.toNat=j:=by
   rw[seqIndex_of h0 h4]at h1
   exact aT h1
  exact PySem.W.ki_setAt ho h0 (by omega) (by rw[aP,←hl];exact h4) (by rw[hk];exact⟨_,I',q⟩)
 ·have hk:(k+(its.toArray.size:Int)).toNat=j:=by
   rw[seqIndex_neg (by omega) h3]at h1
   rw[aP,←hl]
   exact aT h1
  exact PySem.W.ki_setBack ho (by omega) (by rw[aP,←hl];exact h3) (by omega) (by rw[hk];exact⟨_,I',q⟩)
theorem GN(lo hi:Option Int)(n:Nat):(sliceBounds lo hi none n).1=((HT.Ir n 0 lo:Nat):Int)/\(sliceBounds lo hi none n).2.1=((HT.Ir n n hi:Nat):Int)/\(sliceBounds lo hi none n).2.2=1:=by
 refine⟨?_,?_,rfl⟩
 ·cases lo with
  |none=>simp[sliceBounds,HT.Ir]
  |some i=>
   simp only[sliceBounds,HT.Ir,Option.getD_none,show(1:Int)>0 by decide,if_true]
   by_cases h:i<0
   ·simp only[h,if_true]<;>omega
   ·simp only[h,if_false]<;>omega
 ·cases hi with
  |none=>simp[sliceBounds,HT.Ir]
  |some i=>
   simp only[sliceBounds,HT.Ir,Option.getD_none,show(1:Int)>0 by decide,if_true]
   by_cases h:i<0
   ·simp only[h,if_true]<;>omega
   ·simp only[h,if_false]<;>omega
theorem EM(its:List Value)(lo hi:Option Int):slicePick its.toArray lo hi none=((its.drop (HT.Ir its.length 0 lo)).take (HT.Ir its.length its.length hi-HT.Ir its.length 0 lo)).toArray:=by
 obtain⟨h1,h2,h3⟩:=GN lo hi its.toArray.size
 unfold slicePick
 rw[h1,h2,h3]
 simp only[sliceRange_one,pick_run,aP]<;>rfl
noncomputable def Ti (K:PySem.W.Frag):V->Option Int->Option Int->Hp->VK->Prop:=λx lo hi H Q=>∃a xs,x= .ref a/\iC K H a xs/\∀p,H p=none->Q (.ref p) (upd H p (.lst (IL xs lo hi)))
theorem OI:O9 X (Ti X.K):=by
 intro pins s σ H x v vl vu lo hi sl Q I rx hs pl pu h
 obtain⟨a,xs,rfl,hx,q⟩:=h
 cases rx
 obtain⟨its,r,ht,hz⟩:=I.list hx
 have hlen:=r.length
 refine⟨"list",_,slot_list_getitem.lookup,ht.isList.typeIs,?_⟩
 refine wpAny_getItem_list_slice ht.isList hs pl pu .none (by simp) ?_ (by rw[aP]<;>omega)
 rw[EM,←hlen]
 refine⟨.ref s.heap.objs.size,_,I.laid (t':=s.toks) (o:= .lst (IL xs lo hi)) (λb ob q=>Heap.get?_push_of_some _ q) (aF _) ?_,rfl,q _ (I.gw.fresh (aF _))⟩
 exact⟨aA (Hd xs lo hi) hz,_,0,(r.drop (HT.Ir xs.length 0 lo)).take (HT.Ir xs.length xs.length hi-HT.Ir xs.length 0 lo),Heap.get?_push_size _ rfl⟩
noncomputable def mG:V->Bool
 | .gT=>true
 | .bl _=>true
 | .int _=>true
 | .str _=>true
 |_=>false
noncomputable def Iq:V->V->Bool
 | .gT,.gT=>true
 | .bl a,.bl b=>a==b
 | .bl a,.int b=>(if a then 1 else 0)==b
 | .int a,.bl b=>a==(if b then 1 else 0)
 | .int a,.int b=>a==b
 | .str a,.str b=>a==b
 |_,_=>false
theorem IM{A:Around}{s:Shared}{y x:V}{u v:Value}(ry:RelV y u)(rx:RelV x v)(fy:mG y=true)(fx:mG x=true):SeqAt.EqAt A s u v (Iq y x):=by
 cases y with
 |gT=>
  cases ry
  cases x with
  |gT=>cases rx;exact SeqAt.EqAt.same _
  |bl b=>cases rx;exact SeqAt.EqAt.none_bool b
  |int b=>obtain⟨t,rfl⟩:=rx;exact SeqAt.EqAt.none_int b t
  |str b=>obtain⟨t,rfl⟩:=rx;exact SeqAt.EqAt.none_str b t
  |_=>exact absurd (show false=true from fx) aR
 |bl a=>
  cases ry
  cases x with
  |gT=>cases rx;exact SeqAt.EqAt.bool_none a
  |bl b=>cases rx;exact SeqAt.EqAt.bool_bool a b
  |int b=>obtain⟨t,rfl⟩:=rx;exact SeqAt.EqAt.bool_int a b t
  |str b=>obtain⟨t,rfl⟩:=rx;exact SeqAt.EqAt.bool_str a b t
  |_=>exact absurd (show false=true from fx) aR
 |int a=>
  obtain⟨t',rfl⟩:=ry
  cases x with
  |gT=>cases rx;exact SeqAt.EqAt.int_none a t'
  |bl b=>cases rx;exact SeqAt.EqAt.int_bool a t' b
  |int b=>obtain⟨t,rfl⟩:=rx;exact SeqAt.EqAt.int_int a t' b t
  |str b=>obtain⟨t,rfl⟩:=rx;exact SeqAt.EqAt.int_str a t' b t
  |_=>exact absurd (show false=true from fx) aR
 |str a=>
  obtain⟨t',rfl⟩:=ry
  cases x with
  |gT=>cases rx;exact SeqAt.EqAt.str_none a t'
  |bl b=>cases rx;exact SeqAt.EqAt.str_bool a t' b
  |int b=>obtain⟨t,rfl⟩:=rx;exact SeqAt.EqAt.str_int a t' b t
  |str b=>obtain⟨t,rfl⟩:=rx;exact SeqAt.EqAt.str_str a t' b t
  |_=>exact absurd (show false=true from fx) aR
 |_=>exact absurd (show false=true from fy) aR
noncomputable def NN (x:V) (u:Value):Bool:=match u with
 | .none=>Iq .gT x
 | .bool b=>Iq (.bl b) x
 | .int i _=>Iq (.int i) x
 | .str z _=>Iq (.str z) x
 |_=>false
theorem Mc{x y:V}{u:Value}(r:RelV y u)(f:mG y=true):NN x u=Iq y x:=by
 cases y with
 |gT=>cases r;rfl
 |bl b=>cases r;rfl
 |int i=>obtain⟨t,rfl⟩:=r;rfl
 |str z=>obtain⟨t,rfl⟩:=r;rfl
 |_=>exact absurd (show false=true from f) aR
theorem FC{x:V}:∀{xs:List V} {us:List Value},Vals xs us->xs.all mG=true->us.any (NN x)=xs.any λy=>Iq y x
 |_,_,.nil,_=>rfl
 |y::xs,u::us,.cons r t,f=>by
  rw[ba,aI]at f
  rw[bt,bt,Mc r f.1,FC t f.2]
theorem DJ{A:Around}{s:Shared}{x:V}{v:Value}(rx:RelV x v)(fx:mG x=true):∀{xs:List V} {us:List Value},Vals xs us->xs.all mG=true->∀u∈us,SeqAt.EqAt A s u v (NN x u)
 |_,_,.nil,_=>λu hu=>by cases hu
 |y::xs,u::us,.cons r t,f=>λu' hu=>by
  rw[ba,aI]at f
  rcases List.mem_cons.mp hu with rfl|hu
  ·rw[Mc r f.1];exact IM r rx f.1 fx
  ·exact DJ rx fx t f.2 u' hu
noncomputable def K2 (x:V) (xs:List V):Bool:=xs.any λy=>Iq y x
noncomputable def TK (K:PySem.W.Frag) (neg:Bool):R2:=λx y H Q=>∃p xs,y= .ref p/\(iC K H p xs∨Ef K H p xs)/\mG x=true/\xs.all mG=true/\Q (.bl (if neg then !K2 x xs else K2 x xs)) H
theorem Lg:qb X (compareOp .In) (TK X.K false):=by
 intro pins s σ H x y v u Q I rx ry h
 obtain⟨p,xs,rfl,hq,fx,fs,q⟩:=h
 cases ry
 rcases hq with hq|hq
 ·obtain⟨its,r,pl,hz⟩:=I.list hq
  refine SeqAt.in_listAt (NN x) pl.isList (λw hw=>DJ rx fx r fs w (by simpa using hw)) ⟨.bl _,H,I,rfl,?_⟩
  rw[show its.toArray.any (NN x)=its.any (NN x) by simp,FC r fs]
  exact q
 ·obtain⟨its,r,pl,hz⟩:=I.tuple hq
  refine SeqAt.in_tupleAt (NN x) pl (λw hw=>DJ rx fx r fs w (by simpa using hw)) ⟨.bl _,H,I,rfl,?_⟩
  rw[show its.toArray.any (NN x)=its.any (NN x) by simp,FC r fs]
  exact q
theorem zL:mF X (.builtin "len") (λxs H Q=>∃p ys,xs=[.ref p]/\(iC X.K H p ys∨Ef X.K H p ys)/\Q (.int ys.length) H):=by
 intro pins s σ H xs us Q I r h
 obtain⟨p,ys,rfl,hq,q⟩:=h
 obtain⟨u,rfl,rx⟩:=vals1 r
 cases rx
 have hn:=DH
 rcases hq with hq|hq
 ·obtain⟨its,r',pl,hz⟩:=I.list hq
  have hlen:=r'.length
  exact Calls.call_len_list pl.isList (by simp only[aP]<;>omega) ⟨.int ys.length,H,I.tok _,⟨s.toks+1,by rw[aP,hlen]⟩,q⟩
 ·obtain⟨its,r',pl,hz⟩:=I.tuple hq
  have hlen:=r'.length
  exact len_tuple pl (by simp only[aP]<;>omega) ⟨.int ys.length,H,I.tok _,⟨s.toks+1,by rw[aP,hlen]⟩,q⟩
theorem FI:mF X (.type "list") (λxs H Q=>∃p ys,xs=[.ref p]/\(iC X.K H p ys∨Ef X.K H p ys)/\∀l,H l=none->Q (.ref l) (upd H l (.lst ys))):=by
 intro pins s σ H xs us Q I r h
 obtain⟨p,ys,rfl,hq,q⟩:=h
 obtain⟨u,rfl,rx⟩:=vals1 r
 cases rx
 have fin:∀(its:List Value),Vals ys its->ys.length<=sizeLine->∀(h':Heap) (c':Nat),(∀b o',s.heap.get? b=some o'->h'.get? b=some o')->
   h'.get? s.heap.objs.size=some {cls:= .type "list",dict:=none,data:= .seq its.toArray c',slots:= #[]}->EP X pins σ Q (.ref s.heap.objs.size) {s with heap:=h'}:=λits r' hz h' c' kp e=>
  ⟨.ref s.heap.objs.size,_,I.laid (t':=s.toks) kp (aF _) (show iT X.prog X.w _ h' _ (.lst ys) from⟨hz,its,c',r',e⟩),rfl,q _ (I.gw.fresh (aF _))⟩
 rcases hq with hq|hq
 ·obtain⟨its,r',pl,hz⟩:=I.list hq
  have hlen:=r'.length
  obtain⟨o,ho,hc,n,hd⟩:=pl.isList
  exact call_list_seq p (.inl rfl) ho hc hd (λh' c' kp e=>fin its r' hz h' c' kp e) (by simp only[aP]<;>omega)
 ·obtain⟨its,r',pl,hz⟩:=I.tuple hq
  have hlen:=r'.length
  obtain⟨o,ho,hc,n,hd⟩:=pl
  exact call_list_seq p (.inr rfl) ho hc hd (λh' c' kp e=>fin its r' hz h' c' kp e) (by simp only[aP]<;>omega)
noncomputable def TM (K:PySem.W.Frag) (T:String) (x:V) (H:Hp):Prop:=match x with
 | .str _=>T="str"
 | .int _=>T="int"
 | .ref p=>(T="list"/\∃xs,iC K H p xs)∨(T="tuple"/\∃o,K.lookup p=some o/\o.cls= .type "tuple"/\o.dict=none)∨
   (T="dict"/\((∃fA,H p=some (.dK fA))∨∃fA,H p=some (.dT fA)))∨(T="set"/\∃S n,H p=some (.set S n))
 |_=>False
theorem QL{pins:List (Addr×Obj)}{σ:St}{H:Hp}{s:Shared}{T:String}{x:V}{v:Value}(I:Inv X pins σ H s)(r:RelV x v)(ty:TM X.K T x H):
  s.TypeIs v T/\∀a,v= .ref a->∃ob,s.heap.get? a=some ob/\ob.dict=none:=by
 cases x with
 |str z=>
  obtain⟨t,rfl⟩:=r
  cases (show T="str" from ty)
  exact⟨typeIs_str s z t,λ_ e=>nomatch e⟩
 |int i=>
  obtain⟨t,rfl⟩:=r
  cases (show T="int" from ty)
  exact⟨typeIs_int s i t,λ_ e=>nomatch e⟩
 |ref p=>
  cases r
  rcases ty with ⟨rfl,xs,hq⟩|⟨rfl,o,hk,hc,hd⟩|⟨rfl,hk⟩|⟨rfl,S,n,hk⟩
  ·obtain⟨its,_,pl,_⟩:=I.list hq
   refine⟨pl.isList.typeIs,λa e=> ?_⟩
   cases e
   obtain⟨o,n,e,c,hd,_⟩:=pl
   exact⟨o,e,hd⟩
  ·refine⟨⟨o,I.A2 p o hk,hc⟩,λa e=> ?_⟩
   cases e
   exact⟨o,I.A2 _ o hk,hd⟩
  ·have z:∃o,s.heap.get? p=some o/\o.ExactDict:=by
    rcases hk with ⟨fA,hk⟩|⟨fA,hk⟩
    ·obtain⟨_,_,_,_,o,_,_,e,ex,_⟩:=I.gw p _ hk
     exact⟨o,e,ex⟩
    ·obtain⟨_,_,_,_,o,_,_,e,ex,_⟩:=I.gw p _ hk
     exact⟨o,e,ex⟩
   obtain⟨o,e,ex⟩:=z
   refine⟨⟨o,e,ex.1⟩,λa e2=> ?_⟩
   cases e2
   exact⟨o,e,ex.2.1⟩
  ·obtain⟨o,_,_,_,e,ex,_⟩:=I.gw p _ hk
   refine⟨⟨o,e,ex.1⟩,λa e2=> ?_⟩
   cases e2
   exact⟨o,e,ex.2.1⟩
 |_=>exact False.elim ty
variable{o e:Expr}{es:List Expr}{to:TE}{t:TA}{name:Str}{apos cpos:Pos}{T id:String}{r:V->List V->Hp->VK->Prop}
end
end L2
namespace L2
open PySem PySem.Spec PyProof.Rows
noncomputable def Sh (X:Cx) (id:String) (r:V->List V->Hp->VK->Prop):Prop:=
 ∀(pins:List (Addr×Obj)) (s:Shared) (σ:St) (H:Hp) (x:V) (xs:List V) (v:Value) (us:List Value) (Q:VK),Inv X pins σ H s->RelV x v->Vals xs us->r x xs H Q->
  wpAny (model X.prog X.w) X.A (call (.builtin id) (v::us)) (EP X pins σ Q) X.xe s
theorem Vals.one:∀{x:V} {us:List Value},Vals [x] us->∃u,us=[u]/\RelV x u
 |_,_,.cons r .nil=>⟨_,rfl,r⟩
theorem Vals.rep{xs:List V}{us:List Value}(h:Vals xs us):∀k:Nat,Vals (List.replicate k xs).flatten (List.replicate k us).flatten
 |0=> .nil
 |k+1=>by
  rw[bH,bH,bT,bT]
  exact Vals.append h (Vals.rep h k)
theorem foldl_rep(its:List Value):∀(k:Nat) (acc:List Value),
  List.foldl (λx1 x2=>x1++x2) acc.toArray (List.replicate k its.toArray)=(acc++(List.replicate k its).flatten).toArray
 |0,acc=>by simp
 |k+1,acc=>by
  have e:acc.toArray++its.toArray=(acc++its).toArray:=by simp
  have e2:(acc++its)++(List.replicate k its).flatten=acc++(List.replicate (k+1) its).flatten:=by
   rw[bH,bT,cy]
  rw[←e2,←foldl_rep its k (acc++its),←e,bH,List.foldl_cons]
section
variable{X:Cx}{pins:List (Addr×Obj)}{σ:St}{H:Hp}{s:Shared}{l b:Addr}{xs ys zs:List V}
theorem Inv.RH{its its':List Value}{n:Nat}{f:Array Value->Array Value}{t':Nat}(I:Inv X pins σ H s)(hH:H l=some (.lst xs))
  (e:s.heap.get? l=some {cls:= .type "list",data:= .seq its.toArray n}) (hf:f its.toArray=its'.toArray) (hv:Vals ys its') (hz:ys.length<=sizeLine):
  Inv X pins σ (upd H l (.lst ys)) {s with heap:=s.heap.update l (Obj.mapSeq f),toks:=t'}:=by
 have q:=PySem.IsL.update e f
 rw[hf]at q
 refine I.write (x:=l) (e:=l) (by rw[hH];exact trivial) (.inl rfl) (λb' u hb hu=>(Heap.get?_update_other s.heap (Obj.mapSeq f) (aj hb)).trans hu) ⟨_,q⟩ ?_
 exact⟨hz,its',_,hv,q⟩
theorem Inv.RG{its:List Value}{t':Nat}(I:Inv X pins σ H s)(hv:Vals ys its)(hz:ys.length<=sizeLine):
  Inv X pins σ (upd H s.heap.objs.size (.lst ys)) {s with heap:=s.heap.push {cls:= .type "list",data:= .seq its.toArray},toks:=t'}:=
 I.laid (λ_ _ q=>Heap.get?_push_of_some _ q) (aF _) ⟨hz,its,0,hv,Heap.get?_push_size _ rfl⟩
theorem Inv.fresh(I:Inv X pins σ H s):H s.heap.objs.size=none:=I.gw.fresh (aF _)
theorem Inv.Lc(I:Inv X pins σ H s)(hH:H l=some (.lst xs)):xs.length<=sizeLine/\∃(its:List Value) (n:Nat),Vals xs its/\xs.length=its.length/\s.heap.get? l=some {cls:= .type "list",data:= .seq its.toArray n}:=by
 obtain⟨z,its,n,r,e⟩:=I.gw l _ hH
 exact⟨z,its,n,r,r.length,e⟩
theorem HI{n:Nat}(h:n<=sizeLine):Builtin.List.listTooLong n=false:=by
 unfold Builtin.List.listTooLong
 exact decide_eq_false (by omega)
end
section
variable{X:Cx}
noncomputable def Oz:V->List V->Hp->VK->Prop:=λx vs H Q=>∃l xs y,x= .ref l/\vs=[y]/\H l=some (.lst xs)/\xs.length<sizeLine/\Q .gT (upd H l (.lst (xs++[y])))
theorem Ld:Sh X "list.append" Oz:=by
 intro pins s σ H x vs v us Q I rx rv h
 obtain⟨l,xs,y,rfl,rfl,hH,hz,q⟩:=h
 cases rx
 obtain⟨u,rfl,ru⟩:=rv.one
 obtain⟨z,its,n,r,hl,e⟩:=I.Lc hH
 refine call_meets F.slot_list_append ⟨_,e,rfl⟩ F.entry_list_append (F.args_list_append_2 _ _) (PySem.list_append l its.toArray n u (by rw[aP];omega)) ⟨e,?_⟩
 refine⟨.gT,_,I.RH (its':=its++[u]) hH e (by simp) (r.append (.cons ru .nil)) ?_,rfl,q⟩
 rw[aO,c_]
 omega
noncomputable def OA:V->List V->Hp->VK->Prop:=λx vs H Q=>∃l b xs zs,x= .ref l/\vs=[.ref b]/\H l=some (.lst xs)/\H b=some (.lst zs)/\xs.length+zs.length<=sizeLine/\Q .gT (upd H l (.lst (xs++zs)))
theorem Le:Sh X "list.extend" OA:=by
 intro pins s σ H x vs v us Q I rx rv h
 obtain⟨l,b,xs,zs,rfl,rfl,hH,hB,hz,q⟩:=h
 cases rx
 obtain⟨u,rfl,ru⟩:=rv.one
 cases ru
 obtain⟨z,its,n,r,hl,e⟩:=I.Lc hH
 obtain⟨z2,its2,n2,r2,hl2,e2⟩:=I.Lc hB
 have hsz:its.toArray.size+its2.toArray.size<=sizeLine:=by rw[aP,aP];omega
 have hlong:¬(!its.toArray.isEmpty&&Builtin.List.listTooLong (its.toArray.size+its2.toArray.size))=true:=by
  rw[HI hsz,Bool.and_false]
  exact aR
 refine call_meets F.slot_list_extend ⟨_,e,rfl⟩ F.entry_list_extend (F.args_list_extend_2 _ _)
  (AutoSeq1.list_extend_list_list_0 l its.toArray n b its2.toArray n2 hlong (by rw[aP];omega) (by omega)) ⟨e,e2,?_⟩
 refine⟨.gT,_,I.RH (its':=its++its2) hH e (by simp) (r.append r2) ?_,rfl,q⟩
 rw[aO]
 omega
noncomputable def Te:R2:=λx y H Q=>∃l b xs zs,x= .ref l/\y= .ref b/\H l=some (.lst xs)/\H b=some (.lst zs)/\xs.length+zs.length<=sizeLine/\∀p,H p=none->Q (.ref p) (upd H p (.lst (xs++zs)))
theorem Qe:qb X (binaryOp .Add) Te:=by
 intro pins s σ H x y v u Q I rx ry h
 obtain⟨l,b,xs,zs,rfl,rfl,hH,hB,hz,q⟩:=h
 cases rx
 cases ry
 obtain⟨z,its,n,r,hl,e⟩:=I.Lc hH
 obtain⟨z2,its2,n2,r2,hl2,e2⟩:=I.Lc hB
 refine PySem.P.add_list e e2 ?_ (by rw[aP,aP];omega)
 have ea:its.toArray++its2.toArray=(its++its2).toArray:=by simp
 rw[ea]
 exact⟨.ref _,_,I.RG (t':=s.toks) (r.append r2) (by rw[aO];omega),rfl,q _ I.fresh⟩
noncomputable def Th:R2:=λx y H Q=>∃l k xs,x= .ref l/\y= .int k/\H l=some (.lst xs)/\ -(2^63)<=k/\k<2^63/\xs.length*k.toNat<=sizeLine/\
 ∀p,H p=none->Q (.ref p) (upd H p (.lst (List.replicate k.toNat xs).flatten))
theorem len_rep{α:Type}(xs:List α)(k:Nat):(List.replicate k xs).flatten.length=k*xs.length:=by
 induction k with
 |zero=>simp
 |succ k ih=>rw[bH,bT,aO,ih,Nat.succ_mul,Nat.add_comm]
theorem Qi:qb X (binaryOp .Mult) Th:=by
 intro pins s σ H x y v u Q I rx ry h
 obtain⟨l,k,xs,rfl,rfl,hH,h1,h2,hz,q⟩:=h
 cases rx
 obtain⟨t,rfl⟩:=ry
 obtain⟨z,its,n,r,hl,e⟩:=I.Lc hH
 have hlen:its.toArray.size*k.toNat<=sizeLine:=by rw[aP,←hl];exact hz
 have hcap:¬its.toArray.size*k.toNat>(2^63-1)/8:=by
  have:(sizeLine:Nat)<=(2^63-1)/8:=by decide
  omega
 have hfit:¬(!Builtin.List.listFitsIndex k)=true:=by
  rw[fitsIndex_both h1 h2]
  exact aR
 have hlong:¬Builtin.List.listTooLong (its.toArray.size*k.toNat)=true:=by
  rw[HI hlen]
  exact aR
 have hnew:List.foldl (λx1 x2=>x1++x2) #[] (List.replicate (if its.toArray.isEmpty=true then 0 else k.toNat) its.toArray)=(List.replicate k.toNat its).flatten.toArray:=by
  have f0:∀m:Nat,List.foldl (λx1 x2=>x1++x2) #[] (List.replicate m its.toArray)=(List.replicate m its).flatten.toArray:=λm=>by
   have:=foldl_rep its m []
   rw[aN]at this
   exact this
  rw[f0]
  cases its with
  |nil=>simp
  |cons a r'=>rw[if_neg (by simp)]
 refine wpAny_binaryOp_repeat_ref (T:="list") (U:="int") (by decide) ⟨_,e,rfl⟩ (λs'=>typeIs_int s' k t) noFill_list_mul F.fills_int_mul F.slot_int_rmul repeat_list F.slot_int_index.lookup
  (call_meets F.slot_int_rmul (typeIs_int s k t) F.entry_int_rmul (F.args_int_rmul_2 _ _) (int___rmul___int_list k t l its.toArray n)
   ⟨e,rfl,⟨_,e,rfl⟩,call_meets F.slot_list_mul ⟨_,e,rfl⟩ F.entry_list_mul (F.args_list_mul_2 _ _) (AutoListH.list___mul___list_int_3 l its.toArray n k t hfit hcap hlong) ⟨e,?_⟩⟩)
 rw[hnew]
 exact⟨.ref _,_,I.RG (t':=s.toks) (r.rep k.toNat) (by rw[len_rep,Nat.mul_comm];exact hz),rfl,q _ I.fresh⟩
end
section
variable{prog:Program}{w:World}{A:Around}{E:Value->Shared->Prop}{s:Shared}
set_option maxRecDepth 100000 in
end
section
variable{X:Cx}
end
end L2
namespace L2
open PySem PySem.Spec PyProof.Rows
section
variable{κ:Type} [DecidableEq κ]
noncomputable def qx (fA:List (κ×V)) (k:κ):Option V:=(fA.find? λkv=>decide (kv.1=k)).map (·.2)
noncomputable def putK (fA:List (κ×V)) (k:κ) (v:V):List (κ×V):=
 if (fA.any λkv=>decide (kv.1=k))=true then fA.map (λkv=>if kv.1=k then(kv.1,v) else kv) else fA++[(k,v)]
noncomputable def Dj (fA:List (κ×V)) (k:κ):List (κ×V):=fA.filter λkv=>decide (kv.1≠k)
theorem xT{p:κ×V}{r:List (κ×V)}{k:κ}(e:p.1=k):qx (p::r) k=some p.2:=by simp[qx,bj,e]
theorem xS{p:κ×V}{r:List (κ×V)}{k:κ}(e:¬p.1=k):qx (p::r) k=qx r k:=by simp[qx,bj,e]
theorem Ik(k:κ):∀fA:List (κ×V),(fA.any λkv=>decide (kv.1=k))=(qx fA k).isSome
 | []=>rfl
 |p::r=>by
  rw[bt]
  by_cases e:p.1=k
  ·simp only[xT e,decide_eq_true e,Bool.true_or,Option.isSome_some]
  ·rw[xS e,decide_eq_false e,Bool.false_or];exact Ik k r
theorem B5(fA:List (κ×V))(k:κ)(v:V):(putK fA k v).length<=fA.length+1:=by
 unfold putK
 split
 ·rw[ax];omega
 ·rw[aO,af,ak];omega
theorem wm.uz{o:Option V}{u:Option Value}(r:wm o u):o.isSome=u.isSome:=by
 cases o with
 |none=>cases u with
  |none=>rfl
  |some _=>exact(show False from r).elim
 |some _=>cases u with
  |none=>exact(show False from r).elim
  |some _=>rfl
theorem KV.val{fA:List (κ×V)}{vs:List (κ×Value)}(r:KV fA vs)(k:κ):wm (qx fA k) (valueAt vs k):=by
 unfold KV at r
 induction r with
 |nil=>exact au
 | @cons p q ps qs h t ih=>
  obtain⟨h1,h2⟩:=h
  by_cases e:p.1=k
  ·have e':q.1=k:=h1.symm.trans e
   have b:valueAt (q::qs) k=some q.2:=by simp[valueAt,bj,e']
   rw[xT e,b];exact h2
  ·have e':¬q.1=k:=λz=>e (h1.trans z)
   have b:valueAt (q::qs) k=valueAt qs k:=by simp[valueAt,bj,e']
   rw[xS e,b];exact ih
theorem KV.any{fA:List (κ×V)}{vs:List (κ×Value)}(r:KV fA vs)(k:κ):(fA.any λkv=>decide (kv.1=k))=vs.any λkv=>decide (kv.1=k):=by
 unfold KV at r
 induction r with
 |nil=>rfl
 |cons h t ih=>rw[bt,bt,ih,h.1]
theorem KV.QE{fA:List (κ×V)}{vs:List (κ×Value)}(r:KV fA vs)(k:κ){y:V}{u:Value}(ry:RelV y u):
  KV (fA.map λkv=>if kv.1=k then(kv.1,y) else kv) (vs.map λkv=>if kv.1=k then(kv.1,u) else kv):=by
 unfold KV at r⊢
 induction r with
 |nil=>exact .nil
 | @cons p q ps qs h t ih=>
  rw[aq,aq]
  refine .cons ?_ ih
  obtain⟨h1,h2⟩:=h
  by_cases e:p.1=k
  ·rw[if_pos e,if_pos (h1.symm.trans e)];exact⟨h1,ry⟩
  ·rw[if_neg e,if_neg (λz=>e (h1.trans z))];exact⟨h1,h2⟩
theorem KV.put{fA:List (κ×V)}{vs:List (κ×Value)}(r:KV fA vs)(k:κ){y:V}{u:Value}(ry:RelV y u):KV (putK fA k y) (stored vs k u):=by
 unfold putK stored
 rw[r.any k]
 by_cases e:(vs.any λkv=>decide (kv.1=k))=true
 ·rw[if_pos e,if_pos e];exact r.QE k ry
 ·rw[if_neg e,if_neg e];exact Paired.snoc r ⟨rfl,ry⟩
theorem KV.drop{fA:List (κ×V)}{vs:List (κ×Value)}(r:KV fA vs)(k:κ):KV (Dj fA k) (without vs k):=by
 unfold KV at r⊢
 unfold Dj without
 induction r with
 |nil=>exact .nil
 | @cons p q ps qs h t ih=>
  obtain⟨h1,h2⟩:=h
  rw[List.filter_cons,List.filter_cons]
  by_cases e:p.1=k
  ·have a:¬decide (p.1≠k)=true:=by simp[e]
   have b:¬decide (q.1≠k)=true:=by simp[h1.symm.trans e]
   rw[if_neg a,if_neg b];exact ih
  ·have e':¬q.1=k:=λz=>e (h1.trans z)
   have a:decide (p.1≠k)=true:=by simp[e]
   have b:decide (q.1≠k)=true:=by simp[e']
   rw[if_pos a,if_pos b];exact .cons ⟨h1,h2⟩ ih
theorem KV.keys{fA:List (κ×V)}{vs:List (κ×Value)}(r:KV fA vs):fA.map (·.1)=vs.map (·.1):=by
 unfold KV at r
 induction r with
 |nil=>rfl
 |cons h t ih=>rw[aq,aq,ih,h.1]
theorem KV.length{fA:List (κ×V)}{vs:List (κ×Value)}(r:KV fA vs):fA.length=vs.length:=Paired.length r
theorem Mb(fA:List (κ×V))(k:κ):(Dj fA k).length<=fA.length:=bC _ _
end
theorem Fi{P:Program}{w:World}{k:Key}{u:Value}(r:RelV (kV k) u):(jL P w).is k u=true:=by
 cases k with
 |inl i=>obtain⟨t,e⟩:=(show∃t,u=Value.int i t from r);subst e;exact HE P w i t
 |inr x=>obtain⟨t,e⟩:=(show∃t,u=Value.str x t from r);subst e;exact HF P w x t
theorem Fg{P:Program}{w:World}:∀{ks:List Key} {us:List Value},Vals (ks.map kV) us->ItemsAre (jL P w) ks us
 | [],_,r=>by rw[av]at r;cases r;exact .nil
 |k::ks,_,r=>by
  rw[aq]at r
  cases r with
  |cons h t=>exact .cons (Fi h) (Fg t)
noncomputable abbrev KT (H:Hp):List (List Key×V)->List (List Key×Addr×Value)->Prop:=Paired λp q=>p.1=q.1/\H q.2.1=some (.tup (p.1.map kV))/\RelV p.2 q.2.2
theorem KT.val{H:Hp}{fA:List (List Key×V)}{xs:List (List Key×Addr×Value)}(r:KT H fA xs)(k:List Key):wm (qx fA k) ((atKey xs k).map (·.2)):=by
 induction r with
 |nil=>exact au
 | @cons p q ps qs h t ih=>
  obtain⟨h1,_,h2⟩:=h
  by_cases e:p.1=k
  ·have e':q.1=k:=h1.symm.trans e
   have b:atKey (q::qs) k=some q.2:=by simp[atKey,bj,e']
   rw[xT e,b];exact h2
  ·have e':¬q.1=k:=λz=>e (h1.trans z)
   have b:atKey (q::qs) k=atKey qs k:=by simp[atKey,bj,e']
   rw[xS e,b];exact ih
theorem KT.QE{H:Hp}{fA:List (List Key×V)}{xs:List (List Key×Addr×Value)}(r:KT H fA xs)(k:List Key){y:V}{u:Value}(ry:RelV y u):
  KT H (fA.map λkv=>if kv.1=k then(kv.1,y) else kv) (xs.map (putAt k u)):=by
 induction r with
 |nil=>exact .nil
 | @cons p q ps qs h t ih=>
  rw[aq,aq]
  refine .cons ?_ ih
  obtain⟨h1,h2,h3⟩:=h
  unfold putAt
  by_cases e:p.1=k
  ·rw[if_pos e,if_pos (h1.symm.trans e)];exact⟨h1,h2,ry⟩
  ·rw[if_neg e,if_neg (λz=>e (h1.trans z))];exact⟨h1,h2,h3⟩
theorem KT.put{H:Hp}{fA:List (List Key×V)}{xs:List (List Key×Addr×Value)}(r:KT H fA xs)(k:List Key){b:Addr}{y:V}{u:Value}(hb:H b=some (.tup (k.map kV)))(ry:RelV y u):
  KT H (putK fA k y) (storedH xs k b u):=by
 have e:(fA.any λkv=>decide (kv.1=k))=(atKey xs k).isSome:=by
  rw[Ik,(r.val k).uz,dt]
 unfold putK storedH
 rw[e]
 by_cases q:(atKey xs k).isSome=true
 ·rw[if_pos q,if_pos q];exact r.QE k ry
 ·rw[if_neg q,if_neg q];exact Paired.snoc r ⟨rfl,hb,ry⟩
theorem KT.keeps{H H':Hp}{fA:List (List Key×V)}{xs:List (List Key×Addr×Value)}(r:KT H fA xs)(ht:∀b ys,H b=some (.tup ys)->H' b=some (.tup ys)):KT H' fA xs:=
 Paired.P2 r λ_ _ z=>⟨z.1,ht _ _ z.2.1,z.2.2⟩
section
variable{P:Program}{w:World}{H:Hp}{h:Heap}{a:Addr}
theorem O4{u:HO}(ok:v7 P w H h)(e:Rd H a u):iT P w H h a u:=e.ok ok
theorem Di{fA:List (Key×V)}(ok:v7 P w H h)(e:Rd H a (.dK fA)):fA.length<=sizeLine/\(a==sysModules)=false/\∃vs,KV fA vs/\h.DictOf (jL P w) a vs:=
 show iT P w H h a (.dK fA) from O4 ok e
theorem Ma{fA:List (Key×V)}(ok:v7 P w H h)(e:H a=some (.dK fA)):fA.length<=sizeLine/\(a==sysModules)=false/\∃vs,KV fA vs/\h.DictOf (jL P w) a vs:=Di ok (.inl e)
theorem DE{ks:List Key}(ok:v7 P w H h)(e:H a=some (.tup (ks.map kV))):(tupleKind (jL P w)).is h ks a:=by
 obtain⟨_,its,r,o,h1,h2,n,h3⟩:=(show iT P w H h a (.tup (ks.map kV)) from ok a _ e)
 exact⟨o,its.toArray,n,h1,h2,h3,by simpa using Fg r⟩
theorem E5{fA:List (List Key×V)}(ok:v7 P w H h)(e:Rd H a (.dT fA)):fA.length<=sizeLine/\(a==sysModules)=false/\
  ∃xs,KT H fA xs/\h.DictOfH (tupleKind (jL P w)) a xs:=by
 obtain⟨z,y,xs,r,o,es,ep,h1,h2,h3,h4,h5⟩:=(show iT P w H h a (.dT fA) from O4 ok e)
 refine⟨z,y,xs,r,o,es,ep,h1,h2,h3,h4,λx hx=> ?_,h5⟩
 have all:∀{l:List (List Key×V)} {m:List (List Key×Addr×Value)},KT H l m->∀x∈m,(tupleKind (jL P w)).is h x.1 x.2.1:=by
  intro l m q
  induction q with
  |nil=>intro x hx;exact nomatch hx
  | @cons p q ps qs hq t ih=>
   intro x hx
   rcases List.mem_cons.mp hx with e|hx
   ·subst e
    exact DE ok (by rw[←hq.1];exact hq.2.1)
   ·exact ih x hx
 exact all r x hx
theorem Rt{fA:List (List Key×V)}(ok:v7 P w H h)(e:H a=some (.dT fA)):fA.length<=sizeLine/\(a==sysModules)=false/\
  ∃xs,KT H fA xs/\h.DictOfH (tupleKind (jL P w)) a xs:=E5 ok (.inl e)
end
noncomputable def Ee (H:Hp) (a:Addr) (y:V) (r:Option V):Prop:=
 (∃fA k,Rd H a (.dK fA)/\y=kV k/\r=qx fA k)∨∃fA k b,Rd H a (.dT fA)/\y= .ref b/\H b=some (.tup (k.map kV))/\r=qx fA k
noncomputable def Nr (H:Hp) (a:Addr) (y v:V) (H':Hp):Prop:=
 (∃fA k,H a=some (.dK fA)/\y=kV k/\fA.length<sizeLine/\H'=upd H a (.dK (putK fA k v)))∨
 ∃fA k b,H a=some (.dT fA)/\y= .ref b/\H b=some (.tup (k.map kV))/\fA.length<sizeLine/\H'=upd H a (.dT (putK fA k v))
theorem Ee.k{H:Hp}{a:Addr}{fA:List (Key×V)}{k:Key}(e:H a=some (.dK fA)):Ee H a (kV k) (qx fA k):= .inl ⟨fA,k,.inl e,rfl,rfl⟩
theorem Nr.k{H:Hp}{a:Addr}{fA:List (Key×V)}{k:Key}{v:V}(e:H a=some (.dK fA))(hl:fA.length<sizeLine):Nr H a (kV k) v (upd H a (.dK (putK fA k v))):= .inl ⟨fA,k,e,rfl,hl,rfl⟩
section
variable{X:Cx}{pins:List (Addr×Obj)}{σ:St}{H:Hp}{s:Shared}{a:Addr}{y v:V}{u r:Value}{o:Option V}{A:Around}{E:Value->Shared->Prop}
theorem Inv.big(I:Inv X pins σ H s):sysModules<s.heap.objs.size:=by
 have h:mainGlobals<s.heap.objs.size:=(I.mod.glob.keeps I.bk).lt
 exact Nat.lt_trans (by decide) h
theorem KQ{Q:Value->Shared->Prop}(hu:A.units+1<cLine)(I:Inv X pins σ H s)(g:Ee H a y (some v))(ry:RelV y u)(h:∀w' s',Inv X pins σ H s'->RelV v w'->Q w' s'):
  wpAny (model X.prog X.w) A (getItem (.ref a) u) Q E s:=by
 rcases g with ⟨fA,k,e,ey,l⟩|⟨fA,k,b,e,ey,eb,l⟩
 ·subst ey
  obtain⟨z,hd,vs,rel,dd⟩:=Di I.gw e
  obtain⟨w',hw,rw'⟩:=wm.some_of (v:=v) (o:=valueAt vs k) (by rw[l];exact rel.val k)
  exact wpAny_getItem_of (Fi ry) dd.mapOf hw (h w' _ (I.tok _) rw')
 ·subst ey
  cases (show u=Value.ref b from ry)
  obtain⟨z,hd,xs,rel,dd⟩:=E5 I.gw e
  obtain⟨w',hw,rw'⟩:=wm.some_of (v:=v) (o:=(atKey xs k).map (·.2)) (by rw[l];exact rel.val k)
  obtain⟨p,hp,hp2⟩:=Option.map_eq_some_iff.mp hw
  refine wpAny_getItem_heap (tupleKind_room_in1 hu) (DE I.gw eb) dd hp ?_
  rw[hp2]
  exact h w' _ (I.tok _) rw'
theorem SI{Q:Value->Shared->Prop}(hu:A.units+1<cLine)(I:Inv X pins σ H s)(g:Ee H a y o)(ry:RelV y u)(h:∀s',Inv X pins σ H s'->Q (.bool o.isSome) s'):
  wpAny (model X.prog X.w) A (compareOp .In u (.ref a)) Q E s:=by
 rcases g with ⟨fA,k,e,ey,l⟩|⟨fA,k,b,e,ey,eb,l⟩
 ·subst ey
  obtain⟨z,hd,vs,rel,dd⟩:=Di I.gw e
  refine wpAny_in_of (Fi ry) hd dd.mapOf ?_
  rw[←(rel.val k).uz,←l]
  exact h _ (I.tok _)
 ·subst ey
  cases (show u=Value.ref b from ry)
  obtain⟨z,hd,xs,rel,dd⟩:=E5 I.gw e
  refine wpAny_in_heap (tupleKind_room_in1 hu) (DE I.gw eb) hd dd ?_
  have q:=(rel.val k).uz
  rw[dt]at q
  rw[←q,←l]
  exact h _ (I.tok _)
theorem NL{Q:Value->Shared->Prop}(hu:A.units+1<cLine)(I:Inv X pins σ H s)(g:Ee H a y o)(ry:RelV y u)(h:∀s',Inv X pins σ H s'->Q (.bool (!o.isSome)) s'):
  wpAny (model X.prog X.w) A (compareOp .NotIn u (.ref a)) Q E s:=by
 rcases g with ⟨fA,k,e,ey,l⟩|⟨fA,k,b,e,ey,eb,l⟩
 ·subst ey
  obtain⟨z,hd,vs,rel,dd⟩:=Di I.gw e
  refine wpAny_notIn_of (Fi ry) hd dd.mapOf ?_
  rw[←(rel.val k).uz,←l]
  exact h _ (I.tok _)
 ·subst ey
  cases (show u=Value.ref b from ry)
  obtain⟨z,hd,xs,rel,dd⟩:=E5 I.gw e
  refine wpAny_notIn_heap (tupleKind_room_in1 hu) (DE I.gw eb) hd dd ?_
  have q:=(rel.val k).uz
  rw[dt]at q
  rw[←q,←l]
  exact h _ (I.tok _)
theorem FN{h':Heap}{t':Nat}{ob:HO}(I:Inv X pins σ H s)(mu:QX (H a))(hs:Heap.SameBut a s.heap h')(he:∃q,h'.get? a=some q)(new:iT X.prog X.w (upd H a ob) h' a ob):
  Inv X pins σ (upd H a ob) {s with heap:=h',toks:=t'}:=
 I.write (x:=a) (e:=a) mu (.inl rfl) (λb q hb z=>(hs.2 b hb).trans z) he new
theorem L_{P:Program}{w:World}{H':Hp}{h':Heap}{fA:List (Key×V)}{vs:List (Key×Value)}(z:fA.length<=sizeLine)(hd:(a==sysModules)=false)(rel:KV fA vs)(dd:h'.DictOf (jL P w) a vs):
  iT P w H' h' a (.dK fA):=⟨z,hd,vs,rel,dd⟩
theorem KR{H':Hp}{Q:Unit->Shared->Prop}(hu:A.units+1<cLine)(I:Inv X pins σ H s)(g:Nr H a y v H')(ry:RelV y u)(rv:RelV v r)(h:∀s',Inv X pins σ H' s'->Q () s'):
  wpAny (model X.prog X.w) A (setItem (.ref a) u r) Q E s:=by
 rcases g with ⟨fA,k,e,ey,l,eH⟩|⟨fA,k,b,e,ey,eb,l,eH⟩
 ·subst ey eH
  obtain⟨z,hd,vs,rel,dd⟩:=Ma I.gw e
  have hz:vs.length<=sizeLine:=by rw[←rel.length];exact z
  have hl:(putK fA k v).length<=sizeLine:=by have:=B5 fA k v;omega
  refine wpAny_setItem_pairs (hsz:=hz) (Fi ry) dd λh' dd' hs=>h _ ?_
  have he:∃q,h'.get? a=some q:=let ⟨q,_,_,hq,_⟩:=dd';⟨q,hq⟩
  exact FN I (by rw[e];exact au) hs he (L_ hl hd (rel.put k rv) dd')
 ·subst ey eH
  cases (show u=Value.ref b from ry)
  obtain⟨z,hd,xs,rel,dd⟩:=Rt I.gw e
  have hz:xs.length<=sizeLine:=by rw[←Paired.length rel];exact z
  have hl:(putK fA k v).length<=sizeLine:=by have:=B5 fA k v;omega
  refine wpAny_setItem_heap (hsz:=hz) (tupleKind_room_in1 hu) (DE I.gw eb) dd λh' dd' hs=>h _ ?_
  obtain⟨q,es,ep,hq,h2,h3,h4,_,h5⟩:=dd'
  refine FN I (by rw[e];exact au) hs ⟨q,hq⟩ ⟨hl,hd,_,(rel.put k eb rv).keeps λc ys ec=> ?_,q,es,ep,hq,h2,h3,h4,h5⟩
  rw[dO (RM ec e (λz=>nomatch z))]
  exact ec
end
section
variable{X:Cx}{pins:List (Addr×Obj)}{σ:St}{H:Hp}{s:Shared}{a:Addr}{fA:List (Key×V)}{k:Key}{u:Value}{A:Around}{E:Value->Shared->Prop}
theorem Rr{v:V}{more:List Value}{Q:Value->Shared->Prop}(I:Inv X pins σ H s)(e:H a=some (.dK fA))(ry:RelV (kV k) u)(l:qx fA k=some v)(hm:more=[]∨∃x,more=[x])
  (h:∀w' s',Inv X pins σ (upd H a (.dK (Dj fA k))) s'->RelV v w'->Q w' s'):wpAny (model X.prog X.w) A (call (.builtin "dict.pop") (.ref a::u::more)) Q E s:=by
 obtain⟨z,hd,vs,rel,dd⟩:=Ma I.gw e
 obtain⟨w',hw,rw'⟩:=wm.some_of (v:=v) (o:=valueAt vs k) (by rw[←l];exact rel.val k)
 have hp:(keyPart u).isSome=true:=by
  cases k with
  |inl i=>obtain⟨t,q⟩:=(show∃t,u=Value.int i t from ry);subst q;rfl
  |inr x=>obtain⟨t,q⟩:=(show∃t,u=Value.str x t from ry);subst q;rfl
 have ha:argsOk "dict.pop" ⟨.ref a::u::more,[]⟩:=by
  rcases hm with q|⟨x,q⟩
  ·subst q;exact PySem.F.args_dict_pop_2 _ _
  ·subst q;exact PySem.F.args_dict_pop_3 _ _ _
 refine call_meetsIn PySem.F.slot_dict_pop dd.typeIs PySem.F.entry_dict_pop ha (meets_dict_pop_there (jL X.prog X.w) a (Fi ry) more hm hp)
  ⟨vs,w',dd,by rw[←rel.length];exact z,hw,λh' dd' hs=>h w' _ ?_ rw'⟩
 have he:∃q,h'.get? a=some q:=let ⟨q,_,_,hq,_⟩:=dd';⟨q,hq⟩
 exact FN I (by rw[e];exact au) hs he (L_ (aA (Mb fA k) z) hd (rel.drop k) dd')
theorem Rq{Q:Value->Shared->Prop}(I:Inv X pins σ H s)(e:Rd H a (.dK fA))(h:∀t s',Inv X pins σ H s'->Q (.int fA.length t) s'):wpAny (model X.prog X.w) A (call (.builtin "len") [.ref a]) Q E s:=by
 obtain⟨z,hd,vs,rel,dd⟩:=Di I.gw e
 refine call_len_dict hd dd (by rw[←rel.length];rw[sizeLine_eq]at z;omega) ?_
 rw[←rel.length]
 exact h _ _ (I.tok _)
end
noncomputable def O7 (i:Expr):Prop:=∀ov iv,subscripted i false ov iv=operate [ov,iv] (getItem ov iv)
theorem OK{prog:Program}{w:World}{A:Around}{E:Value->Shared->Prop}{s:Shared}{env:Env}{value slice:Expr}{pos:Pos}{T id:String}{Q:Value->Shared->Prop}
  (hl:typeLookup (.type T) "__getitem__"=pure (some (.builtin id))) (hs:O7 slice)
  (h:wpAny (model prog w) A (eval value env) (λo s₁=>wpAny (model prog w) A (eval slice env) (λi s₂=>s₂.TypeIs o T/\wpAny (model prog w) A (getItem o i) Q E s₂) E s₁) E s):
  wpAny (model prog w) A (eval (.Subscript value slice pos) env) Q E s:=by
 refine Subscript_ (wpAny_mono h (λo s₁ h₁=>wpAny_mono h₁ (λi s₂ h₂=> ?_) λ_ _ x=>x) λ_ _ x=>x)
 obtain⟨hT,h₂⟩:=h₂
 unfold subscriptTail
 refine wpAny_bind ?_
 rw[getitemInPython_of_ne hT.not_modules]
 refine wpAny_bind (wpAny_specialOf hT hl ?_)
 have fin:wpAny (model prog w) A (subscripted slice false o i) (λr s₃=>wpAny (model prog w) A (letTemporaryGo value o r>>=λ_=>pure r) Q E s₃) E s₂:=by
  rw[hs o i]
  exact wpAny_operating (wpAny_mono h₂ (λr s₃ h₃=>wpAny_bind (wpAny_letTemporaryGo (wpAny_pure h₃))) λ_ _ x=>x)
 first
  |exact wpAny_pure (wpAny_bind fin)
  |exact wpAny_bind (wpAny_pure (wpAny_bind fin))
  |exact wpAny_bind fin
theorem Hf{X:Cx}{pins:List (Addr×Obj)}{σ:St}{H:Hp}{s:Shared}{a:Addr}{y:V}{o:Option V}(I:Inv X pins σ H s)(g:Ee H a y o):s.TypeIs (.ref a) "dict":=by
 rcases g with ⟨fA,k,e,_,_⟩|⟨fA,k,b,e,_,_,_⟩
 ·obtain⟨_,_,vs,_,dd⟩:=Di I.gw e
  exact dd.typeIs
 ·obtain⟨_,_,xs,_,dd⟩:=E5 I.gw e
  exact dd.typeIs
section
variable{X:Cx}{o i e value:Expr}{pos pos' tpos:Pos}{td ty tv:TE}
end
theorem L9{P:Program}{w:World}{H:Hp}(h:Heap)(hb:sysModules<h.objs.size):iT P w H (h.push {cls:= .type "dict",data:= .dict #[]}) h.objs.size (.dK []):=
 ⟨bw _,beq_eq_false_iff_ne.mpr (aj (aS hb)),[],.nil,Heap.DictOf.new h⟩
noncomputable def D6:TE:=λ_ H Q=>∀p,H p=none->Q (.ref p) (upd H p (.dK []))
section
variable{X:Cx}{pos:Pos}
theorem MO:PE X (.Dict [] [] pos) D6:=λpins s σ H Q I h=>
 wpAny_Dict_empty ⟨.ref s.heap.objs.size,_,I.laid (a:=s.heap.objs.size) (o:= .dK []) (t':=s.toks) (λ_ _ q=>Heap.get?_push_of_some _ q) (aF _) (L9 s.heap I.big),rfl,h _ (I.gw.fresh (aF _))⟩
end
structure M1(X:Cx)(o:Expr)(m:Str)(apos:Pos)(e:Expr)(cpos:Pos):Prop where
 base:attributeBase o m X.env (eval o X.env)=eval o X.env
 TF:((backTo cpos (starEach [e] X.env)).all (λx=> !x.1)&&(backToKw cpos (keywordEach [] X.env)).all (λx=>x.1.isSome)
  &&decide (([e]:List Expr).length+([]:List Keyword).length+(if ([]:List Keyword).isEmpty then 0 else 1)<30))=true
 line:(apos.endLine==cpos.line)=true
 trees:backTo cpos (starEach [e] X.env)=[(false,eval e X.env)]
structure M2(X:Cx)(o:Expr)(m:Str)(apos:Pos)(e f:Expr)(cpos:Pos):Prop where
 base:attributeBase o m X.env (eval o X.env)=eval o X.env
 TF:((backTo cpos (starEach [e,f] X.env)).all (λx=> !x.1)&&(backToKw cpos (keywordEach [] X.env)).all (λx=>x.1.isSome)
  &&decide (([e,f]:List Expr).length+([]:List Keyword).length+(if ([]:List Keyword).isEmpty then 0 else 1)<30))=true
 line:(apos.endLine==cpos.line)=true
 trees:backTo cpos (starEach [e,f] X.env)=[(false,eval e X.env),(false,eval f X.env)]
noncomputable def Tq (H:Hp) (a:Addr):Prop:=(∃fA,Rd H a (.dK fA))∨∃fA,Rd H a (.dT fA)
theorem PK{X:Cx}{pins:List (Addr×Obj)}{σ:St}{H:Hp}{s:Shared}{a:Addr}(I:Inv X pins σ H s)(d:Tq H a):
  s.TypeIs (.ref a) "dict"/\(∀b,Value.ref a= .ref b->∃ob,s.heap.get? b=some ob/\ob.dict=none)/\(a==sysModules)=false:=by
 rcases d with ⟨fA,e⟩|⟨fA,e⟩
 ·obtain⟨_,hd,vs,_,dd⟩:=Di I.gw e
  refine⟨dd.typeIs,λb q=> ?_,hd⟩
  cases q
  obtain⟨ob,_,_,h1,h2,_⟩:=dd
  exact⟨ob,h1,h2.2.1⟩
 ·obtain⟨_,hd,xs,_,dd⟩:=E5 I.gw e
  refine⟨dd.typeIs,λb q=> ?_,hd⟩
  cases q
  obtain⟨ob,_,_,h1,h2,_⟩:=dd
  exact⟨ob,h1,h2.2.1⟩
section
variable{X:Cx}{pins:List (Addr×Obj)}{σ:St}{H:Hp}{s:Shared}{a:Addr}{y d:V}{u r:Value}{o:Option V}{A:Around}{E:Value->Shared->Prop}
end
section
variable{X:Cx}{o e f:Expr}{apos cpos:Pos}{td ty tx:TE}
end
section
variable{X:Cx}{pins:List (Addr×Obj)}{σ:St}{H:Hp}{s:Shared}{a:Addr}{fA:List (Key×V)}{A:Around}{E:Value->Shared->Prop}
end
section
variable{X:Cx}{pins:List (Addr×Obj)}{σ:St}{H:Hp}{s:Shared}{a:Addr}{y:V}{u:Value}{A:Around}{E:Value->Shared->Prop}
end
end L2
namespace Att
open PySem PySem.W PySem.Calls PyProof.Rows
theorem Cv{P:Params}{h:Heap}:∀(ns:List Int) (vs:List Value),WellAll P h vs (ns.map WData.int)->IntsAre vs ns:=by
 intro ns
 induction ns with
 |nil=>
  intro vs w
  rw[av]at w
  cases w
  exact .nil
 |cons n ns ih=>
  intro vs w
  rw[aq]at w
  cases w with
  |cons a b=>
   cases a
   exact .cons _ _ (ih _ b)
theorem Lq{l:OpenLaw}{n:Nat}(hn:l.most=some n){P:Params}{h:Heap}{args:List WData}{vals:List Value}
  (hpre:l.row.toRowW.claim.pre args=true) (hwl:WellAll P h vals args):
  ∃a vs ns,vals=[Value.ref a]/\args=[WData.list (ns.map WData.int)]/\h.get? a=some {cls:= .type "list",data:= .seq vs.toArray}/\IntsAre vs ns/\ns.length<=n:=by
 have hsh:WShape.hasAll [] args [.list .int]=true:=(pre_splitW hpre).1
 have hc:l.pre.holds [] {args:=args}=true:=(pre_splitW hpre).2
 obtain⟨d,r,rfl,h1,h2⟩:=hasAllW_cons hsh
 obtain rfl:=hasAllW_nil h2
 obtain⟨xs,rfl,h3⟩:=hasW_list h1
 obtain⟨ns,rfl⟩:=items_int h3
 have hlen:ns.length<=n:=by
  unfold OpenLaw.pre at hc
  have h4:(WTm.not (.lt (.lit (.int (n:Int))) (.len (.arg 0)))).holds [] {args:=[.list (ns.map .int)]}=true:=by
   have h4:=(holds_andW hc).1
   rw[hn]at h4
   exact h4
  have h5:=condW_of h4 (w_not (w_lt w_lit (w_len_list (w_arg rfl))))
  rw[ax]at h5
  refine Nat.le_of_not_lt λq=> ?_
  have q':(n:Int)<((ns.length:Nat):Int):=by omega
  first
   |(rw[decide_eq_true q']at h5;exact absurd h5 (by decide))
   |(simp at h5;omega)
 cases hwl with
 |cons w1 w2=>
  cases w2
  cases w1 with
  |list ho hall=>exact⟨_,_,ns,rfl,rfl,ho,Cv ns _ hall,hlen⟩
theorem Lm(l:OpenLaw)(args:List WData):l.row.toRowW.claim.post args (.bool true) args=true:=
 postW_of (r:=l.row.toRowW) (X:=(true==true))
  (show WShape.has [] (.bool true) .bool=true by first|rfl|decide|simp[WShape.has,WShape.arms,WShape.armsAll])
  (show(WTm.eq .res (.lit (.bool true))).value [] {args:=args,res:=some (.bool true),after:=args}=some (.bool (true==true)) from w_eq_bool (w_res rfl) w_lit) rfl
theorem G4{l:OpenLaw}{n:Nat}{q:Program}{loose:List Str}{XP:(Str->Option Value)->Heap->Prop}{YP:World->Heap->Prop}{d:DefRec}
  (hn:l.most=some n) (hdf:d.params.defaults=[])
  (call:∀(w:World) (s₀ s₁:Shared) (mg mb:Str->Option Value) (fa:Addr) (o:Obj) (pm cd doc:Value) (a:Addr) (vs:List Value) (ns:List Int),
   Ground q loose [] XP w s₀ mg mb s₁.heap->YP w s₁.heap->
   s₁.heap.get? fa=some o->o.data= .func (docDef d.name d.params d.body d.scope pm cd doc)->s₁.heap.CodeRec cd d.name->mg d.name=some (.ref fa)->
   s₁.heap.get? a=some {cls:= .type "list",data:= .seq vs.toArray}->IntsAre vs ns->ns.length<=n->s₁.gens= #[]->
   codeAny (model l.prog w) callerA (.call (.ref fa) ⟨[.ref a],[]⟩) (λr s'=>r= .ok (.ret (.bool true))/\OldK s₁.heap s'.heap/\s'.os=s₁.os/\AllBare s'.gens) s₁):
  WalkO q loose XP YP l.row.toRowW d [] (λf vs=>PySem.call f vs):=by
 intro w s₀ s₁ mg mb G Y fa o pm cd doc dV kV ho hd hcd hD hmg hg args vals as hpre hlay hrd hwl hlo
 obtain rfl:dV= .none:=Dflts.none hD hdf
 obtain rfl:kV= .none:=Dflts.noKw hD
 obtain⟨a,vs,ns,rfl,rfl,hobj,hints,hlen⟩:=Lq hn hpre hwl
 refine enter_call (codeAny_mono (call w s₀ s₁ mg mb fa o pm cd doc a vs ns G Y ho (fd_plain hd) hcd hmg hobj hints hlen hg) λr s' hq=> ?_)
 obtain⟨rfl,h2,h3,h4⟩:=hq
 exact⟨.inl ⟨.bool true,.bool true,[],rfl,λ_=>rfl,.bool true,Lm l _,λ_=>⟨cZ,λ_ hm=>(nomatch hm)⟩⟩,h2,h3,h4⟩
section
variable{prog:Program}{w:World}{A:Around}{E:Value->Shared->Prop}{s:Shared}{K:Frag}
noncomputable def ledger (h:Heap) (L d:Addr):List (Addr×Obj):=(List.range h.objs.size).filterMap λa=>if a=L∨a=d then none else(h.get? a).map λo=>(a,o)
end
end Att
namespace L2
open PySem PySem.Spec PyProof.Rows
theorem BF:∀{vs:List Value} {ns:List Int},IntsAre vs ns->Vals (ns.map V.int) vs
 |_,_,.nil=> .nil
 |_,_,.cons n t h=> .cons ⟨t,rfl⟩ (BF h)
noncomputable def O8 (H:Hp):Prop:=∀b,H b=none∨∃o xs,H b=some (.Fb o (.lst xs))
theorem My{P:Program}{w:World}{K:PySem.W.Frag}{mg mb:Str->Option Value}{CX:Ly}{ca:Bool}{k:Nat}{fa a:Addr}{fd:FuncData}{x:Str}{sp:Sp}{s₁:Shared}{vs:List Value}{ns:List Int}
  (KX:K.In s₁.heap) (hns:s₁.heap.Ns mainGlobals mg) (hb:s₁.heap.Ns builtinsNs mb) (hbb:∀x:Str,x≠"__name__"->mb x=bootBuiltins x) (hlim:s₁.heap.NoLimit) (hg:s₁.gens= #[])
  (ha:s₁.heap.get? a=some {cls:= .type "list",data:= .seq vs.toArray}) (hi:IntsAre vs ns) (hl:ns.length<=sizeLine) (hr:lP ca k callerA)
  (F:∀base:Heap,K.In base->base.Ns mainGlobals mg->e_ P w K mg base CX ca k fa fd [x] sp) (hbind:∀(s:Shared) (u:Value),BindsTo s fd ⟨[u],[]⟩ [(x,u)])
  (hsp:∀H:Hp,O8 H->iC K H a (ns.map V.int)->sp [.ref a] H (λv _=>v= .bl true) λ_ _ _=>False)
  (hCX:∀H e s',CX [] H s₁ (λ_ _ _=>False) e s'->False):
  codeAny (model P w) callerA (.call (.ref fa) ⟨[.ref a],[]⟩) (λr s'=>r= .ok (.ret (.bool true))/\OldK s₁.heap s'.heap/\s'.os=s₁.os/\AllBare s'.gens) s₁:=by
 have rv:=BF hi
 have lenV:=hi.length
 have core:∀H:Hp,O8 H->iC K H a (ns.map V.int)->v7 P w H s₁.heap->(∀b,H b≠none->b=a)->(H a≠none->K.lookup a=none)->
   codeAny (model P w) callerA (.call (.ref fa) ⟨[.ref a],[]⟩) (λr s'=>r= .ok (.ret (.bool true))/\OldK s₁.heap s'.heap/\s'.os=s₁.os/\AllBare s'.gens) s₁:=by
  intro H hO hS gw hA hK
  have base_of:∀{b:Addr} {o:Obj},s₁.heap.get? b=some o->H b=none->(FV s₁.heap H).get? b=some o:=λe n=>Mm e n
  have noA:∀{b:Addr} {o:Obj} {es:Array DictEntry} {ep:Nat},s₁.heap.get? b=some o->o.data= .dict es ep->H b=none:=λ{b o es ep} e d=>by
   cases q:H b with
   |none=>rfl
   |some u=>
    have e':b=a:=hA b (by rw[q];simp)
    subst e'
    rw[ha]at e;cases e
    have d':Data.seq vs.toArray _=Data.dict es ep:=d
    cases d'
  have nsK:∀{b:Addr} {m:Str->Option Value},s₁.heap.Ns b m->(FV s₁.heap H).Ns b m:=λ{b m} ⟨o,es,ep,e,d,r⟩=>⟨o,es,ep,base_of e (noA e d),d,r⟩
  have hKb:K.In (FV s₁.heap H):=λb o e=>base_of (KX b o e) (by
   cases q:H b with
   |none=>rfl
   |some u=>
    have e':b=a:=hA b (by rw[q];simp)
    subst e'
    rw[hK (by rw[q];simp)]at e;cases e)
  have hM:Mod K mg (FV s₁.heap H):=⟨hKb,nsK hns,⟨mb,nsK hb,hbb⟩,let ⟨mc,h1,h2⟩:=hlim;⟨mc,nsK h1,h2⟩⟩
  have e0:Iw P w K mg (FV s₁.heap H) callerA [] s₁ H:=⟨rfl,hM,λb o e=>N_ e,Nat.le_of_eq (KZ _ _),trivial,λb hb=>absurd (show b∈([]:List Addr) from hb) (by simp),gw,.of_eq hg⟩
  refine codeAny_mono ((F _ hKb (nsK hns)).run callerA [] s₁ H ⟨[.ref a],[]⟩ [.ref a] [.ref a] _ _ hr e0 (hbind s₁ (.ref a)) (.cons rfl .nil) (hsp H hO hS)) λr s' h=> ?_
  cases r with
  |error e=>exact(hCX H e s' h).elim
  |ok fl=>
   cases fl with
   |next=>exact False.elim h
   |brk=>exact False.elim h
   |cont=>exact False.elim h
   |ret u=>
    obtain⟨v,H',os,bare,un,hok',r',q⟩:=h
    have q':v= .bl true:=q
    subst q'
    obtain rfl:u=Value.bool true:=r'
    refine⟨rfl,OldK.of_keep λb o e=> ?_,os,bare⟩
    cases q:H b with
    |none=>exact un.keep b o e q (by intro z;exact absurd (show b∈([]:List Addr) from z) (by simp)) (by simp)
    |some u=>
     rcases hO b with z|⟨ob,xs,z⟩
     ·rw[q]at z;cases z
     ·have z2:=un.v9 b ob _ z
      obtain⟨e1,_⟩:=gw b _ z
      obtain⟨e2,_⟩:=hok' b _ z2
      rw[e]at e1;cases e1
      exact e2
 cases hk:K.lookup a with
 |some o=>
  have e:=KX a o hk
  rw[ha]at e
  cases e
  refine core (λ_=>none) (λ_=> .inl rfl) (.inr ⟨_,vs.toArray,_,hk,rfl,rfl,rfl,by rw[aP,lenV];exact hl,by simpa using rv⟩) (λb u z=>by have z':(none:Option HO)=some u:=z;cases z') (λb z=>absurd rfl z) λz=>absurd rfl z
 |none=>
  refine core (λb=>if b=a then some (.Fb {cls:= .type "list",data:= .seq vs.toArray} (.lst (ns.map V.int))) else none) (λb=> ?_) (.inl (.inr ⟨{cls:= .type "list",data:= .seq vs.toArray},if_pos rfl⟩)) (λb u z=> ?_) (λb z=> ?_) λ_=>hk
  ·by_cases hb:b=a
   ·exact .inr ⟨_,_,if_pos hb⟩
   ·exact .inl (if_neg hb)
  ·by_cases hb:b=a
   ·have z':=(if_pos hb).symm.trans z
    cases z'
    subst hb
    exact⟨ha,by rw[ax];exact hl,vs,_,rv,ha⟩
   ·have z':=(if_neg hb).symm.trans z
    cases z'
  ·by_cases hb:b=a
   ·exact hb
   ·exact absurd (if_neg hb) z
end L2
namespace L2
open PySem PySem.Spec PyProof.Rows
theorem OP{l:PySem.W.OpenLaw}{n k:Nat}{q:Program}{loose:List Str}{XP:(Str->Option Value)->Heap->Prop}{YP:World->Heap->Prop}{d:DefRec}{K:Params->PySem.W.Frag}{CX:World->Ly}{ca:Bool}{sp:World->Sp}{x:Str}
  (hn:l.most=some n) (hn2:n<=sizeLine) (hdf:d.params.defaults=[]) (hr:lP ca k callerA)
  (hY:∀(w:World) (h:Heap),YP w h->(K w.params).In h)
  (F:∀(w:World) (mg:Str->Option Value) (fa:Addr) (h:Heap),(K w.params).In h->h.Ns mainGlobals mg->mg d.name=some (.ref fa)->
   ∃fd:FuncData,(∀(s:Shared) (u:Value),BindsTo s fd ⟨[u],[]⟩ [(x,u)])/\
    ∀base:Heap,(K w.params).In base->base.Ns mainGlobals mg->e_ l.prog w (K w.params) mg base (CX w) ca k fa fd [x] (sp w))
  (hsp:∀(w:World) (H:Hp) (a:Addr) (ns:List Int),ns.length<=n->O8 H->iC (K w.params) H a (ns.map V.int)->sp w [.ref a] H (λv _=>v= .bl true) λ_ _ _=>False)
  (hCX:∀(w:World) (H:Hp) (s:Shared) (e:Value) (s':Shared),CX w [] H s (λ_ _ _=>False) e s'->False):
  PySem.W.WalkO q loose XP YP l.row.toRowW d [] (λf vs=>PySem.call f vs):=by
 refine Att.G4 hn hdf λw s₀ s₁ mg mb fa o pm cd doc a vs ns G Y ho hd hcd hmg hobj hints hlen hg=> ?_
 have KX:=hY w _ Y
 obtain⟨fd,hb,hF⟩:=F w mg fa _ KX G.T.g hmg
 exact My KX G.T.g G.T.b G.T.builtins G.T.nolimit hg hobj hints (aA hlen hn2) hr hF hb (λH hO hS=>hsp w H a ns hlen hO hS) λH e s'=>hCX w H s₁ e s'
end L2
namespace L2
open PySem PySem.Spec PyProof.Rows
noncomputable def inClass (s:Stmt) (j:Nat):Stmt:=match s with
 | .ClassDef _ _ _ body _ _ _ _ _ _ _=>body.getD j (.Pass ⟨0,0,0,0⟩)
 |_=> .Pass ⟨0,0,0,0⟩
noncomputable def uT (s:Stmt):Arguments:=match s with
 | .FunctionDef _ a _ _ _ _ _ _ _ _=>a
 |_=>{posonlyargs:=[],args:=[],vararg:=none,kwonlyargs:=[],kw_defaults:=[],kwarg:=none,defaults:=[]}
noncomputable def sD (s:Stmt):List Stmt:=match s with
 | .FunctionDef _ _ b _ _ _ _ _ _ _=>b
 |_=>[]
noncomputable def dM (s:Stmt):Scope:=match s with
 | .FunctionDef _ _ _ _ _ _ sc _ _ _=>sc
 |_=>{kind:= .function,names:=[],isGenerator:=false,isCoroutine:=false}
noncomputable abbrev E0:XK:=λ_ _ _=>False
structure iS(K:PySem.W.Frag)(x qual:Str)(st:Stmt)(f:Addr)(fd:FuncData):Prop where
 ex:∃(oc:Value) (od:Option Addr) (kV doc pm:Value) (an:Option Addr) (cdv ct:Value) (osl:Array (Option Value)),
  fd=PySem.W.fnOf x qual (uT st) (sD st) (dM st) .none kV doc pm an cdv ct/\K.lookup f=some ⟨oc,od,.func fd,osl⟩/\PySem.W.codeIn K cdv qual=true
 kp:PySem.W.keepIn K (.ref f)=true
section
variable{P:Program}{w:World}{K:PySem.W.Frag}{mg:Str->Option Value}{base:Heap}
theorem iS.binds{x qual:Str}{st:Stmt}{f:Addr}{fd:FuncData}{ps:List Str}(F:iS K x qual st f fd)
  (h:∀(kV doc pm:Value) (an:Option Addr) (cdv ct:Value) (us:List Value),us.length=ps.length->bindArgs (PySem.W.fnOf x qual (uT st) (sD st) (dM st) .none kV doc pm an cdv ct) ⟨us,[]⟩=pure (ps.zip us)):Binds K fd ps []:=by
 obtain⟨oc,od,kV,doc,pm,an,cdv,ct,osl,rfl,lk,hcd⟩:=F.ex
 exact .all (h kV doc pm an cdv ct)
theorem PB{x qual:Str}{st:Stmt}{f:Addr}{oc:Value}{od an:Option Addr}{osl:Array (Option Value)}{kV doc pm cdv ct:Value}(l:K.lookup f=some ⟨oc,od,.func (PySem.W.fnOf x qual (uT st) (sD st) (dM st) .none kV doc pm an cdv ct),osl⟩)
  (c:PySem.W.codeIn K cdv qual=true) (k:PySem.W.keepIn K (.ref f)=true):iS K x qual st f (PySem.W.fnOf x qual (uT st) (sD st) (dM st) .none kV doc pm an cdv ct):=⟨⟨oc,od,kV,doc,pm,an,cdv,ct,osl,rfl,l,c⟩,k⟩
end
theorem yI{ca:Bool}{A:Around}{k:Nat}(hr:lP ca k A):A.units+1<cLine:=bI (Nat.add_le_add_left (by decide:1<=64) _) hr.units
section
variable{X:Cx}
end
noncomputable def dY (H H':Hp):Prop:=∀b o,H b=some o->H' b=some o
theorem dY.refl(H:Hp):dY H H:=λ_ _ h=>h
theorem dY.trans{H H1 H2:Hp}(a:dY H H1)(b:dY H1 H2):dY H H2:=λc o h=>b c o (a c o h)
theorem dY.free{H H':Hp}(e:dY H H'){l:Addr}(h:H' l=Option.none):H l=Option.none:=by
 cases q:H l with
 |none=>rfl
 |some o=>
  rw[e l o q]at h
  cases h
theorem dY.seq{K:PySem.W.Frag}{H H':Hp}{a:Addr}{xs:List V}(e:dY H H')(h:iC K H a xs):iC K H' a xs:=by
 rcases h with (h|⟨o,h⟩)|h
 ·exact .inl (.inl (e _ _ h))
 ·exact .inl (.inr ⟨o,e _ _ h⟩)
 ·exact .inr h
end L2
namespace L2
open PySem PySem.Spec PyProof.Rows
section
variable{X:Cx}
theorem KO:mF X (.builtin "len") (λxs H Q=>∃a fA,xs=[V.ref a]/\H a=some (.dK fA)/\Q (.int fA.length) H):=by
 intro pins s σ H xs us Q I r h
 obtain⟨a,fA,rfl,ha,q⟩:=h
 obtain⟨u,rfl,ru⟩:=vals1 r
 cases ru
 exact Rq I (.inl ha) λt s' I'=>⟨.int fA.length,H,I',⟨t,rfl⟩,q⟩
end
section
variable{κ:Type} [DecidableEq κ]
end
end L2
namespace L2
open PySem PySem.Spec PyProof.Rows
structure Nv(fs:List Addr)(H H':Hp)(h B:Heap):Prop where
 keep:∀b o,h.get? b=some o->H b=none->b∉fs->B.get? b=some o/\H' b=none
 fr:∀b∈fs,H' b=none
 there:∀b o,h.get? b=some o->b∈fs∨∃o',B.get? b=some o'
 xR:∀b xs,H b=some (.tup xs)->H' b=some (.tup xs)
 v9:∀b o u,H b=some (.Fb o u)->H' b=some (.Fb o u)
 xQ:∀b ps,H b=some (.Nq ps)->∃more,H' b=some (.Nq (ps++more))
noncomputable def Pb (fs:List Addr) (h h':Heap):Prop:=∀b o,h.get? b=some o->b∈fs->∃sl,h'.get? b=some {o with slots:=sl}
structure Nw(B:Heap)(l:List Env)(a:Addr)(h:Heap):Prop where
 stays:B.StaysIn h
 new:B.get? a=none
 v_:h.FunFrames B l
noncomputable def Pa (h:Heap) (a:Addr) (cls:Value):Prop:=∃oe vs a0,h.get? a=some oe/\oe.cls=cls/\oe.data= .fields vs/\vs[0]? =some a0/\vs[1]? =some .none
noncomputable abbrev QY:=Heap->Addr->Value->Heap->Prop
noncomputable def MX (fl:Value):QY:=λB a cls h=>∃a0,Heap.TracedAtW h B a cls a0 fl
noncomputable abbrev HM:QY:=MX .none
noncomputable abbrev Gk (L:Addr):QY:=MX (rawInt L)
noncomputable def O2 (L:Addr):QY:=λB a cls h=>Pa h a cls∨HM B a cls h∨Gk L B a cls h
noncomputable def gY (P:Program) (w:World):Ly:=λouter H s E e s'=>∃(a:Addr) (cls:Value) (H':Hp) (B:Heap),e= .ref a/\s'.os=s.os/\AllBare s'.gens/\Nw B outer a s'.heap/\HM B a cls s'.heap/\
 v7 P w H' B/\Nv (zu outer) H H' s.heap B/\Pb (zu outer) s.heap s'.heap/\E cls none H'
inductive yl (X:Cx) (E:St->XK) (ph:QY) (a:Addr) (cls:Value) (s':Shared):Prop
 |mk {pins:List (Addr×Obj)} {σ:St} {H H':Hp} {B:Heap} {s:Shared} (I:Inv X pins σ H s) (os:s'.os=s.os) (bare:AllBare s'.gens) (way:Nw B X.stack a s'.heap) (p:ph B a cls s'.heap)
   (gw:v7 X.prog X.w H' B) (rel:Nv (zu X.stack) H H' s.heap B) (sl:Pb (zu X.stack) s.heap s'.heap) (e:E σ cls none H'):yl X E ph a cls s'
noncomputable def Sj (X:Cx) (E:St->XK) (L:Addr):Value->Shared->Prop:=λe s'=>∃a cls,e= .ref a/\yl X E (O2 L) a cls s'
section
variable{l:List Env}{B h h1 h2:Heap}{P:Program}{w:World}{H:Hp}{fs:List Addr}
theorem Pb.up(sl:Pb (zu l) h h1)(ff:h1.FunFrames B l)(k:h1.UpToSlots h2):Pb (zu l) h h2:=λb o e hb=>by
 obtain⟨s1,q⟩:=sl b o e hb
 obtain⟨_,o1,q1,nf⟩:=ff.mem hb
 rw[q]at q1;cases q1
 obtain⟨s2,q2⟩:=k b _ q nf
 exact⟨s2,q2⟩
theorem v7.hide(ok:v7 P w H h)(hf:∀b∈fs,H b=none):v7 P w H (PySem.W.hideAll h fs):=λa o e=>
 (ok a o e).CG (λb u hb q=>cX _ q λhm=>by
  have z:=hf b hm
  rcases hb with rfl|hb
  ·rw[e]at z;cases z
  ·rw[hb]at z;cases z) (λ_ q=>q) λ_ _ q=>q
end
section
variable{X:Cx}{E:St->XK}{a L:Addr}{cls:Value}{s':Shared}{M:Model}{A:Around}{Q:Unit->Shared->Prop}{E':Value->Shared->Prop}
theorem yl.note(u:yl X E (O2 L) a cls s')(hA:A.frames=X.A.frames)(hst:X.stack=X.env::X.outer)(hf:X.env.frame=some L)
  (hQ:∀h',yl X E (Gk L) a cls {s' with heap:=h'}->Q () {s' with heap:=h'}):wpAny M A (noteFrame (.ref a) X.env) Q E' s':=by
 obtain⟨I,os,bare,⟨w1,w2,w3⟩,p,gw,rel,sl,e⟩:=u
 rename_i B s
 have hfr:A.frames=some (X.env::X.outer):=by rw[hA,I.ok.frames,hst]
 have go:∀h' a0,Heap.NotedW B (X.env::X.outer) a cls a0 (rawInt L) s'.heap h'->Q () {s' with heap:=h'}:=λh' a0 ⟨k1,k2,k3,k4⟩=>
  hQ h' ⟨I,os,bare,⟨k1,w2,hst▸k2⟩,⟨a0,k3⟩,gw,rel,sl.up w3 k4,e⟩
 have w3':s'.heap.FunFrames B (X.env::X.outer):=hst▸w3
 rcases p with ⟨oe,vs,a0,he,hc,hd,h0,h1⟩|⟨a0,p⟩|⟨a0,p⟩
 ·subst hc;unfold noteFrame;simp only[hf];refine wpAny_bind (wpAny_field he hd h1 ?_);rw[if_neg (by decide)]
  exact wpAny_entryW hfr w3' hf he w1 w2 hd (Array.getElem?_eq_some_iff.mp h1).1 h0 λh' N=>go h' a0 N
 ·exact wpAny_noteFrame_onW hfr w3' hf p w1 w2 λh' N=>go h' a0 N
 ·exact wpAny_noteFrame_againW hf p (hQ s'.heap ⟨I,os,bare,⟨w1,w2,w3⟩,⟨a0,p⟩,gw,rel,sl,e⟩)
theorem yl.SM{fl:Value}(u:yl X E (MX fl) a cls s')(hQ:∀h',yl X E HM a cls {s' with heap:=h'}->Q () {s' with heap:=h'}):wpAny M A (setFlight (.ref a) none) Q E' s':=by
 obtain⟨I,os,bare,⟨w1,w2,w3⟩,⟨a0,p⟩,gw,rel,sl,e⟩:=u
 exact wpAny_setFlight_noneW w1 w3 p λh' k1 k2 k3 k4=>hQ h' ⟨I,os,bare,⟨k1,w2,k2⟩,⟨a0,k3⟩,gw,rel,sl.up w3 λb o hb hn=>⟨o.slots,k4 b o hb hn⟩,e⟩
theorem yl.hold(u:yl X E (Gk L) a cls s')(hQ:∀h',yl X E (Gk L) a cls {s' with heap:=h'}->Q () {s' with heap:=h'}):
  wpAny M A (do if (←field (.ref a) 1)== .none then unsupported "frame.own-activation:exception-without-traceback"
                setFlight (.ref a) (some L)) Q E' s':=by
 obtain⟨I,os,bare,⟨w1,w2,w3⟩,⟨a0,oe,vs,T,oT,ts,he,hcls,hd,h1,hnT,hTe,hT,hdT,h3⟩,gw,rel,sl,e⟩:=u
 rename_i B s
 have hsz:3<ts.size:=(Array.getElem?_eq_some_iff.mp h3).1
 have oth:∀b,b≠T->(s'.heap.update T (Obj.mapFields (·.setIfInBounds 3 (rawInt L)))).get? b=s'.heap.get? b:=λb hb=>Heap.get?_update_other _ _ (aj hb)
 have nr:∀b o,s'.heap.get? b=some o->(∀vs,o.data≠ .fields vs)->b≠T:=λb o hb hnf q=>by
  subst q;rw[hT]at hb;cases hb;exact hnf ts hdT
 refine wpAny_bind (wpAny_field he hd h1 ?_)
 rw[if_neg (show¬((Value.ref T==Value.none)=true) by simp)]
 unfold setFlight
 refine wpAny_bind (wpAny_field he hd h1 ?_)
 rw[if_pos (show(Value.ref T !=Value.none)=true by simp)]
 refine wpAny_setField hT hdT hsz (hQ _ ⟨I,os,bare,⟨λb o hb=>(oth b λq=>by subst q;rw[hnT]at hb;cases hb).trans (w1 b o hb),w2,
  w3.of_keeps λb o hb hn=>⟨o,(oth b (nr b o hb hn)).trans hb,rfl⟩⟩,⟨a0,oe,vs,T,_,_,(oth a (aj hTe)).trans he,hcls,hd,h1,hnT,hTe,
   Heap.get?_update_self _ hT (Obj.isFreed_of_fields (Obj.data_mapFields hdT _)),Obj.data_mapFields hdT _,by simp[hsz]⟩,gw,rel,sl.up w3 λb o hb hn=>⟨o.slots,(oth b (nr b o hb hn)).trans hb⟩,e⟩)
end
section
variable{X:Cx}{E:St->XK}{a L:Addr}{cls:Value}{s s':Shared}{pins:List (Addr×Obj)}{σ:St}{H H':Hp}{B:Heap}
theorem Sf(way:Nw B X.stack a s'.heap)(rel:Nv (zu X.stack) H H' s.heap B)(sl:Pb (zu X.stack) s.heap s'.heap):Un (zu X.stack) [] H H' s.heap s'.heap where
 keep:=λb o e n hb _=>way.stays b o (rel.keep b o e n hb).1
 slot:=λb o e _ hb _=>sl b o e hb
 free:=λb o e n _=>by
  by_cases hb:b∈zu X.stack
  ·exact rel.fr b hb
  ·exact(rel.keep b o e n hb).2
 there:=λb o e _=>by
  rcases rel.there b o e with hb|⟨o',q⟩
  ·obtain⟨_,o1,q1,_⟩:=way.v_.mem hb
   exact⟨o1,q1⟩
  ·exact⟨o',way.stays b o' q⟩
 xR:=rel.xR
 v9:=rel.v9
 xQ:=rel.xQ
theorem PJ(I:Inv X pins σ H s)(os:s'.os=s.os)(bare:AllBare s'.gens)(way:Nw B X.stack a s'.heap)(gw:v7 X.prog X.w H' B)(rel:Nv (zu X.stack) H H' s.heap B)
  (sl:Pb (zu X.stack) s.heap s'.heap):Inv X pins σ H' s':=
 I.OX (ch:=[]) os (Sf way rel sl) (gw.kept way.stays) bare λb hb=>absurd hb (by simp)
theorem Inv.adopt{o:HO}(I:Inv X pins σ H s)(hn:H a=none)(new:iT X.prog X.w (upd H a o) s.heap a o)(h0:X.s₀.heap.get? a=none)(hL:a≠X.env.locals)
  (hc:∀x c,X.env.cells.lookup x=some c->c≠a) (hp:∀p∈X.pn++pins,p.1≠a):Inv X pins σ (upd H a o) s where
 ok:=I.ok
 os:=I.os
 bare:=I.bare
 base:={
  keep:=I.base.keep
  slot:=I.base.slot
  free:=λb ob e n hb=>by
   rw[dO λz=>by subst z;rw[h0]at e;cases e]
   exact I.base.free b ob e n hb
  there:=I.base.there
  xR:=λb xs e=>by
   have q:=I.base.xR b xs e
   rw[dO (dD q hn)];exact q
  v9:=λb ob u e=>by
   have q:=I.base.v9 b ob u e
   rw[dO (dD q hn)];exact q
  xQ:=λb ps e=>by
   obtain⟨m,q⟩:=I.base.xQ b ps e
   exact⟨m,by rw[dO (dD q hn)];exact q⟩}
 loc:=I.loc
 cell:=I.cell
 free:=by rw[dO (aj hL)];exact I.free
 pb:=λx c e=>by rw[dO (hc x c e)];exact I.pb x c e
 pin:=λp m=>by
  obtain⟨p1,p2,p3⟩:=I.pin p m
  exact⟨p1,by rw[dO (hp p m)];exact p2,p3⟩
 gw:=λb u e=>by
  by_cases hb:b=a
  ·subst hb;rw[dH]at e;cases e;exact new
  ·rw[dO hb]at e
   exact(I.gw b u e).CG (λ_ _ _ q=>q) (λc q=>by rw[dO (dD q hn)];exact q) λc xs q=>by rw[dO (dD q hn)];exact q
 len:=I.len
theorem HN{fl:Value}{h:Heap}(p:MX fl B a cls h):∃o vs,h.get? a=some o/\o.cls=cls/\o.data= .fields vs:=by
 obtain⟨a0,oe,vs,T,oT,ts,he,hc,hd,_⟩:=p
 exact⟨oe,vs,he,hc.1,hd⟩
theorem yl.adopt{fl:Value}(u:yl X E (MX fl) a cls s')(hex:X.ex=[]):
  ∃pins σ H',Inv X pins σ (upd H' a (HO.exc cls)) s'/\Inv X pins σ H' s'/\E σ cls none H'/\H' a=none:=by
 obtain⟨I,os,bare,way,p,gw,rel,sl,e⟩:=u
 rename_i pins σ H H' B s
 have I':=PJ I os bare way gw rel sl
 obtain⟨o,vs,ho,hc,hd⟩:=HN p
 have hn:H' a=none:=by
  cases q:H' a with
  |none=>rfl
  |some u=>
   have z:=gw.lt q
   obtain⟨ob,hb⟩:∃ob,B.get? a=some ob:=by
    have t:=(gw a u q)
    cases q2:B.get? a with
    |some ob=>exact⟨ob,rfl⟩
    |none=>
     exfalso
     cases u with
     |lst xs=>obtain⟨_,_,_,_,e⟩:=t;rw[q2]at e;cases e
     |tup xs=>obtain⟨_,_,_,_,e,_⟩:=t;rw[q2]at e;cases e
     |dK fA=>obtain⟨_,_,_,_,o,_,_,e,_⟩:=t;rw[q2]at e;cases e
     |dT fA=>obtain⟨_,_,_,_,o,_,_,e,_⟩:=t;rw[q2]at e;cases e
     |set S n=>obtain⟨o,_,_,_,e,_⟩:=t;rw[q2]at e;cases e
     |ins C dx fs=>obtain⟨_,_,_,e,_⟩:=t;rw[q2]at e;cases e
     |own y=>obtain⟨_,e⟩:=t;rw[q2]at e;cases e
     |xd fs=>obtain⟨_,⟨_,_,_,e,_⟩,_⟩:=t;rw[q2]at e;cases e
     |R9 lo hi=>obtain⟨_,_,_,e⟩:=t;rw[q2]at e;cases e
     |Fb ob u=>obtain⟨e,_⟩:=t;rw[q2]at e;cases e
     |Nq ps=>have e:B.get? a=some _:=t;rw[q2]at e;cases e
     |met f y=>have e:B.get? a=some _:=t;rw[q2]at e;cases e
     |ext φ=>obtain⟨_,⟨_,e⟩,_⟩:=t;rw[q2]at e;cases e
     |exc c=>obtain⟨_,_,e,_⟩:=t;rw[q2]at e;cases e
   rw[way.new]at hb;cases hb
 have nfr:a∉zu X.stack:=λhm=>by
  obtain⟨_,o1,q1,nf⟩:=way.v_.mem hm
  rw[ho]at q1;cases q1;exact nf vs hd
 have h0:X.s₀.heap.get? a=none:=by
  cases q:X.s₀.heap.get? a with
  |none=>rfl
  |some o1=>
   obtain⟨o2,q2⟩:=I.base.there a o1 q (by rw[hex];simp)
   rcases rel.there a o2 q2 with z|⟨o3,z⟩
   ·exact absurd z nfr
   ·rw[way.new]at z;cases z
 refine⟨pins,σ,H',I'.adopt hn ⟨o,vs,ho,hc,hd⟩ h0 (λz=> ?_) (λx c ec z=> ?_) (λp' hp z=> ?_),I',e,hn⟩
 ·obtain⟨m,⟨ob,es,ep,q,qd,_⟩,_⟩:=I'.loc
  rw[←z,ho]at q;cases q;rw[hd]at qd;cases qd
 ·obtain⟨v,ob,q,qd⟩:=I'.cell x c ec
  rw[z,ho]at q;cases q;rw[hd]at qd;cases qd
 ·obtain⟨p1,p2,p3,p4,_⟩:=I.pin p' hp
  have z2:=(rel.keep p'.1 p'.2 p1 p2 λhm=>by
   rcases List.mem_cons.mp (I.D5 _ hm) with q|q
   ·exact p3 q
   ·exact p4 q).1
  rw[z,way.new]at z2;cases z2
theorem yl.out{E0:XK}(u:yl X (λ_=>E0) HM a cls s')(hst:X.stack=X.env::X.outer)(hf:X.env.frame=some X.env.locals)(hex:X.ex=[]):
  gY X.prog X.w X.outer X.H₀ X.s₀ E0 (.ref a) s':=by
 obtain⟨I,os,bare,way,p,gw,rel,sl,e⟩:=u
 rename_i pins σ H H' B s
 have Bj:∀b,b∉X.ex:=λb=>by rw[hex];simp
 have hfs:∀b,b∈zu X.stack↔b=X.env.locals∨b∈X.fs:=λb=>by
  rw[hst];unfold zu;rw[cD,hf];exact List.mem_cons
 have nloc:∀b o,X.s₀.heap.get? b=some o->b≠X.env.locals:=λb o q z=>by
  have:=Heap.lt_size q
  have h2:=I.ok.above
  rw[z]at this
  exact absurd (aQ this h2) (bu _)
 obtain⟨w1,w2,w3⟩:=way
 have w3':s'.heap.FunFrames B X.outer:=by rw[hst]at w3;exact w3.2.2
 refine⟨a,cls,H',B,rfl,os.trans I.os,bare,⟨w1,w2,w3'⟩,p,gw,⟨λb o q n hb=> ?_,λb hb=>rel.fr b ((hfs b).mpr (.inr hb)),λb o q=> ?_,λb xs q=>rel.xR b xs (I.base.xR b xs q),
  λb o u q=>rel.v9 b o u (I.base.v9 b o u q),λb ps q=> ?_⟩,λb o q hb=> ?_,e⟩
 ·refine rel.keep b o (I.base.keep b o q n hb (Bj b)) (I.base.free b o q n (Bj b)) λz=> ?_
  rcases (hfs b).mp z with z|z
  ·exact nloc b o q z
  ·exact hb z
 ·obtain⟨o1,q1⟩:=I.base.there b o q (Bj b)
  rcases rel.there b o1 q1 with z|z
  ·rcases (hfs b).mp z with z|z
   ·exact absurd z (nloc b o q)
   ·exact .inl z
  ·exact .inr z
 ·obtain⟨m1,q1⟩:=I.base.xQ b ps q
  obtain⟨m2,q2⟩:=rel.xQ b _ q1
  exact⟨m1++m2,by rw[q2,Array.append_assoc]⟩
 ·obtain⟨s1,q1⟩:=I.base.slot b o q (I.ok.Mh b hb) hb (Bj b)
  obtain⟨s2,q2⟩:=sl b _ q1 ((hfs b).mpr (.inr hb))
  exact⟨s2,q2⟩
end
structure Exc(X:Cx)(E:St->XK):Prop where
 pass:∀(pins:List (Addr×Obj)) (σ:St) (H:Hp) (s:Shared) (e:Value) (s':Shared),Inv X pins σ H s->gY X.prog X.w X.stack H s (E σ) e s'->X.xe e s'
 R8:∀(pins:List (Addr×Obj)) (σ:St) (H:Hp) (s s':Shared) (a C:Addr) (args:List Value),Inv X pins σ H s->Heap.MadeExcOf s.heap s'.heap a (.ref C) args->s'.os=s.os->s'.gens=s.gens->
  E σ (.ref C) none H->X.xe (.ref a) s'
 own:PassesOwn (model X.prog X.w) X.A X.env X.xe
theorem Md{X:Cx}{E:St->XK}(hst:X.stack=X.env::X.outer)(hf:X.env.frame=some X.env.locals):Exc (X.ud (Sj X E X.env.locals)) E where
 pass:=λpins σ H s e s' I ⟨a,cls,H',B,ee,os,bare,way,p,gw,rel,sl,q⟩=>⟨a,cls,ee,⟨I.o6,os,bare,way,.inr (.inl p),gw,rel,sl,q⟩⟩
 R8:=λpins σ H s s' a C args I hm os hg q=>by
  have I:=I.o6
  obtain⟨t,he,htn,ht⟩:=hm.there
  have hB:(PySem.W.hideAll s.heap (zu X.stack)).get? a=none:=by
   cases z:(PySem.W.hideAll s.heap (zu X.stack)).get? a with
   |none=>rfl
   |some o=>have:=dv _ z;rw[hm.new]at this;cases this
  refine⟨a,.ref C,rfl,⟨I,os,by rw[hg];exact I.bare,⟨λb o z=>hm.keeps b o (dv _ z),hB,?_⟩,.inl ⟨_,_,_,he,rfl,rfl,rfl,rfl⟩,I.gw.hide I.C3,⟨λb o z n hb=>⟨cX _ z hb,n⟩,I.C3,
   λb o z=> ?_,λ_ _ z=>z,λ_ _ _ z=>z,λ_ ps z=>⟨#[],by rw[Array.append_empty];exact z⟩⟩,λb o z _=>⟨o.slots,hm.keeps b o z⟩,q⟩⟩
  ·exact(PySem.W.funFrames_hide I.stack λenv he b hb=>List.mem_filterMap.mpr ⟨env,he,hb⟩).of_keeps λb o z _=>⟨o,hm.keeps b o z,rfl⟩
  ·by_cases hb:b∈zu X.stack
   ·exact .inl hb
   ·exact .inr ⟨o,cX _ z hb⟩
 own:=λe s' ⟨a,cls,ee,u⟩=>by
  subst ee
  refine u.note rfl hst hf λh' u'=> ?_
  unfold cameBackBy
  rw[show(X.ud (Sj X E X.env.locals)).env.frame=some X.env.locals from hf]
  refine u'.hold λh2 u2=> ?_
  obtain⟨I,os,bare,way,p,gw,rel,sl,q⟩:=u2
  exact⟨a,cls,rfl,⟨I,os,bare,way,.inr (.inr p),gw,rel,sl,q⟩⟩
theorem Ip.ud{X:Cx}{st:List Stmt}{t:TS}{E:Value->Shared->Prop}(h:Ip (X.ud E) st t)(he:∀e s,E e s->X.xe e s):Ip X st t:=λpins s σ H D I hw=>
 wpAny_mono (h pins s σ H D (I.ud E) hw) (λ_ _ z=>SP.o6 z) he
noncomputable abbrev TB (ca:Bool) (P:Program) (w:World) (K:PySem.W.Frag) (mg:Str->Option Value) (base:Heap) (N:List Str) (qual:Str) (scope:Scope) (f:Addr) (cd:Value) (A:Around) (outer:List Env) (s:Shared) (H:Hp) (E:XK):Cx:=
 (He (gY P w) ca P w K mg base N qual scope f cd A outer s H E).ud (Sj (He (gY P w) ca P w K mg base N qual scope f cd A outer s H E) (λ_=>E) s.heap.objs.size)
section
variable{P:Program}{w:World}{K:PySem.W.Frag}{mg:Str->Option Value}{base:Heap}
theorem iS.jD{x qual:Str}{st:Stmt}{f:Addr}{fd:FuncData}{N ps:List Str}{ca:Bool}{k:Nat}{sp:Sp}(F:iS K x qual st f fd)(S:dX N ps (dM st))(len:∀vs H Q E,sp vs H Q E->vs.length=ps.length)
  (hbody:∀(cdv:Value) (A:Around) (outer:List Env) (s:Shared) (H:Hp) (vs:List V) (Q:VK) (E:XK),lP ca k (A.deeper (envOfC qual (dM st) s.heap.objs.size f cdv))->
   Exc (TB ca P w K mg base N qual (dM st) f cdv A outer s H E) (λ_=>E)->sp vs H Q E->
   ∃t,Ip (TB ca P w K mg base N qual (dM st) f cdv A outer s H E) (sD st) t/\t {nx:=λ_ H'=>Q .gT H',rt:=Q} (start N vs) H):e_ P w K mg base (gY P w) ca (k+1) f fd ps sp:=by
 obtain⟨oc,od,kV,doc,pm,an,cdv,ct,osl,rfl,lk,hcd⟩:=F.ex
 refine Rz (CX:=gY P w) lk hcd S len λA outer s H vs Q E hr hsp=> ?_
 obtain⟨t,h,q⟩:=hbody cdv A outer s H vs Q E hr (Md rfl rfl) hsp
 refine⟨t,h.ud λe s2 ⟨a,cls,ee,u⟩=> ?_,q⟩
 subst ee
 show wpAny _ _ (leaving _ _) _ _ _
 unfold leaving
 exact wpAny_bind (u.note rfl rfl rfl λh' u'=>u'.SM λh'' u''=>u''.out rfl rfl rfl)
end
noncomputable def rm (H:Hp) (p:Addr):Hp:=λb=>if b=p then none else H b
theorem Kp{H:Hp}{p:Addr}:rm H p p=none:=by unfold rm;rw[if_pos rfl]
theorem M_{H:Hp}{p b:Addr}(h:b≠p):rm H p b=H b:=by unfold rm;rw[if_neg h]
theorem Gn{H:Hp}{p:Addr}{o:HO}(h:H p=none):rm (upd H p o) p=H:=by
 funext b
 by_cases hb:b=p
 ·subst hb;rw[Kp,h]
 ·rw[M_ hb,dO hb]
noncomputable def Loose:Option HO->Prop
 |some (.lst _)=>True
 |some (.exc _)=>True
 |some (.R9 _ _)=>True
 |_=>False
theorem Inv.rm{X:Cx}{pins:List (Addr×Obj)}{σ:St}{H:Hp}{s:Shared}{p:Addr}(I:Inv X pins σ H s)(hp:Loose (H p)):Inv X pins σ (rm H p) s:=by
 have no:∀{b:Addr},H b=none->L2.rm H p b=none:=λ{b} e=>by
  unfold L2.rm;split
  ·rfl
  ·exact e
 have yes:∀{b:Addr} {o:HO},H b=some o->¬Loose (some o)->L2.rm H p b=some o:=λ{b o} e n=>by
  rw[M_ λz=>by subst z;rw[e]at hp;exact n hp];exact e
 refine⟨I.ok,I.os,I.bare,⟨I.base.keep,I.base.slot,λb o e n hb=>no (I.base.free b o e n hb),I.base.there,λb xs e=>yes (I.base.xR b xs e) (λz=>z),λb o u e=>yes (I.base.v9 b o u e) (λz=>z),λb ps e=> ?_⟩,I.loc,I.cell,
  no I.free,λx c e=>no (I.pb x c e),λq m=> ?_,λb u e=> ?_,I.len⟩
 ·obtain⟨m,q⟩:=I.base.xQ b ps e
  exact⟨m,yes q λz=>z⟩
 ·obtain⟨p1,p2,p3⟩:=I.pin q m
  exact⟨p1,no p2,p3⟩
 ·by_cases hb:b=p
  ·subst hb;rw[Kp]at e;cases e
  ·rw[M_ hb]at e
   exact(I.gw b u e).CG (λ_ _ _ q=>q) (λc q=>yes q λz=>z) λc xs q=>yes q λz=>z
end L2
namespace L2
open PySem PySem.Spec PyProof.Rows
section
variable{X:Cx}{pins:List (Addr×Obj)}{σ:St}{H:Hp}{s:Shared}
end
noncomputable def dR (sp:Sp) (E:St->XK) (t:TA):TE:=λσ H Q=>t σ H λvs H1=>sp vs H1 Q (E σ)
noncomputable def mP (C:Addr) (sp:Sp) (E:St->XK) (t:TA):TE:=λσ H Q=>t σ H λvs H1=>∀x dx,H1 x=none->H1 dx=none->dx≠x->
 sp (.ref x::vs) (upd (upd H1 dx (.own x)) x (.ins C dx [])) (λv H2=>v= .gT/\Q (.ref x) H2) (E σ)
section
variable{X:Cx}{ca:Bool}{k:Nat}{f C:Addr}{fd:FuncData}{ps:List Str}{sp:Sp}{E:St->XK}{x m:Str}{p pos apos:Pos}{e o:Expr}{es:List Expr}{ta:TE}{t:TA}
theorem Gp{pins:List (Addr×Obj)}{σ:St}{H:Hp}{s:Shared}{Q:VK}{us:List Value}{vs:List V}(F:e_ X.prog X.w X.K X.mg X.base (gY X.prog X.w) ca k f fd ps sp)(hr:lP ca k X.A)(hb:Binds X.K fd ps [])(hx:Exc X E)
  (I:Inv X pins σ H s) (r:Vals vs us) (h:sp vs H Q (E σ)):wpAny (model X.prog X.w) X.A (call (.ref f) us) (EP X pins σ Q) X.xe s:=by
 have hl:(us++[]).length=ps.length:=by rw[az,←r.length];exact F.len _ _ _ _ h
 have hb':=hb s us I.A2 hl
 rw[az]at hb'
 refine wpAny_call (codeAny_mono (F.run X.A X.stack s H ⟨us,[]⟩ us vs Q (E σ) hr I.Ru hb' r h) λr s' hq=> ?_)
 cases r with
 |error e=>exact hx.pass pins σ H s e s' I hq
 |ok fl=>
  cases fl with
  |ret u=>exact I.after hq
  |next=>exact False.elim hq
  |brk=>exact False.elim hq
  |cont=>exact False.elim hq
theorem MJ(F:e_ X.prog X.w X.K X.mg X.base (gY X.prog X.w) ca k f fd ps sp)(hr:lP ca k X.A)(hg:Gl X x)(hm:X.mg x=some (.ref f))(hk:PySem.W.keepIn X.K (.ref f)=true)(hb:Binds X.K fd ps [])(hx:Exc X E)
  (ha:PA X (e::es) t) (hdb:(x==("__debug__":Str))=false:=by decide) (he:starEach (e::es) X.env=(false,eval e X.env)::starEach es X.env:=by rfl) (hpl:(backTo pos (starEach es X.env)).any (·.1)=false:=by rfl):
  PE X (.Call (.Name x p) (e::es) [] pos) (dR sp E t):=by
 intro pins s σ H Q I h
 refine wpAny_Call_Name_kw (yc I hg hm ?_ hdb)
 refine du (h₀:=X.base) I.ok.mod.QU hk (kX (ha pos pins s σ H _ I h) λus s1 ⟨vs,H1,I1,r,q⟩=>⟨I1.A2,?_⟩) he hpl
 exact Gp F hr hb hx I1 r q
theorem Fp{pins:List (Addr×Obj)}{σ:St}{H:Hp}{s:Shared}{Q:VK}{us:List Value}{vs:List V}(M:Mk X.K C f)(F:e_ X.prog X.w X.K X.mg X.base (gY X.prog X.w) ca k f fd ps sp)(hr:lP ca (k+1) X.A)(hb:Binds X.K fd ps [])
  (hx:Exc X E) (I:Inv X pins σ H s) (r:Vals vs us)
  (h:∀x dx,H x=none->H dx=none->dx≠x->sp (.ref x::vs) (upd (upd H dx (.own x)) x (.ins C dx [])) (λv H2=>v= .gT/\Q (.ref x) H2) (E σ)):
  wpAny (model X.prog X.w) X.A (call (.ref C) us) (EP X pins σ Q) X.xe s:=by
 have hq:=h (s.heap.objs.size+1) s.heap.objs.size (I.gw.fresh (Nat.le_succ _)) (I.gw.fresh (aF _)) (aS (cq _))
 have I2:=Inv.made (C:=C) I
 have r2:Vals (V.ref (s.heap.objs.size+1)::vs) (Value.ref (s.heap.objs.size+1)::us):= .cons rfl r
 have hl:(Value.ref (s.heap.objs.size+1)::us++[]).length=ps.length:=by rw[az,←r2.length];exact F.len _ _ _ _ hq
 have hb':=hb {s with heap:=(s.heap.push PySem.W.emptyDict).push (PySem.W.instObj C s.heap.objs.size)} (Value.ref (s.heap.objs.size+1)::us) I2.A2 hl
 rw[az]at hb'
 refine wpAny_call (MB (f:=f) I.A2 M.makes M.init (beq_iff_eq.mp M.fn) (codeAny_mono (F.run _ X.stack _ _ ⟨Value.ref (s.heap.objs.size+1)::us,[]⟩ (Value.ref (s.heap.objs.size+1)::us) _ _ (E σ) (hr.make C us [])
  (I2.Ru.make C us []) hb' r2 hq) λr s' hq'=> ?_))
 cases r with
 |error e=>exact hx.pass pins σ _ _ e s' I2 hq'
 |ok fl=>
  cases fl with
  |ret u=>
   obtain⟨v,H',I3,rv,ev,q3⟩:=I2.after hq'
   subst ev
   exact⟨rv,⟨V.ref (s.heap.objs.size+1),H',I3,rfl,q3⟩⟩
  |next=>exact False.elim hq'
  |brk=>exact False.elim hq'
  |cont=>exact False.elim hq'
theorem MS(M:Mk X.K C f)(F:e_ X.prog X.w X.K X.mg X.base (gY X.prog X.w) ca k f fd ps sp)(hr:lP ca (k+1) X.A)(hg:Gl X x)(hm:X.mg x=some (.ref C))(hb:Binds X.K fd ps [])(hx:Exc X E)
  (ha:PA X (e::es) t) (hdb:(x==("__debug__":Str))=false:=by decide) (he:starEach (e::es) X.env=(false,eval e X.env)::starEach es X.env:=by rfl) (hpl:(backTo pos (starEach es X.env)).any (·.1)=false:=by rfl):
  PE X (.Call (.Name x p) (e::es) [] pos) (mP C sp E t):=by
 intro pins s σ H Q I h
 refine wpAny_Call_Name_kw (yc I hg hm ?_ hdb)
 refine du (h₀:=X.base) I.ok.mod.QU M.kp (kX (ha pos pins s σ H _ I h) λus s1 ⟨vs,H1,I1,r,q⟩=>⟨I1.A2,?_⟩) he hpl
 exact Fp M F hr hb hx I1 r q
theorem Lj(M:Mk X.K C f)(F:e_ X.prog X.w X.K X.mg X.base (gY X.prog X.w) ca k f fd ps sp)(hr:lP ca (k+1) X.A)(hg:Gl X x)(hm:X.mg x=some (.ref C))(hb:Binds X.K fd ps [])(hx:Exc X E)
  (hdb:(x==("__debug__":Str))=false:=by decide):PE X (.Call (.Name x p) [] [] pos) (mP C sp E dZ):=by
 intro pins s σ H Q I h
 refine wpAny_Call_Name_kw (yc I hg hm ?_ hdb)
 exact PySem.W.callWith_K0 I.A2 M.kp (Fp (us:=[]) M F hr hb hx I .nil h)
end
abbrev LD:List Value:=[.type "ValueError",.type "Exception",.type "BaseException",.type "object"]
noncomputable def yk (K:PySem.W.Frag) (C:Addr):Prop:=PySem.W.excIn K C LD "ValueError.__new__"=true
theorem yk.obj{K:PySem.W.Frag}{h:Heap}{C:Addr}(X:K.In h)(q:yk K C):∃bm N nm qn bs hd sn sub ab col dd k0 k1 k2 k3 k5 mN,h.get? C=some (excClassObj nm qn C N bs bm hd sn sub ab col dd k0 k1 k2 k3 k5 "ValueError.__new__")/\
  h.Ns N mN/\mN "__init__"=none/\OwnTail h LD bm:=by
 unfold yk PySem.W.excIn at q
 split at q
 ·rename_i dd cd sl ho
  split at q
  ·rename_i C' bm k0 k1 k2 k3 n k5 hm hs
   rw[aI,aI,aI,aI,aI,beq_iff_eq,beq_iff_eq,beq_iff_eq,aM]at q
   obtain⟨⟨⟨⟨⟨q1,q2⟩,q3⟩,q4⟩,q5⟩,q6⟩:=q
   subst q1 q2
   obtain⟨nm,bs,mro,ns,qn,hd,sn,sub,ab,col,del⟩:=cd
   have q3:del=false:=q3
   have hm:mro=_:=hm
   subst q3 hm
   obtain⟨l⟩:=sl
   have hs:l=_:=hs
   subst hs
   exact⟨bm,ns,nm,qn,bs,hd,sn,sub,ab,col,dd,k0,k1,k2,k3,k5,_,X _ _ ho,.of_isNs (PySem.W.isNs_of_in X q5),PySem.W.nsMap_none_of_in X q5 q6,PySem.W.tail_of_in X q4⟩
  ·cases q
 ·cases q
noncomputable def gi (C:Addr) (E:St->XK) (t:TA):TS:=λ_ σ H=>t σ H λvs H1=>vs.length<=sizeLine/\E σ (.ref C) none H1
section
variable{X:Cx}{C:Addr}{E:St->XK}{x:Str}{np cpos pos:Pos}{e:Expr}{es:List Expr}{t:TA}
theorem M0(hx:Exc X E)(hg:Gl X x)(hm:X.mg x=some (.ref C))(hq:yk X.K C)(hc:X.calm=true)(ha:PA X (e::es) t)
  (he:starEach (e::es) X.env=(false,eval e X.env)::starEach es X.env:=by rfl) (hpl:(backTo cpos (starEach es X.env)).any (·.1)=false:=by rfl) (hdb:(x==("__debug__":Str))=false:=by decide):
  PS X (.Raise (some (.Call (.Name x np) (e::es) [] cpos)) none pos) (gi C E t):=by
 intro pins s σ H D I h
 obtain⟨bm,N,nm,qn,bs,hd,sn,sub,ab,col,dd,k0,k1,k2,k3,k5,mN,hC,hN,hni,T⟩:=hq.obj I.mod.QU
 refine wpAny_Raise_call_subT (C:=C) (nm:=nm) (q:=qn) (N:=N) (bs:=bs) (bm:=bm) (hdct:=hd) (sn:=sn) (sub:=sub) (ab:=ab) (col:=col) (dd:=dd) (k0:=k0) (k1:=k1) (k2:=k2) (k3:=k3) (k5:=k5)
  PySem.F.excBase_ValueError (mN:=mN) (T.hasType PySem.F.excBase_ValueError.hasBase) (I.ok.hd hc) (by rw[he];show(false ||(backTo cpos (starEach es X.env)).any λx=>x.1)=false;rw[hpl];rfl) hni (yc I hg hm ⟨rfl,?_⟩ hdb)
 have h2:=ha cpos pins s σ H _ I h
 rw[he]at h2⊢
 exact Calls.evalArgs_plain (wpAny_mono h2 (λus s2 ⟨vs,H1,I1,r,hl,q⟩=>⟨rfl,by rw[←r.length];exact hl,I1.bk _ _ hC,hN.keeps I1.bk,T.keeps I1.bk,
  λh' e hm'=>hx.R8 pins σ H1 s2 {s2 with heap:=h'} e C us I1 hm' rfl rfl q⟩) λ_ _ y=>y)
end
noncomputable abbrev Cx.K0 (X:Cx) (a:Addr):Cx:={X with A:=X.A.mark (some (.ref a)),calm:=false,xe:=λ_ _=>False}
noncomputable abbrev Cx.pinned (X:Cx) (pins:List (Addr×Obj)):Cx:={X with pn:=X.pn++pins}
section
variable{X:Cx}{pins pins':List (Addr×Obj)}{σ:St}{H:Hp}{s:Shared}{a:Addr}{E:Value->Shared->Prop}
theorem Cx.Ok.K0(ok:X.Ok):(X.K0 a).Ok:=⟨ok.mod,ok.kind,ok.glob,ok.blt,ok.above,ok.inj,ok.has,ok.OW,(λz=>Bool.noConfusion z),ok.frames,ok.QG,ok.Rv,ok.bs,ok.LF,ok.Bj,ok.IP,ok.v_,ok.Mh⟩
theorem Cx.Ok.pinned(ok:X.Ok)(pins:List (Addr×Obj)):(X.pinned pins).Ok:=⟨ok.mod,ok.kind,ok.glob,ok.blt,ok.above,ok.inj,ok.has,ok.OW,ok.hd,ok.frames,ok.QG,ok.Rv,ok.bs,ok.LF,ok.Bj,ok.IP,ok.v_,ok.Mh⟩
theorem Inv.K0(I:Inv X pins σ H s):Inv (X.K0 a) pins σ H s:=⟨I.ok.K0,I.os,I.bare,I.base,I.loc,I.cell,I.free,I.pb,I.pin,I.gw,I.len⟩
theorem Inv.Kx(ok:X.Ok)(I:Inv (X.K0 a) pins σ H s):Inv X pins σ H s:=⟨ok,I.os,I.bare,I.base,I.loc,I.cell,I.free,I.pb,I.pin,I.gw,I.len⟩
theorem Inv.Oq(I:Inv X pins σ H s):Inv (X.pinned pins) [] σ H s:=⟨I.ok.pinned pins,I.os,I.bare,I.base,I.loc,I.cell,I.free,I.pb,λp hp=>I.pin p (by simpa using hp),I.gw,I.len⟩
theorem Inv.rp(ok:X.Ok)(I:Inv (X.pinned pins) pins' σ H s):Inv X pins σ H s:=⟨ok,I.os,I.bare,I.base,I.loc,I.cell,I.free,I.pb,λp hp=>I.pin p (aX _ hp),I.gw,I.len⟩
end
noncomputable abbrev TH:=Ends->St->Hp->Value->Prop
noncomputable def PH (X:Cx) (hs:List ExceptHandler) (t:TH):Prop:=
 ∀(pins:List (Addr×Obj)) (D:Ends) (a:Addr) (cls:Value) (s:Shared),X.Ok->yl (X.pinned pins) (λσ cls _ H=>t D σ H cls) HM a cls s->
  wpAny (model X.prog X.w) X.A (handleBy (.ref a) X.env hs) (SP X pins D) X.xe s
noncomputable def RB:TH:=λ_ _ _ _=>False
noncomputable def Nn (K:PySem.W.Frag) (c:Value) (th:TS) (tr:TH):TH:=λD σ H cls=>match PySem.W.exmOne K cls c with
 |some true=>th D σ H
 |some false=>tr D σ H cls
 |none=>False
section
variable{X:Cx}{c:Value}{i:Nat}{x n:Str}{np pos:Pos}{b₀:Stmt}{suite:List Stmt}{th:TS}{tr:TH}{rest:List ExceptHandler}
theorem D9{M:Model}{h:Heap}{a:Addr}{cls:Value}(e:∃o vs,h.get? a=some o/\o.cls=cls/\o.data= .fields vs):PySem.W.Looks M h (typeOf (.ref a)) cls:=by
 obtain⟨o,_,ho,hc,_⟩:=e
 subst hc
 exact(PySem.W.Looks.ld ho).andThen .now
theorem Qv:PH X [] RB:=λpins D a cls s ok u=>by
 obtain⟨_,_,_,_,_,_,_,_,h⟩:=u
 exact False.elim h
theorem R3(hex:X.ex=[])(hg:Gl X x)(hm:X.mg x=some c)(hs:∀a,Ip (X.K0 a) (b₀::suite) th)(hr:PH X rest tr)
  (hdb:(x==("__debug__":Str))=false:=by decide):PH X (.ExceptHandler (some (.Name x np)) none (b₀::suite) pos::rest) (Nn X.K c th tr):=by
 intro pins D a cls s ok u
 refine wpAny_handleBy_cons (codeAny_handlers_test ?_) (by intro q;cases q)
 obtain⟨pins',σ,H',_,I,e,hna⟩:=u.adopt hex
 have LT:PySem.W.Looks (model X.prog X.w) s.heap (typeOf (.ref a)) cls:=by obtain⟨_,_,_,_,p,_,_,_,_⟩:=u;exact D9 (HN p)
 have I1:Inv (X.K0 a) pins σ H' s:=(I.rp ok).K0
 refine yc (X:=X.K0 a) I1 hg hm ?_ hdb
 have e:Nn X.K c th tr D σ H' cls:=e
 unfold Nn at e
 cases q:PySem.W.exmOne X.K cls c with
 |none=>rw[q]at e;exact False.elim e
 |some b=>
  refine(PySem.W.exm_one I.A2 LT q).here ?_
  cases b with
  |false=>
   refine hr pins D a cls s ok ?_
   obtain⟨I,os,bare,way,p,gw,rel,sl,e⟩:=u
   refine⟨I,os,bare,way,p,gw,rel,sl,?_⟩
   have e:Nn X.K c th tr D _ _ cls:=e
   unfold Nn at e
   rw[q]at e
   exact e
  |true=>
   refine codeAny_handlers_suite (u.SM λh' u'=> ?_)
   obtain⟨pins2,σ2,H2,_,Ia,e2,hn2⟩:=u'.adopt hex
   have e2:Nn X.K c th tr D σ2 H2 cls:=e2
   unfold Nn at e2
   rw[q]at e2
   have Ia1:Inv (X.K0 a) pins σ2 H2 {s with heap:=h'}:=(Ia.rp ok).K0
   refine wpAny_mono (hs a pins _ _ _ D Ia1 e2) (λf s4 z=> ?_) λ_ _ z=>False.elim z
   cases f with
   |next=>obtain⟨σ4,H4,I4,q4⟩:=z;exact⟨_,_,I4.Kx ok,q4⟩
   |brk=>obtain⟨σ4,H4,I4,q4⟩:=z;exact⟨_,_,I4.Kx ok,q4⟩
   |cont=>obtain⟨σ4,H4,I4,q4⟩:=z;exact⟨_,_,I4.Kx ok,q4⟩
   |ret v=>obtain⟨v',σ4,H4,I4,rv,q4⟩:=z;exact⟨v',_,_,I4.Kx ok,rv,q4⟩
noncomputable def OL (tb:(St->XK)->TS) (t:TH):TS:=λD σ H=>tb (λσ cls _ H=>t D σ H cls) D σ H
theorem QA{body:List Stmt}{h₀:ExceptHandler}{hs:List ExceptHandler}{tb:(St->XK)->TS}{t:TH}(hst:X.stack=X.env::X.outer)(hf:X.env.frame=some X.env.locals)
  (hb:∀(E:St->XK) (W:Value->Shared->Prop) (pins:List (Addr×Obj)),Exc ((X.pinned pins).ud W) E->Ip ((X.pinned pins).ud W) body (tb E)) (hh:PH X (h₀::hs) t):
  PS X (.Try body (h₀::hs) [] [] pos) (OL tb t):=by
 intro pins s σ H D I h
 have ex:Exc ((X.pinned pins).ud (Sj (X.pinned pins) (λσ cls _ H=>t D σ H cls) X.env.locals)) (λσ cls _ H=>t D σ H cls):=Md hst hf
 refine wpAny_Try_except (wpAny_mono (hb _ _ pins ex [] s σ H D (I.Oq.ud _) h) (λf s1 z=> ?_) λe s1 ⟨a,cls,ee,u⟩=> ?_)
 ·cases f with
  |next=>obtain⟨σ4,H4,I4,q4⟩:=z;exact wpAny_execs_nil ⟨_,_,(I4.o6).rp I.ok,q4⟩
  |brk=>obtain⟨σ4,H4,I4,q4⟩:=z;exact⟨_,_,(I4.o6).rp I.ok,q4⟩
  |cont=>obtain⟨σ4,H4,I4,q4⟩:=z;exact⟨_,_,(I4.o6).rp I.ok,q4⟩
  |ret v=>obtain⟨v',σ4,H4,I4,rv,q4⟩:=z;exact⟨v',_,_,(I4.o6).rp I.ok,rv,q4⟩
 ·subst ee
  exact u.note rfl hst hf λh' u'=>u'.SM λh'' u''=>hh pins D a cls _ I.ok u''
end
end L2
namespace L2
open PySem PySem.Spec PyProof.Rows
section
variable{X:Cx}
theorem PE.mono{e:Expr}{t t':TE}(h:PE X e t)(k:∀σ H Q,t' σ H Q->t σ H Q):PE X e t':=λpins s σ H Q I q=>h pins s σ H Q I (k _ _ _ q)
theorem qb.mono{f:Value->Value->Sem Value}{r r':R2}(h:qb X f r)(k:∀x y H Q,r' x y H Q->r x y H Q):qb X f r':=λpins s σ H x y v u Q I rx ry q=>h pins s σ H x y v u Q I rx ry (k _ _ _ _ q)
theorem mF.mono{f:Value}{r r':List V->Hp->VK->Prop}(h:mF X f r)(k:∀xs H Q,r' xs H Q->r xs H Q):mF X f r':=λpins s σ H xs us Q I rx q=>h pins s σ H xs us Q I rx (k _ _ _ q)
end
noncomputable def dQ (i:Nat):TE:=λσ H Q=>match σ[i]? with
 |some (some v)=>Q v H
 |_=>False
section
variable{X:Cx}
theorem cv(i:Nat){x:Str}{pos:Pos}(hN:X.N[i]? =some x:=by rfl)(hv:Sk X.env.scope x:=by first|exact Or.inl rfl|exact bQ (Or.inl rfl)|exact bQ (bQ rfl))(hd:(x==("__debug__":Str))=false:=by decide)
  (hcd:(x==("__classdict__":Str))=false:=by decide):PE X (.Name x pos) (dQ i):=(Qt hN hv hd hcd).mono λσ H Q h=>by
 unfold dQ at h
 split at h
 ·rename_i v e;exact⟨v,e,h⟩
 ·exact h.elim
noncomputable def Gv (mg:Str->Option Value) (x:Str) (v:V):Prop:=∃u,mg x=some u/\RelV v u
theorem RX{x:Str}{v:V}{pos:Pos}(h:Gv X.mg x v)(hg:Gl X x:=by rfl)(hd:(x==("__debug__":Str))=false:=by decide):PE X (.Name x pos) (tC v):=by
 obtain⟨u,hm,r⟩:=h
 exact Oh hg hm r hd
theorem R0{x:Str}{T:String}{pos:Pos}(hm:X.mg x=none)(hv:bootBuiltins x=some (.type T))(hg:Gl X x:=by rfl)(hn:x≠"__name__":=by decide)(hd:(x==("__debug__":Str))=false:=by decide):
  PE X (.Name x pos) (tC (.ty T)):=Oe hg hm hv rfl hn hd
end
noncomputable def oF:R2:=λx y H Q=>match x,y with
 | .int i,.int j=>Q (.int (i+j)) H
 | .str i,.str j=>i.length+j.length<=sizeLine/\Q (.str (i++j)) H
 |_,_=>False
noncomputable def yn:R2:=λx y H Q=>match x,y with
 | .int i,.int j=>Q (.int (i-j)) H
 |_,_=>False
noncomputable def Df:R2:=λx y H Q=>match x,y with
 | .int i,.int j=>Cp i j/\Q (.int (i*j)) H
 | .str z,.int n=>z.length<=1000/\(n=0∨n=1)/\Q (.str (if n=1 then z else Str.empty)) H
 |_,_=>False
noncomputable def o8:R2:=λx y H Q=>match x,y with
 | .int i,.int j=>wg i j/\Q (.int (i/j)) H
 |_,_=>False
noncomputable def ui:R2:=λx y H Q=>match x,y with
 | .int i,.int j=>0<j/\Q (.int (i%j)) H
 |_,_=>False
noncomputable def qz (p:Int->Int->Bool):R2:=λx y H Q=>match x,y with
 | .int i,.int j=>Q (.bl (p i j)) H
 |_,_=>False
noncomputable abbrev LH:R2:=qz λi j=>decide (i<j)
noncomputable abbrev Q2:R2:=qz λi j=>decide (i<=j)
noncomputable abbrev NB:R2:=qz λi j=>decide (j<i)
noncomputable def eqv:V->V->Option Bool
 | .int i,.int j=>some (decide (i=j))
 | .str i,.str j=>some (decide (i=j))
 | .bl i,.bl j=>some (decide (i=j))
 | .gT,.gT=>some true
 | .gT,.int _=>some false| .int _,.gT=>some false| .gT,.bl _=>some false| .bl _,.gT=>some false| .gT,.str _=>some false| .str _,.gT=>some false
 | .int _,.str _=>some false| .str _,.int _=>some false| .bl _,.str _=>some false| .str _,.bl _=>some false
 |_,_=>none
noncomputable def IH:R2:=λx y H Q=>match eqv x y with
 |some b=>Q (.bl b) H
 |none=>False
noncomputable def Ph:R2:=λx y H Q=>match eqv x y with
 |some b=>Q (.bl (!b)) H
 |none=>False
noncomputable def Dx:V->Bool
 | .gT=>true
 |_=>false
noncomputable def Sl:R2:=λx y H Q=>match y with
 | .gT=>Q (.bl (Dx x)) H
 |_=>False
noncomputable def Dd:R2:=λx y H Q=>match y with
 | .gT=>Q (.bl (!Dx x)) H
 |_=>False
noncomputable def LX:V->Hp->VK->Prop:=λx H Q=>match x with
 | .int i=>Q (.int (-i)) H
 |_=>False
theorem Hh{x y:V}{b:Bool}(h:eqv x y=some b):QF x y=true/\decide (x=y)=b:=by
 cases x<;>cases y<;>first
  |exact⟨rfl,(decide_eq_decide.mpr ⟨λz=>by cases z;rfl,λz=>by cases z;rfl⟩).trans (aT h)⟩
  |exact⟨rfl,(decide_eq_false λz=>by cases z).trans (aT h)⟩
  |exact⟨rfl,(decide_eq_true rfl).trans (aT h)⟩
  |exact nomatch h
section
variable{X:Cx}
theorem Q3:qb X (binaryOp .Add) oF:=by
 intro pins s σ H x y v u Q I rx ry h
 unfold oF at h
 split at h
 ·exact Qd pins s σ H _ _ v u Q I rx ry ⟨_,_,rfl,rfl,h⟩
 ·exact Jl pins s σ H _ _ v u Q I rx ry ⟨_,_,rfl,rfl,h.1,h.2⟩
 ·exact h.elim
theorem Ro:qb X (binaryOp .Sub) yn:=Qj.mono λx y H Q h=>by
 unfold yn at h
 split at h
 ·exact⟨_,_,rfl,rfl,h⟩
 ·exact h.elim
theorem Rg:qb X (binaryOp .Mult) Df:=by
 intro pins s σ H x y v u Q I rx ry h
 unfold Df at h
 split at h
 ·exact Qh pins s σ H _ _ v u Q I rx ry ⟨_,_,rfl,rfl,h.1,h.2⟩
 ·rename_i z n
  obtain⟨t,rfl⟩:=(show∃t,v=Value.str z t from rx)
  obtain⟨t',rfl⟩:=(show∃t,u=Value.int n t from ry)
  obtain⟨hz,hn,h⟩:=h
  refine SB.mul (mulOk_of 1000 16 hz (by omega) (by omega) (by decide) (by decide)) λt2 k=> ?_
  rcases hn with rfl|rfl
  ·exact⟨.str Str.empty,H,I.tok _,⟨t2,rfl⟩,h⟩
  ·exact⟨.str z,H,I.tok _,⟨t2,rfl⟩,h⟩
 ·exact h.elim
theorem Pn:qb X (binaryOp .FloorDiv) o8:=Ob.mono λx y H Q h=>by
 unfold o8 at h
 split at h
 ·exact⟨_,_,rfl,rfl,h.1,h.2⟩
 ·exact h.elim
theorem Rf:qb X (binaryOp .Mod) ui:=Qg.mono λx y H Q h=>by
 unfold ui at h
 split at h
 ·exact⟨_,_,rfl,rfl,h.1,h.2⟩
 ·exact h.elim
theorem L0{op:CmpOp}{p:Int->Int->Bool}(h:qb X (compareOp op) (O3 λi j=> .bl (p i j))):qb X (compareOp op) (qz p):=h.mono λx y H Q h=>by
 unfold qz at h
 split at h
 ·exact⟨_,_,rfl,rfl,h⟩
 ·exact h.elim
theorem SH:qb X (compareOp .Lt) LH:=L0 RT
theorem SG:qb X (compareOp .LtE) Q2:=L0 RS
theorem SD:qb X (compareOp .Gt) NB:=L0 RR
theorem Q6:qb X (compareOp .Eq) IH:=RQ.mono λx y H Q h=>by
 unfold IH at h
 split at h
 ·rename_i b e
  obtain⟨e1,e2⟩:=Hh e
  exact⟨e1,by rw[e2];exact h⟩
 ·exact h.elim
theorem Rh:qb X (compareOp .NotEq) Ph:=RU.mono λx y H Q h=>by
 unfold Ph at h
 split at h
 ·rename_i b e
  obtain⟨e1,e2⟩:=Hh e
  exact⟨e1,by rw[e2];exact h⟩
 ·exact h.elim
theorem Ff(x:V):decide (x= .gT)=Dx x:=by cases x<;>simp[Dx]
theorem SE:qb X (compareOp .Is) Sl:=Qf.mono λx y H Q h=>by
 unfold Sl at h
 split at h
 ·exact⟨rfl,by rw[Ff];exact h⟩
 ·exact h.elim
theorem NH:qb X (compareOp .IsNot) Dd:=Oc.mono λx y H Q h=>by
 unfold Dd at h
 split at h
 ·exact⟨rfl,by rw[Ff];exact h⟩
 ·exact h.elim
theorem Rk:QZ X (unaryOp .USub) LX:=λpins s σ H x v Q I rx h=>by
 unfold LX at h
 split at h
 ·exact QN pins s σ H _ v Q I rx ⟨_,rfl,h⟩
 ·exact h.elim
end
end L2
namespace L2
open PySem PySem.Spec PyProof.Rows
noncomputable def M8:R2:=λx y H Q=>match x,y with
 | .ref p,.int i=>(match H p with
  |some (.lst xs)=>(match FD xs i with
   |some v=>Q v (rm H p)
   |none=>False)
  |_=>False)
 |_,_=>False
section
variable{X:Cx}{es:List Expr}{e:Expr}{t:TA}{ti:TE}{pos p2:Pos}
theorem NV:O6 X M8:=by
 intro value slice pins s σ H x y v u Q I rx ry h hsub
 unfold M8 at h
 split at h
 case h_2=>exact h.elim
 rename_i p i
 split at h
 case h_2=>exact h.elim
 rename_i xs hp
 split at h
 case h_2=>exact h.elim
 rename_i v' ha
 have q:=h
 refine kX (FZ value slice pins s σ H _ _ v u (λz H'=>z=v'/\H'=H) I rx ry ⟨p,xs,i,v',rfl,rfl,iC.of hp,ha,rfl,rfl⟩ hsub) λu s' ⟨z,H',I',r,e1,e2⟩=> ?_
 subst e1 e2
 exact⟨z,rm H' p,I'.rm (by rw[hp];exact au),r,q⟩
theorem Oi(ha:PA X es t)(hi:PE X e ti)(hs:CI e):PE X (.Subscript (.List es p2) e pos) (gU M8 (qw t) ti):=O1 NV (MR ha) hi hs
end
noncomputable def LG:R2:=λx y H Q=>match x,y with
 | .ref p,.int i=>(match H p with
  |some (.lst xs)=>(match FD xs i with
   |some v=>Q v H
   |none=>False)
  |some (.tup xs)=>(match FD xs i with
   |some v=>Q v H
   |none=>False)
  |_=>False)
 |_,_=>False
noncomputable def Ct:List V->Hp->VK->Prop:=λxs H Q=>match xs with
 | [.ref p]=>(match H p with
  |some (.lst ys)=>Q (.int ys.length) H
  |some (.tup ys)=>Q (.int ys.length) H
  |_=>False)
 |_=>False
noncomputable def ND (K:PySem.W.Frag):R2:=λx y H Q=>match x,y with
 | .ref p,.int i=>∃xs,iC K H p xs/\(match FD xs i with
   |some v=>Q v H
   |none=>False)
 |_,_=>False
noncomputable def JQ (K:PySem.W.Frag):List V->Hp->VK->Prop:=λxs H Q=>match xs with
 | [.ref p]=>∃ys,iC K H p ys/\Q (.int ys.length) H
 |_=>False
noncomputable def cInt:List V->Hp->VK->Prop:=λxs H Q=>match xs with
 | [.int i]=>Q (.int i) H
 | [.bl k]=>Q (.int (if k then 1 else 0)) H
 |_=>False
section
variable{X:Cx}
theorem SF:O6 X LG:=by
 intro value slice pins s σ H x y v u Q I rx ry h hsub
 unfold LG at h
 split at h
 case h_2=>exact h.elim
 split at h
 ·rename_i xs hp
  split at h
  case h_2=>exact h.elim
  rename_i v' ha
  exact FZ value slice pins s σ H _ _ v u Q I rx ry ⟨_,xs,_,v',rfl,rfl,iC.of hp,ha,h⟩ hsub
 ·rename_i xs hp
  split at h
  case h_2=>exact h.elim
  rename_i v' ha
  exact PQ value slice pins s σ H _ _ v u Q I rx ry ⟨_,xs,_,v',rfl,rfl,Ef.of hp,ha,h⟩ hsub
 ·exact h.elim
theorem Rb:O6 X (ND X.K):=by
 intro value slice pins s σ H x y v u Q I rx ry h hsub
 unfold ND at h
 split at h
 case h_2=>exact h.elim
 obtain⟨xs,hp,h⟩:=h
 split at h
 case h_2=>exact h.elim
 rename_i v' ha
 exact FZ value slice pins s σ H _ _ v u Q I rx ry ⟨_,xs,_,v',rfl,rfl,hp,ha,h⟩ hsub
theorem Rc:mF X (.builtin "len") Ct:=zL.mono λxs H Q h=>by
 unfold Ct at h
 split at h
 case h_2=>exact h.elim
 split at h
 ·rename_i ys hp;exact⟨_,ys,rfl,.inl (iC.of hp),h⟩
 ·rename_i ys hp;exact⟨_,ys,rfl,.inr (Ef.of hp),h⟩
 ·exact h.elim
theorem Pq:mF X (.builtin "len") (JQ X.K):=zL.mono λxs H Q h=>by
 unfold JQ at h
 split at h
 case h_2=>exact h.elim
 obtain⟨ys,hp,h⟩:=h
 exact⟨_,ys,rfl,.inl hp,h⟩
theorem Ra:mF X (.type "int") cInt:=KN.mono λxs H Q h=>by
 unfold cInt at h
 split at h
 ·exact .inl ⟨_,rfl,h⟩
 ·exact .inr ⟨_,rfl,h⟩
 ·exact h.elim
end
theorem eA{CX:Ly}{ca:Bool}{P:Program}{w:World}{K:PySem.W.Frag}{mg:Str->Option Value}{base:Heap}{N:List Str}{qual:Str}{scope:Scope}{f:Addr}{cd:Value}{A:Around}{outer:List Env}{s:Shared}{H:Hp}{E:XK}:
  (He CX ca P w K mg base N qual scope f cd A outer s H E).K=K:=rfl
end L2
namespace L2
open PySem PySem.Spec PyProof.Rows
structure OT(K:PySem.W.Frag)(C:Addr):Prop where
 ga:PySem.W.findIn K (.ref C) "__getattribute__"=some (some (.builtin "BaseException.__getattribute__"))
 gt:PySem.W.findIn K (.ref C) "__getattr__"=some none
 cl:PySem.W.findIn K (.ref C) "__class__"=some (some (.builtin "object.__class__"))
 hn:PySem.W.specialIn K (.builtin "object.__class__") "__get__"=some (some (.builtin "getset_descriptor.__get__"))
 tk:PySem.W.takesIn K (.builtin "object.__class__")=some true
 mb:PySem.W.mroIn K C (.type "BaseException")=some true
 mo:PySem.W.mroIn K C (.type "object")=some true
section
open Builtin Builtin.ObjectAttr Builtin.Getset_descriptor
variable{prog:Program}{w:World}{A:Around}{E:Value->Shared->Prop}{s:Shared}{K:PySem.W.Frag}{a C:Addr}
theorem OT.cls(ki:OT K C):∃cd,PySem.W.clsIn K C=some cd:=by
 have h:=ki.mo
 unfold PySem.W.mroIn at h
 cases q:PySem.W.clsIn K C with
 |none=>rw[q]at h;cases h
 |some cd=>exact⟨cd,rfl⟩
theorem QQ{R:Result->Shared->Prop}{tp:Value}(X:K.In s.heap)(I:PySem.W.Looks (model prog w) s.heap (typeOf (.ref a)) (.ref C))(ki:OT K C)(h:R (.ok (.ret (.ref C))) s):
  codeAny (model prog w) A (.call (.builtin "getset_descriptor.__get__") ⟨[.builtin "object.__class__",.ref a,tp],[]⟩) R s:=by
 obtain⟨hh,g,dr,t,os⟩:=s
 have L1:=PySem.W.looks_mroIn (M:=model prog w) X ki.mo
 refine codeAny_call_builtin PySem.W.KF.slot_gs.plain PySem.W.KF.entry_gs (PySem.W.KF.slot_gs.check _ _ _ _ _ _ _ _ PySem.W.KF.type_class (PySem.W.KF.args_gs _ _ _) ?_)
 unfold Builtin.«getset_descriptor.__get__» descrGet;rw[PySem.W.dga_obj];refine wpAny_bind (wpAny_pure ?_)
 unfold descrGetter descrCheckInstance descrNameAndClass isInstance;simp only[PySem.W.KF.owner_class];repeat lk
 refine⟨Code.quiet_builtin _ (by decide+kernel),codeAny_builtin PySem.W.KF.entry_class ?_⟩;unfold Builtin.«object.__class__» shownTypeOf;repeat lk
 exact h
theorem Nl{tk:Tok}{Q:Fin->Shared->Prop}(X:K.In s.heap)(I:PySem.W.Looks (model prog w) s.heap (typeOf (.ref a)) (.ref C))(ki:OT K C)(h:Q (.done (.ret (.ref C))) s):
  wpAny (model prog w) A (Builtin.«object.__getattribute__» ⟨[.ref a,.str "__class__" tk],[]⟩) Q E s:=by
 obtain⟨hh,g,d,t,os⟩:=s
 have L1:PySem.W.Looks (model prog w) hh (find (.ref a) (.ref C) "__class__") (.bind (.builtin "getset_descriptor.__get__") (.builtin "object.__class__")):=by
  have LA:=cY (M:=model prog w) X ki.cl
  have LB:PySem.W.Looks (model prog w) hh (getOf (some (.builtin "object.__class__"))) (some (.builtin "getset_descriptor.__get__")):=PySem.W.looks_specialIn X ki.hn
  have LC:=PySem.W.looks_takesIn (M:=model prog w) X ki.tk
  refine LA.andThen (LB.andThen ?_)
  exact(show PySem.W.Looks (model prog w) hh (dataDescriptor? (some (.builtin "object.__class__")) (some (.builtin "getset_descriptor.__get__"))) (some (.builtin "getset_descriptor.__get__",.builtin "object.__class__")) from LC.andThen .now).andThen (PySem.W.Looks.tag .now)
 unfold Builtin.«object.__getattribute__»
 refine wpAny_bind (m:=slotArgs _ _ _) (wpAny_pure ?_)
 refine wpAny_bind (m:=attrName _) (wpAny_pure ?_)
 refine wpAny_bind (I.at (wpAny_bind (L1.at ?_)))
 show wpAny _ _ (bindTo _ _ _ _) _ _ _
 show wpAny _ _ (holding [_] (call _ [_,.ref a,.ref C])>>=ret) _ _ _
 exact wpAny_bind (wpAny_holding (wpAny_call (QQ X I ki (wpAny_pure h))))
theorem OR{tk:Tok}{R:Result->Shared->Prop}(X:K.In s.heap)(I:PySem.W.Looks (model prog w) s.heap (typeOf (.ref a)) (.ref C))(ki:OT K C)(h:R (.ok (.ret (.ref C))) s):
  codeAny (model prog w) A (.call (.builtin "BaseException.__getattribute__") ⟨[.ref a,.str "__class__" tk],[]⟩) R s:=by
 obtain⟨hh,g,d,t,os⟩:=s
 have L1:=PySem.W.looks_mroIn (M:=model prog w) X ki.mb
 refine codeAny_call_builtin PySem.F.attr_ValueError.ga.plain PySem.F.entry_bexc_ga ?_
 have hk:builtinKind "BaseException.__getattribute__"=some .slot:=by decide+kernel
 have hsplit:splitId "BaseException.__getattribute__"=some ("BaseException","__getattribute__"):=by decide+kernel
 have ha:=PySem.F.args_bexc_ga (.ref a) (.str "__class__" tk)
 simp only[checkBuiltinCall,hk,hsplit]
 refine wpAny_bind (wpAny_bind (I.at (L1.at ?_)))
 rw[if_neg (by decide)]
 unfold argsOk at ha
 exact wpAny_of_eq (a:=()) ha (Nl X I ki h)
theorem OQ{Q:Option Value->Shared->Prop}(X:K.In s.heap)(I:PySem.W.Looks (model prog w) s.heap (typeOf (.ref a)) (.ref C))(ki:OT K C)(h:Q (some (.ref C)) {s with toks:=s.toks+1}):
  wpAny (model prog w) A (getAttr? (.ref a) "__class__") Q E s:=by
 obtain⟨hh,g,d,t,os⟩:=s
 have L1:=cY (M:=model prog w) X ki.ga
 have L2:=cY (M:=model prog w) X ki.gt
 unfold getAttr? getAttrBy? getAttrBy
 refine wpAny_bind (wpAny_mkText (wpAny_bind (wpAny_attempt (wpAny_holding (wpAny_bind (I.at (wpAny_bind (L1.at ?_))))))))
 show wpAny _ _ (getAttrByItsOwn _ _ _ _ _ _) _ _ _
 unfold getAttrByItsOwn
 refine wpAny_bind (m:=hookBefore _) ?_
 show wpAny _ _ (typeLookup (.ref C) "__getattr__") _ _ _
 refine L2.at (wpAny_bind (wpAny_attempt (wpAny_holding ?_)))
 show wpAny _ _ (boundAndCalled _ _ _) _ _ _
 unfold boundAndCalled
 refine wpAny_bind (wpAny_of_eq (PySem.F.attr_ValueError.ga.bind _) ?_)
 refine wpAny_call (OR X I ki ?_)
 exact PySem.W.handed_on rfl (wpAny_pure h)
theorem Mw(ki:OT K C):PySem.W.KitX K (.ref a) (.ref C) (λh=>∃o vs,h.get? a=some o/\o.cls= .ref C/\o.data= .fields vs) where
 ty:=λM h _ p=>D9 p
 it:=λ_ _ X _=>by
  obtain⟨cd,hc⟩:=ki.cls
  unfold PySem.W.clsIn at hc
  split at hc
  ·rename_i c' d' cd' sl' ho
   intro A' Q' E' s' k q;unfold isType loadHead;exact wpAny_bind (wpAny_loadPart (k _ _ (X _ _ ho)) (wpAny_pure q))
  ·cases hc
 ne:=λh tp dd its n sl X htp=>by
  obtain⟨cd,hc⟩:=ki.cls
  refine Bool.eq_false_iff.mpr λq=> ?_
  have e:C=tp:=Value.ref.inj (beq_iff_eq.mp q)
  subst e
  unfold PySem.W.clsIn at hc
  split at hc
  ·rename_i c' d' cd' sl' ho;have z:=(X _ _ ho).symm.trans htp;cases z
  ·cases hc
 ca:=λX p k=>OQ X (D9 p) ki k
end
structure TN(K:PySem.W.Frag)(C:Addr):Prop where
 cl:Cq K C
 ha:PySem.W.findIn K (.ref C) "__class__"=some (some (.builtin "object.__class__"))
 hn:PySem.W.specialIn K (.builtin "object.__class__") "__get__"=some (some (.builtin "getset_descriptor.__get__"))
 tk:PySem.W.takesIn K (.builtin "object.__class__")=some true
 hm:PySem.W.mroIn K C (.type "object")=some true
noncomputable def QM (H:Hp):V->Option Value
 | .gT=>some (.type "NoneType")
 | .bl _=>some (.type "bool")
 | .int _=>some (.type "int")
 | .str _=>some (.type "str")
 | .ref a=>match H a with
  |some (.lst _)=>some (.type "list")
  |some (.Fb _ (.lst _))=>some (.type "list")
  |some (.tup _)=>some (.type "tuple")
  |some (.dK _)=>some (.type "dict")
  |some (.ins C _ _)=>some (.ref C)
  |some (.exc c)=>some c
  |_=>none
 |_=>none
noncomputable def IA (K:PySem.W.Frag) (H:Hp):V->Prop
 | .ref a=>match H a with
  |some (.ins C _ _)=>TN K C
  |some (.exc c)=>∃C,c= .ref C/\OT K C
  |_=>True
 |_=>True
noncomputable def PZ (K:PySem.W.Frag) (t:Value):V->Option Bool
 | .ty n=>PySem.W.kitOne K t (.type n)
 | .ref C=>PySem.W.kitOne K t (.ref C)
 |_=>none
noncomputable def M7 (K:PySem.W.Frag):List V->Hp->VK->Prop:=λxs H Q=>match xs with
 | [x,c]=>(match QM H x with
  |some t=>IA K H x/\(match PZ K t c with
   |some b=>Q (.bl b) H
   |none=>False)
  |none=>False)
 |_=>False
theorem L5{X:Cx}:mF X (.builtin "isinstance") (M7 X.K):=by
 intro pins s σ H xs us Q I r h
 unfold M7 at h
 split at h
 case h_2=>exact h.elim
 rename_i x c
 obtain⟨u,w',rfl,rx,rc⟩:=vals2 r
 split at h
 case h_2=>exact h.elim
 rename_i t ht
 obtain⟨ok,h⟩:=h
 split at h
 case h_2=>exact h.elim
 rename_i b hk
 have q:=h
 have hc:PySem.W.kitOne X.K t w'=some b:=by
  cases c<;>first|(cases (show w'=Value.type _ from rc);exact hk)|(cases (show w'=Value.ref _ from rc);exact hk)|cases hk
 have fin:∀tk,EP X pins σ Q (.bool b) {s with toks:=tk}:=λtk=>⟨.bl b,H,I.tok tk,rfl,q⟩
 cases x with
 |gT=>cases ht;exact mv I rx .gT hc fin
 |bl y=>cases ht;exact mv I rx (.bl y) hc fin
 |int i=>cases ht;exact mv I rx (.int i) hc fin
 |str y=>cases ht;exact mv I rx (.str y) hc fin
 |byt y=>cases ht
 |KU y=>cases ht
 |ty n=>cases ht
 |ref a=>
  unfold QM at ht
  unfold IA at ok
  dsimp only at ht ok
  cases e:H a with
  |none=>rw[e]at ht;cases ht
  |some o=>
   rw[e]at ht ok
   cases o with
   |lst xs=>cases ht;exact mv I rx (.lst e) hc fin
   |tup xs=>cases ht;exact mv I rx (.tup e) hc fin
   |dK fA=>cases ht;exact mv I rx (.dK e) hc fin
   |ins C dx fs=>cases ht;exact mv I rx (.ins e ok.cl ok.ha ok.hn ok.tk ok.hm) hc fin
   |Fb ob u=>
    cases u with
    |lst xs=>cases ht;exact mv I rx (.Fb e) hc fin
    |_=>cases ht
   |exc c=>
    cases ht
    obtain⟨C,rfl,ki⟩:=ok
    cases (show u=Value.ref a from rx)
    exact bq (Mw ki) I.A2 (show iT X.prog X.w H s.heap a (.exc (.ref C)) from I.gw a _ e) hc (λz=>nomatch z) fin
   |_=>cases ht
theorem Ng:(0<=sizeLine)=True:=eq_true (by decide)
theorem uO:(1<=sizeLine)=True:=eq_true (by decide)
theorem R_:(2<=sizeLine)=True:=eq_true (by decide)
theorem TY:(3<=sizeLine)=True:=eq_true (by decide)
theorem TL:(4<=sizeLine)=True:=eq_true (by decide)
theorem As{a b:String}:(Str.ofString a=Str.ofString b)=(a=b):=by
 refine propext ⟨λh=> ?_,λh=>by rw[h]⟩
 rw[Str.ofString_eq_toList,Str.ofString_eq_toList]at h
 have h1:(a.toList.map Char.toNat).toArray=(b.toList.map Char.toNat).toArray:=congrArg Str.cps h
 have h2:a.toList.map Char.toNat=b.toList.map Char.toNat:=congrArg Array.toList h1
 have h3:a.toList=b.toList:=by
  refine(List.map_inj_right λx y e=> ?_).mp h2
  exact Char.ext (UInt32.toNat_inj.mp e)
 exact String.toList_inj.mp h3
theorem NM:Str.empty=Str.ofString "":=by decide+kernel
end L2
namespace L2
open PySem PySem.Spec PyProof.Rows
noncomputable def notStar:Expr->Bool
 | .Starred _ _=>false
 |_=>true
theorem o5{e:Expr}{rest:List Expr}{env:Env}(h:notStar e=true):starEach (e::rest) env=(false,eval e env)::starEach rest env:=by
 cases e<;>first|rfl|cases h
theorem o4{env:Env}{pos:Pos}:∀{es:List Expr},es.all notStar=true->(backTo pos (starEach es env)).any (·.1)=false
 | [],_=>rfl
 |e::es,h=>by
  rw[ba,aI]at h
  rw[o5 h.1]
  show(false ||(backTo pos (starEach es env)).any (·.1))=false
  rw[o4 h.2];rfl
section
variable{X:Cx}{ca:Bool}{k:Nat}{f C:Addr}{fd:FuncData}{ps:List Str}{sp:Sp}{E:St->XK}{x m:Str}{p pos apos np cpos:Pos}{e o:Expr}{es:List Expr}{te ta:TE}{t:TA}{id T:String}{r:List V->Hp->VK->Prop}
theorem Td(ha:PE X e te)(hr:PA X es t)(h:notStar e=true:=by rfl):PA X (e::es) (dN te t):=Od ha hr (o5 h)
theorem MK(F:e_ X.prog X.w X.K X.mg X.base (gY X.prog X.w) ca k f fd ps sp)(hr:lP ca k X.A)(hg:Gl X x)(hm:X.mg x=some (.ref f))(hk:PySem.W.keepIn X.K (.ref f)=true)(hb:Binds X.K fd ps [])(hx:Exc X E)
  (ha:PA X (e::es) t) (hdb:(x==("__debug__":Str))=false:=by decide) (h:(e::es).all notStar=true:=by rfl):PE X (.Call (.Name x p) (e::es) [] pos) (dR sp E t):=
 MJ F hr hg hm hk hb hx ha hdb (o5 (by rw[ba,aI]at h;exact h.1)) (o4 (by rw[ba,aI]at h;exact h.2))
theorem MT(M:Mk X.K C f)(F:e_ X.prog X.w X.K X.mg X.base (gY X.prog X.w) ca k f fd ps sp)(hr:lP ca (k+1) X.A)(hg:Gl X x)(hm:X.mg x=some (.ref C))(hb:Binds X.K fd ps [])(hx:Exc X E)
  (ha:PA X (e::es) t) (hdb:(x==("__debug__":Str))=false:=by decide) (h:(e::es).all notStar=true:=by rfl):PE X (.Call (.Name x p) (e::es) [] pos) (mP C sp E t):=
 MS M F hr hg hm hb hx ha hdb (o5 (by rw[ba,aI]at h;exact h.1)) (o4 (by rw[ba,aI]at h;exact h.2))
theorem Ln(hx:Exc X E)(hg:Gl X x)(hm:X.mg x=some (.ref C))(hq:yk X.K C)(hc:X.calm=true)(ha:PA X (e::es) t)(h:(e::es).all notStar=true:=by rfl)(hdb:(x==("__debug__":Str))=false:=by decide):
  PS X (.Raise (some (.Call (.Name x np) (e::es) [] cpos)) none pos) (gi C E t):=
 M0 hx hg hm hq hc ha (o5 (by rw[ba,aI]at h;exact h.1)) (o4 (by rw[ba,aI]at h;exact h.2)) hdb
theorem Lh(hc:mF X (.builtin id) r)(hg:Gl X x)(hm:X.mg x=none)(hv:bootBuiltins x=some (.builtin id))(ha:PA X (e::es) t)(hn:x≠"__name__":=by decide)(hdb:(x==("__debug__":Str))=false:=by decide)
  (h:(e::es).all notStar=true:=by rfl):PE X (.Call (.Name x p) (e::es) [] pos) (AV r t):=
 MI hc hg hm hv ha hn hdb (o5 (by rw[ba,aI]at h;exact h.1)) (o4 (by rw[ba,aI]at h;exact h.2))
theorem Jm(hc:mF X (.type T) r)(hg:Gl X x)(hm:X.mg x=none)(hv:bootBuiltins x=some (.type T))(ha:PA X (e::es) t)(hn:x≠"__name__":=by decide)(hdb:(x==("__debug__":Str))=false:=by decide)
  (h:(e::es).all notStar=true:=by rfl):PE X (.Call (.Name x p) (e::es) [] pos) (AV r t):=
 Li hc hg hm hv ha hn hdb (o5 (by rw[ba,aI]at h;exact h.1)) (o4 (by rw[ba,aI]at h;exact h.2))
end
end L2
namespace L2
open PySem PySem.Spec PyProof.Rows
noncomputable def oG (J:It) (g:TG) (tb:TS) (D:Ends) (σ:St) (H1:Hp):Prop:=∃W:Nat->Nat->St->Hp->Prop,(∃m,W 0 m σ H1)/\∀i m σ H,W i m σ H->
 (J.stop i H/\D.nx σ H)∨(J.go i H/\∃N:St->Hp->Prop,(∀σ' H',N σ' H'->∃m',m'<m/\W (i+1) m' σ' H')/\∀x H',J.OS i H x H'->g x σ H' λσ2 H2=>tb {D with nx:=N,ct:=N,bk:=D.nx} σ2 H2)
theorem tE{wi:TI}{g:TG}{tb:TS}:QH wi g tb=λD σ H=>wi σ H λJ H1=>oG J g tb D σ H1:=rfl
theorem oG.range{lo:Int}{n:Nat}{g:TG}{tb:TS}{D:Ends}{σ:St}{H:Hp}(Pv:Nat->St->Hp->Prop)(h0:Pv 0 σ H)
  (hs:∀i σ H,i<n->Pv i σ H->g (.int (lo+i)) σ H λσ2 H2=>tb {D with nx:=Pv (i+1),ct:=Pv (i+1),bk:=D.nx} σ2 H2) (hd:∀σ H,Pv n σ H->D.nx σ H):oG (Nt lo n) g tb D σ H:=
 KW Pv h0 hs hd
theorem oG.list{K:PySem.W.Frag}{a:Addr}{xs:List V}{g:TG}{tb:TS}{D:Ends}{σ:St}{H:Hp}(Pv:Nat->St->Hp->Prop)(h0:Pv 0 σ H)(hl:∀i σ H,i<=xs.length->Pv i σ H->iC K H a xs)
  (hs:∀i x σ H,xs[i]? =some x->Pv i σ H->g x σ H λσ2 H2=>tb {D with nx:=Pv (i+1),ct:=Pv (i+1),bk:=D.nx} σ2 H2) (hd:∀σ H,Pv xs.length σ H->D.nx σ H):oG (KD K a) g tb D σ H:=
 Mg Pv h0 hl hs hd
theorem LP{α:Type}{xs:List α}{j:Nat}:FD xs (j:Int)=xs[j]? :=by
 cases h:xs[j]? with
 |some v=>exact JC h
 |none=>
  have hl:xs.length<=j:=List.getElem?_eq_none_iff.mp h
  unfold FD K5
  rw[if_pos (by omega),if_neg (by omega)]
  rfl
theorem Q1{α:Type}{xs:List α}:FD xs 1=xs[1]? :=LP (j:=1)
theorem IV{n:Nat}{i:Int}(h0:0<=i)(h1:i<n):K5 n i=some i.toNat:=by
 unfold K5
 rw[if_pos h0,if_pos h1]
theorem LQ{α:Type}{xs:List α}{i:Int}(h0:0<=i)(h1:i<xs.length):FD xs i=xs[i.toNat]? :=by
 unfold FD
 rw[IV h0 h1];rfl
noncomputable def Eh (K:PySem.W.Frag) (ta:TE) (f:Str):TE:=λσ H Q=>ta σ H λx H1=>match x with
 | .ref a=>(match H1 a with
  |some (.ins C _ fs)=>Cq K C/\gG K C f/\(match fs.lookup f with
   |some v=>Q v H1
   |none=>False)
  |_=>False)
 |_=>False
noncomputable def oH (K:PySem.W.Frag) (ta tv:TE) (f:Str):TS:=λD σ H=>tv σ H λy H1=>ta σ H1 λx H2=>match x with
 | .ref a=>(match H2 a with
  |some (.ins C dx fs)=>Cq K C/\gG K C f/\fs.length<1000/\D.nx σ (upd H2 a (.ins C dx (gD f y fs)))
  |_=>False)
 |_=>False
noncomputable def tL (C:Addr) (m:Str) (sp:Sp) (E:St->XK) (ta:TE) (t:TA):TE:=λσ H Q=>ta σ H λx H1=>match x with
 | .ref a=>(match H1 a with
  |some (.ins C' _ fs)=>C'=C/\fs.lookup m=none/\t σ H1 λvs H2=>sp (x::vs) H2 Q (E σ)
  |_=>False)
 |_=>False
noncomputable def E3:KH:=λo i v H Q=>match o,i with
 | .ref p,.int k=>(match H p with
  |some (.lst xs)=>(match K5 xs.length k with
   |some j=>Q (upd H p (.lst (xs.set j v)))
   |none=>False)
  |_=>False)
 |_,_=>False
noncomputable def KJ:R2:=λx y H Q=>match x,y with
 | .ref l,.int k=>(match H l with
  |some (.lst xs)=> -(2^63)<=k/\k<2^63/\xs.length*k.toNat<=sizeLine/\∀p,H p=none->Q (.ref p) (upd H p (.lst (List.replicate k.toNat xs).flatten))
  |_=>False)
 |_,_=>False
noncomputable def NF (K:PySem.W.Frag):V->Option Int->Option Int->Hp->VK->Prop:=λx lo hi H Q=>match x with
 | .ref a=>∃xs,iC K H a xs/\∀p,H p=none->Q (.ref p) (upd H p (.lst (IL xs lo hi)))
 |_=>False
noncomputable def LY (t:TE):TO:=λσ H Q=>t σ H λx H1=>match x with
 | .int i=>Q (some i) H1
 |_=>False
noncomputable def kQ:V->List V->Hp->VK->Prop:=λx vs H Q=>match x,vs with
 | .ref l,[y]=>(match H l with
  |some (.lst xs)=>xs.length<sizeLine/\Q .gT (upd H l (.lst (xs++[y])))
  |_=>False)
 |_,_=>False
noncomputable def G8 (r:V->List V->Hp->VK->Prop) (to:TE) (t:TA):TE:=λσ H Q=>to σ H λx H1=>match x with
 | .ref a=>(match H1 a with
  |some (.lst _)=>t σ H1 λxs H2=>r x xs H2 Q
  |_=>False)
 |_=>False
noncomputable def uB:V->Option Key
 | .int n=>some (.inl n)
 | .str x=>some (.inr x)
 |_=>none
noncomputable def JM (td ty:TE):TE:=λσ H Q=>td σ H λx H1=>ty σ H1 λy H2=>match x with
 | .ref a=>(match H2 a,uB y with
  |some (.dK fA),some k=>(match qx fA k with
   |some v=>Q v H2
   |none=>False)
  |_,_=>False)
 |_=>False
noncomputable def Dc (td ty tv:TE):TS:=λD σ H=>tv σ H λv H1=>td σ H1 λx H2=>ty σ H2 λy H3=>match x with
 | .ref a=>(match H3 a,uB y with
  |some (.dK fA),some k=>fA.length<sizeLine/\D.nx σ (upd H3 a (.dK (putK fA k v)))
  |_,_=>False)
 |_=>False
theorem Af{y:V}{k:Key}(h:uB y=some k):y=kV k:=by
 cases y<;>cases h<;>rfl
section
variable{X:Cx}{e o i f' value:Expr}{f m:Str}{pos pos' apos cpos p2:Pos}{ta tv td ty tx te:TE}{t:TA}{lo hi:Option Expr}{tl th:TO}
theorem O9.mono{r r':V->Option Int->Option Int->Hp->VK->Prop}(h:O9 X r)(k:∀x lo hi H Q,r' x lo hi H Q->r x lo hi H Q):O9 X r':=λpins s σ H x v vl vu lo hi sl Q I rx hs pl pu q=>h pins s σ H x v vl vu lo hi sl Q I rx hs pl pu (k _ _ _ _ _ q)
theorem OV(he:PE X e ta)(hb:attributeBase e f X.env (eval e X.env)=eval e X.env):PE X (.Attribute e f pos) (Eh X.K ta f):=by
 intro pins s σ H Q I h
 refine Nz hb (kX (he pins s σ H _ I h) λu s1 ⟨x,H1,I1,rx,q⟩=> ?_)
 try dsimp only at q
 split at q
 case h_2=>exact q.elim
 rename_i a
 split at q
 case h_2=>exact q.elim
 rename_i C dx fs ea
 obtain⟨c,n,q⟩:=q
 try dsimp only at q
 split at q
 case h_2=>exact q.elim
 rename_i v l
 obtain rfl:u=Value.ref a:=rx
 exact IT I1 ea c n l λu' s2 I2 ru=>⟨v,H1,I2,ru,q⟩
theorem Px(ha:PE X o ta)(hv:PE X value tv)(hs:swapsWith value (some (.Attribute o f pos')) pos.line X.env=pure false):PS X (.Assign [.Attribute o f pos'] value pos) (oH X.K ta tv f):=by
 intro pins s σ H D I h
 refine plainObj_wpAny_Assign_Attribute (kX (hv pins s σ H _ I h) λu s1 ⟨y,H1,I1,ry,q⟩=>kX (ha pins s1 σ H1 _ I1 q) λov s2 ⟨x,H2,I2,rx,q2⟩=> ?_) hs
 try dsimp only at q2
 split at q2
 case h_2=>exact q2.elim
 rename_i a
 split at q2
 case h_2=>exact q2.elim
 rename_i C dx fs ea
 obtain⟨c,n,l,q2⟩:=q2
 obtain rfl:ov=Value.ref a:=rx
 exact Jv I2 ea c n l ry λs3 I3=>⟨σ,_,I3,q2⟩
theorem Rm:Nu X E3:=by
 intro pins s σ H o i v ov iv u Q I ro ri rv h
 unfold E3 at h
 split at h
 case h_2=>exact h.elim
 split at h
 case h_2=>exact h.elim
 rename_i xs hp
 split at h
 case h_2=>exact h.elim
 rename_i j hj
 exact set_list pins s σ H _ _ v ov iv u Q I ro ri rv ⟨_,xs,_,j,rfl,rfl,hp,hj,h⟩
theorem Rl:qb X (binaryOp .Mult) KJ:=Qi.mono λx y H Q h=>by
 unfold KJ at h
 split at h
 case h_2=>exact h.elim
 split at h
 case h_2=>exact h.elim
 rename_i xs hp
 exact⟨_,_,xs,rfl,rfl,hp,h.1,h.2.1,h.2.2.1,h.2.2.2⟩
theorem Rn:O9 X (NF X.K):=OI.mono λx lo hi H Q h=>by
 unfold NF at h
 split at h
 case h_2=>exact h.elim
 obtain⟨xs,hp,h⟩:=h
 exact⟨_,xs,rfl,hp,h⟩
theorem Pw(h:PE X e te):PO X (some e) (LY te):=by
 intro pins s σ H Q I hw
 rw[evalPart_some]
 refine kX (h pins s σ H _ I hw) λu s1 ⟨x,H1,I1,r1,q1⟩=> ?_
 try dsimp only at q1
 split at q1
 case h_2=>exact q1.elim
 rename_i i
 obtain⟨t,rfl⟩:=r1
 exact⟨some i,H1,I1,.int i t,q1⟩
theorem LZ:Sh X "list.append" kQ:=λpins s σ H x xs v us Q I rx rxs h=>by
 unfold kQ at h
 split at h
 case h_2=>exact h.elim
 split at h
 case h_2=>exact h.elim
 rename_i ys hp
 exact Ld pins s σ H _ _ v us Q I rx rxs ⟨_,ys,_,rfl,rfl,hp,h.1,h.2⟩
theorem PL{H:Hp}{a:Addr}{fA:List (Key×V)}(e:H a=some (.dK fA)):Tq H a:= .inl ⟨fA,.inl e⟩
theorem Pk(hu:X.A.units+1<cLine)(ho:PE X o td)(hi:PE X i ty)(hs:O7 i):PE X (.Subscript o i pos) (JM td ty):=by
 intro pins s σ H Q I h
 refine OK PySem.F.slot_dict_getitem.lookup hs (kX (ho pins s σ H _ I h) λu s1 ⟨x,H1,I1,rx,q1⟩=>kX (hi pins s1 σ H1 _ I1 q1) λiv s2 ⟨y,H2,I2,ry,q2⟩=> ?_)
 try dsimp only at q2
 split at q2
 case h_2=>exact q2.elim
 rename_i a _
 split at q2
 case h_2=>exact q2.elim
 rename_i fA k ea ek
 split at q2
 case h_2=>exact q2.elim
 rename_i v ev
 have ey:=Af ek
 subst ey
 obtain rfl:u=Value.ref a:=rx
 have g:Ee H2 a (kV k) (some v):=ev▸Ee.k ea
 exact⟨Hf I2 g,KQ hu I2 g ry λw' s3 I3 rw'=>⟨v,H2,I3,rw',q2⟩⟩
theorem Pm(hu:X.A.units+1<cLine)(ho:PE X o td)(hi:PE X i ty)(hv:PE X value tv)(hs:swapsWith value (some (.Subscript o i pos')) pos.line X.env=pure false):
  PS X (.Assign [.Subscript o i pos'] value pos) (Dc td ty tv):=by
 intro pins s σ H D I h
 refine wpAny_Assign_Subscript (kX (hv pins s σ H _ I h) λr s1 ⟨v,H1,I1,rv,q1⟩=>kX (ho pins s1 σ H1 _ I1 q1) λu s2 ⟨x,H2,I2,rx,q2⟩=>kX (hi pins s2 σ H2 _ I2 q2) λiv s3 ⟨y,H3,I3,ry,q3⟩=> ?_) hs
 try dsimp only at q3
 split at q3
 case h_2=>exact q3.elim
 rename_i a _
 split at q3
 case h_2=>exact q3.elim
 rename_i fA k ea ek
 have ey:=Af ek
 subst ey
 obtain rfl:u=Value.ref a:=rx
 exact KR hu I3 (Nr.k ea q3.1) ry rv λs4 I4=>⟨σ,_,I4,q3.2⟩
end
section
variable{X:Cx}{e o:Expr}{es:List Expr}{to:TE}{t:TA}{apos cpos:Pos}{r:V->List V->Hp->VK->Prop}
theorem SA{id:String}{name:Str}(slot:Slot "list" name id)(hty:typeOf (.builtin id)=pure (.type "method_descriptor"))(hm:Tt X id r)(ho:PE X o to)(ha:PA X (e::es) t)(hns:(e::es).all notStar=true:=by rfl)
  (hbase:attributeBase o name X.env (eval o X.env)=eval o X.env:=by rfl)
  (hfew:((backTo cpos (starEach (e::es) X.env)).all (λx=> !x.1)&&(backToKw cpos (keywordEach [] X.env)).all (λx=>x.1.isSome)
   &&decide ((e::es).length+([]:List Keyword).length+(if ([]:List Keyword).isEmpty then 0 else 1)<30))=true:=by rfl)
  (hline:(apos.endLine==cpos.line)=true:=by rfl):PE X (.Call (.Attribute o name apos) (e::es) [] cpos) (G8 r to t):=by
 intro pins s σ H Q I h
 have hs:starEach (e::es) X.env=(false,eval e X.env)::starEach es X.env:=o5 (by rw[ba,aI]at hns;exact hns.1)
 have hplain:(backTo cpos (starEach es X.env)).any (·.1)=false:=o4 (by rw[ba,aI]at hns;exact hns.2)
 refine wpAny_Call_method_late hbase hfew hline rfl (kX (ho pins s σ H _ I h) λv s1 ⟨x,H1,I1,r1,q1⟩=> ?_)
 try dsimp only at q1
 split at q1
 case h_2=>exact q1.elim
 rename_i a
 split at q1
 case h_2=>exact q1.elim
 rename_i ys ea
 have ty:TM X.K "list" (.ref a) H1:= .inl ⟨rfl,ys,iC.of ea⟩
 obtain⟨h1,h2⟩:=QL I1 r1 ty
 refine⟨"list",id,PySem.F.plainAttrs_list,slot,hty,h1,h2,?_⟩
 have hA:=ha cpos pins s1 σ H1 _ I1 q1
 rw[hs]at hA⊢
 refine Calls.callWith_builtin (by show(false ||(backTo cpos (starEach es X.env)).any (·.1))=false;rw[hplain]<;>rfl) (Calls.evalArgs_plain ?_)
 exact kX hA λus s2 ⟨vs,H2,I2,r2,q2⟩=>hm pins s2 σ H2 _ vs v us Q I2 r1 r2 q2
end
section
variable{X:Cx}{ca:Bool}{k:Nat}{f C:Addr}{fd:FuncData}{ps:List Str}{sp:Sp}{E:St->XK}{m:Str}{pos apos:Pos}{e o:Expr}{es:List Expr}{ta:TE}{t:TA}
theorem Pu{pl:Sem Bool}(he:PE X o ta)(c:Cq X.K C)(hm:Meth X.K C m f)(F:e_ X.prog X.w X.K X.mg X.base (gY X.prog X.w) ca k f fd ps sp)(hr:lP ca k X.A)(hb:Binds X.K fd ps [])(hx:Exc X E)(ha:PA X (e::es) t)
  (hns:(e::es).all notStar=true:=by rfl)
  (ht:eval (.Call (.Attribute o m apos) (e::es) [] pos) X.env=(do
   let ov←eval o X.env
   standAt apos.atName
   let (f,first)←holding [ov] (getMethod ov m pl)
   callWith pos f first (backTo pos (starEach (e::es) X.env)) (backToKw pos (keywordEach [] X.env))):=by rfl):
  PE X (.Call (.Attribute o m apos) (e::es) [] pos) (tL C m sp E ta t):=by
 intro pins s σ H Q I h
 have hst:starEach (e::es) X.env=(false,eval e X.env)::starEach es X.env:=o5 (by rw[ba,aI]at hns;exact hns.1)
 have hpl:(backTo pos (starEach es X.env)).any (·.1)=false:=o4 (by rw[ba,aI]at hns;exact hns.2)
 refine PySem.W.methodCall_KW (pl:=pl) (kX (he pins s σ H _ I h) λu s1 ⟨x,H1,I1,rx,q⟩=> ?_) ht
 try dsimp only at q
 split at q
 case h_2=>exact q.elim
 rename_i a
 split at q
 case h_2=>exact q.elim
 rename_i C' dx fs ea
 obtain⟨rfl,l,q⟩:=q
 obtain rfl:u=Value.ref a:=rx
 refine Dq I1 ea c hm l ?_
 refine du (first:=[.ref a]) (h₀:=X.base) I.ok.mod.QU hm.kp (kX (ha pos pins s1 σ H1 _ I1 q) λus s2 ⟨vs,H2,I2,r,q2⟩=>⟨I2.A2,?_⟩) hst hpl
 exact Gp (us:= .ref a::us) (vs:= .ref a::vs) F hr hb hx I2 (.cons rfl r) q2
theorem NI{pl:Sem Bool}(he:PE X o ta)(c:Cq X.K C)(hm:Meth X.K C m f)(F:e_ X.prog X.w X.K X.mg X.base (gY X.prog X.w) ca k f fd ps sp)(hr:lP ca k X.A)(hb:Binds X.K fd ps [])(hx:Exc X E)
  (ht:eval (.Call (.Attribute o m apos) [] [] pos) X.env=(do
   let ov←eval o X.env
   standAt apos.atName
   let (f,first)←holding [ov] (getMethod ov m pl)
   callWith pos f first (backTo pos (starEach [] X.env)) (backToKw pos (keywordEach [] X.env))):=by rfl):
  PE X (.Call (.Attribute o m apos) [] [] pos) (tL C m sp E ta dZ):=by
 intro pins s σ H Q I h
 refine PySem.W.methodCall_KW (pl:=pl) (kX (he pins s σ H _ I h) λu s1 ⟨x,H1,I1,rx,q⟩=> ?_) ht
 try dsimp only at q
 split at q
 case h_2=>exact q.elim
 rename_i a
 split at q
 case h_2=>exact q.elim
 rename_i C' dx fs ea
 obtain⟨rfl,l,q⟩:=q
 obtain rfl:u=Value.ref a:=rx
 refine Dq I1 ea c hm l ?_
 exact PySem.W.callWith_K0 (first:=[.ref a]) I1.A2 hm.kp (Gp (us:=[.ref a]) (vs:=[.ref a]) F hr hb hx I1 (.cons rfl .nil) q)
end
theorem dY.upd{H:Hp}{p:Addr}{o:HO}(h:H p=none):dY H (L2.upd H p o):=λb u e=>by rw[dO (dD e h)];exact e
theorem gv{H:Hp}{p b:Addr}{o:HO}(h:L2.upd H p o b=none):b≠p/\H b=none:=by
 by_cases z:b=p
 ·subst z;rw[dH]at h;cases h
 ·exact⟨z,by rw[dO z]at h;exact h⟩
theorem Me(n:Nat)(x:V):(List.replicate n [x]).flatten=List.replicate n x:=by
 induction n with
 |zero=>rfl
 |succ n ih=>rw[bH,bT,ih,bH];rfl
theorem dY.put{H H':Hp}{q:Addr}{o:HO}(s:dY H H')(h:H q=none):dY H (L2.upd H' q o):=λb u e=>by rw[dO (dD e h)];exact s b u e
end L2
namespace L2
open PySem PySem.Spec PyProof.Rows
section
variable{prog:Program}{w:World}{A:Around}{R:Result->Shared->Prop}{s:Shared}
theorem wI{elt target iter:Expr}{ifs:List Expr}{scope:Scope}{pos:Pos}{it acc:Value}{env:Env}(I:Nat->Shared->Prop)
  (turn:∀n s,I n s->wpAny (model prog w) A (pyNext it) (λr s₁=>match r with
   |none=>R (.ok .next) s₁
   |some v=>wpAny (model prog w) A (letOwnedTupleGo target it v) (λ_ s₁'=>wpAny (model prog w) A (assign target env v) (λ_ s₂=>
     wpAny (model prog w) A (forIn ifs true λc r=>if r=true then do let ok←isTrue c env (eval c env);pure (ForInStep.yield ok) else pure (ForInStep.yield r)) (λok s₃=>
      if ok=true then wpAny (model prog w) A (eval elt env) (λx s₄=>
       wpAny (model prog w) A (call (.builtin "list.append") [acc,x]) (λ_ s₅=>∃m,m<n/\I m s₅) (λ_ _=>False) s₄) (λ_ _=>False) s₃
      else∃m,m<n/\I m s₃) (λ_ _=>False) s₂) (λ_ _=>False) s₁') (λ_ _=>False) s₁) (λ_ _=>False) s)
  (n:Nat) (h:I n s):
  codeAny (model prog w) A (.compLoop (.ListComp elt [⟨target,iter,ifs,0⟩] scope pos) 0 it acc env) R s:=by
 refine codeAny_loop rfl I (λn s hI=> ?_) n h
 show wpAny _ A ((compTurn (.ListComp elt [⟨target,iter,ifs,0⟩] scope pos) 0 it acc env).onRaise (λx=>do noteFrame x env;theTreesLotGoes x)) _ _ s
 refine wpAny_noted ?_
 rw[compTurn_list]
 refine wpAny_bind (wpAny_standAt (wpAny_bind (wpAny_mono (turn n s hI) (λr s₁ h₁=> ?_) λ_ _ h'=>h'.elim)))
 cases r with
 |none=>exact wpAny_pure h₁
 |some v=>
  refine wpAny_bind (wpAny_mono h₁ (λ_ s₁' h₁'=> ?_) λ_ _ h'=>h'.elim)
  refine wpAny_bind (wpAny_mono h₁' (λ_ s₂ h₂=>wpAny_bind (wpAny_mono h₂ (λok s₃ h₃=> ?_) λ_ _ h'=>h'.elim)) λ_ _ h'=>h'.elim)
  cases ok with
  |false=>exact wpAny_pure ⟨rfl,h₃⟩
  |true=>
   exact wpAny_bind (wpAny_bind (wpAny_mono h₃ (λx s₄ h₄=>wpAny_bind (wpAny_mono h₄ (λ_ s₅ h₅=>wpAny_pure (wpAny_pure ⟨rfl,h₅⟩)) λ_ _ h'=>h'.elim)) λ_ _ h'=>h'.elim))
end
noncomputable def Dg (env:Env) (cs:List (Str×Addr)):List (Str×NameKind)->List (Str×Addr)
 | []=>cs
 |(n,k)::r=>Dg env (if k== .free then(n,(env.cells.lookup n).getD 0)::cs else cs) r
noncomputable abbrev KP (scope:Scope) (env:Env):List (Str×Addr):=Dg env [] scope.names
theorem IK{scope:Scope}{env:Env}(h:∀y∈scope.names,y.2= .free->∃c,env.cells.lookup y.1=some c):closureFor scope env=pure (KP scope env):=by
 have go:∀(l:List (Str×NameKind)) (cs:List (Str×Addr)),(∀y∈l,y.2= .free->∃c,env.cells.lookup y.1=some c)->
   (forIn l cs λ(x:Str×NameKind) (r:List (Str×Addr))=>match x with
    |(name,kind)=>if (kind== .free)=true then do let c←cellOf env name;pure (ForInStep.yield ((name,c)::r)) else pure (ForInStep.yield r):Sem (List (Str×Addr)))=pure (Dg env cs l):=by
  intro l
  induction l with
  |nil=>intro cs _;rfl
  |cons y l ih=>
   intro cs hy
   obtain⟨n,k⟩:=y
   rw[List.forIn_cons]
   cases hk:(k==NameKind.free) with
   |true=>
    obtain⟨c,hc⟩:=hy (n,k) a_ (by simpa using hk)
    have e:cellOf env n=pure c:=by unfold cellOf;rw[show env.cells.lookup n=some c from hc]
    simp only[if_true,e,pure_bind,Dg,hk,show env.cells.lookup n=some c from hc,dk]
    exact ih _ λz hz=>hy z (aZ _ hz)
   |false=>
    simp only[if_false,aH,pure_bind,Dg,hk]
    exact ih _ λz hz=>hy z (aZ _ hz)
 unfold closureFor
 have:=go scope.names [] h
 simp only[bind_pure_comp,pure_bind]at this⊢
 first|exact this|(rw[this];rfl)|(simpa using this)
theorem yZ{env:Env}{y:Str}{c:Addr}:∀{l:List (Str×NameKind)} {cs:List (Str×Addr)},(Dg env cs l).lookup y=some c->cs.lookup y=some c∨((y,NameKind.free)∈l/\c=(env.cells.lookup y).getD 0)
 | [],cs,h=> .inl h
 |(n,k)::r,cs,h=>by
  rcases yZ (l:=r) h with h1|⟨h1,e⟩
  ·cases hk:(k==NameKind.free) with
   |true=>
    rw[hk,if_pos rfl,bK]at h1
    cases hy:y==n with
    |true=>
     rw[hy]at h1
     have e1:y=n:=by simpa using hy
     have e2:k= .free:=by simpa using hk
     subst e1 e2
     exact .inr ⟨a_,(aT h1).symm⟩
    |false=>rw[hy]at h1;exact .inl h1
   |false=>rw[hk]at h1;exact .inl (by simpa using h1)
  ·exact .inr ⟨aZ _ h1,e⟩
theorem A_{env:Env}{y:Str}:∀{l:List (Str×NameKind)} {cs:List (Str×Addr)},((y,NameKind.free)∈l∨∃c,cs.lookup y=some c)->∃c,(Dg env cs l).lookup y=some c
 | [],cs,h=>h.elim (λz=>by cases z) id
 |(n,k)::r,cs,h=>by
  refine A_ (l:=r) ?_
  rcases h with h|⟨c,h⟩
  ·rcases List.mem_cons.mp h with e|h
   ·cases e
    exact .inr ⟨(env.cells.lookup y).getD 0,by rw[if_pos (by decide),bK];simp⟩
   ·exact .inl h
  ·refine .inr ?_
   cases hk:(k==NameKind.free) with
   |false=>exact⟨c,by simpa using h⟩
   |true=>
    rw[if_pos rfl,bK]
    cases hy:y==n with
    |true=>exact⟨_,rfl⟩
    |false=>exact⟨c,h⟩
theorem lookup_mem{y:Str}{k:NameKind}:∀{l:List (Str×NameKind)},l.lookup y=some k->(y,k)∈l
 | [],h=>by cases h
 |(n,k')::r,h=>by
  rw[bK]at h
  cases hy:y==n with
  |true=>
   rw[hy]at h
   have e1:y=n:=by simpa using hy
   subst e1
   cases h
   exact a_
  |false=>rw[hy]at h;exact aZ _ (lookup_mem h)
structure nF(fsc scope:Scope)(x:List Str)(N2:List Str):Prop where
 kind:scope.kind= .function
 Ry:fsc.kind= .function
 own:∀z∈x,scope.names.lookup z=some .local
 MF:∀y∈scope.names,y.2≠ .cell
 locs:∀y∈scope.names,y.2= .local->scope.names.lookup y.1=some .local
 Sg:∀y∈scope.names,y.2= .free->¬y.1∈x
 cells:∀y∈scope.names,y.2= .free->fsc.names.lookup y.1=some .cell
 nd:(x++N2).Nodup
 qL:∀y∈N2,scope.names.lookup y=some .free
theorem AE{env:Env}(hk:env.scope.kind= .function):∀{names:List (Str×NameKind)} {y:Str},names.lookup y=some .free->env.kindOf y=some .cell->
  (names.map λ(n,k)=>if (k==NameKind.free&&env.scope.kind== .function&&env.kindOf n==some .cell) then(n,NameKind.cell) else(n,k)).lookup y=some .cell
 | [],_,h,_=>by simp at h
 |(n,k)::r,y,h,hc=>by
  have ih:= @AE env hk r y
  show List.lookup y ((if (k==NameKind.free&&env.scope.kind== .function&&env.kindOf n==some .cell)=true then(n,NameKind.cell) else(n,k))::_)=_
  cases hy:y==n with
  |true=>
   have e1:y=n:=by simpa using hy
   subst e1
   simp only[bK,hy]at h
   cases h
   simp[hk,hc]
  |false=>
   simp only[bK,hy]at h
   by_cases hq:(k==NameKind.free&&env.scope.kind== .function&&env.kindOf n==some .cell)=true
   ·rw[if_pos hq];simp only[bK,hy];exact ih h hc
   ·rw[if_neg hq];simp only[bK,hy];exact ih h hc
theorem HR{scope:Scope}{env:Env}{y:Str}(hn:∀z∈scope.names,z.2≠ .cell)(h:(relabel scope env).names.lookup y=some .cell∨(relabel scope env).names.lookup y=some .free):(y,NameKind.free)∈scope.names:=by
 have go:∀{k:NameKind},(y,k)∈(relabel scope env).names->k= .cell∨k= .free->(y,NameKind.free)∈scope.names:=λ{k} hm hk=>by
  obtain⟨⟨n,k0⟩,hz,e⟩:=List.mem_map.mp hm
  dsimp only at e
  split at e
  ·rename_i hq
   have e1:n=y:=congrArg Prod.fst e
   rw[aI,aI]at hq
   have e2:k0= .free:=by simpa using hq.1.1
   rw[←e1,←e2];exact hz
  ·have e1:n=y:=congrArg Prod.fst e
   have e2:k0=k:=congrArg Prod.snd e
   rcases hk with rfl|rfl
   ·exact absurd e2 (hn _ hz)
   ·rw[←e1,←e2];exact hz
 rcases h with h|h
 ·exact go (lookup_mem h) (.inl rfl)
 ·exact go (lookup_mem h) (.inr rfl)
noncomputable def pj (σ:St) (js:List Nat):St:=js.map λj=>(σ[j]?).join
noncomputable abbrev Cx.ym (X:Cx) (scope:Scope) (N:List Str) (x:List Str) (s:Shared) (H:Hp) (C:Addr) (ex:List Addr):Cx:=
 {X with N:=N,s₀:=s,H₀:=H,env:=compEnvC scope (KP scope X.env) C X.env,outer:=X.stack,ex:=ex,fn:=λy=>x.contains y,pn:=[],xe:=λ_ _=>False}
noncomputable def mQ (J:It) (qL:St) (tt:TT) (te:TE) (H1:Hp) (Q:VK):Prop:=
 ∃W:Nat->Nat->List V->Hp->Prop,(∃m,W 0 m [] H1)/\∀i m ys H,W i m ys H->ys.length<=sizeLine/\
  ((J.stop i H/\∀p,H p=none->Q (.ref p) (upd H p (.lst ys)))∨
   (J.go i H/\∀x H',J.OS i H x H'->tt (some x::qL) H' λb H2=>if b=true then te (some x::qL) H2 λy H3=>∃m',m'<m/\W (i+1) m' (ys++[y]) H3 else∃m',m'<m/\W (i+1) m' ys H2))
noncomputable def qv (js:List Nat) (wi:TI) (tt:TT) (te:TE):TE:=λσ H Q=>wi σ H λJ H1=>mQ J (pj σ js) tt te H1 Q
noncomputable def Fy (X:Cx) (ifs:List Expr) (tt:TT):Prop:=
 ∀(pins:List (Addr×Obj)) (s:Shared) (σ:St) (H:Hp) (Q:Bool->Hp->Prop),Inv X pins σ H s->tt σ H Q->
  wpAny (model X.prog X.w) X.A (forIn ifs true λc r=>if r=true then do let ok←isTrue c X.env (eval c X.env);pure (ForInStep.yield ok) else pure (ForInStep.yield r)) (TP X pins σ Q) X.xe s
noncomputable def Lr:TT:=λ_ H Q=>Q true H
theorem MY{X:Cx}:Fy X [] Lr:=λpins s σ H Q I h=>wpAny_tests_nil ⟨H,I,h⟩
theorem MZ{X:Cx}{c:Expr}{tt:TT}(h:PT X c tt):Fy X [c] tt:=λpins s σ H Q I q=>wpAny_tests_one (h pins s σ H Q I q)
section
variable{X:Cx}{pins:List (Addr×Obj)}{σ:St}{H:Hp}{s:Shared}{scope fsc:Scope}{x:List Str}{N2:List Str}{js:List Nat}{fp:List Addr}{C:Addr}
theorem y3(S:nF fsc scope x N2)(hf:X.env.scope=fsc)(ok:X.Ok){y:Str}{c:Addr}(e:(KP scope X.env).lookup y=some c):X.env.cells.lookup y=some c:=by
 rcases yZ e with z|⟨z,e2⟩
 ·cases z
 ·obtain⟨c',hc⟩:=ok.has y (.inl (show X.env.scope.names.lookup y=some .cell by rw[hf];exact S.cells _ z rfl))
  rw[hc]at e2
  rw[hc,e2];rfl
theorem Pg(S:nF fsc scope x N2)(hf:X.env.scope=fsc)(I:Inv X pins σ H s)(hC:s.heap.objs.size<=C)(f:∀b∈fp,A3 X pins H b)(ho:∀b∈fp,∃o,s.heap.get? b=some o):(X.ym scope (x++N2) x s H C fp).Ok where
 mod:=I.ok.mod
 kind:=S.kind
 glob:=I.ok.glob
 blt:=I.ok.blt
 above:=hC
 inj:=λy z c e1 e2=>I.ok.inj y z c (y3 S hf I.ok e1) (y3 S hf I.ok e2)
 has:=λy h=>A_ (.inl (HR S.MF h))
 OW:=λy c h e=>by
  have ey:y∈x:=by simpa using h
  rcases yZ e with z|⟨z,_⟩
  ·cases z
  ·exact absurd ey (S.Sg _ z rfl)
 hd:=I.ok.hd
 frames:=I.ok.frames
 QG:= .inl rfl
 Rv:=λb hb=>by
  obtain⟨o,e⟩:=ho b hb
  exact⟨aS (aQ (Heap.lt_size e) hC),λy c ec=>(f b hb).2.2.2.2.1 y c (y3 S hf I.ok ec)⟩
 bs:=I.bs
 LF:=aA I.ok.LF I.sz
 Bj:=λb o e hb=>by
  rcases (f b hb).2.2.2.1 with z|z
  ·exact I.ok.Bj b o e z
  ·exact absurd (aQ (Heap.lt_size e) (aA I.ok.LF z)) (bu _)
 IP:=λb hb hm=>by
  rcases List.mem_cons.mp (I.D5 b hm) with z|z
  ·exact(f b hb).2.1 z
  ·exact(f b hb).2.2.1 z
 v_:=I.stack
 Mh:=I.C3
theorem NA(S:nF fsc scope x N2)(hf:X.env.scope=fsc)(hjs:js.map (λj=>X.N[j]?)=N2.map some)(I:Inv X pins σ H s)(hC:s.heap.objs.size<=C)(f:∀b∈fp,A3 X pins H b)(ho:∀b∈fp,∃o,s.heap.get? b=some o)
  {h':Heap} {t':Nat} {m:Str->Option Value} (hm:h'.Ns C m) (k:∀b o,s.heap.get? b=some o->h'.get? b=some o):Inv (X.ym scope (x++N2) x s H C fp) [] (List.replicate x.length none++pj σ js) H {s with heap:=h',toks:=t'} where
 ok:=Pg S hf I hC f ho
 os:=rfl
 bare:=I.bare
 base:=Un.kept k
 loc:=⟨m,hm,λi y v e1 e2 e3=>by
  by_cases hi:i<x.length
  ·have e2:(List.replicate x.length none++pj σ js)[i]? =some (some v):=e2
   rw[List.getElem?_append_left (by rw[bg];exact hi),cG,if_pos hi]at e2
   cases e2
  ·have e1:(x++N2)[i]? =some y:=e1
   have e2:(List.replicate x.length none++pj σ js)[i]? =some (some v):=e2
   rw[c7 (by omega)]at e1
   rw[c7 (by rw[bg];omega),bg]at e2
   generalize i-x.length=i at e1 e2
   unfold pj at e2
   rw[bb]at e2
   obtain⟨j,hj,e2⟩:=Option.map_eq_some_iff.mp e2
   have e4:X.N[j]? =some y:=by
    have q:=congrArg (λl=>l[i]?) hjs
    simp only[bb,hj,e1,cT]at q
    exact aT q
   have hy:y∈N2:=cN e1
   have hfree:=S.qL y hy
   have hcell:X.env.scope.names.lookup y=some .cell:=by rw[hf];exact S.cells _ (lookup_mem hfree) rfl
   have e5:σ[j]? =some (some v):=by
    cases q:σ[j]? with
    |none=>rw[q]at e2;cases e2
    |some o=>rw[q]at e2;have:o=some v:=e2;rw[this]
   obtain⟨m0,_,hl⟩:=I.loc
   obtain⟨u,r,l⟩:=hl j y v e4 e5 (.inr (.inl hcell))
   refine⟨u,r,.inr ⟨.inl (AE (by rw[hf];exact S.Ry) hfree hcell),?_⟩⟩
   rcases l with ⟨z,_⟩|⟨_,c,ec,o,eo,ed⟩
   ·have z':X.env.scope.names.lookup y=some .local:=z
    rw[hcell]at z';cases z'
   ·obtain⟨c',hc'⟩:=A_ (env:=X.env) (cs:=[]) (.inl (lookup_mem hfree))
    have e6:=y3 S hf I.ok hc'
    rw[ec]at e6;cases e6
    exact⟨c,hc',o,k _ _ eo,ed⟩⟩
 cell:=λy c e=>by
  obtain⟨v,o,eo,ed⟩:=I.cell y c (y3 S hf I.ok e)
  exact⟨v,o,k _ _ eo,ed⟩
 free:=I.gw.fresh hC
 pb:=λy c e=>I.pb y c (y3 S hf I.ok e)
 pin:=λp hp=>by simp at hp
 gw:=I.gw.kept k
 len:=by
  have q:=congrArg List.length hjs
  simp only[ax]at q
  simp[pj,q]
noncomputable def Fx (J:It) (k:Nat) (g:TG) (qL:St) (tt:TT) (te:TE) (H1:Hp) (Q:VK):Prop:=
 ∃W:Nat->Nat->List V->Hp->Prop,(∃m,W 0 m [] H1)/\∀i m ys H,W i m ys H->ys.length<=sizeLine/\
  ((J.stop i H/\∀p,H p=none->Q (.ref p) (upd H p (.lst ys)))∨
   (J.go i H/\∀x H',J.OS i H x H'->∀os:St,os.length=k->g x (os++qL) H' λσ2 H2=>(∃os':St,os'.length=k/\σ2=os'++qL)/\
    tt σ2 H2 λb H3=>if b=true then te σ2 H3 λy H4=>∃m',m'<m/\W (i+1) m' (ys++[y]) H4 else∃m',m'<m/\W (i+1) m' ys H3))
theorem JU{J:It}{qL:St}{tt:TT}{te:TE}{H1:Hp}{Q:VK}(h:mQ J qL tt te H1 Q):Fx J 1 (eZ 0) qL tt te H1 Q:=by
 obtain⟨W,w0,turn⟩:=h
 refine⟨W,w0,λi m ys H hw=> ?_⟩
 obtain⟨hz,alt⟩:=turn i m ys H hw
 refine⟨hz,alt.imp id λ⟨go,step⟩=>⟨go,λx H' hy os ho=> ?_⟩⟩
 match os,ho with
 | [o],_=>exact⟨⟨[some x],rfl,rfl⟩,step x H' hy⟩
noncomputable def Fw (K:PySem.W.Frag) (J:It) (qL:St) (tt:TT) (te:TE) (H1:Hp) (Q:VK):Prop:=
 ∃W:Nat->Nat->List V->Hp->Prop,(∃m,W 0 m [] H1)/\∀i m ys H,W i m ys H->ys.length<=sizeLine/\
  ((J.stop i H/\∀p,H p=none->Q (.ref p) (upd H p (.lst ys)))∨
   (J.go i H/\∀x H',J.OS i H x H'->∃a u v,x= .ref a/\Ef K H' a [u,v]/\
    tt (some u::some v::qL) H' λb H3=>if b=true then te (some u::some v::qL) H3 λy H4=>∃m',m'<m/\W (i+1) m' (ys++[y]) H4 else∃m',m'<m/\W (i+1) m' ys H3))
noncomputable abbrev g2 (K:PySem.W.Frag):TG:=PD K 2 (Fc (eZ 0) (Fc (eZ 1) PC))
theorem L6{K:PySem.W.Frag}{J:It}{qL:St}{tt:TT}{te:TE}{H1:Hp}{Q:VK}(h:Fw K J qL tt te H1 Q):Fx J 2 (g2 K) qL tt te H1 Q:=by
 obtain⟨W,w0,turn⟩:=h
 refine⟨W,w0,λi m ys H hw=> ?_⟩
 obtain⟨hz,alt⟩:=turn i m ys H hw
 refine⟨hz,alt.imp id λ⟨go,step⟩=>⟨go,λx H' hy os ho=> ?_⟩⟩
 obtain⟨a,u,v,ex,sq,st⟩:=step x H' hy
 match os,ho with
 | [o,o'],_=>exact⟨a,[u,v],ex,sq,rfl,u,[v],rfl,v,[],rfl,rfl,⟨[some u,some v],rfl,rfl⟩,st⟩
noncomputable def GV (K:PySem.W.Frag) (js:List Nat) (wi:TI) (tt:TT) (te:TE):TE:=λσ H Q=>wi σ H λJ H1=>Fw K J (pj σ js) tt te H1 Q
theorem AF{C:Addr}{h h':Heap}(hs:Heap.SameBut C h h'){b:Addr}{o:Obj}(hb:b≠C)(e:h.get? b=some o):h'.get? b=some o:=(hs.2 b hb).trans e
theorem CL{Y:Cx}{pl:List (Addr×Obj)}{σ':St}{H3:Hp}{s4:Shared}{h':Heap}{D:Addr}{ys:List V}{its:List Value}{n:Nat}(I:Inv X pins σ H s)(f:∀b∈fp,A3 X pins H b)
  (hY:Y=X.ym scope (x++N2) x s H C fp) (hC:s.heap.objs.size<=C) (hD:s.heap.objs.size<=D) (hDC:D≠C) (I4:Inv Y pl σ' H3 s4) (hs:Heap.SameBut C s4.heap h') (hD3:H3 D=none)
  (eD:s4.heap.get? D=some {cls:= .type "list",data:= .seq its.toArray n}) (rv:Vals ys its) (hz:ys.length<=sizeLine):Inv X pins σ (upd H3 D (.lst ys)) {s4 with heap:=h'}:=by
 subst hY
 have ne:∀b o,s.heap.get? b=some o->b≠C:=λb o e=>aS (aQ (Heap.lt_size e) hC)
 have neD:∀b o,s.heap.get? b=some o->b≠D:=λb o e=>aS (aQ (Heap.lt_size e) hD)
 have fC:H3 C=none:=I4.free
 have un:Un (zu X.stack) fp H H3 s.heap h':=⟨λb o e n hb hx=>AF hs (ne b o e) (I4.base.keep b o e n hb hx),λb o e n hb hx=>by
   obtain⟨sl,e1⟩:=I4.base.slot b o e n hb hx
   exact⟨sl,AF hs (ne b o e) e1⟩,I4.base.free,λb o e hx=>by
   obtain⟨o',e1⟩:=I4.base.there b o e hx
   exact⟨o',AF hs (ne b o e) e1⟩,I4.base.xR,I4.base.v9,I4.base.xQ⟩
 have gw:v7 X.prog X.w H3 h':=λb ob e=>(I4.gw b ob e).CG (λc w' hc q=>by
  refine(hs.2 c ?_).trans q
  rintro rfl
  rcases hc with rfl|hc
  ·rw[fC]at e;cases e
  ·rw[fC]at hc;cases hc) (λ_ q=>q) λ_ _ q=>q
 have I6:Inv X pins σ H3 {s4 with heap:=h'}:=I.OX (ch:=fp) I4.os un gw I4.bare λb hb=>⟨(f b hb).2.2.2.1,(f b hb).2.1,(f b hb).2.2.2.2.1,(f b hb).2.2.2.2.2⟩
 have h0:X.s₀.heap.get? D=none:=by
  cases z:X.s₀.heap.get? D with
  |none=>rfl
  |some o=>exact absurd (aQ (Heap.lt_size z) (aA I.sz hD)) (bu _)
 exact I6.adopt (a:=D) (o:= .lst ys) hD3 ⟨hz,its,n,rv,AF hs hDC eD⟩ h0 (aj (aS (aQ I.lt hD))) (λy c ec z=>by
  obtain⟨v,o,eo,_⟩:=I.cell y c ec
  exact neD c o eo z) λp hp z=>neD p.1 p.2 (I.pin p hp).1 z
theorem xY{elt iter tg:Expr}{pos p0:Pos}{g:TG}{CW:It->Hp->Prop}{ifs:List Expr}{wi:TI}{tt:TT}{te:TE}{use:Option (Value->Sem Unit)}{R:Value->Shared->Prop}{Q:VK}(S:nF fsc scope x N2)(hf:X.env.scope=fsc)(hjs:js.map (λj=>X.N[j]?)=N2.map some)(hc:X.calm=true)(hi:PI X tg iter wi)(hg:∀s H C ex,PG (X.ym scope (x++N2) x s H C ex) tg g)
  (ht:∀s H C ex,Fy (X.ym scope (x++N2) x s H C ex) ifs tt) (he:∀s H C ex,PE (X.ym scope (x++N2) x s H C ex) elt te) (hs:∀v,foldedSetIterable iter X.env v=pure v) (I:Inv X pins σ H s) (hCW:∀J H1,CW J H1->Fx J x.length g (pj σ js) tt te H1 Q) (h:wi σ H CW)
  (fin:∀(fp:List Addr) (s2 s4:Shared) (H2 H3:Hp) (C D:Addr) (Y:Cx) (pl:List (Addr×Obj)) (σ':St) (ys:List V) (its:List Value) (n:Nat),Inv X pins σ H2 s2->(∀b∈fp,A3 X pins H2 b)->Y=X.ym scope (x++N2) x s2 H2 C fp->s2.heap.objs.size<=C->s2.heap.objs.size<=D->D≠C->
   Inv Y pl σ' H3 s4->H3 D=none->s4.heap.get? D=some {cls:= .type "list",data:= .seq its.toArray n}->Vals ys its->ys.length<=sizeLine->Q (.ref D) (upd H3 D (.lst ys))->compPost (model X.prog X.w) X.A X.xe use R (.ref D) C (.ok .next) s4):
  wpAny (model X.prog X.w) X.A (comprehension (.ListComp elt [⟨tg,iter,ifs,0⟩] scope pos) scope X.env p0 (newList []) false (eval iter X.env) use) R X.xe s:=by
 refine wpAny_comprehension_free (use:=use) (cl:=KP scope X.env) rfl hs (IK λy hy e=>I.ok.has y.1 (.inl (show X.env.scope.names.lookup y.1=some .cell by rw[hf];exact S.cells y hy e))) S.kind S.locs ?_
 refine wpAny_mono (hi pins s σ H _ I h) (λv s1 h1=>wpAny_mono h1 (λitv s2 h2=> ?_) λ_ _ z=>z) λ_ _ z=>z
 obtain⟨it,fp,tn,J,H2,e,I2,T,st2,f2,hcw⟩:=h2
 obtain⟨W,⟨m0,w0⟩,turn⟩:=hCW _ _ hcw
 subst e
 have ho2:∀b∈fp,∃o,s2.heap.get? b=some o:=λb hb=>let ⟨o,e,_⟩:=T.obj _ _ st2 b hb;⟨o,e⟩
 refine wpAny_newObj_type (wpAny_newFunctionEnv S.MF (by intro y hy;simp at hy) (λh₁ hns₁ hsb₁=> ?_) S.kind)
 dsimp only at hns₁ hsb₁⊢
 generalize hH2:s2.heap.push {cls:= .type "list",dict:=none,data:= .seq ([]:List Value).toArray}=G at hns₁ hsb₁⊢
 have hGs:G.objs.size=s2.heap.objs.size+1:=by rw[←hH2,Heap.size_push]
 generalize hCe:G.objs.size=C at hns₁ hsb₁⊢
 have hCs:C=s2.heap.objs.size+1:=hCe.symm.trans hGs
 generalize hDe:s2.heap.objs.size=D at*
 have hC:s2.heap.objs.size<=C:=by omega
 have hDC:D≠C:=by omega
 have leDC:D<=C:=by omega
 have old:∀b o,s2.heap.get? b=some o->h₁.get? b=some o:=λb o e=>by
  have hb:b<D:=hDe▸Heap.lt_size e
  exact hsb₁.extBut b o (aS (aQ hb leDC)) (Heap.get?_push_of_some _ (hH2▸Heap.get?_push_of_some _ e))
 have eD1:h₁.get? D=some {cls:= .type "list",data:= .seq ([]:List Value).toArray}:=by
  refine hsb₁.extBut _ _ hDC (Heap.get?_push_of_some _ ?_)
  rw[←hH2,←hDe]
  exact Heap.get?_push_size _ rfl
 have I4:=NA (C:=C) (h':=h₁) (t':=s2.toks+([]:List (Str×Value)).length) S hf hjs I2 hC f2 ho2 hns₁ old
 generalize hY:X.ym scope (x++N2) x s2 H2 C fp=Y at I4
 have hYA:Y.A=X.A:=by rw[←hY]
 have hYp:Y.prog=X.prog:=by rw[←hY]
 have hYw:Y.w=X.w:=by rw[←hY]
 have hYK:Y.K=X.K:=by rw[←hY]
 have hYc:Y.calm=true:=by rw[←hY];exact hc
 have hYL:Y.env.locals=C:=hY▸rfl
 have hYx:Y.xe=λ_ _=>False:=by rw[←hY]
 have hYe:Y.env=compEnvC scope (KP scope X.env) C X.env:=by rw[←hY]
 have hYs:Y.s₀.heap.objs.size=D:=by rw[←hY];exact hDe
 have hYpn:Y.pn=[]:=by rw[←hY]
 have fpD:∀b∈fp,b<D:=λb hb=>by
  obtain⟨o,e⟩:=ho2 b hb
  exact hDe▸Heap.lt_size e
 have A1:∀y c,Y.env.cells.lookup y=some c->X.env.cells.lookup y=some c:=λy c e=>by
  rw[hYe]at e
  exact y3 S hf I2.ok e
 have celD:∀y c,Y.env.cells.lookup y=some c->c≠D:=λy c e z=>by
  obtain⟨v,o,eo,_⟩:=I2.cell y c (A1 y c e)
  have q:=Heap.lt_size eo
  rw[hDe,z]at q
  exact bu _ q
 have Dfs:D∉Y.fs:=by
  rw[←hY]
  intro hm
  obtain⟨_,o,eo,_⟩:=I2.stack.mem hm
  have q:=Heap.lt_size eo
  rw[hDe]at q
  exact bu _ q
 have stat:∀{H':Hp} {pl:List (Addr×Obj)},(∀b∈fp,H' b=none)->(∀p∈pl,p.1=D)->∀b∈fp,A3 Y pl H' b:=λ{H' pl} hn hp b hb=>by
  refine⟨hn b hb,by rw[hYL];exact aS (aQ (fpD b hb) leDC),?_,.inl (by rw[←hY];exact hb),λy c e=>(f2 b hb).2.2.2.2.1 y c (A1 y c e),λp hm=> ?_⟩
  ·rw[←hY]
   intro hm
   rcases List.mem_cons.mp (I2.D5 b hm) with z|z
   ·exact(f2 b hb).2.1 z
   ·exact(f2 b hb).2.2.1 z
  ·rw[hYpn,aN]at hm
   rw[hp p hm]
   exact(aS (fpD b hb)).symm
 have pinD:∀{σ':St} {H':Hp} {s':Shared} {o:Obj},Inv Y [] σ' H' s'->s'.heap.get? D=some o->(∀v,o.data≠ .cell v)->H' D=none->Inv Y [(D,o)] σ' H' s':=λ{σ' H' s' o} Iy e d n=>
  Iy.AB λp hp=>by
   rw[aU]at hp
   subst hp
   exact⟨e,n,by rw[hYL];exact hDC,Dfs,d⟩
 have pg:PG Y tg g:=by rw[←hY];exact hg _ _ _ _
 have ht':Fy Y ifs tt:=by rw[←hY];exact ht _ _ _ _
 have he':PE Y elt te:=by rw[←hY];exact he _ _ _ _
 have loop:∀s₃:Shared,s₃={s2 with heap:=h₁,toks:=s2.toks+([]:List (Str×Value)).length}->
   codeAny (model X.prog X.w) X.A (.compLoop (.ListComp elt [⟨tg,iter,ifs,0⟩] scope pos) 0 (.ref it) (.ref D) (compEnvC scope (KP scope X.env) C X.env))
    (compPost (model X.prog X.w) X.A X.xe use R (.ref D) C) s₃:=by
  rintro s₃ rfl
  refine wI (λn s'=>∃i ys os its k H',List.length os=x.length/\Inv Y [] (os++pj σ js) H' s'/\tn i s'.heap/\(∀b∈fp,H' b=none)/\H' D=none/\s'.heap.get? D=some {cls:= .type "list",data:= .seq (its:List Value).toArray k}/\Vals ys its/\W i n ys H') ?_ m0
   ⟨0,[],List.replicate x.length none,[],0,H2,bg,I4,T.keep _ _ _ st2 λb _ o e=>old b o e,λb hb=>(f2 b hb).1,I2.gw.fresh (by omega),eD1,.nil,w0⟩
  rintro n s3 ⟨i,ys,os,its,k,H3,hos,I3,st3,fr3,hD3,eD3,rv3,w3⟩
  obtain⟨hz,alt⟩:=turn i n ys H3 w3
  have I3p:=pinD I3 eD3 (λv z=>by cases z) hD3
  rcases alt with ⟨stop,q⟩|⟨go,step⟩
  ·have h4:=T.done Y hYp hYw hYK hYc i _ s3 _ H3 (λ_ _=>False) I3p (stat fr3 λp hp=>by rw[aU]at hp;subst hp;rfl) st3 stop
   rw[hYA]at h4
   refine wpAny_mono h4 (λr s4 ⟨hr,I4'⟩=> ?_) λ_ _ z=>z
   subst hr
   have pD:=I4'.pin (D,{cls:= .type "list",data:= .seq its.toArray k}) (aY _ (List.mem_singleton.mpr rfl))
   exact fin fp s2 s4 H2 H3 C D Y _ _ ys its k I2 f2 hY.symm hC (by omega) hDC I4' pD.2.1 pD.1 rv3 hz (q D pD.2.1)
  ·have h4:=T.item Y hYp hYw hYK hYc i _ s3 _ H3 (λ_ _=>False) I3p (stat fr3 λp hp=>by rw[aU]at hp;subst hp;rfl) st3 go
   rw[hYA]at h4
   refine wpAny_mono h4 (λr s4 ⟨u,hr,h4'⟩=> ?_) λ_ _ z=>z
   subst hr
   refine wpAny_mono h4' (λ_ s5 ⟨xv,H5,I5,r5,y5,st5,fr5⟩=> ?_) λ_ _ z=>z
   have I5':=I5.pinned (stat fr5 λp hp=>by rw[aU]at hp;subst hp;rfl) (T.obj _ _ st5)
   have keepT:∀{σ7:St} {H7:Hp} {s7:Shared},Inv Y ([(D,{cls:= .type "list",data:= .seq its.toArray k})]++DP fp s5.heap) σ7 H7 s7->tn (i+1) s7.heap/\(∀b∈fp,H7 b=none)/\H7 D=none/\
     s7.heap.get? D=some {cls:= .type "list",data:= .seq its.toArray k}:=λ{σ7 H7 s7} I7=>by
    have pD:=I7.pin (D,{cls:= .type "list",data:= .seq its.toArray k}) (aY _ (aX _ (List.mem_singleton.mpr rfl)))
    refine⟨T.keep _ _ _ st5 λb hb o e=>(I7.pin (b,o) (aY _ (aY _ (vg hb e)))).1,λb hb=> ?_,pD.2.1,pD.1⟩
    obtain⟨o,e,d⟩:=T.obj _ _ st5 b hb
    exact(I7.pin (b,o) (aY _ (aY _ (vg hb e)))).2.1
   have h6:=pg _ s5 _ H5 xv u _ I5' r5 (step xv H5 y5 os hos)
   rw[hYA,hYe,hYp,hYw,hYx]at h6
   refine wpAny_mono h6 (λ_ s6 ⟨σ6,H6,I6,⟨os',hos',e6⟩,q6⟩=> ?_) λ_ _ z=>z
   subst e6
   have h7:=ht' _ s6 _ H6 _ I6 q6
   rw[hYA,hYe,hYp,hYw,hYx]at h7
   refine wpAny_mono h7 (λb s7 ⟨H7,I7,q7⟩=> ?_) λ_ _ z=>z
   cases b with
   |false=>
    rw[if_neg aR]at q7⊢
    obtain⟨m',hm,w7⟩:=q7
    obtain⟨k1,k2,k3,k4⟩:=keepT I7
    exact⟨m',hm,i+1,ys,os',its,k,H7,hos',I7.AB λp hp=>by simp at hp,k1,k2,k3,k4,rv3,w7⟩
   |true=>
    rw[if_pos rfl]at q7⊢
    have h8:=he' _ s7 _ H7 _ I7 q7
    rw[hYA,hYe,hYp,hYw,hYx]at h8
    refine wpAny_mono h8 (λy s8 ⟨yv,H8,I8,r8,m',hm,w8⟩=> ?_) λ_ _ z=>z
    obtain⟨k1,k2,k3,k4⟩:=keepT I8
    refine wpAny_list_append_plain (l:=D) (items:=its.toArray) ⟨k,k4⟩ (λh9 pl9 sb9=> ?_) (by rw[aP,←rv3.length];exact hz)
    obtain⟨k9,e9⟩:=pl9
    have I9:Inv Y [] (os'++pj σ js) H8 {s8 with heap:=h9}:=(I8.AB (pins':=[]) λp hp=>by simp at hp).turned (it:=D) (t':=s8.toks) (λb o hb e=>(sb9.2 b hb).trans e) k3 (by rw[hYL];exact hDC)
     (.inr (by rw[hYs];exact aF _)) celD (by rw[hYpn];intro p hp;simp at hp)
    exact⟨m',hm,i+1,ys++[yv],os',its++[y],k9,H8,hos',I9,T.keep _ _ _ k1 λb hb o e=>(sb9.2 b (aS (fpD b hb))).trans e,k2,k3,by rw[e9,List.push_toArray],rv3.snoc r8,w8⟩
 exact codeAny_compStart_list (loop _ rfl) (T.self _ 0 _ _ _ (T.keep _ _ _ st2 λb _ o e=>old b o e) (loop _ rfl))
theorem MV{x:Str}{px:Pos}(S:nF fsc scope [x] N2){s:Shared}{H:Hp}{C:Addr}{ex:List Addr}:PG (X.ym scope (x::N2) [x] s H C ex) (.Name x px) (eZ 0):=
 vh (i:=0) S.nd rfl (.inl (lookup_relabel_local (S.own x a_))) (.inl (by show [x].contains x=true;simp))
theorem Og{x:Str}{elt iter:Expr}{px pos:Pos}{ifs:List Expr}{wi:TI}{tt:TT}{te:TE}(S:nF fsc scope [x] N2)(hf:X.env.scope=fsc)(hjs:js.map (λj=>X.N[j]?)=N2.map some)(hc:X.calm=true)(hi:PI X (.Name x px) iter wi)
  (ht:∀s H C ex,Fy (X.ym scope (x::N2) [x] s H C ex) ifs tt) (he:∀s H C ex,PE (X.ym scope (x::N2) [x] s H C ex) elt te) (hs:∀v,foldedSetIterable iter X.env v=pure v:=by intro _;rfl):
  PE X (.ListComp elt [⟨.Name x px,iter,ifs,0⟩] scope pos) (qv js wi tt te):=by
 intro pins s σ H Q I h
 rw[eval_ListComp]
 refine xY (x:=[x]) (g:=eZ 0) (use:=none) S hf hjs hc hi (λ_ _ _ _=>MV S) ht he hs I (λ_ _=>JU) h λfp s2 s4 H2 H3 C D Y pl σ' ys its n I2 f2 hY hC hD hDC I4 hD3 eD rv hz q=> ?_
 obtain⟨m,hn,_⟩:=I4.loc
 rw[show Y.env.locals=C from hY▸rfl]at hn
 exact⟨m,hn,λh' hs'=>⟨.ref D,_,CL (scope:=scope) (x:=[x]) (N2:=N2) I2 f2 hY hC hD hDC I4 hs' hD3 eD rv hz,rfl,q⟩⟩
theorem Oj{x1 x2:Str}{p1 p2 pt:Pos}{k:Nat}(hc:X.calm=true)(S:nF fsc scope [x1,x2] N2){s:Shared}{H:Hp}{C:Addr}{ex:List Addr}:PG (X.ym scope (x1::x2::N2) [x1,x2] s H C ex) (.Tuple [.Name x1 p1,.Name x2 p2] k pt) (g2 X.K):=
 MW (X:=X.ym scope (x1::x2::N2) [x1,x2] s H C ex) hc
  (xi (vh (i:=0) S.nd rfl (.inl (lookup_relabel_local (S.own x1 a_))) (.inl (by show [x1,x2].contains x1=true;simp)))
   (xi (vh (i:=1) S.nd rfl (.inl (lookup_relabel_local (S.own x2 (aZ _ a_)))) (.inl (by show [x1,x2].contains x2=true;simp))) Kj))
theorem MM{x1 x2:Str}{elt iter:Expr}{p1 p2 pt pos:Pos}{k:Nat}{ifs:List Expr}{wi:TI}{tt:TT}{te:TE}(S:nF fsc scope [x1,x2] N2)(hf:X.env.scope=fsc)(hjs:js.map (λj=>X.N[j]?)=N2.map some)(hc:X.calm=true)(hi:PI X (.Tuple [.Name x1 p1,.Name x2 p2] k pt) iter wi)
  (ht:∀s H C ex,Fy (X.ym scope (x1::x2::N2) [x1,x2] s H C ex) ifs tt) (he:∀s H C ex,PE (X.ym scope (x1::x2::N2) [x1,x2] s H C ex) elt te) (hs:∀v,foldedSetIterable iter X.env v=pure v:=by intro _;rfl):
  PE X (.ListComp elt [⟨.Tuple [.Name x1 p1,.Name x2 p2] k pt,iter,ifs,0⟩] scope pos) (GV X.K js wi tt te):=by
 intro pins s σ H Q I h
 rw[eval_ListComp]
 refine xY (x:=[x1,x2]) (g:=g2 X.K) (use:=none) S hf hjs hc hi (λ_ _ _ _=>Oj hc S) ht he hs I (λ_ _=>L6) h λfp s2 s4 H2 H3 C D Y pl σ' ys its n I2 f2 hY hC hD hDC I4 hD3 eD rv hz q=> ?_
 obtain⟨m,hn,_⟩:=I4.loc
 rw[show Y.env.locals=C from hY▸rfl]at hn
 exact⟨m,hn,λh' hs'=>⟨.ref D,_,CL (scope:=scope) (x:=[x1,x2]) (N2:=N2) I2 f2 hY hC hD hDC I4 hs' hD3 eD rv hz,rfl,q⟩⟩
theorem Jn{x:Str}{elt iter:Expr}{px py pos spos:Pos}{ifs:List Expr}{wi:TI}{tt:TT}{te:TE}{i:Nat}{y:Str}(hN:X.N.Nodup)(hy:X.N[i]? =some y)(hl:Loc X.env.scope y)
  (S:nF fsc scope [x] N2) (hf:X.env.scope=fsc) (hjs:js.map (λj=>X.N[j]?)=N2.map some) (hc:X.calm=true) (hi:PI X (.Name x px) iter wi)
  (ht:∀s H C ex,Fy (X.ym scope (x::N2) [x] s H C ex) ifs tt) (he:∀s H C ex,PE (X.ym scope (x::N2) [x] s H C ex) elt te) (hs:∀v,foldedSetIterable iter X.env v=pure v:=by intro _;rfl)
  (hsw:swapsWith (.ListComp elt [⟨.Name x px,iter,ifs,0⟩] scope pos) (some (.Name y py)) spos.line X.env=pure true:=by rfl)
  (hfn:X.fn y=true∨X.env.scope.names.lookup y=some .local:=by first|exact .inl rfl|exact .inr rfl|assumption):
  PS X (.Assign [.Name y py] (.ListComp elt [⟨.Name x px,iter,ifs,0⟩] scope pos) spos) (gh (qv js wi tt te) (eZ i)):=by
 intro pins s σ H Dn I h
 rw[exec_Assign_Name_used _ _ _ _ hsw]
 refine wpAny_bind (wpAny_standAt (wpAny_bind ?_))
 show wpAny _ _ (do let _←comprehension (.ListComp elt [⟨.Name x px,iter,ifs,0⟩] scope pos) scope X.env _ (newList []) false (eval iter X.env) (some (assign (.Name y py) X.env))) _ _ s
 refine wpAny_bind (wpAny_mono (xY (x:=[x]) (g:=eZ 0) (use:=some (assign (.Name y py) X.env)) (R:=λ_ s'=>SP X pins Dn .next s') S hf hjs hc hi (λ_ _ _ _=>MV S) ht he hs I (λ_ _=>JU) h λfp s2 s4 H2 H3 C D Y pl σ' ys its n I2 f2 hY hC hD hDC I4 hD3 eD rv hz q=> ?_)
  (λ_ s' hq=>wpAny_pure (wpAny_pure hq)) λ_ _ e=>e)
 show wpAny _ _ (assign (.Name y py) X.env (.ref D)) _ _ s4
 have I7:Inv X pins σ (upd H3 D (.lst ys)) s4:=CL (scope:=scope) (x:=[x]) (N2:=N2) (h':=s4.heap) I2 f2 hY hC hD hDC I4 (Heap.SameBut.refl ..) hD3 eD rv hz
 have nC:∀b o,s2.heap.get? b=some o->b≠C:=λb o e=>aS (aQ (Heap.lt_size e) hC)
 have cC:∀z c,X.env.cells.lookup z=some c->c≠C:=λz c e=>by
  obtain⟨v,o,eo,_⟩:=I2.cell z c e
  exact nC c o eo
 have lC:X.env.locals≠C:=aS (aQ I2.lt hC)
 obtain⟨m,hn,_⟩:=I4.loc
 have eL:Y.env.locals=C:=hY▸rfl
 have fC:upd H3 D (HO.lst ys) C=none:=by rw[dO (aj hDC)];exact eL▸I4.free
 rw[eL]at hn
 refine wpAny_assign_Name (Fu I7 hN hy hl (v:= .ref D) rfl (λs'' I8 ⟨a,sb,ha⟩=> ?_) hfn)
 have na:C≠a:=by
  rcases ha with rfl|ha
  ·exact aj lC
  ·exact aj (cC _ _ ha)
 refine⟨m,hn.sameBut sb na,λh' hs'=>⟨_,_,I8.turned (it:=C) (t':=s''.toks) (λb o hb e=>(hs'.2 b hb).trans e) fC (aj lC) (.inr (aA I2.sz hC)) cC λp hp=> ?_,q⟩⟩
 exact nC p.1 p.2 (I2.pin p hp).1
end
end L2
namespace L2
open PySem PySem.Spec PyProof.Rows
section
variable{X:Cx}{tg:Expr}
end
end L2
namespace L2
open PySem PySem.Spec PyProof.Rows
noncomputable def yV:List (Option Bool)->Option Bool
 | []=>some true
 |none::_=>none
 |some b::r=>(yV r).map λc=>b&&c
noncomputable def zM (H:Hp):Nat->V->V->Option Bool
 |0,x,y=>if mG x=true/\mG y=true then some (Iq x y) else none
 |d+1,x,y=>match x,y with
  | .ref a,.ref b=>(match H a,H b with
   |some (.lst xs),some (.lst ys)=>if xs.length=ys.length then yV (List.zipWith (zM H d) xs ys) else some false
   |some (.tup xs),some (.tup ys)=>if xs.length=ys.length then yV (List.zipWith (zM H d) xs ys) else none
   |_,_=>none)
  |x,y=>if mG x=true/\mG y=true then some (Iq x y) else none
theorem xW{l:List (Option Bool)}{b:Bool}:yV l=some b->∃e:Nat->Bool,(∀j o,l[j]? =some o->o=some (e j))/\(List.range l.length).all e=b:=by
 induction l generalizing b with
 |nil=>intro h;cases h;exact⟨λ_=>true,λj o z=>by simp at z,rfl⟩
 |cons o r ih=>
  intro h
  cases o with
  |none=>cases h
  |some b0=>
   obtain⟨c,hc,rfl⟩:=Option.map_eq_some_iff.mp h
   obtain⟨e,h1,h2⟩:=ih hc
   refine⟨λj=>match j with|0=>b0|j+1=>e j,λj o z=> ?_,?_⟩
   ·cases j with
    |zero=>simp at z;exact z.symm
    |succ j=>exact h1 j o (by simpa using z)
   ·rw[af,dj,ba,List.all_map,←h2]
    rfl
theorem Hg{x:V}(h:mG x=true):Iq x x=true:=by
 cases x<;>simp[Iq,mG]at h⊢
theorem Dh{H:Hp}:∀(d:Nat) {x:V} {b:Bool},zM H d x x=some b->b=true
 |0,x,b,h=>by
  unfold zM at h
  split at h
  ·rename_i z;cases h;exact Hg z.1
  ·cases h
 |d+1,x,b,h=>by
  unfold zM at h
  split at h
  ·split at h
   ·rename_i xs ys e1 e2
    rw[e1]at e2
    cases e2
    rw[if_pos rfl]at h
    obtain⟨e,h1,h2⟩:=xW h
    rw[←h2,List.all_eq_true]
    intro j hj
    rw[cO,bV,bP]at hj
    have z:=h1 j (zM H d xs[j] xs[j]) (by rw[bU,aG hj])
    exact Dh d z
   ·rename_i xs ys e1 e2
    rw[e1]at e2
    cases e2
    rw[if_pos rfl]at h
    obtain⟨e,h1,h2⟩:=xW h
    rw[←h2,List.all_eq_true]
    intro j hj
    rw[cO,bV,bP]at hj
    have z:=h1 j (zM H d xs[j] xs[j]) (by rw[bU,aG hj])
    exact Dh d z
   ·cases h
  ·split at h
   ·rename_i z;cases h;exact Hg z.1
   ·cases h
section
variable{X:Cx}
theorem zN{pins:List (Addr×Obj)}{σ:St}{H:Hp}{s:Shared}(I:Inv X pins σ H s):∀(d:Nat) (A:Around) {x y:V} {u v:Value} {b:Bool},A.units+d<cLine->RelV x u->RelV y v->zM H d x y=some b->SeqAt.EqAt A s u v b
 |0,A,x,y,u,v,b,hu,rx,ry,h=>by
  unfold zM at h
  split at h
  ·rename_i z;cases h;exact IM rx ry z.1 z.2
  ·cases h
 |d+1,A,x,y,u,v,b,hu,rx,ry,h=>by
  by_cases hs:∃a,x= .ref a/\y= .ref a
  ·obtain⟨a,rfl,rfl⟩:=hs
   cases (show u=Value.ref a from rx)
   cases (show v=Value.ref a from ry)
   rw[Dh (d+1) h]
   exact SeqAt.EqAt.same _
  ·unfold zM at h
   split at h
   ·rename_i a c
    split at h
    ·rename_i xs ys e1 e2
     cases (show u=Value.ref a from rx)
     cases (show v=Value.ref c from ry)
     have hne:a≠c:=λz=>hs ⟨a,rfl,by rw[z]⟩
     obtain⟨i1,r1,p1,_⟩:=I.list (iC.of e1)
     obtain⟨i2,r2,p2,_⟩:=I.list (iC.of e2)
     refine SeqAt.EqAt.of_refs hne ?_
     have l1:=r1.length
     have l2:=r2.length
     split at h
     ·rename_i hl
      obtain⟨e,h1,h2⟩:=xW h
      rw[bV,←hl,bP]at h2
      have z:=SeqAt.RcAt.lists (A:=A) (s:=s) (e:=e) p1.isList p2.isList (by simp;omega) (by omega) λj j1 j2=> ?_
      ·have e3:i1.toArray.size=xs.length:=by simp[l1]
       rw[e3,h2]at z
       exact z
      ·simp only[aP]at j1 j2
       have k1:j<xs.length:=by omega
       have k2:j<ys.length:=by omega
       obtain⟨w1,g1,q1⟩:=r1.get (aG k1)
       obtain⟨w2,g2,q2⟩:=r2.get (aG k2)
       have z:=h1 j (zM H d xs[j] ys[j]) (by rw[bU,aG k1,aG k2])
       have e4:i1.toArray[j]=w1:=by simpa [j1] using g1
       have e5:i2.toArray[j]=w2:=by simpa [j2] using g2
       rw[e4,e5]
       exact zN I d A.in1 (by rw[Around.in1_units];omega) q1 q2 z
     ·rename_i hl
      cases h
      exact SeqAt.RcAt.lists_lengths p1.isList p2.isList (by simp;omega) (by omega)
    ·rename_i xs ys e1 e2
     cases (show u=Value.ref a from rx)
     cases (show v=Value.ref c from ry)
     have hne:a≠c:=λz=>hs ⟨a,rfl,by rw[z]⟩
     obtain⟨i1,r1,p1,_⟩:=I.tuple (.inl (.inl e1))
     obtain⟨i2,r2,p2,_⟩:=I.tuple (.inl (.inl e2))
     refine SeqAt.EqAt.of_refs hne ?_
     have l1:=r1.length
     have l2:=r2.length
     split at h
     ·rename_i hl
      obtain⟨e,h1,h2⟩:=xW h
      rw[bV,←hl,bP]at h2
      have z:=SeqAt.RcAt.tuples (A:=A) (s:=s) (e:=e) p1 p2 (by omega) λj j1 j2=> ?_
      ·have e3:i1.toArray.size=xs.length:=by simp[l1]
       have e4:i2.toArray.size=xs.length:=by simp[←l2,hl]
       rw[e3,e4,bP,h2,beq_self_eq_true,Bool.and_true]at z
       exact z
      ·simp only[aP]at j1 j2
       have k1:j<xs.length:=by omega
       have k2:j<ys.length:=by omega
       obtain⟨w1,g1,q1⟩:=r1.get (aG k1)
       obtain⟨w2,g2,q2⟩:=r2.get (aG k2)
       have z:=h1 j (zM H d xs[j] ys[j]) (by rw[bU,aG k1,aG k2])
       have e4:i1.toArray[j]=w1:=by simpa [j1] using g1
       have e5:i2.toArray[j]=w2:=by simpa [j2] using g2
       rw[e4,e5]
       exact zN I d A.in1 (by rw[Around.in1_units];omega) q1 q2 z
     ·cases h
    ·cases h
   ·split at h
    ·rename_i z;cases h;exact IM rx ry z.1 z.2
    ·cases h
noncomputable def LW:R2:=λx y H Q=>match x,y with
 | .ref a,.ref b=>(match H a,H b with
  |some (.lst xs),some (.lst ys)=>if xs.length=ys.length then(match yV (List.zipWith (zM H 2) xs ys) with
    |some k=>Q (.bl k) H
    |none=>False) else Q (.bl false) H
  |_,_=>False)
 |_,_=>False
noncomputable def II:R2:=λx y H Q=>match x,y with
 | .ref a,.ref b=>(match H a,H b with
  |some (.lst xs),some (.lst ys)=>if xs.length=ys.length then(match yV (List.zipWith (zM H 2) xs ys) with
    |some k=>Q (.bl (!k)) H
    |none=>False) else Q (.bl true) H
  |_,_=>False)
 |_,_=>False
theorem Q8(hu:X.A.units+8<cLine):qb X (compareOp .Eq) LW:=by
 intro pins s σ H x y v u Q I rx ry h
 unfold LW at h
 split at h
 case h_2=>exact h.elim
 rename_i a b
 split at h
 case h_2=>exact h.elim
 rename_i xs ys e1 e2
 cases (show v=Value.ref a from rx)
 cases (show u=Value.ref b from ry)
 obtain⟨i1,r1,p1,_⟩:=I.list (iC.of e1)
 obtain⟨i2,r2,p2,_⟩:=I.list (iC.of e2)
 have l1:=r1.length
 have l2:=r2.length
 split at h
 ·rename_i hl
  split at h
  case h_2=>exact h.elim
  rename_i k hk
  obtain⟨e,h1,h2⟩:=xW hk
  rw[bV,←hl,bP]at h2
  refine SeqAt.eq_listAt (e:=e) p1.isList p2.isList (by simp;omega) (by omega) (λj j1 j2=> ?_) ⟨.bl k,H,I,?_,h⟩
  ·simp only[aP]at j1 j2
   have k1:j<xs.length:=by omega
   have k2:j<ys.length:=by omega
   obtain⟨w1,g1,q1⟩:=r1.get (aG k1)
   obtain⟨w2,g2,q2⟩:=r2.get (aG k2)
   have z:=h1 j (zM H 2 xs[j] ys[j]) (by rw[bU,aG k1,aG k2])
   have e4:i1.toArray[j]=w1:=by simpa [j1] using g1
   have e5:i2.toArray[j]=w2:=by simpa [j2] using g2
   rw[e4,e5]
   exact zN I 2 X.A.in1 (by rw[Around.in1_units];omega) q1 q2 z
  ·have e3:i1.toArray.size=xs.length:=by simp[l1]
   rw[e3,h2]
   exact rfl
 ·exact SeqAt.eq_list_lengthsAt p1.isList p2.isList (by simp;omega) (by omega) ⟨.bl false,H,I,rfl,h⟩
end
section
variable{X:Cx}
theorem Rj(hu:X.A.units+8<cLine):qb X (compareOp .NotEq) II:=by
 intro pins s σ H x y v u Q I rx ry h
 unfold II at h
 split at h
 case h_2=>exact h.elim
 rename_i a b
 split at h
 case h_2=>exact h.elim
 rename_i xs ys e1 e2
 cases (show v=Value.ref a from rx)
 cases (show u=Value.ref b from ry)
 obtain⟨i1,r1,p1,_⟩:=I.list (iC.of e1)
 obtain⟨i2,r2,p2,_⟩:=I.list (iC.of e2)
 have l1:=r1.length
 have l2:=r2.length
 split at h
 ·rename_i hl
  split at h
  case h_2=>exact h.elim
  rename_i k hk
  obtain⟨e,h1,h2⟩:=xW hk
  rw[bV,←hl,bP]at h2
  refine SeqAt.RcNeAt.lists (e:=e) p1.isList p2.isList (by simp;omega) (by omega) (λj j1 j2=> ?_) X.prog X.w X.xe _ ⟨.bl (!k),H,I,?_,h⟩
  ·simp only[aP]at j1 j2
   have k1:j<xs.length:=by omega
   have k2:j<ys.length:=by omega
   obtain⟨w1,g1,q1⟩:=r1.get (aG k1)
   obtain⟨w2,g2,q2⟩:=r2.get (aG k2)
   have z:=h1 j (zM H 2 xs[j] ys[j]) (by rw[bU,aG k1,aG k2])
   have e4:i1.toArray[j]=w1:=by simpa [j1] using g1
   have e5:i2.toArray[j]=w2:=by simpa [j2] using g2
   rw[e4,e5]
   exact zN I 2 X.A.in1 (by rw[Around.in1_units];omega) q1 q2 z
  ·have e3:i1.toArray.size=xs.length:=by simp[l1]
   rw[e3,h2]
   exact rfl
 ·exact SeqAt.RcNeAt.lists_lengths p1.isList p2.isList (by simp;omega) (by omega) X.prog X.w X.xe _ ⟨.bl true,H,I,rfl,h⟩
end
theorem mQ.E6{K:PySem.W.Frag}{a:Addr}{xs:List V}{qL:St}{tt:TT}{te:TE}{H:Hp}{Q:VK}(p:V->Bool)(f:V->V)(hS:iC K H a xs)(hz:xs.length<=sizeLine)
  (ht:∀x∈xs,∀K':Bool->Hp->Prop,K' (p x) H->tt (some x::qL) H K') (he:∀x∈xs,p x=true->∀K':VK,K' (f x) H->te (some x::qL) H K')
  (q:∀l,H l=none->Q (.ref l) (upd H l (.lst ((xs.filter p).map f)))):mQ (KD K a) qL tt te H Q:=by
 refine⟨λi m ys H'=>H'=H/\i<=xs.length/\m=xs.length-i/\ys=((xs.take i).filter p).map f,⟨xs.length,rfl,bw _,rfl,by simp⟩,λi m ys H' ⟨e1,hi,em,ey⟩=> ?_⟩
 subst e1 ey
 refine⟨aA (by rw[ax];exact aA (bC _ _) (by rw[bp];omega)) hz,?_⟩
 by_cases z:i<xs.length
 ·have hx:xs[i]? =some xs[i]:=aG z
  refine .inr ⟨⟨xs,xs[i],hS,hx⟩,λx H2 ⟨e2,e3⟩=> ?_⟩
  have ex:x=xs[i]:=by have:=e3 xs hS;rw[hx]at this;exact(aT this).symm
  rw[e2,ex]
  have tk:xs.take (i+1)=xs.take i++[xs[i]]:=by rw[bM,hx];rfl
  refine ht _ (bf z) _ ?_
  cases hp:p xs[i] with
  |true=>
   rw[if_pos rfl]
   refine he _ (bf z) hp _ ⟨xs.length-(i+1),by omega,rfl,z,rfl,?_⟩
   rw[tk,cE,aV];simp[hp]
  |false=>
   rw[if_neg aR]
   refine⟨xs.length-(i+1),by omega,rfl,z,rfl,?_⟩
   rw[tk,cE,aV];simp[hp]
 ·have e:i=xs.length:=by omega
  subst e
  rw[bE]
  exact .inl ⟨⟨xs,hS,aF _⟩,q⟩
theorem qM{X:Cx}{scope:Scope}{N:List Str}{x:List Str}{s:Shared}{H:Hp}{C:Addr}{ex:List Addr}:Exc (X.ym scope N x s H C ex) (λ_ _ _ _=>False):=
 ⟨λ_ _ _ _ _ _ _ ⟨_,_,_,_,_,_,_,_,_,_,_,_,h⟩=>h,λ_ _ _ _ _ _ _ _ _ _ _ _ h=>h,PassesOwn.never⟩
noncomputable def bools:List V->Option (List Bool)
 | []=>some []
 | .bl b::r=>(bools r).map λbs=>b::bs
 |_::_=>none
theorem G7:∀{ys:List V} {bs:List Bool},bools ys=some bs->ys=bs.map V.bl
 | [],bs,h=>by cases h;rfl
 |y::r,bs,h=>by
  cases y with
  |bl b=>
   obtain⟨cs,hc,rfl⟩:=Option.map_eq_some_iff.mp h
   rw[aq,←G7 hc]
  |_=>cases h
noncomputable def G9:List V->Hp->VK->Prop:=λxs H Q=>match xs with
 | [.ref a]=>(match H a with
  |some (.lst ys)=>∀l,H l=none->Q (.ref l) (upd H l (.lst ys))
  |_=>False)
 |_=>False
noncomputable def A8:R2:=λx y H Q=>match eqv x y with
 |some b=>Q (.bl b) H
 |none=>LW x y H Q
noncomputable def G_:R2:=λx y H Q=>match eqv x y with
 |some b=>Q (.bl (!b)) H
 |none=>II x y H Q
section
variable{X:Cx}
theorem Pr:mF X (.type "list") G9:=FI.mono λxs H Q h=>by
 unfold G9 at h
 split at h
 case h_2=>exact h.elim
 split at h
 case h_2=>exact h.elim
 rename_i ys e
 exact⟨_,ys,rfl,.inl (iC.of e),h⟩
theorem Q7(hu:X.A.units+8<cLine):qb X (compareOp .Eq) A8:=by
 intro pins s σ H x y v u Q I rx ry h
 unfold A8 at h
 split at h
 ·rename_i b e
  exact Q6 pins s σ H x y v u Q I rx ry (by unfold IH;rw[e];exact h)
 ·exact Q8 hu pins s σ H x y v u Q I rx ry h
theorem Ri(hu:X.A.units+8<cLine):qb X (compareOp .NotEq) G_:=by
 intro pins s σ H x y v u Q I rx ry h
 unfold G_ at h
 split at h
 ·rename_i b e
  exact Rh pins s σ H x y v u Q I rx ry (by unfold Ph;rw[e];exact h)
 ·exact Rj hu pins s σ H x y v u Q I rx ry h
theorem G0{ca:Bool}{k:Nat}{A:Around}(hr:lP ca k A):A.units+8<cLine:=bI (Nat.add_le_add_left (by decide:8<=64) _) hr.units
end
theorem Hc{K:PySem.W.Frag}{a:Addr}{xs:List V}{qL:St}{tt:TT}{te:TE}{H:Hp}{Q:VK}(P:Nat->List V->Hp->Prop)(h0:P 0 [] H)(hS:∀i ys H',P i ys H'->iC K H' a xs)(hz:xs.length<=sizeLine)(hlen:∀i ys H',P i ys H'->ys.length<=i)
  (step:∀i x ys H',xs[i]? =some x->P i ys H'->∀K1:List V->Hp->Prop,(∀ys' H3,P (i+1) ys' H3->K1 ys' H3)->tt (some x::qL) H' λb H2=>if b=true then te (some x::qL) H2 (λy H3=>K1 (ys++[y]) H3) else K1 ys H2)
  (q:∀ys H',P xs.length ys H'->∀l,H' l=none->Q (.ref l) (upd H' l (.lst ys))):mQ (KD K a) qL tt te H Q:=by
 refine⟨λi m ys H'=>P i ys H'/\i<=xs.length/\m=xs.length-i,⟨xs.length,h0,bw _,rfl⟩,λi m ys H' ⟨hP,hi,em⟩=> ?_⟩
 refine⟨aA (aA (hlen _ _ _ hP) hi) hz,?_⟩
 have hS':=hS _ _ _ hP
 by_cases z:i<xs.length
 ·have hx:xs[i]? =some xs[i]:=aG z
  refine .inr ⟨⟨xs,xs[i],hS',hx⟩,λx H2 ⟨e2,e3⟩=> ?_⟩
  have ex:x=xs[i]:=by have:=e3 xs hS';rw[hx]at this;exact(aT this).symm
  rw[e2,ex]
  exact step i _ ys H' hx hP (λys' H3=>∃m',m'<m/\(P (i+1) ys' H3/\i+1<=xs.length/\m'=xs.length-(i+1))) λys' H3 h=>⟨_,by omega,h,z,rfl⟩
 ·have e:i=xs.length:=by omega
  subst e
  exact .inl ⟨⟨xs,hS',aF _⟩,q _ _ hP⟩
end L2
namespace L2
open PySem PySem.Spec PyProof.Rows
theorem Fs:∀{l1 l2:List Int},l1.Perm l2->l1.Pairwise (·<=·)->l2.Pairwise (·<=·)->l1=l2
 | [],l2,p,_,_=>(List.Perm.nil_eq p)
 |a::r,[],p,_,_=>absurd p.length_eq (by simp)
 |a::r,b::r2,p,h1,h2=>by
  have ha:a∈b::r2:=p.mem_iff.mp a_
  have hb:b∈a::r:=p.mem_iff.mpr a_
  rw[di]at h1 h2
  have e:a=b:=by
   rcases List.mem_cons.mp ha with e|ha
   ·exact e
   ·rcases List.mem_cons.mp hb with e|hb
    ·exact e.symm
    ·have:=h2.1 a ha
     have:=h1.1 b hb
     omega
  subst e
  rw[Fs ((List.perm_cons a).mp p) h1.2 h2.2]
noncomputable def kR (ns:List Int):List Int:=ns.mergeSort (λa b=>decide (a<=b))
theorem y_(ns:List Int):(kR ns).Perm ns:=List.mergeSort_perm ns _
theorem FY(ns:List Int):(kR ns).Pairwise (·<=·):=by
 have h:=List.pairwise_mergeSort (le:=λ(a b:Int)=>decide (a<=b)) (λa b c=>by simp;omega) (λa b=>by simp;omega) ns
 exact h.imp (by simp)
theorem Dy{ns ns':List Int}(p:ns'.Perm ns)(h:ns'.Pairwise (·<=·)):ns'=kR ns:=Fs (p.trans (y_ ns).symm) h (FY ns)
noncomputable def Fe:List V->Option (List Int)
 | []=>some []
 | .int i::r=>(Fe r).map λns=>i::ns
 |_::_=>none
theorem Be:∀ns:List Int,Fe (ns.map V.int)=some ns
 | []=>rfl
 |n::r=>by simp only[aq,Fe,Be r,cT]
theorem Du:∀{ys:List V} {ns:List Int},Fe ys=some ns->ys=ns.map V.int
 | [],ns,h=>by cases h;rfl
 |y::r,ns,h=>by
  cases y with
  |int i=>
   obtain⟨cs,hc,rfl⟩:=Option.map_eq_some_iff.mp h
   rw[aq,←Du hc]
  |_=>cases h
noncomputable def NG:List V->Hp->VK->Prop:=λxs H Q=>match xs with
 | [.ref a]=>(match H a with
  |some (.lst ys)=>(match Fe ys with
   |some ns=>(∀n∈ns,0<=n/\n<=1000000)/\ns.length<=1000000/\Q (.int ns.sum) H
   |none=>False)
  |_=>False)
 |_=>False
theorem Ii{ns:List Int}:∀(k:Nat),(∀n∈ns,0<=n/\n<=1000000)->k<=ns.length->0<=(ns.take k).sum/\(ns.take k).sum<=1000000*k
 |0,_,_=>by simp
 |k+1,h,hk=>by
  obtain⟨a,b⟩:=Ii k h (by omega)
  have hx:ns[k]? =some ns[k]:=aG (by omega)
  have:=h ns[k] (bf _)
  rw[bM,hx,cm]
  simp only[Option.toList_some,bO,List.sum_nil]
  omega
theorem xj{ns:List Int}:∀(k:Nat),k<=ns.length->preSum (λi=>ns.getD i 0) k=(ns.take k).sum
 |0,_=>by simp[preSum]
 |k+1,hk=>by
  have hx:ns[k]? =some ns[k]:=aG (by omega)
  rw[bM,hx,cm]
  show preSum (λi=>ns.getD i 0) k+ns.getD k 0=_
  rw[xj k (Nat.le_of_succ_le hk),aL,hx]
  simp
section
variable{X:Cx}
theorem Rp(hc:X.calm=true):mF X (.builtin "sum") NG:=by
 intro pins s σ H xs us Q I r h
 unfold NG at h
 split at h
 case h_2=>exact h.elim
 rename_i a
 obtain⟨u,rfl,rx⟩:=vals1 r
 cases (show u=Value.ref a from rx)
 split at h
 case h_2=>exact h.elim
 rename_i ys ea
 split at h
 case h_2=>exact h.elim
 rename_i ns hb
 have ey:=Du hb
 subst ey
 obtain⟨hn,hl,h⟩:=h
 obtain⟨its,rv,pl,hz⟩:=I.list (iC.of ea)
 have hlen:=rv.length
 rw[ax]at hlen
 have hat:∀(i:Nat) (v:Value),its.toArray[i]? =some v->∃t,v= .int (ns.getD i 0) t:=λi v hv=>by
  have hv':its[i]? =some v:=by simpa using hv
  have hi:i<ns.length:=by rw[hlen];exact(List.getElem?_eq_some_iff.mp hv').1
  obtain⟨w,g,q⟩:=rv.get (show(ns.map V.int)[i]? =some (V.int ns[i]) by rw[bb,aG hi];rfl)
  rw[hv']at g
  cases g
  obtain⟨t,rfl⟩:=q
  exact⟨t,by rw[aL,aG hi];rfl⟩
 refine call_sum_walk (wpAny_pyIter_list pl.isList ?_)
 have hne:a≠s.heap.objs.size:=by
  obtain⟨o,n,ho,_⟩:=pl
  exact aS (Heap.lt_size ho)
 have lt:a<s.heap.objs.size:=by
  obtain⟨o,n,ho,_⟩:=pl
  exact Heap.lt_size ho
 refine⟨s.heap.objs.size,_,_,_,_,_,λi=>ns.getD i 0,rfl,Walks.list (by show X.A.handled=none;exact I.ok.hd hc) s.heap.objs.size a hne its.toArray,⟨⟨_,Heap.get?_push_size _ rfl,rfl,rfl⟩,pl.isList.push _⟩,λb hb=> ?_,λi v hP=>hat i v hP,λj hj=> ?_,λh' tk t' hk=> ?_⟩
 ·rw[Heap.size_push]
  rcases List.mem_cons.mp hb with rfl|hb
  ·exact cq _
  ·rw[aU]at hb;subst hb;exact Nat.lt_succ_of_lt lt
 ·have hj':j<ns.length:=by rw[hlen];simpa using hj
  have hx:ns[j]? =some ns[j]:=aG hj'
  have h1:=hn ns[j] (bf _)
  obtain⟨h2,h3⟩:=Ii (j+1) hn hj'
  rw[xj (j+1) hj']
  simp only[aL,hx,dk]
  unfold InLong
  constructor<;>constructor<;>omega
 ·rw[show its.toArray.size=ns.length by simp[hlen],xj _ (aF _),bE]
  refine⟨.int _,H,?_,⟨_,rfl⟩,h⟩
  have I1:Inv X pins σ H {s with heap:=s.heap.push {cls:= .type "list_iterator",data:= .fields #[.ref a,.int 0 0]}}:=I.kept (t':=s.toks) λb o q=>Heap.get?_push_of_some _ q
  have fp:=I.IS (H':=H) (aF _) (I.gw.fresh (aF _))
  exact I1.turned (it:=s.heap.objs.size) (λb o hb e=>hk b o (by simpa using hb) e) fp.1 fp.2.1 fp.2.2.2.1 fp.2.2.2.2.1 fp.2.2.2.2.2
noncomputable def Dt:List (Key×V)->Option (List Int)
 | []=>some []
 |(.inl i,_)::r=>(Dt r).map λns=>i::ns
 |_::_=>none
theorem Hq:∀{fA:List (Key×V)} {ns:List Int},Dt fA=some ns->fA.map (·.1)=ns.map Sum.inl
 | [],ns,h=>by cases h;rfl
 |(k,v)::r,ns,h=>by
  cases k with
  |inl i=>
   obtain⟨cs,hc,rfl⟩:=Option.map_eq_some_iff.mp h
   rw[aq,aq,←Hq hc]
  |inr x=>cases h
noncomputable def wH:List V->Hp->VK->Prop:=λxs H Q=>match xs with
 | [.ref a]=>(match H a with
  |some (.dK fA)=>(match Dt fA with
   |some ns=>ns.length<64/\∀l,H l=none->Q (.ref l) (upd H l (.lst ((kR ns).map V.int)))
   |none=>False)
  |_=>False)
 |_=>False
theorem Dv:∀{l:List Value} {ns:List Int},l.length=ns.length->(∀(j:Nat) (v:Value),l[j]? =some v->∃t,v= .int (ns.getD j 0) t)->IntsAre l ns
 | [],[],_,_=> .nil
 |v::r,n::m,hl,h=>by
  obtain⟨t,e⟩:=h 0 v rfl
  rw[e]
  exact .cons n t (Dv (by simpa using hl) λj w hw=>h (j+1) w (by simpa using hw))
theorem K9{i:Int}{v:Value}(h:B3 (.inl i) v=true):∃t,v= .int i t:=by
 rcases iu h with ⟨k,t,e,rfl⟩|⟨x,t,e,_⟩
 ·cases e;exact⟨t,rfl⟩
 ·cases e
theorem KL(hc:X.calm=true):mF X (.builtin "sorted") wH:=by
 intro pins s σ H xs us Q I r h
 unfold wH at h
 split at h
 case h_2=>exact h.elim
 rename_i a
 obtain⟨u,rfl,rx⟩:=vals1 r
 cases (show u=Value.ref a from rx)
 split at h
 case h_2=>exact h.elim
 rename_i fA ea
 split at h
 case h_2=>exact h.elim
 rename_i ns hb
 obtain⟨hl,h⟩:=h
 obtain⟨z,hd,vs,rel,o,es,ep,hat⟩:=Ma I.gw ea
 have da:Heap.DictAt (jL X.prog X.w) s.heap a vs ep:=⟨o,es,hat⟩
 have hk1:=Hq hb
 have hk2:=rel.keys
 have hlen:vs.length=ns.length:=by
  have:=congrArg List.length (hk2.symm.trans hk1)
  simpa using this
 have h64:64<=sizeLine:=by decide
 refine Calls.call_function_entry kind_sorted plain_sorted entry_sorted (args_sorted1 _) ?_
 refine wpAny_bind (wpAny_pure ?_)
 refine wpAny_bind (PySem.W.kdu_collect (PySem.W.kdl_dict hd) (by show X.A.handled=none;exact I.ok.hd hc) da (by omega) λh' tk acc hk hi=> ?_)
 have hal:acc.toList.length=ns.length:=by rw[←hlen];simpa using hi.1
 have hints:IntsAre acc.toList ns:=Dv hal λj v hv=>by
  obtain⟨k,x,e1,e2⟩:=hi.2 j v (by simpa using hv)
  have e3:(vs.map (·.1))[j]? =some k:=by rw[bb,e1];rfl
  rw[←hk2,hk1,bb]at e3
  obtain⟨n,e4,rfl⟩:=Option.map_eq_some_iff.mp e3
  obtain⟨t,rfl⟩:=K9 (show B3 (.inl n) v=true from e2)
  exact⟨t,by rw[aL,e4];rfl⟩
 refine wpAny_bind (wpAny_newList ?_ (by omega))
 have hgt:(h'.push {cls:= .type "list",data:= .seq acc.toList.toArray}).get? h'.objs.size=some (seqObj "list" acc.toList.toArray 0):=Heap.get?_push_size _ rfl
 refine wpAny_bind (wpAny_holding (wpAny_call_entry slot_list_sort ⟨_,hgt,rfl⟩ entry_list_sort (list_sort_tree hgt hints (by omega) λout ns' h1 h2 h3=> ?_) (args_list_sort _)))
 refine⟨_,rfl,wpAny_pure ⟨_,rfl,?_⟩⟩
 have e:=Dy h2 h3
 subst e
 have hln:=h2.length_eq
 have I2:Inv X pins σ H {s with heap:=h',toks:=tk}:=I.kept λb o e=>hk b o e
 have hf:H h'.objs.size=none:=I2.gw.fresh (aF _)
 obtain⟨en,he⟩:=sortedHeap_at (h:=h'.push {cls:= .type "list",data:= .seq acc.toList.toArray}) (a:=h'.objs.size) (vs:=acc.toList) (out:=out) hgt
 refine⟨.ref h'.objs.size,_,I2.laid (t':=tk) (λb o e=>(sortedHeap_old (aS (Heap.lt_size e)) (Heap.lt_size (Heap.get?_push_of_some _ e))).trans (Heap.get?_push_of_some _ e)) (aF _) (show iT X.prog X.w _ _ _ (.lst ((kR ns).map V.int)) from ?_),rfl,h _ hf⟩
 exact⟨by rw[ax,hln];exact aA (bW hl) (by decide),out.toList,en,BF h1,by simpa using he⟩
noncomputable def IG:R2:=λx y H Q=>match x,y with
 | .ref l,.ref b=>(match H l,H b with
  |some (.lst xs),some (.lst zs)=>xs.length+zs.length<=sizeLine/\∀p,H p=none->Q (.ref p) (upd H p (.lst (xs++zs)))
  |_,_=>False)
 |_,_=>False
theorem Q5:qb X (binaryOp .Add) IG:=Qe.mono λx y H Q h=>by
 unfold IG at h
 split at h
 case h_2=>exact h.elim
 split at h
 case h_2=>exact h.elim
 rename_i xs zs e1 e2
 exact⟨_,_,xs,zs,rfl,rfl,e1,e2,h.1,h.2⟩
noncomputable def uS:V->List V->Hp->VK->Prop:=λx vs H Q=>match x,vs with
 | .ref l,[.ref b]=>(match H l,H b with
  |some (.lst xs),some (.lst zs)=>l≠b/\xs.length+zs.length<=sizeLine/\Q .gT (upd H l (.lst (xs++zs)))
  |_,_=>False)
 |_,_=>False
theorem L3:Sh X "list.extend" uS:=λpins s σ H x xs v us Q I rx rxs h=>by
 unfold uS at h
 split at h
 case h_2=>exact h.elim
 split at h
 case h_2=>exact h.elim
 rename_i ys zs e1 e2
 exact Le pins s σ H _ _ v us Q I rx rxs ⟨_,_,ys,zs,rfl,rfl,e1,e2,h.2.1,h.2.2⟩
noncomputable def KI:R2:=λx y H Q=>match y with
 | .ref a=>(match H a,uB x with
  |some (.dK fA),some k=>Q (.bl (qx fA k).isSome) H
  |_,_=>False)
 |_=>False
noncomputable def xX:R2:=λx y H Q=>match y with
 | .ref a=>(match H a,uB x with
  |some (.dK fA),some k=>Q (.bl (!(qx fA k).isSome)) H
  |_,_=>False)
 |_=>False
theorem Q9(hu:X.A.units+1<cLine):qb X (compareOp .In) KI:=by
 intro pins s σ H x y v u Q I rx ry h
 unfold KI at h
 split at h
 case h_2=>exact h.elim
 rename_i a
 split at h
 case h_2=>exact h.elim
 rename_i fA k ea ek
 have ey:=Af ek
 subst ey
 cases (show u=Value.ref a from ry)
 exact SI hu I (Ee.k ea) rx λs' I'=>⟨.bl _,H,I',rfl,h⟩
theorem L4(hu:X.A.units+1<cLine):qb X (compareOp .NotIn) xX:=by
 intro pins s σ H x y v u Q I rx ry h
 unfold xX at h
 split at h
 case h_2=>exact h.elim
 rename_i a
 split at h
 case h_2=>exact h.elim
 rename_i fA k ea ek
 have ey:=Af ek
 subst ey
 cases (show u=Value.ref a from ry)
 exact NL hu I (Ee.k ea) rx λs' I'=>⟨.bl _,H,I',rfl,h⟩
noncomputable def JP:List V->Hp->VK->Prop:=λxs H Q=>match xs with
 | [.ref a]=>(match H a with
  |some (.dK fA)=>Q (.int fA.length) H
  |_=>False)
 |_=>False
theorem Pp:mF X (.builtin "len") JP:=KO.mono λxs H Q h=>by
 unfold JP at h
 split at h
 case h_2=>exact h.elim
 split at h
 case h_2=>exact h.elim
 rename_i fA e
 exact⟨_,fA,rfl,e,h⟩
end
noncomputable def JN (td ty:TE):TE:=λσ H Q=>td σ H λx H1=>match x with
 | .ref a=>(match H1 a with
  |some (.dK _)=>ty σ H1 λy H2=>(match H2 a,uB y with
   |some (.dK fA),some k=>(match qx fA k with
    |some v=>Q v (upd H2 a (.dK (Dj fA k)))
    |none=>False)
   |_,_=>False)
  |_=>False)
 |_=>False
section
variable{X:Cx}{o e:Expr}{td ty:TE}{apos cpos:Pos}
theorem Pl(ho:PE X o td)(he:PE X e ty)(m:M1 X o "pop" apos e cpos):PE X (.Call (.Attribute o "pop" apos) [e] [] cpos) (JN td ty):=by
 intro pins s σ H Q I h
 refine wpAny_Call_method m.base m.TF m.line PySem.F.plainAttrs_dict PySem.F.slot_dict_pop PySem.F.type_dict_pop (kX (ho pins s σ H _ I h) λu s1 ⟨x,H1,I1,rx,q1⟩=> ?_)
 try dsimp only at q1
 split at q1
 case h_2=>exact q1.elim
 rename_i a
 split at q1
 case h_2=>exact q1.elim
 rename_i kvs0 ea0
 obtain rfl:u=Value.ref a:=rx
 obtain⟨t1,t2,_⟩:=PK I1 (PL ea0)
 refine⟨t1,t2,?_⟩
 rw[m.trees]
 refine Calls.callWith_builtin rfl (Calls.evalArgs_plain (Calls.spliced_cons (kX (he pins s1 σ H1 _ I1 q1) λiv s2 ⟨y,H2,I2,ry,q2⟩=>Calls.spliced_nil ?_)))
 try dsimp only at q2
 split at q2
 case h_2=>exact q2.elim
 rename_i fA k ea ek
 split at q2
 case h_2=>exact q2.elim
 rename_i v l
 have ey:=Af ek
 subst ey
 exact Rr I2 ea ry l (.inl rfl) λw' s3 I3 rw'=>⟨v,_,I3,rw',q2⟩
end
noncomputable def De (ta:TA):TE:=λσ H Q=>ta σ H λvs H1=>match vs with
 | [.int i,.int j]=> -(2^62)<=i/\i<2^62/\ -(2^62)<=j/\j<2^62/\(j-i).toNat<=sizeLine/\∀p,H1 p=none->Q (.ref p) (upd H1 p (.lst ((List.range (j-i).toNat).map λt:Nat=>V.int (i+(t:Int)))))
 |_=>False
theorem Il:∀(l:List Value) (a:Int),(∀(j:Nat) (v:Value),l[j]? =some v->∃t,v= .int (a+j) t)->Vals ((List.range l.length).map λt:Nat=>V.int (a+(t:Int))) l
 | [],_,_=> .nil
 |v::r,a,h=>by
  rw[af,dj,aq,aW]
  obtain⟨t,e⟩:=h 0 v rfl
  refine .cons ⟨t,e⟩ ?_
  have z:=Il r (a+1) λj w hw=>by
   obtain⟨t,e⟩:=h (j+1) w (by simpa using hw)
   exact⟨t,by rw[e];congr 1;omega⟩
  have ef:((λt:Nat=>V.int (a+t))∘Nat.succ)=λt:Nat=>V.int (a+1+t):=by
   funext t
   show V.int (a+((t+1:Nat):Int))=_
   congr 1;omega
  rw[ef]
  exact z
section
variable{X:Cx}{a b:Expr}{ta:TA}{p pos p2 pos2:Pos}
theorem MQ(hc:X.calm=true)(hgl:Gl X "list")(hml:X.mg "list"=none)(hgr:Gl X "range")(hmr:X.mg "range"=none)(ha:PA X [a,b] ta)(hs:starEach [a,b] X.env=[(false,eval a X.env),(false,eval b X.env)]:=by rfl)(hs2:starEach [b] X.env=[(false,eval b X.env)]:=by rfl):
  PE X (.Call (.Name "list" p) [.Call (.Name "range" p2) [a,b] [] pos2] [] pos) (De ta):=by
 intro pins s σ H Q I h
 refine wpAny_Call_Name_kw (wZ I hgl hml PyProof.Rows.Boot.«list» ?_ (by decide) (by decide))
 refine bX ?_ (o5 rfl) (o4 rfl)
 rw[o5 (e:= .Call (.Name "range" p2) [a,b] [] pos2) (rest:=[]) rfl]
 show wpAny _ _ (spliced ((false,eval (.Call (.Name "range" p2) [a,b] [] pos2) X.env)::backTo pos (starEach [] X.env))) _ _ s
 refine Calls.spliced_cons (Call_ (wZ I hgr hmr boot_range (bX (kX (ha pos2 pins s σ H _ I h) λus s1 ⟨vs,H1,I1,r1,q1⟩=> ?_) (by rw[hs,hs2]) (by rw[hs2];rfl))))
 try dsimp only at q1
 split at q1
 case h_2=>exact q1.elim
 rename_i i j
 obtain⟨q1,q2,q3,q4,q5,q⟩:=q1
 cases r1 with
 |cons r rr=>
  cases rr with
  |cons r' rr=>
   cases rr
   obtain⟨t,rfl⟩:=r
   obtain⟨t',rfl⟩:=r'
   refine call_range_2 (Calls.spliced_nil ?_)
   refine call_list_range (I1.ok.hd hc) (IsRange.new ..) (small_one q1 q2 q3 q4) (n:=(j-i).toNat) (by rw[rangeSize_one];split<;>omega) (aA q5 (by decide)) λh' tk acc' c' hk he hi=> ?_
   have I2:=I1.kept (h':=s1.heap.push {cls:= .type "range",data:= .fields #[.int i t,.int j t',.int 1 s1.toks]}) (t':=s1.toks+1) λb o e=>Heap.get?_push_of_some _ e
   have hl:acc'.toList.length=(j-i).toNat:=by simpa using hi.1
   have vr:=Il acc'.toList i λk v hv=>by
    obtain⟨tt,e⟩:=hi.2 k v (by simpa using hv)
    exact⟨tt,by rw[e];congr 1;omega⟩
   rw[hl]at vr
   have fr:=I2.gw.fresh (aF _)
   exact⟨.ref _,_,I2.laid (t':=tk) hk (aF _) (show iT X.prog X.w _ h' _ (.lst ((List.range (j-i).toNat).map λt:Nat=>V.int (i+(t:Int)))) from⟨by rw[ax,c8];exact q5,acc'.toList,c',vr,by simpa using he⟩),rfl,q _ fr⟩
end
end L2
namespace L2
open PySem PySem.Spec PyProof.Rows
section
variable{X:Cx}{pins:List (Addr×Obj)}{σ:St}{H:Hp}{s:Shared}{h':Heap}
theorem Inv.ON{t':Nat}{it jt:Addr}(I:Inv X pins σ H s)(k:∀b o,b≠it->b≠jt->s.heap.get? b=some o->h'.get? b=some o)(f:A3 X pins H it)(g:A3 X pins H jt):Inv X pins σ H {s with heap:=h',toks:=t'}:=by
 obtain⟨hn,hL,_,h1,h2,h3⟩:=f
 obtain⟨hn',hL',_,h1',h2',h3'⟩:=g
 have nit:∀b u,H b=some u->b≠it:=λb u e z=>by rw[z,hn]at e;cases e
 have njt:∀b u,H b=some u->b≠jt:=λb u e z=>by rw[z,hn']at e;cases e
 have k':∀b o,b∉ [it,jt]->s.heap.get? b=some o->h'.get? b=some o:=λb o hc e=>k b o (λz=>hc (by simp[z])) (λz=>hc (by simp[z])) e
 refine I.step (g':=s.gens) (d':=s.drawn) (ch:=[it,jt]) (λb hb=> ?_) (λb o _ _ hc e _=>k' b o hc e) (λb o _ _ hc e _=>⟨o.slots,k' b o hc e⟩) (λ_ _ _ _ n=>n)
  (λb o hc e=>⟨o,k' b o hc e⟩) (λ_ _ e=>e) (λ_ _ _ e=>e) (λb ps e=>⟨#[],by rw[e];simp⟩) (λm hm=> ?_) (λb u e=> ?_) I.bare
 ·rcases List.mem_cons.mp hb with rfl|hb
  ·exact⟨h1,hL,h2,h3⟩
  ·rw[aU]at hb
   subst hb
   exact⟨h1',hL',h2',h3'⟩
 ·obtain⟨o,es,ep,ho,r⟩:=hm
  exact⟨o,es,ep,k _ o (aj hL) (aj hL') ho,r⟩
 ·refine(I.gw b u e).CG (λc v hc q=>k c v ?_ ?_ q) (λ_ q=>q) λ_ _ q=>q
  ·rcases hc with z|z
   ·rw[z];exact nit b u e
   ·exact nit c _ z
  ·rcases hc with z|z
   ·rw[z];exact njt b u e
   ·exact njt c _ z
end
noncomputable def Sq (K:PySem.W.Frag) (a:Addr):It:=
 ⟨λi H=>∃xs x,iC K H a xs/\xs[i]? =some x,λi H x H'=>∃p y,H p=none/\x= .ref p/\H'=upd H p (.tup [.int i,y])/\∀xs,iC K H a xs->xs[i]? =some y,λi H=>∃xs,iC K H a xs/\xs.length<=i⟩
theorem Lu{P:Program}{w:World}{K:PySem.W.Frag}{elts:List Expr}{k:Nat}{pos:Pos}(a e it:Addr)(ne:e≠it):Turn P w K (.Tuple elts k pos) (Sq K a) [e,it] e (λi h=>(∃old,IsEnum h e it (i:Int) old)/\h.IsListIter it a i) where
 mem:=by simp
 obj:=λi h st b hb=>by
  obtain⟨⟨old,en⟩,li⟩:=st
  rcases List.mem_cons.mp hb with rfl|hb
  ·exact⟨_,en,λv z=>by cases z⟩
  ·rw[aU]at hb
   subst hb
   obtain⟨o,e,c,d⟩:=li
   exact⟨o,e,λv z=>by rw[d]at z;cases z⟩
 keep:=λi h h' st k=>by
  obtain⟨⟨old,en⟩,li⟩:=st
  exact⟨⟨old,k e (by simp) _ en⟩,li.at λo e=>k it (by simp) o e⟩
 item:=by
  intro X hP hw hK hc i pins s σ H E I hf st hg
  subst hP hw hK
  obtain⟨xs,x,hq,hx⟩:=hg
  obtain⟨its,rv,p,hz⟩:=I.list hq
  obtain⟨u,hu,ru⟩:=rv.get hx
  obtain⟨⟨old,en⟩,li⟩:=st
  have fe:=hf e (by simp)
  have fi:=hf it (by simp)
  refine wpAny_pyNext_enum_item en li p.isList (x:=u) (by simpa using hu) ne λh' out li' tup sz kp=> ?_
  refine⟨_,rfl,wpAny_letOwnedTupleGo_enum out λh2 en2 sb2=> ?_⟩
  have hT:∀b o,s.heap.get? b=some o->s.heap.objs.size≠b:=λb o eb=>cQ (Heap.lt_size eb)
  obtain⟨oe,eE⟩:∃o,s.heap.get? e=some o:=⟨_,en⟩
  obtain⟨oi,eI,_⟩:=id li
  have I1:Inv X pins σ H {s with heap:=h2,toks:=s.toks+1}:=I.ON (λb o n1 n2 eb=>(sb2.2 b n1).trans (kp b o n1 n2 eb)) fe fi
  have hf0:H s.heap.objs.size=none:=I.gw.fresh (aF _)
  have tup2:h2.get? s.heap.objs.size=some {cls:=Value.type "tuple",data:=Data.seq #[Value.int (↑i) s.toks,u]}:=(sb2.2 _ (hT e oe eE)).trans tup
  have h0:X.s₀.heap.get? s.heap.objs.size=none:=by
   cases z:X.s₀.heap.get? s.heap.objs.size with
   |none=>rfl
   |some o=>exact absurd (aQ (Heap.lt_size z) I.sz) (bu _)
  have I2:=I1.adopt (a:=s.heap.objs.size) (o:= .tup [.int i,x]) hf0 ⟨show 2<=sizeLine by decide,[Value.int (↑i) s.toks,u],.cons ⟨_,rfl⟩ (.cons ru .nil),⟨_,tup2,rfl,_,rfl⟩⟩ h0 (cQ I.lt) (λy c ec z=>by
    obtain⟨v,o,eo,_⟩:=I.cell y c ec
    exact hT c o eo z.symm) λp hp z=>hT p.1 p.2 (I.pin p hp).1 z.symm
  refine⟨.ref s.heap.objs.size,_,I2,rfl,⟨_,x,hf0,rfl,rfl,λys hy=>by rw[I.HD hy hq];exact hx⟩,⟨⟨_,by exact_mod_cast en2⟩,?_⟩,λb hb=> ?_⟩
  ·exact li'.at λo eo=>(sb2.2 it (aj ne)).trans eo
  ·have nb:b≠s.heap.objs.size:=by
    rcases List.mem_cons.mp hb with rfl|hb
    ·exact aj (hT _ oe eE)
    ·rw[aU]at hb
     subst hb
     exact aj (hT _ oi eI)
   rw[dO nb]
   exact(hf b hb).1
 done:=by
  intro X hP hw hK hc i pins s σ H E I hf st hg
  subst hP hw hK
  obtain⟨xs,hq,hx⟩:=hg
  obtain⟨its,rv,p,hz⟩:=I.list hq
  obtain⟨⟨old,en⟩,li⟩:=st
  obtain⟨f0,f1,f2,f3,f4,f5⟩:=hf it (by simp)
  have hl:=rv.length
  exact wpAny_pyNext_enum_end (I.ok.hd hc) en li p.isList (by simp;omega) λh' eb=>⟨rfl,I.turned (t':=s.toks) (λb o hb e=>eb b o hb e) f0 f1 f3 f4 f5⟩
 self:=λ_ _ _ _ _ st h=>let ⟨⟨_,en⟩,_⟩:=st;wpAny_pyIter_enum en h
noncomputable def Mn (K:PySem.W.Frag) (ta:TA):TI:=λσ H R=>ta σ H λvs H1=>match vs with
 | [.ref a]=>(∃xs,iC K H1 a xs)/\R (Sq K a) H1
 |_=>False
section
variable{X:Cx}
theorem Om{elts:List Expr}{k:Nat}{tpos:Pos}{a:Expr}{ta:TA}{p pos:Pos}(hg:Gl X "enumerate")(hm:X.mg "enumerate"=none)(ha:PA X [a] ta)(hs:starEach [a] X.env=[(false,eval a X.env)]:=by rfl):
  PI X (.Tuple elts k tpos) (.Call (.Name "enumerate" p) [a] [] pos) (Mn X.K ta):=by
 intro pins s σ H R I h
 refine Call_ (wZ I hg hm boot_enumerate (bX (kX (ha pos pins s σ H _ I h) λus s1 ⟨vs,H1,I1,r1,q1⟩=> ?_) hs rfl))
 try dsimp only at q1
 split at q1
 case h_2=>exact q1.elim
 rename_i l
 obtain⟨⟨xs,hq⟩,q⟩:=q1
 cases r1 with
 |cons r rr=>
  cases rr
  cases r
  obtain⟨its,rv,pl,hz⟩:=I1.list hq
  refine call_enumerate_list pl.isList λh' en li sz kp=> ?_
  have I2:Inv X pins σ H1 {s1 with heap:=h'}:=I1.kept (t':=s1.toks) kp
  refine wpAny_pyIter_enum en ?_
  refine⟨s1.heap.objs.size+1,[s1.heap.objs.size+1,s1.heap.objs.size],_,_,H1,rfl,I2,Lu l _ _ (cQ (cq _)),⟨⟨_,by exact_mod_cast en⟩,li⟩,λb hb=> ?_,q⟩
  rcases List.mem_cons.mp hb with rfl|hb
  ·exact I1.IS (Nat.le_succ _) (I1.gw.fresh (Nat.le_succ _))
  ·rw[aU]at hb
   subst hb
   exact I1.IS (aF _) (I1.gw.fresh (aF _))
end
theorem FJ{K:PySem.W.Frag}{a:Addr}{xs:List V}{qL:St}{tt:TT}{te:TE}{H:Hp}{Q:VK}(P:Nat->List V->Hp->Prop)(h0:P 0 [] H)(hS:∀i ys H',P i ys H'->iC K H' a xs)(hz:xs.length<=sizeLine)(hlen:∀i ys H',P i ys H'->ys.length<=i)
  (step:∀(i:Nat) x ys H',xs[i]? =some x->P i ys H'->∀p,H' p=none->∀K1:List V->Hp->Prop,(∀ys' H3,P (i+1) ys' H3->K1 ys' H3)->tt (some (.int i)::some x::qL) (upd H' p (.tup [.int i,x])) λb H2=>if b=true then te (some (.int i)::some x::qL) H2 (λy H3=>K1 (ys++[y]) H3) else K1 ys H2)
  (q:∀ys H',P xs.length ys H'->∀l,H' l=none->Q (.ref l) (upd H' l (.lst ys))):Fw K (Sq K a) qL tt te H Q:=by
 refine⟨λi m ys H'=>P i ys H'/\i<=xs.length/\m=xs.length-i,⟨xs.length,h0,bw _,rfl⟩,λi m ys H' ⟨hP,hi,em⟩=> ?_⟩
 refine⟨aA (aA (hlen _ _ _ hP) hi) hz,?_⟩
 have hS':=hS _ _ _ hP
 by_cases z:i<xs.length
 ·have hx:xs[i]? =some xs[i]:=aG z
  refine .inr ⟨⟨xs,xs[i],hS',hx⟩,λx H2 ⟨p,y,hp,ex,eH,hy⟩=> ?_⟩
  have ey:y=xs[i]:=by have:=hy xs hS';rw[hx]at this;exact(aT this).symm
  subst ex eH ey
  refine⟨p,_,_,rfl,.inl (.inl dH),?_⟩
  exact step i _ ys H' hx hP p hp (λys' H3=>∃m',m'<m/\(P (i+1) ys' H3/\i+1<=xs.length/\m'=xs.length-(i+1))) λys' H3 h=>⟨_,by omega,h,z,rfl⟩
 ·have e:i=xs.length:=by omega
  subst e
  exact .inl ⟨⟨xs,hS',aF _⟩,q _ _ hP⟩
section
variable{X:Cx}
noncomputable def JL:R2:=λx y H Q=>match x,y with
 | .ref a,.ref b=>(match H a,H b with
  |some (.tup xs),some (.tup ys)=>xs≠ []/\ys≠ []/\xs.length+ys.length<=sizeLine/\∀p,H p=none->Q (.ref p) (upd H p (.tup (xs++ys)))
  |_,_=>False)
 |_,_=>False
theorem Pj:qb X (binaryOp .Add) JL:=Oa.mono λx y H Q h=>by
 unfold JL at h
 split at h
 case h_2=>exact h.elim
 split at h
 case h_2=>exact h.elim
 rename_i xs zs e1 e2
 exact⟨_,_,xs,zs,rfl,rfl,.of e1,.of e2,h.1,h.2.2.1,λz=>absurd z h.2.1,λ_=>h.2.2.2⟩
theorem Po{K:PySem.W.Frag}{e:Expr}{f:Str}{pos:Pos}{ta:TE}(hK:X.K=K)(he:PE X e ta)(hb:attributeBase e f X.env (eval e X.env)=eval e X.env):PE X (.Attribute e f pos) (Eh K ta f):=hK▸OV he hb
end
end L2
namespace L2
open PySem PySem.Spec PyProof.Rows
structure JE(X:Cx)(e:Expr)(t:TE):Prop where
 run:PE X e t
structure JT(X:Cx)(e:Expr)(t:TT):Prop where
 run:PT X e t
structure JW(X:Cx)(e:Expr)(t:TT):Prop where
 run:PW X e t
structure JA(X:Cx)(e:List Expr)(t:TA):Prop where
 run:PA X e t
structure JS(X:Cx)(e:Stmt)(t:TS):Prop where
 run:PS X e t
structure ix(X:Cx)(e:List Stmt)(t:TS):Prop where
 run:Ip X e t
structure JG(X:Cx)(e:Expr)(t:TG):Prop where
 run:PG X e t
structure JI(X:Cx)(tg e:Expr)(t:TI):Prop where
 run:PI X tg e t
structure JO(X:Cx)(e:Option Expr)(t:TO):Prop where
 run:PO X e t
structure JH(X:Cx)(e:List ExceptHandler)(t:TH):Prop where
 run:PH X e t
structure KG(X:Cx)(e:List Expr)(t:TT):Prop where
 run:Fy X e t
structure Cr(X:Cx)(f:Value->Value->Sem Value)(r:R2):Prop where
 run:qb X f r
structure Ts(X:Cx)(f:Value->Sem Value)(r:V->Hp->VK->Prop):Prop where
 run:QZ X f r
structure vI(X:Cx)(f:Value)(r:List V->Hp->VK->Prop):Prop where
 run:mF X f r
structure Sr(X:Cx)(r:R2):Prop where
 run:O6 X r
structure Tr(X:Cx)(r:V->Option Int->Option Int->Hp->VK->Prop):Prop where
 run:O9 X r
structure QW(X:Cx)(t:KH):Prop where
 run:Nu X t
structure Ss(X:Cx)(id:String)(r:V->List V->Hp->VK->Prop):Prop where
 run:Tt X id r
section
variable{X:Cx}{rest:List Expr}{lo hi:Option Expr}{id T:String}{op:Operator}{st:Stmt}{srest:List Stmt}{hrest:List ExceptHandler}
theorem dE(i:Nat){x:Str}{pos:Pos}(hN:X.N[i]? =some x:=by rfl)(hv:Sk X.env.scope x:=by first|exact Or.inl rfl|exact bQ (Or.inl rfl)|exact bQ (bQ rfl))(hd:(x==("__debug__":Str))=false:=by decide)(hcd:(x==("__classdict__":Str))=false:=by decide):JE X (.Name x pos) (dQ i):=⟨cv i hN hv hd hcd⟩
theorem ia{x:Str}{v:V}{pos:Pos}(h:Gv X.mg x v)(hg:Gl X x:=by rfl)(hd:(x==("__debug__":Str))=false:=by decide):JE X (.Name x pos) (tC v):=⟨RX h hg hd⟩
theorem F3{x:Str}{T:String}{pos:Pos}(hm:X.mg x=none)(hv:bootBuiltins x=some (.type T))(hg:Gl X x:=by rfl)(hn:x≠"__name__":=by decide)(hd:(x==("__debug__":Str))=false:=by decide):JE X (.Name x pos) (tC (.ty T)):=⟨R0 hm hv hg hn hd⟩
theorem DB{j pos}:JE X (.Constant .none j pos) (tC .gT):=⟨Qo⟩
theorem vb{b j pos}:JE X (.Constant (.bool b) j pos) (tC (.bl b)):=⟨RW⟩
theorem dJ{i j pos}:JE X (.Constant (.int i) j pos) (tC (.int i)):=⟨Qn⟩
theorem eO{x j pos}:JE X (.Constant (.str x) j pos) (tC (.str x)):=⟨Qr⟩
theorem dS{op:Operator}{r:R2}(ho:Cr X (binaryOp op) r)(ha:JE X a ta)(hb:JE X b tb):JE X (.BinOp a op b pos) (gU r ta tb):=⟨RY ho.run ha.run hb.run⟩
theorem Kb{op:UnaryOp}{r:V->Hp->VK->Prop}(ho:Ts X (unaryOp op) r)(ha:JE X a ta):JE X (.UnaryOp op a pos) (Sm r ta):=⟨R1 ho.run ha.run⟩
theorem Mu(ha:JE X a ta):JE X (.UnaryOp .Not a pos) (Nh ta):=⟨Qp ha.run⟩
theorem uA(ha:JE X a ta)(hb:JE X (.BoolOp .And (b::rest) pos) tb):JE X (.BoolOp .And (a::b::rest) pos) (Cn ta tb):=⟨Qm ha.run hb.run⟩
theorem NZ(ha:JE X a ta)(hb:JE X (.BoolOp .Or (b::rest) pos) tb):JE X (.BoolOp .Or (a::b::rest) pos) (QI ta tb):=⟨RZ ha.run hb.run⟩
theorem rR{op}{t:TE}(h:JE X a t):JE X (.BoolOp op [a] pos) t:=⟨Qq h.run⟩
theorem gW{op:CmpOp}{r:R2}(ho:Cr X (compareOp op) r)(ha:JE X a ta)(hb:JE X b tb)(hm:behindInMarks op b=false):JE X (.Compare a [op] [b] pos) (gU r ta tb):=⟨Of ho.run ha.run hb.run hm⟩
theorem IX{op op':CmpOp}{r r':R2}(ho:Cr X (compareOp op) r)(ho':Cr X (compareOp op') r')(ha:JE X a ta)(hb:JE X b tb)(hc:JE X c tc)(hm:lastMarks [op,op'] [b,c]=false:=by with_unfolding_all rfl):JE X (.Compare a [op,op'] [b,c] pos) (Jw r r' ta tb tc):=⟨ML ho.run ho'.run ha.run hb.run hc.run hm⟩
theorem zc{c:Expr}(hc:JT X c tA)(ha:JE X a ta)(hb:JE X b tb):JE X (.IfExp c a b pos) (Sa tA ta tb):=⟨MP hc.run ha.run hb.run⟩
theorem gC(h:JA X es t):JE X (.List es pos) (qw t):=⟨MR h.run⟩
theorem wY{x1}(h:JA X es t):JE X (.Tuple es x1 pos) (Jy t):=⟨Qs h.run⟩
theorem zb  :JE X (.Dict [] [] pos) D6:=⟨MO⟩
theorem I0{r:V->Option Int->Option Int->Hp->VK->Prop}(hr:Tr X r)(he:JE X e te)(hl:JO X lo tl)(hu:JO X hi th):JE X (.Subscript e (.Slice lo hi none p2) pos) (Tn r te tl th):=⟨MU hr.run he.run hl.run hu.run⟩
theorem K7(ha:JA X es t)(hi:JE X e ti)(hs:CI e):JE X (.Subscript (.List es p2) e pos) (gU M8 (qw t) ti):=⟨Oi ha.run hi.run hs⟩
theorem Hr(hu:X.A.units+1<cLine)(ho:JE X o td)(hi:JE X i ty)(hs:O7 i):JE X (.Subscript o i pos) (JM td ty):=⟨Pk hu ho.run hi.run hs⟩
theorem qT{r:R2}(hr:Sr X r)(ha:JE X a ta)(hb:JE X b tb)(hs:CI b):JE X (.Subscript a b pos) (gU r ta tb):=⟨O1 hr.run ha.run hb.run hs⟩
theorem dG(F:e_ X.prog X.w X.K X.mg X.base (gY X.prog X.w) ca k f fd ps sp)(hr:lP ca k X.A)(hg:Gl X x)(hm:X.mg x=some (.ref f))(hk:PySem.W.keepIn X.K (.ref f)=true)(hb:Binds X.K fd ps [])(hx:Exc X E)(ha:JA X (e::es) t)(hdb:(x==("__debug__":Str))=false:=by decide)(h:(e::es).all notStar=true:=by rfl):JE X (.Call (.Name x p) (e::es) [] pos) (dR sp E t):=⟨MK F hr hg hm hk hb hx ha.run hdb h⟩
theorem lE(M:Mk X.K C f)(F:e_ X.prog X.w X.K X.mg X.base (gY X.prog X.w) ca k f fd ps sp)(hr:lP ca (k+1) X.A)(hg:Gl X x)(hm:X.mg x=some (.ref C))(hb:Binds X.K fd ps [])(hx:Exc X E)(ha:JA X (e::es) t)(hdb:(x==("__debug__":Str))=false:=by decide)(h:(e::es).all notStar=true:=by rfl):JE X (.Call (.Name x p) (e::es) [] pos) (mP C sp E t):=⟨MT M F hr hg hm hb hx ha.run hdb h⟩
theorem wX(M:Mk X.K C f)(F:e_ X.prog X.w X.K X.mg X.base (gY X.prog X.w) ca k f fd ps sp)(hr:lP ca (k+1) X.A)(hg:Gl X x)(hm:X.mg x=some (.ref C))(hb:Binds X.K fd ps [])(hx:Exc X E)(hdb:(x==("__debug__":Str))=false:=by decide):JE X (.Call (.Name x p) [] [] pos) (mP C sp E dZ):=⟨Lj M F hr hg hm hb hx hdb⟩
theorem fI(hc:vI X (.builtin id) r)(hg:Gl X x)(hm:X.mg x=none)(hv:bootBuiltins x=some (.builtin id))(ha:JA X (e::es) t)(hn:x≠"__name__":=by decide)(hdb:(x==("__debug__":Str))=false:=by decide)(h:(e::es).all notStar=true:=by rfl):JE X (.Call (.Name x p) (e::es) [] pos) (AV r t):=⟨Lh hc.run hg hm hv ha.run hn hdb h⟩
theorem qS(hc:vI X (.type T) r)(hg:Gl X x)(hm:X.mg x=none)(hv:bootBuiltins x=some (.type T))(ha:JA X (e::es) t)(hn:x≠"__name__":=by decide)(hdb:(x==("__debug__":Str))=false:=by decide)(h:(e::es).all notStar=true:=by rfl):JE X (.Call (.Name x p) (e::es) [] pos) (AV r t):=⟨Jm hc.run hg hm hv ha.run hn hdb h⟩
theorem ej{pl:Sem Bool}(he:JE X o ta)(c:Cq X.K C)(hm:Meth X.K C m f)(F:e_ X.prog X.w X.K X.mg X.base (gY X.prog X.w) ca k f fd ps sp)(hr:lP ca k X.A)(hb:Binds X.K fd ps [])(hx:Exc X E)(ha:JA X (e::es) t)(hns:(e::es).all notStar=true:=by rfl)(ht:eval (.Call (.Attribute o m apos) (e::es) [] pos) X.env=(do
   let ov←eval o X.env
   standAt apos.atName
   let (f,first)←holding [ov] (getMethod ov m pl)
   callWith pos f first (backTo pos (starEach (e::es) X.env)) (backToKw pos (keywordEach [] X.env))):=by rfl):JE X (.Call (.Attribute o m apos) (e::es) [] pos) (tL C m sp E ta t):=⟨Pu he.run c hm F hr hb hx ha.run hns ht⟩
theorem h_{pl:Sem Bool}(he:JE X o ta)(c:Cq X.K C)(hm:Meth X.K C m f)(F:e_ X.prog X.w X.K X.mg X.base (gY X.prog X.w) ca k f fd ps sp)(hr:lP ca k X.A)(hb:Binds X.K fd ps [])(hx:Exc X E)(ht:eval (.Call (.Attribute o m apos) [] [] pos) X.env=(do
   let ov←eval o X.env
   standAt apos.atName
   let (f,first)←holding [ov] (getMethod ov m pl)
   callWith pos f first (backTo pos (starEach [] X.env)) (backToKw pos (keywordEach [] X.env))):=by rfl):JE X (.Call (.Attribute o m apos) [] [] pos) (tL C m sp E ta dZ):=⟨NI he.run c hm F hr hb hx ht⟩
theorem nM{id:String}{name:Str}(slot:Slot "list" name id)(hty:typeOf (.builtin id)=pure (.type "method_descriptor"))(hm:Ss X id r)(ho:JE X o to)(ha:JA X (e::es) t)(hns:(e::es).all notStar=true:=by rfl)(hbase:attributeBase o name X.env (eval o X.env)=eval o X.env:=by rfl)(hfew:((backTo cpos (starEach (e::es) X.env)).all (λx=> !x.1)&&(backToKw cpos (keywordEach [] X.env)).all (λx=>x.1.isSome)
   &&decide ((e::es).length+([]:List Keyword).length+(if ([]:List Keyword).isEmpty then 0 else 1)<30))=true:=by rfl) (hline:(apos.endLine==cpos.line)=true:=by rfl):JE X (.Call (.Attribute o name apos) (e::es) [] cpos) (G8 r to t):=⟨SA slot hty hm.run ho.run ha.run hns hbase hfew hline⟩
theorem dI(he:JE X e ta)(hb:attributeBase e f X.env (eval e X.env)=eval e X.env):JE X (.Attribute e f pos) (Eh X.K ta f):=⟨OV he.run hb⟩
theorem Ab{K:PySem.W.Frag}{e:Expr}{f:Str}{pos:Pos}{ta:TE}(hK:X.K=K)(he:JE X e ta)(hb:attributeBase e f X.env (eval e X.env)=eval e X.env):JE X (.Attribute e f pos) (Eh K ta f):=⟨Po hK he.run hb⟩
theorem Hu(h:JE X e te):JO X (some e) (LY te):=⟨Pw h.run⟩
theorem dA  :JA X [] dZ:=⟨Qk⟩
theorem dB(ha:JE X e te)(hr:JA X es t)(h:notStar e=true:=by rfl):JA X (e::es) (dN te t):=⟨Td ha.run hr.run h⟩
theorem gs(ha:JT X a tA):JT X (.UnaryOp .Not a pos) (nQ tA):=⟨QB ha.run⟩
theorem kS{X:Cx}{e:Expr}{t:TT}(h:JW X e t):JT X e t:=⟨PW.pt h.run⟩
theorem eC{op:CmpOp}{r:R2}(ho:Cr X (compareOp op) r)(ha:JE X a ta)(hb:JE X b tb)(hm:behindInMarks op b=false):JT X (.Compare a [op] [b] pos) (gp (gU r ta tb)):=⟨Ox ho.run ha.run hb.run hm⟩
theorem eW(ha:JE X a ta)(he:∀whole,isTrue a X.env whole=(do let v←whole;standAt a.pos;holding [v] (truthy v))):JT X a (λσ H Q=>ta σ H λx H'=>∃k,jH X.K x H' k/\Q k H'):=⟨M6 ha.run he⟩
theorem pK(ha:JT X a tA):JW X (.BoolOp .And [a] pos) tA:=⟨Oy ha.run⟩
theorem rT(ha:JT X a tA):JW X (.BoolOp .Or [a] pos) tA:=⟨QD ha.run⟩
theorem ql(ha:JT X a tA)(hb:JW X (.BoolOp .And (b::rest) pos) tB'):JW X (.BoolOp .And (a::b::rest) pos) (Ij tA tB'):=⟨QC ha.run hb.run⟩
theorem qU(ha:JT X a tA)(hb:JW X (.BoolOp .Or (b::rest) pos) tB'):JW X (.BoolOp .Or (a::b::rest) pos) (Kw tA tB'):=⟨R5 ha.run hb.run⟩
theorem eG  :ix X [] gc:=⟨Ou⟩
theorem dF(h1:JS X st t):ix X [st] t:=⟨Ov h1.run⟩
theorem dC(h1:JS X st t)(h2:ix X srest u):ix X (st::srest) (gj t u):=⟨M5 h1.run h2.run⟩
theorem pI{i:Nat}{x:Str}(hN:X.N.Nodup)(hi:X.N[i]? =some x)(hx:Loc X.env.scope x)(hf:X.fn x=true∨X.env.scope.names.lookup x=some .local:=by first|exact .inl rfl|exact .inr rfl|assumption):JG X (.Name x pos) (eZ i):=⟨vh hN hi hx hf⟩
theorem d9(he:JE X e te):JS X (.Return (some e) pos) (fW te):=⟨Qy he.run⟩
theorem dW(he:JE X e te)(hs:swapsWith e none pos.line X.env=pure false:=by rfl):JS X (.Expr e pos) (fj te):=⟨Ot he.run hs⟩
theorem eX{c:Expr}{a b:List Stmt}{tc:TT}(hc:JT X c tc)(ha:ix X a t)(hb:ix X b u):JS X (.If c a b pos) (gO tc t u):=⟨R4 hc.run ha.run hb.run⟩
theorem eK{i:Nat}{x:Str}{e:Expr}{te:TE}{pos':Pos}(hN:X.N.Nodup)(hi:X.N[i]? =some x)(hx:Loc X.env.scope x)(he:JE X e te)(hs:swapsWith e (some (.Name x pos')) pos.line X.env=pure false:=by rfl)(hf:X.fn x=true∨X.env.scope.names.lookup x=some .local:=by first|exact .inl rfl|exact .inr rfl|assumption):JS X (.Assign [.Name x pos'] e pos) (gh te (eZ i)):=⟨Qz hN hi hx he.run hs hf⟩
theorem gr(ha:JE X o ta)(hv:JE X value tv)(hs:swapsWith value (some (.Attribute o f pos')) pos.line X.env=pure false):JS X (.Assign [.Attribute o f pos'] value pos) (oH X.K ta tv f):=⟨Px ha.run hv.run hs⟩
theorem Aa(hu:X.A.units+1<cLine)(ho:JE X o td)(hi:JE X i ty)(hv:JE X value tv)(hs:swapsWith value (some (.Subscript o i pos')) pos.line X.env=pure false):JS X (.Assign [.Subscript o i pos'] value pos) (Dc td ty tv):=⟨Pm hu ho.run hi.run hv.run hs⟩
theorem DD{tg e:Expr}{te:TE}{g:TG}(he:JE X e te)(hg:JG X tg g)(hs:swapsWithSole [tg] e pos.line X.env=pure false:=by rfl)(hw:swappedStores [tg] e X.env=pure none:=by rfl)(h1:(assignEach [tg] X.env).map (·.2)=[assign tg X.env]:=by rfl):JS X (.Assign [tg] e pos) (gh te g):=⟨Qw he.run hg.run hs hw h1⟩
theorem DC{o i:Expr}{to ti:TE}{t:KH}(ho:JE X o to)(hi:JE X i ti)(hs:QW X t)(ha:∀v,assign (.Subscript o i pos) X.env v=(do
   let ov←holding [v] (eval o X.env)
   let iv←holding [v,ov] (eval i X.env)
   standAt pos
   holding [v,ov,iv] (setItem ov iv v)
   release [v,ov,iv] []):=by intro _;rfl):JG X (.Subscript o i pos) (Mi to ti t):=⟨Qu ho.run hi.run hs.run ha⟩
theorem fu(hx:Exc X E)(hg:Gl X x)(hm:X.mg x=some (.ref C))(hq:yk X.K C)(hc:X.calm=true)(ha:JA X (e::es) t)(h:(e::es).all notStar=true:=by rfl)(hdb:(x==("__debug__":Str))=false:=by decide):JS X (.Raise (some (.Call (.Name x np) (e::es) [] cpos)) none pos) (gi C E t):=⟨Ln hx hg hm hq hc ha.run h hdb⟩
theorem Hy{body:List Stmt}{h₀:ExceptHandler}{hs:List ExceptHandler}{tb:(St->XK)->TS}{t:TH}(hst:X.stack=X.env::X.outer)(hf:X.env.frame=some X.env.locals)(hb:∀(E:St->XK) (W:Value->Shared->Prop) (pins:List (Addr×Obj)),Exc ((X.pinned pins).ud W) E->ix ((X.pinned pins).ud W) body (tb E))(hh:JH X (h₀::hs) t):JS X (.Try body (h₀::hs) [] [] pos) (OL tb t):=⟨QA hst hf (λE W pins h_0=>(hb E W pins h_0).run) hh.run⟩
theorem Kc(hex:X.ex=[])(hg:Gl X x)(hm:X.mg x=some c)(hs:∀a,ix (X.K0 a) (b₀::suite) th)(hr:JH X hrest tr)(hdb:(x==("__debug__":Str))=false:=by decide):JH X (.ExceptHandler (some (.Name x np)) none (b₀::suite) pos::hrest) (Nn X.K c th tr):=⟨R3 hex hg hm (λa=>(hs a).run) hr.run hdb⟩
theorem Hv  :JH X [] RB:=⟨Qv⟩
theorem Hw{a:Expr}{ta:TA}{p pos:Pos}(hg:Gl X "range")(hm:X.mg "range"=none)(ha:JA X [a] ta)(hs:starEach [a] X.env=[(false,eval a X.env)]:=by rfl):JI X tg (.Call (.Name "range" p) [a] [] pos) (J4 ta):=⟨Lk hg hm ha.run hs⟩
theorem Hx{a b:Expr}{ta:TA}{p pos:Pos}(hg:Gl X "range")(hm:X.mg "range"=none)(ha:JA X [a,b] ta)(hs:starEach [a,b] X.env=[(false,eval a X.env),(false,eval b X.env)]:=by rfl)(hs2:starEach [b] X.env=[(false,eval b X.env)]:=by rfl):JI X tg (.Call (.Name "range" p) [a,b] [] pos) (Mo ta):=⟨Ll hg hm ha.run hs hs2⟩
theorem gg{l:Expr}{tl:TE}(hl:JE X l tl):JI X tg l (mH X.K tl):=⟨Oo hl.run⟩
theorem K8{elts:List Expr}{k:Nat}{tpos:Pos}{a:Expr}{ta:TA}{p pos:Pos}(hg:Gl X "enumerate")(hm:X.mg "enumerate"=none)(ha:JA X [a] ta)(hs:starEach [a] X.env=[(false,eval a X.env)]:=by rfl):JI X (.Tuple elts k tpos) (.Call (.Name "enumerate" p) [a] [] pos) (Mn X.K ta):=⟨Om hg hm ha.run hs⟩
theorem rS{iter:Expr}{body:List Stmt}{wi:TI}{g:TG}{tb:TS}{pos:Pos}(hp:PassesOwn (model X.prog X.w) X.A X.env X.xe)(hc:X.calm=true)(hi:JI X tg iter wi)(hg:JG X tg g)(hb:ix X body tb)(hs:∀x,foldedSetIterable iter X.env x=pure x:=by intro _;rfl):JS X (.For tg iter body [] pos) (QH wi g tb):=⟨Qx hp hc hi.run hg.run hb.run hs⟩
theorem mw{x:Str}{elt iter:Expr}{px pos:Pos}{ifs:List Expr}{wi:TI}{tt:TT}{te:TE}(S:nF fsc scope [x] N2)(hf:X.env.scope=fsc)(hjs:js.map (λj=>X.N[j]?)=N2.map some)(hc:X.calm=true)(hi:JI X (.Name x px) iter wi)(ht:∀s H C ex,KG (X.ym scope (x::N2) [x] s H C ex) ifs tt)(he:∀s H C ex,JE (X.ym scope (x::N2) [x] s H C ex) elt te)(hs:∀v,foldedSetIterable iter X.env v=pure v:=by intro _;rfl):JE X (.ListComp elt [⟨.Name x px,iter,ifs,0⟩] scope pos) (qv js wi tt te):=⟨Og S hf hjs hc hi.run (λs H C ex=>(ht s H C ex).run) (λs H C ex=>(he s H C ex).run) hs⟩
theorem DA{x1 x2:Str}{elt iter:Expr}{p1 p2 pt pos:Pos}{k:Nat}{ifs:List Expr}{wi:TI}{tt:TT}{te:TE}(S:nF fsc scope [x1,x2] N2)(hf:X.env.scope=fsc)(hjs:js.map (λj=>X.N[j]?)=N2.map some)(hc:X.calm=true)(hi:JI X (.Tuple [.Name x1 p1,.Name x2 p2] k pt) iter wi)(ht:∀s H C ex,KG (X.ym scope (x1::x2::N2) [x1,x2] s H C ex) ifs tt)(he:∀s H C ex,JE (X.ym scope (x1::x2::N2) [x1,x2] s H C ex) elt te)(hs:∀v,foldedSetIterable iter X.env v=pure v:=by intro _;rfl):JE X (.ListComp elt [⟨.Tuple [.Name x1 p1,.Name x2 p2] k pt,iter,ifs,0⟩] scope pos) (GV X.K js wi tt te):=⟨MM S hf hjs hc hi.run (λs H C ex=>(ht s H C ex).run) (λs H C ex=>(he s H C ex).run) hs⟩
theorem vc{x:Str}{elt iter:Expr}{px py pos spos:Pos}{ifs:List Expr}{wi:TI}{tt:TT}{te:TE}{i:Nat}{y:Str}(hN:X.N.Nodup)(hy:X.N[i]? =some y)(hl:Loc X.env.scope y)(S:nF fsc scope [x] N2)(hf:X.env.scope=fsc)(hjs:js.map (λj=>X.N[j]?)=N2.map some)(hc:X.calm=true)(hi:JI X (.Name x px) iter wi)(ht:∀s H C ex,KG (X.ym scope (x::N2) [x] s H C ex) ifs tt)(he:∀s H C ex,JE (X.ym scope (x::N2) [x] s H C ex) elt te)(hs:∀v,foldedSetIterable iter X.env v=pure v:=by intro _;rfl)(hsw:swapsWith (.ListComp elt [⟨.Name x px,iter,ifs,0⟩] scope pos) (some (.Name y py)) spos.line X.env=pure true:=by rfl)(hfn:X.fn y=true∨X.env.scope.names.lookup y=some .local:=by first|exact .inl rfl|exact .inr rfl|assumption):JS X (.Assign [.Name y py] (.ListComp elt [⟨.Name x px,iter,ifs,0⟩] scope pos) spos) (gh (qv js wi tt te) (eZ i)):=⟨Jn hN hy hl S hf hjs hc hi.run (λs H C ex=>(ht s H C ex).run) (λs H C ex=>(he s H C ex).run) hs hsw hfn⟩
theorem ky{X:Cx}:KG X [] Lr:=⟨MY⟩
theorem pJ{X:Cx}{c:Expr}{tt:TT}(h:JT X c tt):KG X [c] tt:=⟨MZ h.run⟩
theorem fM  :Cr X (binaryOp .Add) oF:=⟨Q3⟩
theorem nj  :Cr X (binaryOp .Sub) yn:=⟨Ro⟩
theorem sS  :Cr X (binaryOp .Mult) Df:=⟨Rg⟩
theorem iJ  :Cr X (binaryOp .FloorDiv) o8:=⟨Pn⟩
theorem iP  :Cr X (binaryOp .Mod) ui:=⟨Rf⟩
theorem va  :Cr X (compareOp .Lt) LH:=⟨SH⟩
theorem F0  :Cr X (compareOp .LtE) Q2:=⟨SG⟩
theorem Bf  :Cr X (compareOp .Gt) NB:=⟨SD⟩
theorem qC  :Cr X (compareOp .Eq) IH:=⟨Q6⟩
theorem IW  :Cr X (compareOp .NotEq) Ph:=⟨Rh⟩
theorem PR  :Cr X (compareOp .Is) Sl:=⟨SE⟩
theorem K6  :Cr X (compareOp .IsNot) Dd:=⟨NH⟩
theorem Ka  :Ts X (unaryOp .USub) LX:=⟨Rk⟩
theorem F1  :Cr X (binaryOp .Mult) KJ:=⟨Rl⟩
theorem wW  :Sr X LG:=⟨SF⟩
theorem NW  :Sr X (ND X.K):=⟨Rb⟩
theorem sR  :vI X (.builtin "len") Ct:=⟨Rc⟩
theorem Ms  :vI X (.builtin "len") (JQ X.K):=⟨Pq⟩
theorem za{X:Cx}:vI X (.builtin "isinstance") (M7 X.K):=⟨L5⟩
theorem J_  :vI X (.type "int") cInt:=⟨Ra⟩
theorem NX  :Tr X (NF X.K):=⟨Rn⟩
theorem F2  :QW X E3:=⟨Rm⟩
theorem iI  :Ss X "list.append" kQ:=⟨LZ⟩
theorem Ht  :vI X (.type "list") G9:=⟨Pr⟩
theorem p6(hu:X.A.units+8<cLine):Cr X (compareOp .Eq) A8:=⟨Q7 hu⟩
theorem sT(hu:X.A.units+8<cLine):Cr X (compareOp .NotEq) G_:=⟨Ri hu⟩
theorem I_{c:Expr}{body:List Stmt}{tc:TT}{tb:TS}(hp:PassesOwn (model X.prog X.w) X.A X.env X.xe)(hc:JT X c tc)(hb:ix X body tb):JS X (.While c body [] pos) (Ni tc tb):=⟨M4 hp hc.run hb.run⟩
theorem NY(hc:X.calm=true):vI X (.builtin "sum") NG:=⟨Rp hc⟩
theorem CU  :Cr X (binaryOp .Add) IG:=⟨Q5⟩
theorem IZ(hc:X.calm=true)(hgl:Gl X "list")(hml:X.mg "list"=none)(hgr:Gl X "range")(hmr:X.mg "range"=none)(ha:JA X [a,b] ta)(hs:starEach [a,b] X.env=[(false,eval a X.env),(false,eval b X.env)]:=by rfl)(hs2:starEach [b] X.env=[(false,eval b X.env)]:=by rfl):JE X (.Call (.Name "list" p) [.Call (.Name "range" p2) [a,b] [] pos2] [] pos) (De ta):=⟨MQ hc hgl hml hgr hmr ha.run hs hs2⟩
theorem J9(hu:X.A.units+1<cLine):Cr X (compareOp .In) KI:=⟨Q9 hu⟩
theorem Dz(hu:X.A.units+1<cLine):Cr X (compareOp .NotIn) xX:=⟨L4 hu⟩
theorem Mq(ho:JE X o td)(he:JE X e ty)(m:M1 X o "pop" apos e cpos):JE X (.Call (.Attribute o "pop" apos) [e] [] cpos) (JN td ty):=⟨Pl ho.run he.run m⟩
theorem Mr  :vI X (.builtin "len") JP:=⟨Pp⟩
theorem u_  :Ss X "list.extend" uS:=⟨L3⟩
theorem B2(hc:X.calm=true):vI X (.builtin "sorted") wH:=⟨KL hc⟩
theorem Mp  :Cr X (binaryOp .Add) JL:=⟨Pj⟩
end
section
variable{X:Cx}{scope:Scope}{N2:List Str}{x:List Str}{s:Shared}{Hb:Hp}{C:Addr}{ex:List Addr}
theorem Mv{a:Expr}{ta:TE}(ha:JE (X.ym scope N2 x s Hb C ex) a ta)(he:∀whole,isTrue a (X.ym scope N2 x s Hb C ex).env whole=(do let v←whole;standAt a.pos;holding [v] (truthy v))):JT (X.ym scope N2 x s Hb C ex) a (λσ H Q=>ta σ H λx H'=>∃k,jH X.K x H' k/\Q k H'):=eW ha he
end
end L2
namespace L2
open PySem PySem.Spec PyProof.Rows
variable{X:Cx}
end L2
namespace L2
open PySem PySem.Spec PyProof.Rows
section
variable{X:Cx}{pins:List (Addr×Obj)}{σ:St}{H:Hp}{s:Shared}{h':Heap}
end
section
variable{X:Cx}
end
end L2
namespace L2
open PySem PySem.Spec PyProof.Rows
section
variable{X:Cx}
theorem any_range{bs:List Bool}{tr:Nat->Bool}(h:∀j b,bs[j]? =some b->tr j=b):(List.range bs.length).any tr=bs.any id:=by
 induction bs generalizing tr with
 |nil=>rfl
 |cons b r ih=>
  rw[af,dj,bt,b_,bt,h 0 b rfl,ih (tr:=tr∘Nat.succ) λj c z=>h (j+1) c (by simpa using z)]
  rfl
noncomputable def LV:List V->Hp->VK->Prop:=λxs H Q=>match xs with
 | [.ref a]=>(match H a with
  |some (.lst ys)=>(match bools ys with
   |some bs=>Q (.bl (bs.any id)) H
   |none=>False)
  |_=>False)
 |_=>False
theorem Q4(hc:X.calm=true):mF X (.builtin "any") LV:=by
 intro pins s σ H xs us Q I r h
 unfold LV at h
 split at h
 case h_2=>exact h.elim
 rename_i a
 obtain⟨u,rfl,rx⟩:=vals1 r
 cases (show u=Value.ref a from rx)
 split at h
 case h_2=>exact h.elim
 rename_i ys ea
 split at h
 case h_2=>exact h.elim
 rename_i bs hb
 have ey:=G7 hb
 subst ey
 obtain⟨its,rv,pl,hz⟩:=I.list (iC.of ea)
 have hlen:=rv.length
 rw[ax]at hlen
 have hat:∀(i:Nat) (v:Value),its.toArray[i]? =some v->∃b,bs[i]? =some b/\v= .bool b:=λi v hv=>by
  have hv':its[i]? =some v:=by simpa using hv
  have hi:i<bs.length:=by rw[hlen];exact(List.getElem?_eq_some_iff.mp hv').1
  obtain⟨w,g,q⟩:=rv.get (show(bs.map V.bl)[i]? =some (V.bl bs[i]) by rw[bb,aG hi];rfl)
  rw[hv']at g
  cases g
  exact⟨bs[i],aG hi,q⟩
 refine call_any_walk (wpAny_pyIter_list pl.isList ?_)
 have hne:a≠s.heap.objs.size:=by
  obtain⟨o,n,ho,_⟩:=pl
  exact aS (Heap.lt_size ho)
 refine⟨s.heap.objs.size,_,_,_,_,_,λi=>(bs[i]?).getD true,rfl,Walks.list (by show X.A.handled=none;exact I.ok.hd hc) s.heap.objs.size a hne its.toArray,⟨⟨_,Heap.get?_push_size _ rfl,rfl,rfl⟩,pl.isList.push _⟩,λi v s' Q' E' hP hQ=> ?_,λh' tk hk=> ?_⟩
 ·obtain⟨b,e1,rfl⟩:=hat i v hP
  dsimp only at hQ
  rw[e1]at hQ
  exact wpAny_truthy_bool hQ
 ·rw[show its.toArray.size=bs.length by simp[hlen],any_range (λj b z=>by rw[z];rfl)]
  refine⟨.bl _,H,?_,rfl,h⟩
  have I1:Inv X pins σ H {s with heap:=s.heap.push {cls:= .type "list_iterator",data:= .fields #[.ref a,.int 0 0]}}:=I.kept (t':=s.toks) λb o q=>Heap.get?_push_of_some _ q
  have fp:=I.IS (H':=H) (aF _) (I.gw.fresh (aF _))
  exact I1.turned (it:=s.heap.objs.size) (λb o hb e=>hk b o (by simpa using hb) e) fp.1 fp.2.1 fp.2.2.2.1 fp.2.2.2.2.1 fp.2.2.2.2.2
noncomputable def JR:List V->Hp->VK->Prop:=λxs H Q=>match xs with
 | [.ref a]=>(match H a with
  |some (.lst ys)=>(match Fe ys with
   |some ns=>ns≠ []/\∀m,m∈ns->(∀n∈ns,n<=m)->Q (.int m) H
   |none=>False)
  |_=>False)
 |_=>False
theorem BI{ns:List Int}:∀(k:Nat),k<ns.length->argBest (λi j=>decide (ns.getD i 0>ns.getD j 0)) k<=k/\∀j,j<=k->ns.getD j 0<=ns.getD (argBest (λi j=>decide (ns.getD i 0>ns.getD j 0)) k) 0
 |0,_=>⟨aF _,λj hj=>by rw[Nat.le_zero.mp hj];exact br _⟩
 |k+1,h=>by
  obtain⟨h1,h2⟩:=BI (ns:=ns) k (by omega)
  simp only[argBest]
  generalize argBest (λi j=>decide (ns.getD i 0>ns.getD j 0)) k=b at*
  by_cases c:ns.getD (k+1) 0>ns.getD b 0
  ·rw[if_pos (by simpa using c)]
   refine⟨aF _,λj hj=> ?_⟩
   by_cases z:j=k+1
   ·rw[z];exact br _
   ·have:=h2 j (by omega);omega
  ·rw[if_neg (by simpa using c)]
   refine⟨by omega,λj hj=> ?_⟩
   by_cases z:j=k+1
   ·rw[z];omega
   ·exact h2 j (by omega)
theorem Pt(hc:X.calm=true):mF X (.builtin "max") JR:=by
 intro pins s σ H xs us Q I r h
 unfold JR at h
 split at h
 case h_2=>exact h.elim
 rename_i a
 obtain⟨u,rfl,rx⟩:=vals1 r
 cases (show u=Value.ref a from rx)
 split at h
 case h_2=>exact h.elim
 rename_i ys ea
 split at h
 case h_2=>exact h.elim
 rename_i ns hb
 have ey:=Du hb
 subst ey
 obtain⟨hn,h⟩:=h
 obtain⟨its,rv,pl,hz⟩:=I.list (iC.of ea)
 have hlen:=rv.length
 rw[ax]at hlen
 have hat:∀(i:Nat) (v:Value),its.toArray[i]? =some v->i<ns.length/\∃t,v= .int (ns.getD i 0) t:=λi v hv=>by
  have hv':its[i]? =some v:=by simpa using hv
  have hi:i<ns.length:=by rw[hlen];exact(List.getElem?_eq_some_iff.mp hv').1
  obtain⟨w,g,q⟩:=rv.get (show(ns.map V.int)[i]? =some (V.int ns[i]) by rw[bb,aG hi];rfl)
  rw[hv']at g
  cases g
  obtain⟨t,rfl⟩:=q
  exact⟨hi,t,by rw[aL,aG hi];rfl⟩
 refine call_max_walk (wpAny_pyIter_list pl.isList ?_)
 have lt:a<s.heap.objs.size:=by
  obtain⟨o,n,ho,_⟩:=pl
  exact Heap.lt_size ho
 have n0:0<ns.length:=List.length_pos_iff.mpr hn
 have esz:its.toArray.size=ns.length:=by simp[hlen]
 refine⟨s.heap.objs.size,_,_,_,_,_,λi j=>decide (ns.getD i 0>ns.getD j 0),rfl,Walks.list (by show X.A.handled=none;exact I.ok.hd hc) s.heap.objs.size a (aS lt) its.toArray,⟨⟨_,Heap.get?_push_size _ rfl,rfl,rfl⟩,pl.isList.push _⟩,λb hb=> ?_,by rw[esz];exact n0,CmpOf.ints_gt (λi=>ns.getD i 0) (λi v hv=>(hat i v hv).2),λv h' tk hP hk=> ?_⟩
 ·rw[Heap.size_push]
  rcases List.mem_cons.mp hb with rfl|hb
  ·exact cq _
  ·rw[aU]at hb;subst hb;exact Nat.lt_succ_of_lt lt
 ·rw[esz]at hP
  obtain⟨hi,t,rfl⟩:=hat _ v hP
  obtain⟨_,hm⟩:=BI (ns:=ns) (ns.length-1) (by omega)
  refine⟨.int _,H,?_,⟨_,rfl⟩,h _ ?_ λn hn'=> ?_⟩
  ·have I1:Inv X pins σ H {s with heap:=s.heap.push {cls:= .type "list_iterator",data:= .fields #[.ref a,.int 0 0]}}:=I.kept (t':=s.toks) λb o q=>Heap.get?_push_of_some _ q
   have fp:=I.IS (H':=H) (aF _) (I.gw.fresh (aF _))
   exact I1.turned (it:=s.heap.objs.size) (λb o hb e=>hk b o (by simpa using hb) e) fp.1 fp.2.1 fp.2.2.2.1 fp.2.2.2.2.1 fp.2.2.2.2.2
  ·rw[aL,aG hi];exact bf hi
  ·obtain⟨k,hk',rfl⟩:=List.mem_iff_getElem.mp hn'
   have:=hm k (by omega)
   rw[aL,aG hk']at this
   exact this
noncomputable def FH (neg:Bool):R2:=λx y H Q=>match y with
 | .ref p=>(match H p with
  |some (.lst xs)=>mG x=true/\xs.all mG=true/\Q (.bl (if neg then !K2 x xs else K2 x xs)) H
  |some (.tup xs)=>mG x=true/\xs.all mG=true/\Q (.bl (if neg then !K2 x xs else K2 x xs)) H
  |_=>False)
 |_=>False
theorem NC{K:PySem.W.Frag}{neg:Bool}{x y:V}{H:Hp}{Q:VK}(h:FH neg x y H Q):TK K neg x y H Q:=by
 unfold FH at h
 split at h
 case h_2=>exact h.elim
 split at h
 ·rename_i xs e
  exact⟨_,xs,rfl,.inl (iC.of e),h⟩
 ·rename_i xs e
  exact⟨_,xs,rfl,.inr (Ef.of e),h⟩
 ·exact h.elim
theorem Q_:qb X (compareOp .In) (FH false):=Lg.mono λ_ _ _ _=>NC
noncomputable def Iv (K:PySem.W.Frag) (J:It) (qL:St) (tt:TT) (te:TE) (H1:Hp) (Q:VK):Prop:=
 ∃W:Nat->Nat->List V->Hp->Prop,(∃m,W 0 m [] H1)/\∀i m ys H,W i m ys H->ys.length<=sizeLine/\
  ((J.stop i H/\∀p,H p=none->Q (.ref p) (upd H p (.lst ys)))∨
   (J.go i H/\∀x H',J.OS i H x H'->∃a u v w,x= .ref a/\Ef K H' a [u,v,w]/\
    tt (some u::some v::some w::qL) H' λb H3=>if b=true then te (some u::some v::some w::qL) H3 λy H4=>∃m',m'<m/\W (i+1) m' (ys++[y]) H4 else∃m',m'<m/\W (i+1) m' ys H3))
noncomputable abbrev g3 (K:PySem.W.Frag):TG:=PD K 3 (Fc (eZ 0) (Fc (eZ 1) (Fc (eZ 2) PC)))
theorem L7{K:PySem.W.Frag}{J:It}{qL:St}{tt:TT}{te:TE}{H1:Hp}{Q:VK}(h:Iv K J qL tt te H1 Q):Fx J 3 (g3 K) qL tt te H1 Q:=by
 obtain⟨W,w0,turn⟩:=h
 refine⟨W,w0,λi m ys H hw=> ?_⟩
 obtain⟨hz,alt⟩:=turn i m ys H hw
 refine⟨hz,alt.imp id λ⟨go,step⟩=>⟨go,λx H' hy os ho=> ?_⟩⟩
 obtain⟨a,u,v,w,ex,sq,st⟩:=step x H' hy
 match os,ho with
 | [o,o',o''],_=>exact⟨a,[u,v,w],ex,sq,rfl,u,[v,w],rfl,v,[w],rfl,w,[],rfl,rfl,⟨[some u,some v,some w],rfl,rfl⟩,st⟩
noncomputable def Jx (K:PySem.W.Frag) (js:List Nat) (wi:TI) (tt:TT) (te:TE):TE:=λσ H Q=>wi σ H λJ H1=>Iv K J (pj σ js) tt te H1 Q
section
variable{fsc scope:Scope}{N2:List Str}{js:List Nat}
theorem Ol{x1 x2 x3:Str}{p1 p2 p3 pt:Pos}{k:Nat}(hc:X.calm=true)(S:nF fsc scope [x1,x2,x3] N2){s:Shared}{H:Hp}{C:Addr}{ex:List Addr}:PG (X.ym scope (x1::x2::x3::N2) [x1,x2,x3] s H C ex) (.Tuple [.Name x1 p1,.Name x2 p2,.Name x3 p3] k pt) (g3 X.K):=
 MW (X:=X.ym scope (x1::x2::x3::N2) [x1,x2,x3] s H C ex) hc
  (xi (vh (i:=0) S.nd rfl (.inl (lookup_relabel_local (S.own x1 a_))) (.inl (by show [x1,x2,x3].contains x1=true;simp)))
   (xi (vh (i:=1) S.nd rfl (.inl (lookup_relabel_local (S.own x2 (aZ _ a_)))) (.inl (by show [x1,x2,x3].contains x2=true;simp)))
    (xi (vh (i:=2) S.nd rfl (.inl (lookup_relabel_local (S.own x3 (aZ _ (aZ _ a_))))) (.inl (by show [x1,x2,x3].contains x3=true;simp))) Kj)))
theorem MN{x1 x2 x3:Str}{elt iter:Expr}{p1 p2 p3 pt pos:Pos}{k:Nat}{ifs:List Expr}{wi:TI}{tt:TT}{te:TE}(S:nF fsc scope [x1,x2,x3] N2)(hf:X.env.scope=fsc)(hjs:js.map (λj=>X.N[j]?)=N2.map some)(hc:X.calm=true)(hi:PI X (.Tuple [.Name x1 p1,.Name x2 p2,.Name x3 p3] k pt) iter wi)
  (ht:∀s H C ex,Fy (X.ym scope (x1::x2::x3::N2) [x1,x2,x3] s H C ex) ifs tt) (he:∀s H C ex,PE (X.ym scope (x1::x2::x3::N2) [x1,x2,x3] s H C ex) elt te) (hs:∀v,foldedSetIterable iter X.env v=pure v:=by intro _;rfl):
  PE X (.ListComp elt [⟨.Tuple [.Name x1 p1,.Name x2 p2,.Name x3 p3] k pt,iter,ifs,0⟩] scope pos) (Jx X.K js wi tt te):=by
 intro pins s σ H Q I h
 rw[eval_ListComp]
 refine xY (x:=[x1,x2,x3]) (g:=g3 X.K) (use:=none) S hf hjs hc hi (λ_ _ _ _=>Ol hc S) ht he hs I (λ_ _=>L7) h λfp s2 s4 H2 H3 C D Y pl σ' ys its n I2 f2 hY hC hD hDC I4 hD3 eD rv hz q=> ?_
 obtain⟨m,hn,_⟩:=I4.loc
 rw[show Y.env.locals=C from hY▸rfl]at hn
 exact⟨m,hn,λh' hs'=>⟨.ref D,_,CL (scope:=scope) (x:=[x1,x2,x3]) (N2:=N2) I2 f2 hY hC hD hDC I4 hs' hD3 eD rv hz,rfl,q⟩⟩
theorem IY{x1 x2 x3:Str}{elt iter:Expr}{p1 p2 p3 pt pos:Pos}{k:Nat}{ifs:List Expr}{wi:TI}{tt:TT}{te:TE}(S:nF fsc scope [x1,x2,x3] N2)(hf:X.env.scope=fsc)(hjs:js.map (λj=>X.N[j]?)=N2.map some)(hc:X.calm=true)(hi:JI X (.Tuple [.Name x1 p1,.Name x2 p2,.Name x3 p3] k pt) iter wi)
  (ht:∀s H C ex,KG (X.ym scope (x1::x2::x3::N2) [x1,x2,x3] s H C ex) ifs tt) (he:∀s H C ex,JE (X.ym scope (x1::x2::x3::N2) [x1,x2,x3] s H C ex) elt te) (hs:∀v,foldedSetIterable iter X.env v=pure v:=by intro _;rfl):
  JE X (.ListComp elt [⟨.Tuple [.Name x1 p1,.Name x2 p2,.Name x3 p3] k pt,iter,ifs,0⟩] scope pos) (Jx X.K js wi tt te):=⟨MN S hf hjs hc hi.run (λs H C ex=>(ht s H C ex).run) (λs H C ex=>(he s H C ex).run) hs⟩
end
theorem J8(hc:X.calm=true):vI X (.builtin "any") LV:=⟨Q4 hc⟩
theorem Mt(hc:X.calm=true):vI X (.builtin "max") JR:=⟨Pt hc⟩
theorem Ac:Cr X (compareOp .In) (FH false):=⟨Q_⟩
end
theorem FK{K:PySem.W.Frag}{a:Addr}{xs:List V}{qL:St}{tt:TT}{te:TE}{H:Hp}{Q:VK}(P:Nat->List V->Hp->Prop)(h0:P 0 [] H)(hS:∀i ys H',P i ys H'->iC K H' a xs)(hz:xs.length<=sizeLine)(hlen:∀i ys H',P i ys H'->ys.length<=i)
  (step:∀i x ys H',xs[i]? =some x->P i ys H'->∃t u v,x= .ref t/\Ef K H' t [u,v]/\∀K1:List V->Hp->Prop,(∀ys' H3,P (i+1) ys' H3->K1 ys' H3)->tt (some u::some v::qL) H' λb H2=>if b=true then te (some u::some v::qL) H2 (λy H3=>K1 (ys++[y]) H3) else K1 ys H2)
  (q:∀ys H',P xs.length ys H'->∀l,H' l=none->Q (.ref l) (upd H' l (.lst ys))):Fw K (KD K a) qL tt te H Q:=by
 refine⟨λi m ys H'=>P i ys H'/\i<=xs.length/\m=xs.length-i,⟨xs.length,h0,bw _,rfl⟩,λi m ys H' ⟨hP,hi,em⟩=> ?_⟩
 refine⟨aA (aA (hlen _ _ _ hP) hi) hz,?_⟩
 have hS':=hS _ _ _ hP
 by_cases z:i<xs.length
 ·have hx:xs[i]? =some xs[i]:=aG z
  refine .inr ⟨⟨xs,xs[i],hS',hx⟩,λx H2 ⟨e2,e3⟩=> ?_⟩
  have ex:x=xs[i]:=by have:=e3 xs hS';rw[hx]at this;exact(aT this).symm
  obtain⟨t,u,v,et,sq,st⟩:=step i _ ys H' hx hP
  rw[e2,ex]
  exact⟨t,u,v,et,sq,st (λys' H3=>∃m',m'<m/\(P (i+1) ys' H3/\i+1<=xs.length/\m'=xs.length-(i+1))) λys' H3 h=>⟨_,by omega,h,z,rfl⟩⟩
 ·have e:i=xs.length:=by omega
  subst e
  exact .inl ⟨⟨xs,hS',aF _⟩,q _ _ hP⟩
theorem FL{K:PySem.W.Frag}{a:Addr}{xs:List V}{qL:St}{tt:TT}{te:TE}{H:Hp}{Q:VK}(P:Nat->List V->Hp->Prop)(h0:P 0 [] H)(hS:∀i ys H',P i ys H'->iC K H' a xs)(hz:xs.length<=sizeLine)(hlen:∀i ys H',P i ys H'->ys.length<=i)
  (step:∀i x ys H',xs[i]? =some x->P i ys H'->∃t u v w,x= .ref t/\Ef K H' t [u,v,w]/\∀K1:List V->Hp->Prop,(∀ys' H3,P (i+1) ys' H3->K1 ys' H3)->tt (some u::some v::some w::qL) H' λb H2=>if b=true then te (some u::some v::some w::qL) H2 (λy H3=>K1 (ys++[y]) H3) else K1 ys H2)
  (q:∀ys H',P xs.length ys H'->∀l,H' l=none->Q (.ref l) (upd H' l (.lst ys))):Iv K (KD K a) qL tt te H Q:=by
 refine⟨λi m ys H'=>P i ys H'/\i<=xs.length/\m=xs.length-i,⟨xs.length,h0,bw _,rfl⟩,λi m ys H' ⟨hP,hi,em⟩=> ?_⟩
 refine⟨aA (aA (hlen _ _ _ hP) hi) hz,?_⟩
 have hS':=hS _ _ _ hP
 by_cases z:i<xs.length
 ·have hx:xs[i]? =some xs[i]:=aG z
  refine .inr ⟨⟨xs,xs[i],hS',hx⟩,λx H2 ⟨e2,e3⟩=> ?_⟩
  have ex:x=xs[i]:=by have:=e3 xs hS';rw[hx]at this;exact(aT this).symm
  obtain⟨t,u,v,w,et,sq,st⟩:=step i _ ys H' hx hP
  rw[e2,ex]
  exact⟨t,u,v,w,et,sq,st (λys' H3=>∃m',m'<m/\(P (i+1) ys' H3/\i+1<=xs.length/\m'=xs.length-(i+1))) λys' H3 h=>⟨_,by omega,h,z,rfl⟩⟩
 ·have e:i=xs.length:=by omega
  subst e
  exact .inl ⟨⟨xs,hS',aF _⟩,q _ _ hP⟩
theorem oG.HC{K:PySem.W.Frag}{a:Addr}{xs:List V}{g:TG}{tb:TS}{D:Ends}{σ:St}{H:Hp}(Pv:Nat->St->Hp->Prop)(h0:Pv 0 σ H)(hl:∀i σ H,i<=xs.length->Pv i σ H->iC K H a xs)
  (hs:∀i x σ H,xs[i]? =some x->Pv i σ H->∀R:St->Hp->Prop,(∀σ' H',Pv (i+1) σ' H'->R σ' H')->g x σ H λσ2 H2=>tb {D with nx:=R,ct:=R,bk:=D.nx} σ2 H2) (hd:∀σ H,Pv xs.length σ H->D.nx σ H):oG (KD K a) g tb D σ H:=
 oG.list Pv h0 hl (λi x σ H hx hp=>hs i x σ H hx hp _ λ_ _ h=>h) hd
theorem oG.M9{lo:Int}{n:Nat}{g:TG}{tb:TS}{D:Ends}{σ:St}{H:Hp}(Pv:Nat->St->Hp->Prop)(h0:Pv 0 σ H)
  (hs:∀i σ H,i<n->Pv i σ H->∀R:St->Hp->Prop,(∀σ' H',Pv (i+1) σ' H'->R σ' H')->g (.int (lo+i)) σ H λσ2 H2=>tb {D with nx:=R,ct:=R,bk:=D.nx} σ2 H2) (hd:∀σ H,Pv n σ H->D.nx σ H):oG (Nt lo n) g tb D σ H:=
 oG.range Pv h0 (λi σ H hi hp=>hs i σ H hi hp _ λ_ _ h=>h) hd
theorem ints_get{ks:List Int}{i:Nat}{x:V}(h:(ks.map V.int)[i]? =some x):∃hi:i<ks.length,x= .int ks[i]/\ks.take (i+1)=ks.take i++[ks[i]]:=by
 have hi:i<ks.length:=by have:=(List.getElem?_eq_some_iff.mp h).1;rw[ax]at this;exact this
 rw[bb,aG hi]at h
 exact⟨hi,(aT h).symm,List.take_succ_eq_append_getElem hi⟩
theorem mQ.Rx{K:PySem.W.Frag}{a:Addr}{xs:List V}{qL:St}{tt:TT}{te:TE}{H:Hp}{Q:VK}(p:V->Bool)(f:V->V)(hS:iC K H a xs)(hz:xs.length<=sizeLine)
  (ht:∀x∈xs,∀H1,dY H H1->∀K':Bool->Hp->Prop,(∀H2,dY H H2->K' (p x) H2)->tt (some x::qL) H1 K') (he:∀x∈xs,p x=true->∀H1,dY H H1->∀K':VK,(∀H2,dY H H2->K' (f x) H2)->te (some x::qL) H1 K')
  (q:∀l H1,dY H H1->H1 l=none->Q (.ref l) (upd H1 l (.lst ((xs.filter p).map f)))):mQ (KD K a) qL tt te H Q:=by
 refine⟨λi m ys H'=>dY H H'/\i<=xs.length/\m=xs.length-i/\ys=((xs.take i).filter p).map f,⟨xs.length,dY.refl _,bw _,rfl,by simp⟩,λi m ys H' ⟨e1,hi,em,ey⟩=> ?_⟩
 subst ey
 refine⟨aA (by rw[ax];exact aA (bC _ _) (by rw[bp];omega)) hz,?_⟩
 by_cases z:i<xs.length
 ·have hx:xs[i]? =some xs[i]:=aG z
  refine .inr ⟨⟨xs,xs[i],e1.seq hS,hx⟩,λx H2 ⟨e2,e3⟩=> ?_⟩
  have ex:x=xs[i]:=by have:=e3 xs (e1.seq hS);rw[hx]at this;exact(aT this).symm
  rw[e2,ex]
  have tk:xs.take (i+1)=xs.take i++[xs[i]]:=by rw[bM,hx];rfl
  refine ht _ (bf z) _ e1 _ λH3 s3=> ?_
  cases hp:p xs[i] with
  |true=>
   rw[if_pos rfl]
   refine he _ (bf z) hp _ s3 _ λH4 s4=>⟨xs.length-(i+1),by omega,s4,z,rfl,?_⟩
   rw[tk,cE,aV];simp[hp]
  |false=>
   rw[if_neg aR]
   refine⟨xs.length-(i+1),by omega,s3,z,rfl,?_⟩
   rw[tk,cE,aV];simp[hp]
 ·have e:i=xs.length:=by omega
  subst e
  rw[bE]
  exact .inl ⟨⟨xs,e1.seq hS,aF _⟩,λl hl=>q l _ e1 hl⟩
theorem mQ.MC{K:PySem.W.Frag}{a:Addr}{xs:List V}{qL:St}{te:TE}{H:Hp}{Q:VK}(f:V->V)(hS:iC K H a xs)(hz:xs.length<=sizeLine)(he:∀x∈xs,∀K':VK,K' (f x) H->te (some x::qL) H K')(q:∀l,H l=none->Q (.ref l) (upd H l (.lst (xs.map f)))):mQ (KD K a) qL Lr te H Q:=
 mQ.E6 (λ_=>true) f hS hz (λ_ _ _ h=>h) (λx hx _ K' h=>he x hx K' h) λl hl=>by rw[List.filter_eq_self.mpr λ_ _=>rfl];exact q l hl
theorem E8{l:List Int}:(l.map V.int).all mG=true:=List.all_eq_true.mpr λx hx=>by obtain⟨_,_,rfl⟩:=List.mem_map.mp hx;rfl
theorem Ds{x:Int}{l:List Int}:K2 (.int x) (l.map V.int)=decide (x∈l):=by
 unfold K2
 rw[b_]
 induction l with
 |nil=>rfl
 |cons a r ih=>
  rw[bt,ih]
  have:(((λy=>Iq y (V.int x))∘V.int) a)=decide (x=a):=by
   show(a==x)=decide (x=a)
   by_cases h:a=x
   ·simp[h]
   ·simp[h,aj h]
  rw[this]
  by_cases h:x=a
  ·simp[h]
  ·simp[h]
noncomputable def f7 (l:List String):List V:=l.map λx=>V.str (Str.ofString x)
theorem E9{l:List String}:(f7 l).all mG=true:=List.all_eq_true.mpr λx hx=>by obtain⟨_,_,rfl⟩:=List.mem_map.mp hx;rfl
theorem Ho{x:String}{l:List String}:K2 (.str (Str.ofString x)) (f7 l)=decide (x∈l):=by
 unfold K2 f7
 rw[b_]
 induction l with
 |nil=>rfl
 |cons a r ih=>
  rw[bt,ih]
  have:(((λy=>Iq y (V.str (Str.ofString x)))∘λx=>V.str (Str.ofString x)) a)=decide (x=a):=by
   show(Str.ofString a==Str.ofString x)=decide (x=a)
   by_cases h:a=x
   ·simp[h]
   ·have h':¬(Str.ofString a=Str.ofString x):=λz=>h (As.mp z)
    simp[h',aj h]
  rw[this]
  by_cases h:x=a
  ·simp[h]
  ·simp[h]
theorem wJ{H:Hp}{d:Nat}:∀{l r:List String},l.length=r.length->yV (List.zipWith (zM H (d+1)) (f7 l) (f7 r))=some (decide (l=r))
 | [],[],_=>rfl
 |a::l,b::r,h=>by
  have ih:=wJ (H:=H) (d:=d) (l:=l) (r:=r) (by simpa using h)
  have e:zM H (d+1) (V.str (Str.ofString a)) (V.str (Str.ofString b))=some (decide (a=b)):=by
   simp only[zM,mG,Bool.and_true,if_true,Iq]
   by_cases z:a=b
   ·simp[z]
   ·have z':¬(Str.ofString a=Str.ofString b):=λy=>z (As.mp y)
    simp[z,z']
  show yV (zM H (d+1) (V.str (Str.ofString a)) (V.str (Str.ofString b))::List.zipWith (zM H (d+1)) (f7 l) (f7 r))=_
  rw[e]
  by_cases z:a=b
  ·subst z
   simp[yV,ih]
  ·simp[yV,z,ih]
theorem Bd{H:Hp}{d:Nat}:∀{l r:List Int},l.length=r.length->yV (List.zipWith (zM H (d+1)) (l.map V.int) (r.map V.int))=some (decide (l=r))
 | [],[],_=>rfl
 |a::l,b::r,h=>by
  have ih:=Bd (H:=H) (d:=d) (l:=l) (r:=r) (by simpa using h)
  have e:zM H (d+1) (V.int a) (V.int b)=some (decide (a=b)):=by
   simp only[zM,mG,and_self,if_true,Iq]
   by_cases z:a=b
   ·simp[z]
   ·simp[z]
  show yV (zM H (d+1) (V.int a) (V.int b)::List.zipWith (zM H (d+1)) (l.map V.int) (r.map V.int))=_
  rw[e]
  show(yV (List.zipWith (zM H (d+1)) (l.map V.int) (r.map V.int))).map _=_
  rw[ih]
  by_cases z:a=b<;>by_cases y:l=r<;>simp[z,y]
theorem qu{l:List String}:(f7 l).length=l.length:=ax ..
theorem fsc{N P:List Str}{sc:Scope}(a:sc.kind= .function:=by rfl)(b:sc.isCoroutine=false:=by rfl)(c:sc.isGenerator=false:=by rfl)(d:N.Nodup:=by decide+kernel)(e:N.take P.length=P:=by rfl)(f:∀x∈P,sc.names.lookup x=some .local∨sc.names.lookup x=some .cell:=by decide+kernel)(g:∀y∈sc.names,y.2≠ .free:=by decide+kernel):dX N P sc:=⟨a,b,c,d,e,f,g⟩
theorem lo{sc:Scope}{x:Str}(h:Loc sc x:=by first|exact Or.inl rfl|exact bQ rfl):Loc sc x:=h
noncomputable def cF (K:PySem.W.Frag) (f:Str) (x:V) (H:Hp) (Q:VK):Prop:=match x with
 | .ref a=>(match H a with
  |some (.ins C _ fs)=>Cq K C/\gG K C f/\(match fs.lookup f with
   |some v=>Q v H
   |none=>False)
  |_=>False)
 |_=>False
theorem A9{K:PySem.W.Frag}{ta:TE}{f:Str}{σ:St}{H:Hp}{Q:VK}:Eh K ta f σ H Q=ta σ H λx H1=>cF K f x H1 Q:=rfl
theorem Cu{K:PySem.W.Frag}{f:Str}{H:Hp}{a C dx:Addr}{fs:List (Str×V)}{v:V}{Q:VK}(e:H a=some (.ins C dx fs))(c:Cq K C)(n:gG K C f)(l:fs.lookup f=some v):cF K f (.ref a) H Q=Q v H:=by
 simp[cF,e,c,n,l]
noncomputable def Sz (C:Addr) (m:Str) (x:V) (H:Hp) (P:Prop):Prop:=match x with
 | .ref a=>(match H a with
  |some (.ins C' _ fs)=>C'=C/\fs.lookup m=none/\P
  |_=>False)
 |_=>False
theorem uh{C:Addr}{m:Str}{sp:Sp}{E:St->XK}{ta:TE}{t:TA}{σ:St}{H:Hp}{Q:VK}:tL C m sp E ta t σ H Q=ta σ H λx H1=>Sz C m x H1 (t σ H1 λvs H2=>sp (x::vs) H2 Q (E σ)):=rfl
theorem Cc{C a dx:Addr}{m:Str}{H:Hp}{fs:List (Str×V)}{P:Prop}(e:H a=some (.ins C dx fs))(l:fs.lookup m=none):Sz C m (.ref a) H P=P:=by
 simp[Sz,e,l]
noncomputable def nu (C:Addr) (m:Str) (x:V) (H:Hp):Prop:=match x with
 | .ref a=>(match H a with
  |some (.ins C' _ fs)=>C'=C/\fs.lookup m=none
  |_=>False)
 |_=>False
theorem er{C:Addr}{m:Str}{sp:Sp}{E:St->XK}{ta:TE}{t:TA}{σ:St}{H:Hp}{Q:VK}:tL C m sp E ta t σ H Q=ta σ H λx H1=>nu C m x H1/\t σ H1 λvs H2=>sp (x::vs) H2 Q (E σ):=by
 unfold tL
 congr
 funext x H1
 unfold nu
 cases x with
 |ref a=>
  dsimp only
  rcases H1 a with _|o
  ·simp
  ·cases o<;>dsimp only<;>try simp
   simp[and_assoc]
 |_=>simp
theorem ya{tt:TT}{a b:TS}{D:Ends}{σ:St}{H:Hp}(P:Bool->Hp->Prop)(h1:∀K1:Bool->Hp->Prop,(∀k H1,P k H1->K1 k H1)->tt σ H K1)(h2:∀H1,P true H1->a D σ H1)(h3:∀H1,P false H1->b D σ H1):gO tt a b D σ H:=
 h1 _ λk H1 p=>by
  cases k
  ·exact h3 H1 p
  ·exact h2 H1 p
theorem gb{b:Bool}{P:Bool->Prop}:(∃k,V.bl b=V.bl k/\P k)=P b:=propext ⟨λ⟨_,e,p⟩=>by cases e;exact p,λp=>⟨b,rfl,p⟩⟩
noncomputable def fU (f:Str) (x:V) (H:Hp):Option V:=match x with
 | .ref a=>(match H a with
  |some (.ins _ _ fs)=>fs.lookup f
  |_=>none)
 |_=>none
noncomputable def kr (K:PySem.W.Frag) (f:Str) (x:V) (H:Hp):Prop:=match x with
 | .ref a=>(match H a with
  |some (.ins C _ _)=>Cq K C/\gG K C f
  |_=>False)
 |_=>False
theorem eJ{K:PySem.W.Frag}{ta:TE}{f:Str}{σ:St}{H:Hp}{Q:VK}:Eh K ta f σ H Q=ta σ H λx H1=>kr K f x H1/\(match fU f x H1 with
  |some v=>Q v H1
  |none=>False):=by
 unfold Eh
 congr
 funext x H1
 unfold fU kr
 cases x with
 |ref a=>
  dsimp only
  rcases H1 a with _|o
  ·simp
  ·cases o<;>dsimp only<;>try simp
   rename_i C dx fs
   cases List.lookup f fs<;>simp[and_assoc]
 |_=>simp
theorem A6{a0 a1 q:Prop}(h:a0/\a1/\q):q/\a0/\a1:=⟨h.2.2,h.1,h.2.1⟩
theorem IC{a0 a1 a2 q:Prop}(h:a0/\a1/\a2/\q):q/\a0/\a1/\a2:=⟨h.2.2.2,h.1,h.2.1,h.2.2.1⟩
theorem LK{a0 a1 a2 a3 q:Prop}(h:a0/\a1/\a2/\a3/\q):q/\a0/\a1/\a2/\a3:=⟨h.2.2.2.2,h.1,h.2.1,h.2.2.1,h.2.2.2.1⟩
theorem Q0{a0 a1 a2 a3 a4 q:Prop}(h:a0/\a1/\a2/\a3/\a4/\q):q/\a0/\a1/\a2/\a3/\a4:=⟨h.2.2.2.2.2,h.1,h.2.1,h.2.2.1,h.2.2.2.1,h.2.2.2.2.1⟩
theorem Sx{a0 a1 a2 a3 a4 a5 q:Prop}(h:a0/\a1/\a2/\a3/\a4/\a5/\q):q/\a0/\a1/\a2/\a3/\a4/\a5:=⟨h.2.2.2.2.2.2,h.1,h.2.1,h.2.2.1,h.2.2.2.1,h.2.2.2.2.1,h.2.2.2.2.2.1⟩
theorem TQ{a0 a1 a2 a3 a4 a5 a6 q:Prop}(h:a0/\a1/\a2/\a3/\a4/\a5/\a6/\q):q/\a0/\a1/\a2/\a3/\a4/\a5/\a6:=⟨h.2.2.2.2.2.2.2,h.1,h.2.1,h.2.2.1,h.2.2.2.1,h.2.2.2.2.1,h.2.2.2.2.2.1,h.2.2.2.2.2.2.1⟩
theorem TR{a0 a1 a2 a3 a4 a5 a6 a7 q:Prop}(h:a0/\a1/\a2/\a3/\a4/\a5/\a6/\a7/\q):q/\a0/\a1/\a2/\a3/\a4/\a5/\a6/\a7:=⟨h.2.2.2.2.2.2.2.2,h.1,h.2.1,h.2.2.1,h.2.2.2.1,h.2.2.2.2.1,h.2.2.2.2.2.1,h.2.2.2.2.2.2.1,h.2.2.2.2.2.2.2.1⟩
theorem Sv{a0 a1 a2 a3 a4 a5 a6 a7 a8 a9 q:Prop}(h:a0/\a1/\a2/\a3/\a4/\a5/\a6/\a7/\a8/\a9/\q):q/\a0/\a1/\a2/\a3/\a4/\a5/\a6/\a7/\a8/\a9:=⟨h.2.2.2.2.2.2.2.2.2.2,h.1,h.2.1,h.2.2.1,h.2.2.2.1,h.2.2.2.2.1,h.2.2.2.2.2.1,h.2.2.2.2.2.2.1,h.2.2.2.2.2.2.2.1,h.2.2.2.2.2.2.2.2.1,h.2.2.2.2.2.2.2.2.2.1⟩
theorem Sw{a0 a1 a2 a3 a4 a5 a6 a7 a8 a9 a10 a11 q:Prop}(h:a0/\a1/\a2/\a3/\a4/\a5/\a6/\a7/\a8/\a9/\a10/\a11/\q):q/\a0/\a1/\a2/\a3/\a4/\a5/\a6/\a7/\a8/\a9/\a10/\a11:=⟨h.2.2.2.2.2.2.2.2.2.2.2.2,h.1,h.2.1,h.2.2.1,h.2.2.2.1,h.2.2.2.2.1,h.2.2.2.2.2.1,h.2.2.2.2.2.2.1,h.2.2.2.2.2.2.2.1,h.2.2.2.2.2.2.2.2.1,h.2.2.2.2.2.2.2.2.2.1,h.2.2.2.2.2.2.2.2.2.2.1,h.2.2.2.2.2.2.2.2.2.2.2.1⟩
theorem TC{α:Type}{C:List α->Prop}(h:C []):∀us:List α,us.length=0->C us
 | [],_=>h
theorem uM{α:Type}{C:List α->Prop}(h:∀a0,C [a0]):∀us:List α,us.length=1->C us
 | [a0],_=>h a0
theorem sv{α:Type}{C:List α->Prop}(h:∀a0 a1,C [a0,a1]):∀us:List α,us.length=2->C us
 | [a0,a1],_=>h a0 a1
theorem y4{α:Type}{C:List α->Prop}(h:∀a0 a1 a2,C [a0,a1,a2]):∀us:List α,us.length=3->C us
 | [a0,a1,a2],_=>h a0 a1 a2
theorem QT{α:Type}{C:List α->Prop}(h:∀a0 a1 a2 a3,C [a0,a1,a2,a3]):∀us:List α,us.length=4->C us
 | [a0,a1,a2,a3],_=>h a0 a1 a2 a3
theorem SK{α:Type}{C:List α->Prop}(h:∀a0 a1 a2 a3 a4,C [a0,a1,a2,a3,a4]):∀us:List α,us.length=5->C us
 | [a0,a1,a2,a3,a4],_=>h a0 a1 a2 a3 a4
end L2
namespace K20
open PySem L2
noncomputable def top (i:Nat):Stmt:=PySem.Challenge.pw_cellkeep_k20_what_is_not_sound.main.body.getD i (.Pass ⟨0,0,0,0⟩)
noncomputable abbrev zl:Stmt:=top 14
noncomputable abbrev DS:Stmt:=top 51
noncomputable abbrev vq:Stmt:=inClass (top 56) 0
noncomputable abbrev vt:Stmt:=inClass (top 56) 1
noncomputable abbrev vw:Stmt:=inClass (top 56) 2
noncomputable abbrev r9:Stmt:=inClass (top 56) 3
noncomputable abbrev xk:Stmt:=inClass (top 64) 0
noncomputable abbrev tV:Stmt:=inClass (top 64) 4
noncomputable abbrev xn:Stmt:=inClass (top 67) 3
noncomputable abbrev vn:Stmt:=inClass (top 69) 0
noncomputable abbrev nA:Stmt:=inClass (top 69) 2
noncomputable abbrev xx:Stmt:=inClass (top 71) 0
noncomputable abbrev ra:Stmt:=inClass (top 71) 5
noncomputable abbrev xB:Stmt:=top 79
noncomputable abbrev xF:Stmt:=top 15
noncomputable abbrev vv:Stmt:=inClass (top 56) 5
noncomputable abbrev lG:Stmt:=inClass (top 69) 7
noncomputable abbrev mM:Stmt:=inClass (top 77) 12
noncomputable abbrev xE:Stmt:=top 20
noncomputable abbrev zk:Stmt:=top 21
noncomputable abbrev vB:Stmt:=top 31
noncomputable abbrev Br:Stmt:=top 42
noncomputable abbrev Jr:Stmt:=top 43
noncomputable abbrev tW:Stmt:=inClass (top 54) 0
noncomputable abbrev mO:Stmt:=inClass (top 54) 4
noncomputable abbrev xw:Stmt:=inClass (top 56) 4
noncomputable abbrev vk:Stmt:=inClass (top 67) 0
noncomputable abbrev oU:Stmt:=inClass (top 67) 4
noncomputable abbrev Bq:Stmt:=inClass (top 71) 2
noncomputable abbrev t9:Stmt:=top 22
noncomputable abbrev vA:Stmt:=top 23
noncomputable abbrev Js:Stmt:=top 26
noncomputable abbrev tX:Stmt:=inClass (top 54) 1
noncomputable abbrev xl:Stmt:=inClass (top 67) 1
noncomputable abbrev lH:Stmt:=inClass (top 71) 7
noncomputable abbrev pN:Stmt:=inClass (top 77) 10
noncomputable abbrev t7:Stmt:=top 24
noncomputable abbrev vy:Stmt:=top 25
noncomputable abbrev Gr:Stmt:=top 27
noncomputable abbrev r0:Stmt:=inClass (top 54) 2
noncomputable abbrev vi:Stmt:=inClass (top 62) 0
noncomputable abbrev vj:Stmt:=inClass (top 64) 1
noncomputable abbrev zh:Stmt:=inClass (top 64) 3
noncomputable abbrev xm:Stmt:=inClass (top 67) 2
noncomputable abbrev vm:Stmt:=inClass (top 69) 1
noncomputable abbrev vo:Stmt:=inClass (top 69) 3
noncomputable abbrev xA:Stmt:=inClass (top 71) 1
noncomputable abbrev xy:Stmt:=inClass (top 71) 3
noncomputable abbrev vp:Stmt:=inClass (top 73) 0
noncomputable abbrev xp:Stmt:=inClass (top 77) 2
noncomputable abbrev pO:Stmt:=inClass (top 77) 11
noncomputable abbrev xD:Stmt:=top 40
noncomputable abbrev t5:Stmt:=top 41
noncomputable abbrev xG:Stmt:=top 49
noncomputable abbrev zi:Stmt:=inClass (top 64) 2
noncomputable abbrev oV:Stmt:=inClass (top 73) 1
noncomputable abbrev t6:Stmt:=top 75
noncomputable abbrev xq:Stmt:=inClass (top 77) 3
noncomputable abbrev rZ:Stmt:=inClass (top 77) 5
noncomputable abbrev vx:Stmt:=top 83
noncomputable abbrev Na:Stmt:=top 32
noncomputable abbrev zm:Stmt:=top 33
noncomputable abbrev DR:Stmt:=top 34
noncomputable abbrev xr:Stmt:=inClass (top 77) 0
noncomputable abbrev xu:Stmt:=inClass (top 77) 9
noncomputable abbrev zo:Stmt:=top 35
noncomputable abbrev Jq:Stmt:=top 36
noncomputable abbrev vz:Stmt:=top 37
noncomputable abbrev t8:Stmt:=top 38
noncomputable abbrev r_:Stmt:=top 82
noncomputable abbrev sf:Stmt:=top 39
noncomputable abbrev tY:Stmt:=inClass (top 56) 8
noncomputable abbrev pM:Stmt:=inClass (top 62) 5
noncomputable abbrev qE:Stmt:=inClass (top 77) 8
noncomputable abbrev se:Stmt:=top 84
noncomputable abbrev C1:Stmt:=top 46
noncomputable abbrev oE:Stmt:=top 47
noncomputable abbrev nB:Stmt:=top 48
noncomputable abbrev i7:Stmt:=top 50
noncomputable abbrev oS:Stmt:=inClass (top 62) 3
noncomputable abbrev qD:Stmt:=inClass (top 62) 4
noncomputable abbrev zj:Stmt:=inClass (top 77) 7
noncomputable abbrev DT:Stmt:=top 45
noncomputable abbrev xt:Stmt:=inClass (top 77) 1
noncomputable abbrev xC:Stmt:=top 80
noncomputable abbrev tZ:Stmt:=top 81
noncomputable abbrev Cg:Stmt:=top 85
noncomputable def K4:V->Bool
 | .int _=>true
 |_=>false
noncomputable def SN:V->Bool
 | .bl _=>true
 |_=>false
noncomputable def Kn (H:Hp):V->Prop
 | .gT=>True
 | .bl _=>True
 | .int _=>True
 | .str _=>True
 | .ref a=>(∃xs,H a=some (.lst xs))∨(∃xs,H a=some (.tup xs))∨∃fA,H a=some (.dK fA)
 |_=>False
theorem Kn.same{H H':Hp}{v:V}(s:dY H H')(h:Kn H v):Kn H' v:=by
 cases v with
 |ref a=>
  rcases h with ⟨xs,e⟩|⟨xs,e⟩|⟨xs,e⟩
  ·exact .inl ⟨xs,s _ _ e⟩
  ·exact .inr (.inl ⟨xs,s _ _ e⟩)
  ·exact .inr (.inr ⟨xs,s _ _ e⟩)
 |_=>exact h
noncomputable def wi (v:V) (a b:Int):Bool:=match v with
 | .int i=>decide (a<=i)&&decide (i<=b)
 |_=>false
theorem zv{i a b:Int}(h1:a<=i)(h2:i<=b):wi (.int i) a b=true:=by simp[wi,h1,h2]
noncomputable def iv:V->Int
 | .int i=>i
 |_=>0
noncomputable def kd (v:V):Option Str:=match v with
 | .int w=>if w= -1 then some "nothing" else if w%2=0/\wi (.int (w/2)) (-1000000000000) 1000000000000=true then some "number" else if w%2=1/\wi (.int (w/2)) 0 9999=true then some "place" else none
 |_=>none
noncomputable def wo (v:V):V:=match v with
 | .int w=>if w= -1 then .gT else .int (w/2)
 |_=> .gT
theorem oQ{i:Int}:kd (.int i)=if i= -1 then some (Str.ofString "nothing") else if i%2=0/\ -2000000000000<=i/\i<=2000000000000 then some (Str.ofString "number") else if i%2=1/\1<=i/\i<=19999 then some (Str.ofString "place") else none:=by
 have e1:(i%2=0/\wi (.int (i/2)) (-1000000000000) 1000000000000=true)↔(i%2=0/\ -2000000000000<=i/\i<=2000000000000):=by
  simp only[wi,aI,decide_eq_true_eq];constructor<;>intro h<;>omega
 have e2:(i%2=1/\wi (.int (i/2)) 0 9999=true)↔(i%2=1/\1<=i/\i<=19999):=by
  simp only[wi,aI,decide_eq_true_eq];constructor<;>intro h<;>omega
 simp only[kd,e1,e2]
theorem NU{i:Int}:K4 (.int i)=true:=rfl
theorem TJ{H:Hp}{i:Int}:Kn H (.int i)=True:=rfl
theorem FX{v:V}(h:K4 v=true):∃i,v= .int i:=by cases v<;>first|exact⟨_,rfl⟩|cases h
theorem zw{ws:List Int}{i:Int}(h0:0<=i)(h1:i<=ws.length-1):FD (ws.map V.int) i=some (.int (ws.getD i.toNat 0)):=by
 rw[LQ h0 (by rw[ax];omega),bb,aG (by omega),aL,aG (show i.toNat<ws.length by omega)]
 rfl
theorem J7{ws:List Int}{i:Int}(h0:0<=i)(h1:i<=ws.length-1):K5 (ws.map V.int).length i=some i.toNat:=IV h0 (by rw[ax];omega)
theorem gk{v:V}{a b:Int}(h:wi v a b=true):∃i,v= .int i/\a<=i/\i<=b:=by
 cases v with
 |int i=>simp[wi]at h;exact⟨i,rfl,h.1,h.2⟩
 |_=>cases h
theorem Ja{v:V}{x:Str}(h:kd v=some x):∃i,v= .int i:=by
 cases v with
 |int i=>exact⟨i,rfl⟩
 |_=>cases h
theorem Ib{ws:List Int}{i:Nat}{x:Int}:(ws.map V.int).set i (.int x)=(ws.set i x).map V.int:=by rw[List.map_set]
theorem Tj:¬(("size":Str)="words"):=by decide+kernel
noncomputable def LI (n:Int) (q:Addr):List (Str×V):=[("size",V.int n),("words",V.ref q)]
theorem DK{n:Int}{q:Addr}:(LI n q).lookup ("size":Str)=some (.int n):=by
 simp[LI,List.lookup]
theorem Fl{n:Int}{q:Addr}:(LI n q).lookup ("words":Str)=some (.ref q):=by
 simp[LI,List.lookup,show(("words":Str)=="size")=false by decide+kernel]
theorem Jh{n:Int}{q:Addr}{m:Str}(h1:(m==("size":Str))=false)(h2:(m==("words":Str))=false):(LI n q).lookup m=none:=by
 simp[LI,List.lookup,h1,h2]
theorem MD{n:Int}{q:Addr}:(LI n q).lookup ("want_place":Str)=none:=Jh (by decide+kernel) (by decide+kernel)
theorem Ji{n:Int}{q:Addr}:(LI n q).lookup ("read":Str)=none:=Jh (by decide+kernel) (by decide+kernel)
theorem Bi{n:Int}{q:Addr}:(LI n q).lookup ("write":Str)=none:=Jh (by decide+kernel) (by decide+kernel)
theorem P4{n:Int}{q:Addr}:gD "words" (.ref q) (gD "size" (.int n) [])=LI n q:=by
 simp[gD,Tj,LI]
structure gE(c:Addr)(H:Hp)(p q:Addr)(ws:List Int):Prop where
 ob:∃dx,H p=some (.ins c dx (LI ws.length q))
 ls:H q=some (.lst (ws.map V.int))
section
variable{c p q:Addr}{H H':Hp}{ws:List Int}
theorem gE.ne(m:gE c H p q ws):p≠q:=by
 obtain⟨⟨dx,e⟩,l⟩:=m
 intro z;subst z;rw[e]at l;cases l
theorem gE.keep(m:gE c H p q ws)(h:∀b o,H b=some o->b=p∨b=q->H' b=some o):gE c H' p q ws:=
 ⟨let ⟨dx,e⟩:=m.ob;⟨dx,h _ _ e (.inl rfl)⟩,h _ _ m.ls (.inr rfl)⟩
theorem gE.same(m:gE c H p q ws)(s:dY H H'):gE c H' p q ws:=m.keep λb o e _=>s b o e
theorem gE.put(m:gE c H p q ws)(i:Nat)(x:Int):gE c (upd H q (.lst ((ws.set i x).map V.int))) p q (ws.set i x):=by
 refine⟨?_,dH⟩
 obtain⟨dx,e⟩:=m.ob
 refine⟨dx,?_⟩
 rw[dO m.ne,aK];exact e
end
noncomputable def fv (ws:List Int):Prop:=∀w∈ws,(kd (.int w)).isSome=true
noncomputable def hd (w:Int):Option Int:=if w%2=0/\0<=w/\w<=68/\w/2%4<=2 then some (w/2) else none
noncomputable def eY (ws:List Int) (i:Nat):Option Int:=match hd (ws.getD i 0) with
 |some n=>if (i:Int)+n/4<=ws.length-1 then some n else none
 |none=>none
theorem RC{w n:Int}(h:hd w=some n):w=2*n/\0<=n/\n<=34/\n%4<=2:=by
 unfold hd at h
 split at h
 ·cases h;omega
 ·cases h
theorem N0{ws:List Int}(h:fv ws){i:Nat}(hi:i<ws.length):∃x,kd (.int (ws.getD i 0))=some x:=by
 have:ws.getD i 0∈ws:=by rw[aL,aG hi];exact bf hi
 exact Option.isSome_iff_exists.mp (h _ this)
theorem fP{ws:List Int}{i:Nat}{n:Int}(h:eY ws i=some n):ws.getD i 0=2*n/\0<=n/\n<=34/\n%4<=2/\(i:Int)+n/4<=ws.length-1:=by
 unfold eY at h
 split at h
 ·rename_i m e
  split at h
  ·cases h
   obtain⟨a,b,c,d⟩:=RC e
   exact⟨a,b,c,d,by assumption⟩
  ·cases h
 ·cases h
theorem Ae{i:Int}{x:Str}(h:kd (.int i)=some x):(x=Str.ofString "nothing"/\i= -1)∨(x=Str.ofString "number"/\i%2=0/\ -2000000000000<=i/\i<=2000000000000)∨(x=Str.ofString "place"/\i%2=1/\1<=i/\i<=19999):=by
 rw[oQ]at h
 split at h
 ·cases h;exact .inl ⟨rfl,by assumption⟩
 ·split at h
  ·cases h;exact .inr (.inl ⟨rfl,by assumption⟩)
  ·split at h
   ·cases h;exact .inr (.inr ⟨rfl,by assumption⟩)
   ·cases h
theorem SX:¬(Str.ofString "nothing"=Str.ofString "number"):=by decide+kernel
theorem S0:¬(Str.ofString "place"=Str.ofString "number"):=by decide+kernel
theorem P7:¬(Str.ofString "number"=Str.ofString "place"):=by decide+kernel
theorem P9:¬(Str.ofString "nothing"=Str.ofString "place"):=by decide+kernel
theorem BG{w:Int}(h:w≠ -1):wo (.int w)= .int (w/2):=by simp[wo,h]
theorem mS{ws:List Int}{i:Nat}:eY ws i=if ws.getD i 0%2=0/\0<=ws.getD i 0/\ws.getD i 0<=68/\ws.getD i 0/2%4<=2/\(i:Int)+ws.getD i 0/2/4<=ws.length-1 then some (ws.getD i 0/2) else none:=by
 unfold eY hd
 generalize ws.getD i 0=W
 by_cases c:W%2=0/\0<=W/\W<=68/\W/2%4<=2
 ·rw[if_pos c]
  by_cases d:(i:Int)+W/2/4<=ws.length-1
  ·rw[if_pos ⟨c.1,c.2.1,c.2.2.1,c.2.2.2,d⟩];exact if_pos d
  ·rw[if_neg λz=>d z.2.2.2.2];exact if_neg d
 ·rw[if_neg c,if_neg λz=>c ⟨z.1,z.2.1,z.2.2.1,z.2.2.2.1⟩]
noncomputable def jI (w:Int):Bool:=decide (w%2=1/\0<w)
noncomputable def kids (ws:List Int) (i:Nat) (n:Int):List Int:=(((ws.drop (i+1)).take (n/4).toNat).filter jI).map (· /2)
theorem N7{ws:List Int}{i n:Nat}(h:i+n<=ws.length):(List.range n).map (λt=>V.int (ws.getD (i+t) 0))=((ws.drop i).take n).map V.int:=by
 refine List.ext_getElem? λt=> ?_
 rw[bb,bb,List.getElem?_take]
 by_cases z:t<n
 ·rw[if_pos z,List.getElem?_range z,List.getElem?_drop,cT,aL,aG (by omega)]
  rfl
 ·rw[if_neg z,cg (by rw[c8];omega)]
  rfl
noncomputable def blank (ws:List Int) (i:Nat):Nat->List Int
 |0=>ws
 |k+1=>(blank ws i k).set (i+k) (-1)
theorem rh{ws:List Int}{i:Nat}:∀k,(blank ws i k).length=ws.length
 |0=>rfl
 |k+1=>by rw[blank,aK,rh k]
theorem wG{ws:List Int}{i j:Nat}:∀k,(blank ws i k)[j]? =if i<=j/\j<i+k then ws[j]?.map (λ_=> -1) else ws[j]?
 |0=>by rw[if_neg (by omega)];rfl
 |k+1=>by
  rw[blank,bh,rh]
  by_cases z:i+k=j
  ·subst z
   have c:i<=i+k/\i+k<i+(k+1):=by omega
   rw[if_pos rfl,if_pos c]
   by_cases y:i+k<ws.length
   ·rw[if_pos y,aG y];rfl
   ·rw[if_neg y,cg (by omega)];rfl
  ·rw[if_neg z,wG k]
   by_cases y:i<=j/\j<i+k
   ·rw[if_pos y,if_pos (by omega)]
   ·rw[if_neg y,if_neg (by omega)]
noncomputable def laid (ws:List Int) (i s:Nat):List Int:=(blank ws i (s+1)).set i (8*s)
theorem Ag{ws:List Int}{i s:Nat}:(laid ws i s).length=ws.length:=by rw[laid,aK,rh]
theorem N3{ws:List Int}{i s:Nat}:blank (ws.set i (8*s)) (i+1) s=laid ws i s:=by
 refine List.ext_getElem? λj=> ?_
 rw[wG,laid,bh,bh,wG,rh]
 by_cases z:i=j
 ·subst z
  rw[if_neg (by omega),if_pos rfl,if_pos rfl]
 ·rw[if_neg z,if_neg z]
  by_cases y:i+1<=j/\j<i+1+s
  ·rw[if_pos y,if_pos (by omega)]
  ·rw[if_neg y,if_neg (by omega)]
theorem fv.set{ws:List Int}{i:Nat}{x:Int}(h:fv ws)(hx:(kd (.int x)).isSome=true):fv (ws.set i x):=λw hw=>by
 rcases ck hw with z|rfl
 ·exact h w z
 ·exact hx
theorem fv.blank{ws:List Int}{i:Nat}(h:fv ws):∀k,fv (blank ws i k)
 |0=>h
 |k+1=>(fv.blank h k).set (by rw[oQ,if_pos rfl];rfl)
theorem N4{ws:List Int}{i s j:Nat}(h:j<i∨i+s<j):(laid ws i s).getD j 0=ws.getD j 0:=by
 rw[laid,aL,bh,if_neg (by omega),wG,if_neg (by omega),←aL]
theorem N1{ws:List Int}{i s:Nat}(h:i<ws.length):(laid ws i s).getD i 0=8*s:=by
 rw[laid,aL,bh,if_pos rfl,if_pos (by rw[rh];exact h)];rfl
theorem IJ{ws:List Int}{i s:Nat}(hs:s<=8)(h:i+s<ws.length):eY (laid ws i s) i=some (4*s):=by
 rw[mS,N1 (by omega),Ag,if_pos (by omega)]
 congr 1;omega
theorem fv.laid{ws:List Int}{i s:Nat}(h:fv ws)(hs:s<=8):fv (laid ws i s):=
 (h.blank _).set (by rw[oQ,if_neg (by omega),if_pos (by omega)];rfl)
theorem SS:¬(("begin":Str)="top"):=by decide+kernel
theorem SU:¬(("end":Str)="top"):=by decide+kernel
noncomputable def uN (b e t:Int):List (Str×V):=[("begin",V.int b),("end",V.int e),("top",V.int t)]
section
variable{b e t x:Int}{m:Str}
theorem Ks:(uN b e t).lookup ("begin":Str)=some (.int b):=by simp[uN,List.lookup]
theorem Kt:(uN b e t).lookup ("end":Str)=some (.int e):=by
 simp[uN,List.lookup,show(("end":Str)=="begin")=false by decide+kernel]
theorem D0:(uN b e t).lookup ("top":Str)=some (.int t):=by
 simp[uN,List.lookup,show(("top":Str)=="begin")=false by decide+kernel,show(("top":Str)=="end")=false by decide+kernel]
theorem Bw(h1:(m==("begin":Str))=false)(h2:(m==("end":Str))=false)(h3:(m==("top":Str))=false):(uN b e t).lookup m=none:=by
 simp[uN,List.lookup,h1,h2,h3]
theorem Ic:(uN b e t).lookup ("room":Str)=none:=Bw (by decide+kernel) (by decide+kernel) (by decide+kernel)
theorem AJ:(uN b e t).lookup ("used":Str)=none:=Bw (by decide+kernel) (by decide+kernel) (by decide+kernel)
theorem Kv:(uN b e t).lookup ("has":Str)=none:=Bw (by decide+kernel) (by decide+kernel) (by decide+kernel)
theorem Nd:(uN b e t).lookup ("take":Str)=none:=Bw (by decide+kernel) (by decide+kernel) (by decide+kernel)
theorem pQ:(uN b e t).lookup ("cells":Str)=none:=Bw (by decide+kernel) (by decide+kernel) (by decide+kernel)
theorem OH:gD "top" (.int x) (uN b e t)=uN b e x:=by simp[gD,uN,SS,SU]
theorem OG:(uN b e t).length=3:=rfl
end
noncomputable def walks (ws:List Int):Int->List Int->Int->Prop
 |a,[],t=>a=t
 |a,s::r,t=>(0<=a/\a<ws.length/\∃n,eY ws a.toNat=some n/\n/4+1=s)/\walks ws (a+s) r t
noncomputable def fF:Int->List Int->List Int
 |_,[]=>[]
 |a,s::r=>a::fF (a+s) r
theorem lR{ws:List Int}{a:Int}{n s:Int}(hc:eY ws a.toNat=some n)(hs:n/4+1=s):1<=s/\s<=9:=by
 obtain⟨_,h0,h1,_,_⟩:=fP hc
 omega
theorem uI{ws:List Int}:∀{sz:List Int} {a t:Int},walks ws a sz t->t=a+sz.sum
 | [],a,t,h=>by have:a=t:=h;simp[this]
 |s::r,a,t,h=>by have:=uI h.2;rw[bO];omega
theorem Co{ws:List Int}:∀{sz:List Int} {a t:Int},walks ws a sz t->∀s∈sz,1<=s/\s<=9
 | [],_,_,_,s,hs=>by simp at hs
 |x::r,a,t,h,s,hs=>by
  rcases List.mem_cons.mp hs with rfl|hs
  ·obtain⟨_,_,n,hc,hn⟩:=h.1
   exact lR hc hn
  ·exact Co h.2 s hs
theorem pU{ws:List Int}:∀{sz:List Int} {a t:Int},walks ws a sz t->a+sz.length<=t
 | [],a,t,h=>by have:a=t:=h;simp[this]
 |s::r,a,t,h=>by
  have h1:=pU h.2
  obtain⟨_,_,n,hc,hn⟩:=h.1
  have:=lR hc hn
  rw[af]
  omega
theorem yi:∀{xs:List Int} {a s:Int},fF a (xs++[s])=fF a xs++[a+xs.sum]
 | [],a,s=>by simp[fF]
 |x::r,a,s=>by
  rw[aJ]
  simp only[fF,bO,aJ]
  rw[yi,show a+x+r.sum=a+(x+r.sum) by omega]
theorem ju:∀{xs:List Int} {a:Int},(fF a xs).length=xs.length
 | [],_=>rfl
 |x::r,a=>by simp only[fF,af,ju]
theorem sr{ws:List Int}:∀{sz:List Int} {a t n s:Int},walks ws a sz t->0<=t->t<ws.length->eY ws t.toNat=some n->n/4+1=s->walks ws a (sz++[s]) (t+s)
 | [],a,t,n,s,h,h0,h1,hc,hn=>by
  have e:a=t:=h
  subst e
  exact⟨⟨h0,h1,n,hc,hn⟩,rfl⟩
 |x::r,a,t,n,s,h,h0,h1,hc,hn=>⟨h.1,sr h.2 h0 h1 hc hn⟩
theorem Ea{ws:List Int}:∀{sz:List Int} {a t:Int} (k:Nat),walks ws a sz t->walks ws a (sz.take k) (a+(sz.take k).sum)
 |sz,a,t,0,h=>by rw[List.take_zero];show a=a+([]:List Int).sum;simp
 | [],a,t,k+1,h=>by show a=a+([]:List Int).sum;simp
 |s::r,a,t,k+1,h=>by
  rw[List.take_succ_cons,bO,show a+(s+(r.take k).sum)=a+s+(r.take k).sum by omega]
  exact⟨h.1,Ea k h.2⟩
theorem rF{ws ws':List Int}{i:Nat}(hl:ws'.length=ws.length)(h:ws'.getD i 0=ws.getD i 0):eY ws' i=eY ws i:=by
 rw[mS,mS,h,hl]
theorem lO{ws ws':List Int}(hl:ws'.length=ws.length):∀{sz:List Int} {a t:Int},(∀i:Nat,a<=(i:Int)->(i:Int)<t->ws'.getD i 0=ws.getD i 0)->walks ws a sz t->walks ws' a sz t
 | [],a,t,_,h=>h
 |s::r,a,t,hs,h=>by
  obtain⟨⟨h0,h1,n,hc,hn⟩,h2⟩:=h
  have hz:=lR hc hn
  have hl2:=pU h2
  refine⟨⟨h0,by rw[hl];exact h1,n,?_,hn⟩,lO hl (λi i0 i1=>hs i (by omega) i1) h2⟩
  rw[rF hl (hs a.toNat (by omega) (by omega))]
  exact hc
theorem P6:¬(("memory":Str)="old"):=by decide+kernel
theorem RK:¬(("memory":Str)="young"):=by decide+kernel
theorem SW:¬(("memory":Str)="spare"):=by decide+kernel
theorem RL:¬(("old":Str)="young"):=by decide+kernel
theorem SY:¬(("old":Str)="spare"):=by decide+kernel
theorem S_:¬(("young":Str)="spare"):=by decide+kernel
noncomputable def Ed (m o y s:Addr):List (Str×V):=[("memory",V.ref m),("old",V.ref o),("young",V.ref y),("spare",V.ref s)]
section
variable{m o y s x:Addr}{f:Str}
theorem jV:(Ed m o y s).lookup ("memory":Str)=some (.ref m):=by simp[Ed,List.lookup]
theorem vJ:(Ed m o y s).lookup ("old":Str)=some (.ref o):=by
 simp[Ed,List.lookup,show(("old":Str)=="memory")=false by decide+kernel]
theorem wt:(Ed m o y s).lookup ("young":Str)=some (.ref y):=by
 simp[Ed,List.lookup,show(("young":Str)=="memory")=false by decide+kernel,show(("young":Str)=="old")=false by decide+kernel]
theorem ID(h1:(f==("memory":Str))=false)(h2:(f==("old":Str))=false)(h3:(f==("young":Str))=false)(h4:(f==("spare":Str))=false):(Ed m o y s).lookup f=none:=by
 simp[Ed,List.lookup,h1,h2,h3,h4]
theorem LN:(Ed m o y s).lookup ("lay_young":Str)=none:=ID (by decide+kernel) (by decide+kernel) (by decide+kernel) (by decide+kernel)
theorem LM:(Ed m o y s).lookup ("lay_old":Str)=none:=ID (by decide+kernel) (by decide+kernel) (by decide+kernel) (by decide+kernel)
theorem LL:(Ed m o y s).lookup ("lay_into":Str)=none:=ID (by decide+kernel) (by decide+kernel) (by decide+kernel) (by decide+kernel)
theorem Pc:gD "spare" (.ref s) (gD "young" (.ref y) (gD "old" (.ref o) (gD "memory" (.ref m) [])))=Ed m o y s:=by simp[gD,Ed,P6,RK,SW,RL,SY,S_]
end
structure S3 where
 b:Int
 e:Int
 t:Int
noncomputable def uP (c:Addr) (H:Hp) (p:Addr) (x:S3):Prop:=∃dx,H p=some (.ins c dx (uN x.b x.e x.t))
structure pe(cA cM cS:Addr)(H:Hp)(p m q o y s:Addr)(ws:List Int)(so sy ss:S3):Prop where
 ob:∃dx,H p=some (.ins cA dx (Ed m o y s))
 mem:gE cM H m q ws
 old:uP cS H o so
 BH:uP cS H y sy
 Np:uP cS H s ss
 oy:o≠y
 os:o≠s
 ys:y≠s
 pd:p≠m/\p≠o/\p≠y/\p≠s
 md:m≠o/\m≠y/\m≠s
section
variable{cA cM cS:Addr}{H H':Hp}{p m q o y s:Addr}{ws ws':List Int}{so sy ss:S3}
theorem uP.ne{c x q':Addr}{xs:List V}{z:S3}(h:uP c H x z)(hq:H q'=some (.lst xs)):x≠q':=by
 obtain⟨dx,e⟩:=h
 intro w;subst w;rw[e]at hq;cases hq
theorem uP.same{c x:Addr}{z:S3}(h:uP c H x z)(k:dY H H'):uP c H' x z:=let ⟨dx,e⟩:=h;⟨dx,k _ _ e⟩
theorem pe.same(a:pe cA cM cS H p m q o y s ws so sy ss)(h:dY H H'):pe cA cM cS H' p m q o y s ws so sy ss:=
 {a with ob:=let ⟨dx,e⟩:=a.ob;⟨dx,h _ _ e⟩,mem:=a.mem.same h,old:=a.old.same h,BH:=a.BH.same h,Np:=a.Np.same h}
theorem pe.RO(a:pe cA cM cS H p m q o y s ws so sy ss){z:S3}(mem:gE cM H' m q ws')(e:uP cS H' o z)(k:∀b x,H b=some x->b≠q->b≠o->H' b=some x):pe cA cM cS H' p m q o y s ws' z sy ss:=
 {a with
  ob:=let ⟨dx,e⟩:=a.ob;⟨dx,k _ _ e (λz=>by rw[z,a.mem.ls]at e;cases e) a.pd.2.1⟩
  mem:=mem
  old:=e
  BH:=let ⟨dx,e⟩:=a.BH;⟨dx,k _ _ e (uP.ne ⟨dx,e⟩ a.mem.ls) (aj a.oy)⟩
  Np:=let ⟨dx,e⟩:=a.Np;⟨dx,k _ _ e (uP.ne ⟨dx,e⟩ a.mem.ls) (aj a.os)⟩}
theorem pe.Tp(a:pe cA cM cS H p m q o y s ws so sy ss){z:S3}(mem:gE cM H' m q ws')(e:uP cS H' y z)(k:∀b x,H b=some x->b≠q->b≠y->H' b=some x):pe cA cM cS H' p m q o y s ws' so z ss:=
 {a with
  ob:=let ⟨dx,e⟩:=a.ob;⟨dx,k _ _ e (λz=>by rw[z,a.mem.ls]at e;cases e) a.pd.2.2.1⟩
  mem:=mem
  old:=let ⟨dx,e⟩:=a.old;⟨dx,k _ _ e (uP.ne ⟨dx,e⟩ a.mem.ls) a.oy⟩
  BH:=e
  Np:=let ⟨dx,e⟩:=a.Np;⟨dx,k _ _ e (uP.ne ⟨dx,e⟩ a.mem.ls) (aj a.ys)⟩}
end
noncomputable def gI (ws:List Int) (i s:Nat) (g:Int):List Int:=(laid ws i s).set i (2*(4*s+g))
theorem iB{ws:List Int}{i s:Nat}{g:Int}:(gI ws i s g).length=ws.length:=by rw[gI,aK,Ag]
theorem fv.gI{ws:List Int}{i s:Nat}{g:Int}(h:fv ws)(hs:s<=8)(g0:0<=g)(g2:g<=2):fv (gI ws i s g):=
 (h.laid hs).set (by rw[oQ,if_neg (by omega),if_pos (by omega)];rfl)
theorem qm{ws:List Int}{i s j:Nat}{g:Int}(h:j<i∨i+s<j):(gI ws i s g).getD j 0=ws.getD j 0:=by
 rw[gI,aL,bh,if_neg (by omega),←aL,N4 h]
theorem Hz{ws:List Int}{i s:Nat}{g:Int}(h:i<ws.length):(gI ws i s g).getD i 0=2*(4*s+g):=by
 rw[gI,aL,bh,if_pos rfl,if_pos (by rw[Ag];exact h)];rfl
theorem Jc{ws:List Int}{i s j:Nat}{g:Int}(h:i<j)(h1:j<=i+s)(h2:j<ws.length):(gI ws i s g).getD j 0= -1:=by
 rw[gI,aL,bh,if_neg (by omega),laid,bh,if_neg (by omega),wG,if_pos (by omega),aG h2];rfl
theorem BX{ws:List Int}{i s:Nat}{g:Int}(hs:s<=8)(h:i+s<ws.length)(g0:0<=g)(g2:g<=2):eY (gI ws i s g) i=some (4*s+g):=by
 rw[mS,Hz (by omega),iB,if_pos (by omega)]
 congr 1;omega
noncomputable def Nm (d:Addr):List (Str×V):=[("written",V.ref d)]
section
variable{d d':Addr}{f:Str}
theorem JD:(Nm d).lookup ("written":Str)=some (.ref d):=by simp[Nm,List.lookup]
theorem FG(h:(f==("written":Str))=false):(Nm d).lookup f=none:=by simp[Nm,List.lookup,h]
theorem EW:(Nm d).lookup ("write":Str)=none:=FG (by decide+kernel)
theorem CJ:(Nm d).lookup ("rub":Str)=none:=FG (by decide+kernel)
theorem FF:(Nm d).lookup ("has":Str)=none:=FG (by decide+kernel)
theorem C_:(Nm d).lookup ("places":Str)=none:=FG (by decide+kernel)
theorem Pe:gD "written" (.ref d) []=Nm d:=rfl
end
noncomputable def zK (ks:List Int):List (Key×V):=ks.map λk=>(Sum.inl k,V.bl true)
theorem JJ{ks:List Int}:(zK ks).length=ks.length:=ax ..
theorem CK{k:Int}:∀{ks:List Int},qx (zK ks) (Sum.inl k)=if k∈ks then some (.bl true) else none
 | []=>rfl
 |x::r=>by
  by_cases e:x=k
  ·subst e
   rw[if_pos a_]
   exact xT rfl
  ·have e':¬((Sum.inl x:Key)=Sum.inl k):=λz=>e (bR z)
   show qx ((Sum.inl x,V.bl true)::zK r) (Sum.inl k)=_
   rw[xS e',CK]
   by_cases m:k∈r
   ·rw[if_pos m,if_pos (aZ _ m)]
   ·rw[if_neg m,if_neg (by simp;exact⟨λz=>e z.symm,m⟩)]
theorem JK{k:Int}{ks:List Int}:putK (zK ks) (Sum.inl k) (.bl true)=zK (if k∈ks then ks else ks++[k]):=by
 have ha:((zK ks).any λkv=>decide (kv.1=(Sum.inl k:Key)))=decide (k∈ks):=by
  induction ks with
  |nil=>rfl
  |cons x r ih=>
   show(decide ((Sum.inl x:Key)=Sum.inl k) ||(zK r).any _)=_
   rw[ih]
   by_cases e:x=k
   ·subst e;simp
   ·have e':¬((Sum.inl x:Key)=Sum.inl k):=λz=>e (bR z)
    simp[e']
    intro z;exact absurd z.symm e
 unfold putK
 rw[ha]
 by_cases m:k∈ks
 ·rw[if_pos (by simpa using m),if_pos m]
  unfold zK
  rw[aW]
  refine cj λx _=> ?_
  show(if (Sum.inl x:Key)=Sum.inl k then(Sum.inl x,V.bl true) else(Sum.inl x,V.bl true))=_
  split<;>rfl
 ·rw[if_neg (by simpa using m),if_neg m]
  unfold zK
  rw[aV];rfl
theorem LS{k:Int}{ks:List Int}:Dj (zK ks) (Sum.inl k)=zK (ks.filter λx=>decide (x≠k)):=by
 unfold Dj zK
 rw[bS]
 congr 1
 refine c6 λx _=> ?_
 show decide ((Sum.inl x:Key)≠Sum.inl k)=decide (x≠k)
 by_cases e:x=k
 ·subst e;simp
 ·simp[e,show¬((Sum.inl x:Key)=Sum.inl k) from λz=>e (bR z)]
structure rz(c:Addr)(H:Hp)(p d:Addr)(ks:List Int):Prop where
 ob:∃dx,H p=some (.ins c dx (Nm d))
 dc:H d=some (.dK (zK ks))
noncomputable def J5 (ks:List Int) (k:Int):List Int:=if k∈ks then ks else ks++[k]
noncomputable def Bp (ks:List Int) (k:Int):List Int:=ks.filter λx=>decide (x≠k)
section
variable{c p d:Addr}{H H':Hp}{ks ks':List Int}
theorem rz.ne(m:rz c H p d ks):p≠d:=by
 obtain⟨⟨dx,e⟩,l⟩:=m
 intro z;subst z;rw[e]at l;cases l
theorem rz.keep(m:rz c H p d ks)(h:∀b o,H b=some o->b=p∨b=d->H' b=some o):rz c H' p d ks:=
 ⟨let ⟨dx,e⟩:=m.ob;⟨dx,h _ _ e (.inl rfl)⟩,h _ _ m.dc (.inr rfl)⟩
theorem rz.same(m:rz c H p d ks)(s:dY H H'):rz c H' p d ks:=m.keep λb o e _=>s b o e
theorem rz.put(m:rz c H p d ks):rz c (upd H d (.dK (zK ks'))) p d ks':=by
 refine⟨?_,dH⟩
 obtain⟨dx,e⟩:=m.ob
 exact⟨dx,by rw[dO m.ne];exact e⟩
end
noncomputable def NR (q:Addr):List (Str×V):=[("words",V.ref q)]
section
variable{q:Addr}{f:Str}
theorem J3:(NR q).lookup ("words":Str)=some (.ref q):=by simp[NR,List.lookup]
theorem FU(h:(f==("words":Str))=false):(NR q).lookup f=none:=by simp[NR,List.lookup,h]
theorem NS:(NR q).lookup ("get":Str)=none:=FU (by decide+kernel)
theorem J2:(NR q).lookup ("put":Str)=none:=FU (by decide+kernel)
theorem NT:(NR q).lookup ("row":Str)=none:=FU (by decide+kernel)
theorem Dr:(NR q).lookup ("want_hand":Str)=none:=FU (by decide+kernel)
end
structure A4(c:Addr)(H:Hp)(p q:Addr)(ws:List Int):Prop where
 ob:∃dx,H p=some (.ins c dx (NR q))
 ls:H q=some (.lst (ws.map V.int))
section
variable{c p q:Addr}{H H':Hp}{ws:List Int}
theorem A4.keep(m:A4 c H p q ws)(h:∀b o,H b=some o->b=p∨b=q->H' b=some o):A4 c H' p q ws:=
 ⟨let ⟨dx,e⟩:=m.ob;⟨dx,h _ _ e (.inl rfl)⟩,h _ _ m.ls (.inr rfl)⟩
theorem A4.same(m:A4 c H p q ws)(s:dY H H'):A4 c H' p q ws:=m.keep λb o e _=>s b o e
end
noncomputable def G2 (q:Addr):List (Str×V):=[("told",V.ref q)]
section
variable{q:Addr}{f:Str}
theorem Im:(G2 q).lookup ("told":Str)=some (.ref q):=by simp[G2,List.lookup]
theorem Eb(h:(f==("told":Str))=false):(G2 q).lookup f=none:=by simp[G2,List.lookup,h]
theorem Nk:(G2 q).lookup ("name":Str)=none:=Eb (by decide+kernel)
theorem QO:(G2 q).lookup ("at":Str)=none:=Eb (by decide+kernel)
theorem Nj:(G2 q).lookup ("move":Str)=none:=Eb (by decide+kernel)
theorem Lx:(G2 q).lookup ("names":Str)=none:=Eb (by decide+kernel)
theorem Ec:(G2 q).lookup ("want_standing":Str)=none:=Eb (by decide+kernel)
theorem QP:gD "told" (.ref q) []=G2 q:=rfl
end
noncomputable def tv:Option Int->V
 |some i=> .int i
 |none=> .gT
theorem BE{os:List (Option Int)}:(os.map tv).length=os.length:=ax ..
theorem Sd{os:List (Option Int)}{i:Int}(h0:0<=i)(h1:i<=os.length-1):FD (os.map tv) i=some (tv (os.getD i.toNat none)):=by
 rw[LQ h0 (by rw[ax];omega),bb,aG (by omega),aL,aG (show i.toNat<os.length by omega)]
 rfl
theorem Se{os:List (Option Int)}{i:Int}(h0:0<=i)(h1:i<=os.length-1):K5 (os.map tv).length i=some i.toNat:=IV h0 (by rw[ax];omega)
theorem QK{os:List (Option Int)}{i:Nat}{x:Option Int}:(os.map tv).set i (tv x)=(os.set i x).map tv:=by rw[List.map_set]
structure uQ(c:Addr)(H:Hp)(p q:Addr)(os:List (Option Int)):Prop where
 ob:∃dx,H p=some (.ins c dx (G2 q))
 ls:H q=some (.lst (os.map tv))
section
variable{c p q:Addr}{H H':Hp}{os os':List (Option Int)}
theorem uQ.ne(m:uQ c H p q os):p≠q:=by
 obtain⟨⟨dx,e⟩,l⟩:=m
 intro z;subst z;rw[e]at l;cases l
theorem uQ.keep(m:uQ c H p q os)(h:∀b o,H b=some o->b=p∨b=q->H' b=some o):uQ c H' p q os:=
 ⟨let ⟨dx,e⟩:=m.ob;⟨dx,h _ _ e (.inl rfl)⟩,h _ _ m.ls (.inr rfl)⟩
theorem uQ.same(m:uQ c H p q os)(s:dY H H'):uQ c H' p q os:=m.keep λb o e _=>s b o e
theorem uQ.put(m:uQ c H p q os):uQ c (upd H q (.lst (os'.map tv))) p q os':=by
 refine⟨?_,dH⟩
 obtain⟨dx,e⟩:=m.ob
 exact⟨dx,by rw[dO m.ne];exact e⟩
end
noncomputable def stN (os:List (Option Int)) (v:V):Bool:=wi v 0 (os.length-1)&&(os.getD (iv v).toNat none).isSome
noncomputable def HP:Nat->List (Option Int)->List (Int×Int)
 |_,[]=>[]
 |k,some p::r=>((k:Int),p)::HP (k+1) r
 |k,none::r=>HP (k+1) r
noncomputable def v8 (H:Hp):List V->List (Int×Int)->Prop
 | [],[]=>True
 | .ref a::as,x::xs=>H a=some (.tup [.int x.1,.int x.2])/\v8 H as xs
 |_,_=>False
theorem v8.same{H H':Hp}(s:dY H H'):∀{as:List V} {xs:List (Int×Int)},v8 H as xs->v8 H' as xs
 | [],[],h=>h
 | .ref a::as,x::xs,h=>⟨s _ _ h.1,v8.same s h.2⟩
 | [],_::_,h=>h.elim
 | .gT::_,_,h=>by cases h
 | .bl _::_,_,h=>by cases h
 | .int _::_,_,h=>by cases h
 | .str _::_,_,h=>by cases h
 | .byt _::_,_,h=>by cases h
 | .KU _::_,_,h=>by cases h
 | .ty _::_,_,h=>by cases h
 | .ref _::_,[],h=>h.elim
theorem v8.len{H:Hp}:∀{as:List V} {xs:List (Int×Int)},v8 H as xs->as.length=xs.length
 | [],[],_=>rfl
 | .ref a::as,x::xs,h=>by rw[af,af,v8.len h.2]
 | [],_::_,h=>h.elim
 | .gT::_,_,h=>by cases h
 | .bl _::_,_,h=>by cases h
 | .int _::_,_,h=>by cases h
 | .str _::_,_,h=>by cases h
 | .byt _::_,_,h=>by cases h
 | .KU _::_,_,h=>by cases h
 | .ty _::_,_,h=>by cases h
 | .ref _::_,[],h=>h.elim
theorem v8.snoc{H:Hp}{a:Addr}{x:Int×Int}(ha:H a=some (.tup [.int x.1,.int x.2])):∀{as:List V} {xs:List (Int×Int)},v8 H as xs->v8 H (as++[.ref a]) (xs++[x])
 | [],[],_=>⟨ha,au⟩
 | .ref b::as,y::ys,h=>⟨h.1,v8.snoc ha h.2⟩
 | [],_::_,h=>h.elim
 | .gT::_,_,h=>by cases h
 | .bl _::_,_,h=>by cases h
 | .int _::_,_,h=>by cases h
 | .str _::_,_,h=>by cases h
 | .byt _::_,_,h=>by cases h
 | .KU _::_,_,h=>by cases h
 | .ty _::_,_,h=>by cases h
 | .ref _::_,[],h=>h.elim
theorem AD{o:Option Int}:∀{os:List (Option Int)} {k:Nat},HP k (os++[o])=HP k os++(match o with|some p=>[(((k+os.length:Nat):Int),p)]|none=>[])
 | [],k=>by cases o<;>rfl
 |some p::r,k=>by
  rw[aJ]
  simp only[HP,AD,af,aJ]
  rw[show k+1+r.length=k+(r.length+1) by omega]
 |none::r,k=>by
  rw[aJ]
  simp only[HP,AD,af]
  rw[show k+1+r.length=k+(r.length+1) by omega]
theorem Gm:∀{os:List (Option Int)} {k:Nat},(HP k os).length<=os.length
 | [],_=>aF _
 |some _::r,k=>by simp only[HP,af];have:=Gm (os:=r) (k:=k+1);omega
 |none::r,k=>by simp only[HP,af];have:=Gm (os:=r) (k:=k+1);omega
theorem S7:¬(("waiting":Str)="spoken"):=by decide+kernel
noncomputable def Jd (d q:Addr):List (Str×V):=[("waiting",V.ref d),("spoken",V.ref q)]
section
variable{d q:Addr}{f:Str}
theorem DF:(Jd d q).lookup ("waiting":Str)=some (.ref d):=by simp[Jd,List.lookup]
theorem RF:(Jd d q).lookup ("spoken":Str)=some (.ref q):=by
 simp[Jd,List.lookup,show(("spoken":Str)=="waiting")=false by decide+kernel]
theorem F4(h1:(f==("waiting":Str))=false)(h2:(f==("spoken":Str))=false):(Jd d q).lookup f=none:=by simp[Jd,List.lookup,h1,h2]
theorem Mz:(Jd d q).lookup ("give":Str)=none:=F4 (by decide+kernel) (by decide+kernel)
theorem HB:(Jd d q).lookup ("pending":Str)=none:=F4 (by decide+kernel) (by decide+kernel)
theorem MA:(Jd d q).lookup ("move":Str)=none:=F4 (by decide+kernel) (by decide+kernel)
theorem DG:(Jd d q).lookup ("want_pending":Str)=none:=F4 (by decide+kernel) (by decide+kernel)
theorem P0:gD "spoken" (.ref q) (gD "waiting" (.ref d) [])=Jd d q:=by simp[gD,Jd,S7]
end
structure We where
 t:Int
 a:Addr
 p:Int
 n:Int
noncomputable def We.x (e:We):Int×Int×Int:=(e.t,e.p,e.n)
noncomputable def CH (es:List We):List (Key×V):=es.map λe=>(Sum.inl e.t,V.ref e.a)
theorem GY{es:List We}:(CH es).length=es.length:=ax ..
theorem Io:∀{es:List We},Dt (CH es)=some (es.map We.t)
 | []=>rfl
 |e::r=>by show(Dt (CH r)).map _=_;rw[Io];rfl
theorem GZ{k:Int}:∀{es:List We},qx (CH es) (Sum.inl k)=(es.find? λe=>decide (e.t=k)).map λe=>V.ref e.a
 | []=>rfl
 |e::r=>by
  by_cases h:e.t=k
  ·show qx ((Sum.inl e.t,V.ref e.a)::CH r) (Sum.inl k)=_
   rw[xT (by rw[h]),bj,decide_eq_true h];rfl
  ·show qx ((Sum.inl e.t,V.ref e.a)::CH r) (Sum.inl k)=_
   rw[xS (λz=>h (bR z)),GZ,bj,decide_eq_false h]
noncomputable def jv:Nat->List (Option (Int×Int))->List (Int×Int×Int)
 |_,[]=>[]
 |k,some x::r=>((k:Int),x.1,x.2)::jv (k+1) r
 |k,none::r=>jv (k+1) r
theorem yj:∀{ws:List (Option (Int×Int))} {k:Nat},∀x∈jv k ws,(k:Int)<=x.1
 | [],_,x,h=>by cases h
 |some y::r,k,x,h=>by
  rcases List.mem_cons.mp h with rfl|h
  ·exact br _
  ·have:=yj x h;omega
 |none::r,k,x,h=>by have:=yj (ws:=r) x h;omega
theorem GX:∀{ws:List (Option (Int×Int))} {k:Nat},((jv k ws).map (·.1)).Pairwise (·<=·)
 | [],_=> .nil
 |some y::r,k=>by
  refine List.pairwise_cons.mpr ⟨λz hz=> ?_,GX⟩
  obtain⟨x,hx,rfl⟩:=List.mem_map.mp hz
  have:=yj (ws:=r) x hx
  show(k:Int)<=x.1
  omega
 |none::r,k=>GX (ws:=r)
theorem D7:∀{ws:List (Option (Int×Int))} {k:Nat},(jv k ws).length<=ws.length
 | [],_=>aF _
 |some _::r,k=>by simp only[jv,af];have:=D7 (ws:=r) (k:=k+1);omega
 |none::r,k=>by simp only[jv,af];have:=D7 (ws:=r) (k:=k+1);omega
theorem BD{o:Option (Int×Int)}:∀{ws:List (Option (Int×Int))} {k:Nat},jv k (ws++[o])=jv k ws++(match o with|some x=>[(((k+ws.length:Nat):Int),x.1,x.2)]|none=>[])
 | [],k=>by cases o<;>rfl
 |some p::r,k=>by
  rw[aJ]
  simp only[jv,BD,af,aJ]
  rw[show k+1+r.length=k+(r.length+1) by omega]
 |none::r,k=>by
  rw[aJ]
  simp only[jv,BD,af]
  rw[show k+1+r.length=k+(r.length+1) by omega]
theorem BB:∀{ws:List (Option (Int×Int))} {k j:Nat},(jv k ws).find? (λx=>decide (x.1=((k+j:Nat):Int)))=(ws.getD j none).map λy=>(((k+j:Nat):Int),y.1,y.2)
 | [],k,j=>by cases j<;>rfl
 |some y::r,k,0=>by simp[jv]
 |none::r,k,0=>by
  show(jv (k+1) r).find? _=none
  rw[List.find?_eq_none]
  intro x hx
  have:=yj x hx
  simp;omega
 |some y::r,k,j+1=>by
  simp only[jv,bj]
  rw[decide_eq_false (by omega)]
  have:=BB (ws:=r) (k:=k+1) (j:=j)
  rw[show k+1+j=k+(j+1) by omega]at this
  exact this
 |none::r,k,j+1=>by
  have:=BB (ws:=r) (k:=k+1) (j:=j)
  rw[show k+1+j=k+(j+1) by omega]at this
  exact this
theorem BC:∀{ws:List (Option (Int×Int))} {k:Nat} {i:Int},i<k∨(k:Int)+ws.length<=i->(jv k ws).find? (λx=>decide (x.1=i))=none
 | [],k,i,_=>rfl
 |some y::r,k,i,h=>by
  simp only[jv,bj]
  rw[af]at h
  rw[decide_eq_false (by omega)]
  exact BC (by omega)
 |none::r,k,i,h=>by
  rw[af]at h
  exact BC (ws:=r) (k:=k+1) (by omega)
theorem D8:∀{ws:List (Option (Int×Int))} {k j:Nat} {y y':Int×Int},ws.getD j none=some y->jv k (ws.set j (some y'))=(jv k ws).map λx=>if x.1=((k+j:Nat):Int) then(((k+j:Nat):Int),y'.1,y'.2) else x
 | [],k,j,y,y',h=>by cases j<;>cases h
 |some z::r,k,0,y,y',h=>by
  show((k:Int),y'.1,y'.2)::jv (k+1) r=_
  simp only[jv,aq,Nat.add_zero,if_pos]
  congr 1
  have e:(jv (k+1) r).map (λx=>if x.1=(k:Int) then((k:Int),y'.1,y'.2) else x)=(jv (k+1) r).map id:=cj λx hx=>by
   have:=yj x hx
   rw[if_neg (by omega)];rfl
  rw[e,List.map_id]
 |none::r,k,0,y,y',h=>by cases h
 |some z::r,k,j+1,y,y',h=>by
  have:=D8 (ws:=r) (k:=k+1) (j:=j) (y':=y') h
  rw[show k+1+j=k+(j+1) by omega]at this
  show((k:Int),z.1,z.2)::jv (k+1) (r.set j (some y'))=_
  simp only[jv,aq]
  rw[if_neg (by omega),this]
 |none::r,k,j+1,y,y',h=>by
  have:=D8 (ws:=r) (k:=k+1) (j:=j) (y':=y') h
  rw[show k+1+j=k+(j+1) by omega]at this
  exact this
theorem GW:∀{ws:List (Option (Int×Int))} {k:Nat},((jv k ws).map (·.1)).Pairwise (·<·)
 | [],_=> .nil
 |some y::r,k=>by
  refine List.pairwise_cons.mpr ⟨λz hz=> ?_,GW⟩
  obtain⟨x,hx,rfl⟩:=List.mem_map.mp hz
  have:=yj (ws:=r) x hx
  show(k:Int)<x.1
  omega
 |none::r,k=>GW (ws:=r)
theorem E7{x:Int×Int×Int}:∀{l:List (Int×Int×Int)},(l.map (·.1)).Pairwise (·<·)->x∈l->l.find? (λz=>decide (z.1=x.1))=some x
 |y::r,h,hx=>by
  rcases List.mem_cons.mp hx with rfl|hx'
  ·rw[bj,decide_eq_true rfl]
  ·rw[aq,di]at h
   have:=h.1 x.1 (bL hx')
   rw[bj,decide_eq_false (by omega)]
   exact E7 h.2 hx'
theorem Ls{ws:List (Option (Int×Int))}{es:List We}(h:es.map We.x=jv 0 ws){e:We}(he:e∈es):(es.map We.x).find? (λx=>decide (x.1=e.t))=some e.x:=by
 refine E7 (x:=e.x) ?_ (bL he)
 rw[h];exact GW
noncomputable def pd (ws:List (Option (Int×Int))):V->Option (Int×Int)
 | .int i=>if 0<=i then ws.getD i.toNat none else none
 |_=>none
theorem Ki{ws:List (Option (Int×Int))}{i:Int}:(jv 0 ws).find? (λx=>decide (x.1=i))=(pd ws (.int i)).map λy=>(i,y.1,y.2):=by
 unfold pd
 dsimp only
 by_cases h:0<=i
 ·rw[if_pos h]
  have:=BB (ws:=ws) (k:=0) (j:=i.toNat)
  rw[show((0+i.toNat:Nat):Int)=i by omega]at this
  exact this
 ·rw[if_neg h]
  exact BC (.inl (by omega))
theorem FO{ws:List (Option (Int×Int))}{es:List We}{i:Int}(h:es.map We.x=jv 0 ws):(es.find? λe=>decide (e.t=i)).map (λe=>(e.p,e.n))=pd ws (.int i):=by
 have e:=congrArg (λl=>l.find? λx=>decide (x.1=i)) h
 rw[Ki,List.find?_map]at e
 have e2:=congrArg (Option.map λx:Int×Int×Int=>x.2) e
 rw[Option.map_map,Option.map_map]at e2
 have e3:(es.find? ((λx=>decide (x.1=i))∘We.x))=es.find? λe=>decide (e.t=i):=rfl
 rw[e3]at e2
 refine Eq.trans ?_ (e2.trans ?_)
 ·rfl
 ·cases pd ws (.int i)<;>rfl
theorem Kz{k:Int}:∀{es:List We},((CH es).any λkv=>decide (kv.1=(Sum.inl k:Key)))=es.any λe=>decide (e.t=k)
 | []=>rfl
 |e::r=>by
  show(decide ((Sum.inl e.t:Key)=Sum.inl k) ||(CH r).any _)=(decide (e.t=k) ||r.any _)
  rw[Kz]
  by_cases z:e.t=k
  ·rw[z];simp
  ·simp[z,show¬((Sum.inl e.t:Key)=Sum.inl k) from λy=>z (bR y)]
noncomputable def CC (es:List We) (x:We):List We:=if (es.any λe=>decide (e.t=x.t))=true then es.map λe=>if e.t=x.t then x else e else es++[x]
theorem KA{es:List We}{x:We}:putK (CH es) (Sum.inl x.t) (.ref x.a)=CH (CC es x):=by
 unfold putK CC
 rw[Kz]
 split
 ·unfold CH
  rw[aW,aW]
  refine cj λe _=> ?_
  show(if (Sum.inl e.t:Key)=Sum.inl x.t then(Sum.inl e.t,V.ref x.a) else(Sum.inl e.t,V.ref e.a))=((Sum.inl (if e.t=x.t then x else e).t:Key),V.ref (if e.t=x.t then x else e).a)
  by_cases z:e.t=x.t
  ·rw[if_pos z,if_pos (by rw[z]),z]
  ·rw[if_neg z,if_neg (λy=>z (bR y))]
 ·unfold CH
  rw[aV];rfl
structure jG(c:Addr)(H:Hp)(p d q:Addr)(ws:List (Option (Int×Int)))(sp:List Int)(es:List We):Prop where
 ob:∃dx,H p=some (.ins c dx (Jd d q))
 dc:H d=some (.dK (CH es))
 sq:H q=some (.lst (sp.map V.int))
 xs:es.map We.x=jv 0 ws
 tp:∀e∈es,H e.a=some (.tup [.int e.p,.int e.n])
 ln:es.length+sp.length=ws.length
noncomputable def Out (d q:Addr) (H H':Hp):Prop:=∀y o,y≠d->y≠q->H y=some o->H' y=some o
section
variable{c p d q:Addr}{H H':Hp}{ws ws':List (Option (Int×Int))}{sp sp':List Int}{es es':List We}
theorem jG.pd(m:jG c H p d q ws sp es):p≠d:=by
 obtain⟨dx,e⟩:=m.ob
 intro z;subst z;have:=m.dc;rw[e]at this;cases this
theorem jG.pq(m:jG c H p d q ws sp es):p≠q:=by
 obtain⟨dx,e⟩:=m.ob
 intro z;subst z;have:=m.sq;rw[e]at this;cases this
theorem jG.dq(m:jG c H p d q ws sp es):d≠q:=by
 intro z;subst z;have:=m.sq;rw[m.dc]at this;cases this
theorem jG.ta(m:jG c H p d q ws sp es){e:We}(h:e∈es):e.a≠d/\e.a≠q:=by
 have t:=m.tp e h
 exact⟨(λz=>by rw[z,m.dc]at t;cases t),(λz=>by rw[z,m.sq]at t;cases t)⟩
theorem jG.same(m:jG c H p d q ws sp es)(s:dY H H'):jG c H' p d q ws sp es:=
 ⟨let ⟨dx,e⟩:=m.ob;⟨dx,s _ _ e⟩,s _ _ m.dc,s _ _ m.sq,m.xs,λe h=>s _ _ (m.tp e h),m.ln⟩
theorem NO(m:jG c H p d q ws sp es):(es.map We.t).Pairwise (·<=·):=by
 have:es.map We.t=(es.map We.x).map (·.1):=by rw[aW];rfl
 rw[this,m.xs];exact GX
theorem jG.sorted(m:jG c H p d q ws sp es):kR (es.map We.t)=es.map We.t:=(Dy (List.Perm.refl _) (NO m)).symm
theorem jG.find(m:jG c H p d q ws sp es){i:Int}{y:Int×Int}(h:K20.pd ws (.int i)=some y):∃e∈es,e.t=i/\e.p=y.1/\e.n=y.2/\qx (CH es) (Sum.inl i)=some (.ref e.a):=by
 have f:=FO (i:=i) m.xs
 rw[h]at f
 obtain⟨e,he,hy⟩:=Option.map_eq_some_iff.mp f
 refine⟨e,List.mem_of_find?_eq_some he,by simpa using List.find?_some he,congrArg (·.1) hy,congrArg (·.2) hy,?_⟩
 rw[GZ,he];rfl
theorem jG.SQ(m:jG c H p d q ws sp es){i:Int}(h:K20.pd ws (.int i)=none):qx (CH es) (Sum.inl i)=none:=by
 have f:=FO (i:=i) m.xs
 rw[h]at f
 rw[GZ,Option.map_eq_none_iff.mp f];rfl
theorem jG.has(m:jG c H p d q ws sp es){i:Int}:(qx (CH es) (Sum.inl i)).isSome=(K20.pd ws (.int i)).isSome:=by
 cases h:K20.pd ws (.int i) with
 |none=>rw[m.SQ h];rfl
 |some y=>obtain⟨e,_,_,_,_,h⟩:=m.find h;rw[h];rfl
end
theorem RV{ws:List (Option (Int×Int))}{i:Int}{y:Int×Int}(h:pd ws (.int i)=some y):0<=i/\i<ws.length/\ws.getD i.toNat none=some y:=by
 unfold pd at h
 dsimp only at h
 by_cases z:0<=i
 ·rw[if_pos z]at h
  refine⟨z,?_,h⟩
  by_cases w:i<ws.length
  ·exact w
  ·rw[aL,cg (by omega)]at h;cases h
 ·rw[if_neg z]at h;cases h
theorem MH{ws:List (Option (Int×Int))}{v:V}(h:K4 v=false):pd ws v=none:=by cases v<;>first|rfl|cases h
inductive yU (H:Hp):List V->List (Int×Int×Int)->Prop
 |nil:yU H [] []
 |cons {a:Addr} {as:List V} {x:Int×Int×Int} {xs:List (Int×Int×Int)}:H a=some (.tup [.int x.1,.int x.2.1,.int x.2.2])->yU H as xs->yU H (.ref a::as) (x::xs)
theorem yU.same{H H':Hp}{as:List V}{xs:List (Int×Int×Int)}(s:dY H H')(h:yU H as xs):yU H' as xs:=by
 induction h with
 |nil=>exact .nil
 |cons e _ ih=>exact .cons (s _ _ e) ih
theorem yU.len{H:Hp}{as:List V}{xs:List (Int×Int×Int)}(h:yU H as xs):as.length=xs.length:=by
 induction h with
 |nil=>rfl
 |cons _ _ ih=>rw[af,af,ih]
theorem yU.snoc{H:Hp}{as:List V}{xs:List (Int×Int×Int)}{a:Addr}{x:Int×Int×Int}(h:yU H as xs)(ha:H a=some (.tup [.int x.1,.int x.2.1,.int x.2.2])):yU H (as++[.ref a]) (xs++[x]):=by
 induction h with
 |nil=>exact .cons ha .nil
 |cons e _ ih=>exact .cons e ih
theorem Ql{ws:List (Option (Int×Int))}:pd ws (.int ws.length)=none:=by
 unfold pd
 dsimp only
 rw[if_pos (by omega),aL,cg (by omega)]
 rfl
section
variable{c p d q:Addr}{H H':Hp}{ws ws':List (Option (Int×Int))}{sp sp':List Int}{es es':List We}{b:Addr}{x y:Int×Int}{i:Int}
theorem jG.RN(m:jG c H p d q ws sp es)(h:K20.pd ws (.int i)=none):(es.any λe=>decide (e.t=i))=false:=by
 have f:=FO (i:=i) m.xs
 rw[h]at f
 have f:=List.find?_eq_none.mp (Option.map_eq_none_iff.mp f)
 rw[b9]
 exact f
theorem jG.QR(m:jG c H p d q ws sp es)(h:K20.pd ws (.int i)=some y):(es.any λe=>decide (e.t=i))=true:=by
 obtain⟨e,he,ht,_⟩:=m.find h
 rw[cx]
 exact⟨e,he,by simpa using ht⟩
theorem jG.lay(m:jG c H p d q ws sp es)(hb:H b=none)(x':es'.map We.x=jv 0 ws')(l':es'.length+sp.length=ws'.length)(h:∀e∈es',e∈es∨e.a=b/\e.p=x.1/\e.n=x.2):
  jG c (upd (upd H b (.tup [.int x.1,.int x.2])) d (.dK (CH es'))) p d q ws' sp es'/\Out d q H (upd (upd H b (.tup [.int x.1,.int x.2])) d (.dK (CH es'))):=by
 have o:Out d q H (upd (upd H b (.tup [.int x.1,.int x.2])) d (.dK (CH es'))):=λz o h1 h2 e=>by rw[dO h1,dO (dD e hb)];exact e
 have nb:b≠d:=aj (dD m.dc hb)
 refine⟨⟨?_,dH,?_,x',λe he=> ?_,l'⟩,o⟩
 ·obtain⟨dx,e⟩:=m.ob
  exact⟨dx,o _ _ m.pd m.pq e⟩
 ·rw[dO (aj m.dq),dO (dD m.sq hb)];exact m.sq
 ·rcases h e he with h|⟨h1,h2,h3⟩
  ·exact o _ _ (m.ta h).1 (m.ta h).2 (m.tp e h)
  ·rw[h1,h2,h3,dO nb,dH]
theorem jG.give(m:jG c H p d q ws sp es)(hb:H b=none):
  jG c (upd (upd H b (.tup [.int x.1,.int x.2])) d (.dK (CH (CC es ⟨ws.length,b,x.1,x.2⟩)))) p d q (ws++[some x]) sp (CC es ⟨ws.length,b,x.1,x.2⟩)/\Out d q H (upd (upd H b (.tup [.int x.1,.int x.2])) d (.dK (CH (CC es ⟨ws.length,b,x.1,x.2⟩)))):=by
 have es':CC es ⟨ws.length,b,x.1,x.2⟩=es++[⟨ws.length,b,x.1,x.2⟩]:=by
  unfold CC
  rw[if_neg (by rw[m.RN Ql];intro z;cases z)]
 rw[es']
 refine m.lay hb ?_ ?_ λe he=> ?_
 ·rw[aV,m.xs,BD,Nat.zero_add];rfl
 ·have:=m.ln
  rw[aO,aO,c_,c_];omega
 ·rcases List.mem_append.mp he with h|h
  ·exact .inl h
  ·rw[List.mem_singleton.mp h];exact .inr ⟨rfl,rfl,rfl⟩
theorem jG.move(m:jG c H p d q ws sp es)(hb:H b=none)(hp:K20.pd ws (.int i)=some y):
  jG c (upd (upd H b (.tup [.int x.1,.int x.2])) d (.dK (CH (CC es ⟨i,b,x.1,x.2⟩)))) p d q (ws.set i.toNat (some x)) sp (CC es ⟨i,b,x.1,x.2⟩)/\Out d q H (upd (upd H b (.tup [.int x.1,.int x.2])) d (.dK (CH (CC es ⟨i,b,x.1,x.2⟩)))):=by
 obtain⟨h0,h1,h2⟩:=RV hp
 have es':CC es ⟨i,b,x.1,x.2⟩=es.map λe=>if e.t=i then⟨i,b,x.1,x.2⟩ else e:=by
  unfold CC
  rw[if_pos (m.QR hp)]
 rw[es']
 refine m.lay hb ?_ ?_ λe he=> ?_
 ·rw[D8 h2,←m.xs,aW,aW]
  refine cj λe _=> ?_
  show We.x (if e.t=i then⟨i,b,x.1,x.2⟩ else e)=if e.t=((0+i.toNat:Nat):Int) then(((0+i.toNat:Nat):Int),x.1,x.2) else We.x e
  rw[show((0+i.toNat:Nat):Int)=i by omega]
  by_cases z:e.t=i
  ·rw[if_pos z,if_pos z];rfl
  ·rw[if_neg z,if_neg z]
 ·rw[ax,aK];exact m.ln
 ·obtain⟨e',h,rfl⟩:=List.mem_map.mp he
  by_cases z:e'.t=i
  ·rw[if_pos z];exact .inr ⟨rfl,rfl,rfl⟩
  ·rw[if_neg z];exact .inl h
end
theorem N5{d:Addr}:(gD "waiting" (V.ref d) []).length<1000:=by simp[gD]
theorem P5:¬(("hands":Str)="book"):=by decide+kernel
theorem RJ:¬(("hands":Str)="weaks"):=by decide+kernel
theorem SV:¬(("hands":Str)="lasts"):=by decide+kernel
theorem RI:¬(("book":Str)="weaks"):=by decide+kernel
theorem SR:¬(("book":Str)="lasts"):=by decide+kernel
theorem S6:¬(("weaks":Str)="lasts"):=by decide+kernel
noncomputable def yp (h b w l:Addr):List (Str×V):=[("hands",V.ref h),("book",V.ref b),("weaks",V.ref w),("lasts",V.ref l)]
section
variable{h b w l:Addr}{f:Str}
theorem DQ:(yp h b w l).lookup ("hands":Str)=some (.ref h):=by simp[yp,List.lookup]
theorem zg:(yp h b w l).lookup ("book":Str)=some (.ref b):=by simp[yp,List.lookup,show(("book":Str)=="hands")=false by decide+kernel]
theorem Jp:(yp h b w l).lookup ("weaks":Str)=some (.ref w):=by simp[yp,List.lookup,show(("weaks":Str)=="hands")=false by decide+kernel,show(("weaks":Str)=="book")=false by decide+kernel]
theorem Jo:(yp h b w l).lookup ("lasts":Str)=some (.ref l):=by simp[yp,List.lookup,show(("lasts":Str)=="hands")=false by decide+kernel,show(("lasts":Str)=="book")=false by decide+kernel,show(("lasts":Str)=="weaks")=false by decide+kernel]
theorem OC(h1:(f==("hands":Str))=false)(h2:(f==("book":Str))=false)(h3:(f==("weaks":Str))=false)(h4:(f==("lasts":Str))=false):(yp h b w l).lookup f=none:=by
 simp[yp,List.lookup,h1,h2,h3,h4]
theorem HU:(yp h b w l).lookup ("starts":Str)=none:=OC (by decide+kernel) (by decide+kernel) (by decide+kernel) (by decide+kernel)
theorem OB:gD "lasts" (.ref l) (gD "weaks" (.ref w) (gD "book" (.ref b) (gD "hands" (.ref h) [])))=yp h b w l:=by simp[gD,yp,P5,RJ,SV,RI,SR,S6]
end
structure IB(cR cH cB:Addr)(H:Hp)(r h q b d:Addr)(ws ks:List Int):Prop where
 ob:∃dx w l,H r=some (.ins cR dx (yp h b w l))
 hd:A4 cH H h q ws
 bk:rz cB H b d ks
section
variable{cR cH cB r h q b d:Addr}{H H':Hp}{ws ks:List Int}
theorem IB.same(m:IB cR cH cB H r h q b d ws ks)(s:dY H H'):IB cR cH cB H' r h q b d ws ks:=
 ⟨let ⟨dx,w,l,e⟩:=m.ob;⟨dx,w,l,s _ _ e⟩,m.hd.same s,m.bk.same s⟩
end
noncomputable def G1 (ws:List Int):List Int:=(ws.filter jI).map (· /2)
structure WA where
 w:Addr
 wq:Addr
 l:Addr
 ld:Addr
 lq:Addr
structure A5(cR cW cL:Addr)(H:Hp)(r h b:Addr)(W:WA)(os:List (Option Int))(ts:List (Option (Int×Int)))(sd:List Int):Prop where
 ob:∃dx,H r=some (.ins cR dx (yp h b W.w W.l))
 wk:uQ cW H W.w W.wq os
 ls:∃es,jG cL H W.l W.ld W.lq ts sd es
 ne:W.wq≠W.lq
section
variable{cR cW cL r h b:Addr}{H H':Hp}{W:WA}{os:List (Option Int)}{ts:List (Option (Int×Int))}{sd:List Int}
theorem A5.same(m:A5 cR cW cL H r h b W os ts sd)(s:dY H H'):A5 cR cW cL H' r h b W os ts sd:=
 ⟨let ⟨dx,e⟩:=m.ob;⟨dx,s _ _ e⟩,m.wk.same s,let ⟨es,e⟩:=m.ls;⟨es,e.same s⟩,m.ne⟩
end
theorem ib{s t:TS}{D:Ends}{σ:St}{H:Hp}(P:St->Hp->Prop)(h1:∀R:St->Hp->Prop,(∀σ' H',P σ' H'->R σ' H')->s {D with nx:=R} σ H)(h2:∀σ' H',P σ' H'->t D σ' H'):gj s t D σ H:=h1 (t D) h2
theorem eF{s t:TS}{D:Ends}{σ:St}{H:Hp}(P:St->Hp->Prop)(h1:∀R:St->Hp->Prop,(∀σ' H',P σ' H'->R σ' H')->s {D with nx:=R} σ H)(h2:∀G:St->Hp->Prop,G=t D->∀σ' H',P σ' H'->G σ' H'):gj s t D σ H:=h1 (t D) (h2 (t D) rfl)
theorem S5:¬(("roots":Str)="areas"):=by decide+kernel
noncomputable def Ej (r a:Addr):List (Str×V):=[("roots",V.ref r),("areas",V.ref a)]
section
variable{r a:Addr}{f:Str}
theorem mX:(Ej r a).lookup ("roots":Str)=some (.ref r):=by simp[Ej,List.lookup]
theorem oC:(Ej r a).lookup ("areas":Str)=some (.ref a):=by simp[Ej,List.lookup,show(("areas":Str)=="roots")=false by decide+kernel]
theorem tP(h1:(f==("roots":Str))=false)(h2:(f==("areas":Str))=false):(Ej r a).lookup f=none:=by simp[Ej,List.lookup,h1,h2]
theorem PF:gD "areas" (.ref a) (gD "roots" (.ref r) [])=Ej r a:=by simp[gD,Ej,S5]
theorem Hm:(Ej r a).lookup ("make":Str)=none:=tP (by decide+kernel) (by decide+kernel)
theorem z_:(Ej r a).lookup ("held":Str)=none:=tP (by decide+kernel) (by decide+kernel)
theorem Hl:(Ej r a).lookup ("hold":Str)=none:=tP (by decide+kernel) (by decide+kernel)
theorem sQ:(Ej r a).lookup ("cell_of":Str)=none:=tP (by decide+kernel) (by decide+kernel)
theorem NQ:(Ej r a).lookup ("put":Str)=none:=tP (by decide+kernel) (by decide+kernel)
theorem FT:(Ej r a).lookup ("place_of":Str)=none:=tP (by decide+kernel) (by decide+kernel)
theorem Ml:(Ej r a).lookup ("note":Str)=none:=tP (by decide+kernel) (by decide+kernel)
theorem Ek:(Ej r a).lookup ("want_hand":Str)=none:=tP (by decide+kernel) (by decide+kernel)
theorem tQ:(Ej r a).lookup ("want_make":Str)=none:=tP (by decide+kernel) (by decide+kernel)
theorem uy:(Ej r a).lookup ("is_for_young":Str)=none:=tP (by decide+kernel) (by decide+kernel)
end
theorem Ku{b e t:Int}:(uN b e t).lookup ("extent":Str)=none:=Bw (by decide+kernel) (by decide+kernel) (by decide+kernel)
structure HA where
 p:Addr
 r:Addr
 a:Addr
 h:Addr
 qh:Addr
 b:Addr
 d:Addr
 m:Addr
 q:Addr
 o:Addr
 y:Addr
 s:Addr
structure HS where
 hw:List Int
 ks:List Int
 ws:List Int
 so:S3
 sy:S3
 ss:S3
structure i8(cP cR cH cB cA cM cS:Addr)(H:Hp)(X:HA)(S:HS):Prop where
 ob:∃dx,H X.p=some (.ins cP dx (Ej X.r X.a))
 rt:IB cR cH cB H X.r X.h X.qh X.b X.d S.hw S.ks
 ar:pe cA cM cS H X.a X.m X.q X.o X.y X.s S.ws S.so S.sy S.ss
 qq:X.qh≠X.q
 po:X.p≠X.o/\X.p≠X.y
 ro:X.r≠X.o/\X.r≠X.y
 ho:X.h≠X.o/\X.h≠X.y
 bo:X.b≠X.o/\X.b≠X.y
section
variable{cP cR cH cB cA cM cS:Addr}{H H':Hp}{X:HA}{S:HS}
theorem i8.same(g:i8 cP cR cH cB cA cM cS H X S)(s:dY H H'):i8 cP cR cH cB cA cM cS H' X S:=
 {g with ob:=let ⟨dx,e⟩:=g.ob;⟨dx,s _ _ e⟩,rt:=g.rt.same s,ar:=g.ar.same s}
theorem fD{a b c dx:Addr}{f:List (Str×V)}{xs:List V}{H:Hp}(h:H a=some (.ins c dx f))(k:H b=some (.lst xs)):a≠b:=λz=>by rw[z,k]at h;cases h
theorem iH{a b c dx:Addr}{f:List (Str×V)}{xs:List (Key×V)}{H:Hp}(h:H a=some (.ins c dx f))(k:H b=some (.dK xs)):a≠b:=λz=>by rw[z,k]at h;cases h
theorem mK{a b:Addr}{ys:List V}{xs:List (Key×V)}{H:Hp}(h:H a=some (.lst ys))(k:H b=some (.dK xs)):a≠b:=λz=>by rw[z,k]at h;cases h
theorem pe.keep{p m q o y s:Addr}{ws:List Int}{so sy ss:S3}(a:pe cA cM cS H p m q o y s ws so sy ss)(k:∀b x,H b=some x->b=p∨b=m∨b=q∨b=o∨b=y∨b=s->H' b=some x):pe cA cM cS H' p m q o y s ws so sy ss:=
 {a with
  ob:=let ⟨dx,e⟩:=a.ob;⟨dx,k _ _ e (.inl rfl)⟩
  mem:=a.mem.keep λb x e hb=>k b x e (by rcases hb with rfl|rfl;exact .inr (.inl rfl);exact .inr (.inr (.inl rfl)))
  old:=let ⟨dx,e⟩:=a.old;⟨dx,k _ _ e (.inr (.inr (.inr (.inl rfl))))⟩
  BH:=let ⟨dx,e⟩:=a.BH;⟨dx,k _ _ e (.inr (.inr (.inr (.inr (.inl rfl)))))⟩
  Np:=let ⟨dx,e⟩:=a.Np;⟨dx,k _ _ e (.inr (.inr (.inr (.inr (.inr rfl)))))⟩}
theorem pe.nl{p m q o y s:Addr}{ws:List Int}{so sy ss:S3}(a:pe cA cM cS H p m q o y s ws so sy ss){l:Addr}{xs:List V}(e:H l=some (.lst xs))(n:l≠q){b:Addr}(hb:b=p∨b=m∨b=q∨b=o∨b=y∨b=s):b≠l:=by
 obtain⟨d0,e0⟩:=a.ob
 obtain⟨d1,e1⟩:=a.mem.ob
 obtain⟨d2,e2⟩:=a.old
 obtain⟨d3,e3⟩:=a.BH
 obtain⟨d4,e4⟩:=a.Np
 rcases hb with rfl|rfl|rfl|rfl|rfl|rfl
 ·exact fD e0 e
 ·exact fD e1 e
 ·exact aj n
 ·exact fD e2 e
 ·exact fD e3 e
 ·exact fD e4 e
theorem pe.nd{p m q o y s:Addr}{ws:List Int}{so sy ss:S3}(a:pe cA cM cS H p m q o y s ws so sy ss){l:Addr}{xs:List (Key×V)}(e:H l=some (.dK xs)){b:Addr}(hb:b=p∨b=m∨b=q∨b=o∨b=y∨b=s):b≠l:=by
 obtain⟨d0,e0⟩:=a.ob
 obtain⟨d1,e1⟩:=a.mem.ob
 obtain⟨d2,e2⟩:=a.old
 obtain⟨d3,e3⟩:=a.BH
 obtain⟨d4,e4⟩:=a.Np
 rcases hb with rfl|rfl|rfl|rfl|rfl|rfl
 ·exact iH e0 e
 ·exact iH e1 e
 ·exact mK a.mem.ls e
 ·exact iH e2 e
 ·exact iH e3 e
 ·exact iH e4 e
theorem pe.N8{p m q o y s:Addr}{ws ws':List Int}{so sy ss:S3}(a:pe cA cM cS H p m q o y s ws so sy ss)(mem:gE cM H' m q ws')(k:∀b x,H b=some x->b≠q->H' b=some x):pe cA cM cS H' p m q o y s ws' so sy ss:=
 a.RO mem (let ⟨dx,e⟩:=a.old;⟨dx,k _ _ e (uP.ne ⟨dx,e⟩ a.mem.ls)⟩) (λb x eb nb _=>k b x eb nb)
theorem Kn.frame{c dx p:Addr}{f:List (Str×V)}{v:V}(h:Kn H v)(e:H p=some (.ins c dx f))(k:∀b o,H b=some o->b≠p->H' b=some o):Kn H' v:=by
 cases v with
 |ref a=>
  have ne:∀o,H a=some o->(∀c dx f,o≠ .ins c dx f)->a≠p:=λo ho n z=>by rw[z,e]at ho;exact n _ _ _ (aT ho).symm
  rcases h with ⟨xs,z⟩|⟨xs,z⟩|⟨xs,z⟩
  ·exact .inl ⟨xs,k _ _ z (ne _ z λ_ _ _ y=>by cases y)⟩
  ·exact .inr (.inl ⟨xs,k _ _ z (ne _ z λ_ _ _ y=>by cases y)⟩)
  ·exact .inr (.inr ⟨xs,k _ _ z (ne _ z λ_ _ _ y=>by cases y)⟩)
 |_=>exact h
theorem i8.OZ(g:i8 cP cR cH cB cA cM cS H X S){w:List Int}(e:H' X.qh=some (.lst (w.map V.int)))(k:∀b x,H b=some x->b≠X.qh->H' b=some x):i8 cP cR cH cB cA cM cS H' X {S with hw:=w}:=by
 obtain⟨d0,e0⟩:=g.ob
 obtain⟨d1,w1,l1,e1⟩:=g.rt.ob
 obtain⟨d2,e2⟩:=g.rt.hd.ob
 exact{g with
  ob:=⟨d0,k _ _ e0 (fD e0 g.rt.hd.ls)⟩
  rt:=⟨⟨d1,w1,l1,k _ _ e1 (fD e1 g.rt.hd.ls)⟩,⟨⟨d2,k _ _ e2 (fD e2 g.rt.hd.ls)⟩,e⟩,g.rt.bk.keep λb x eb hb=>k b x eb (by
   rcases hb with rfl|rfl
   ·obtain⟨d3,e3⟩:=g.rt.bk.ob;exact fD e3 g.rt.hd.ls
   ·exact aj (mK g.rt.hd.ls g.rt.bk.dc))⟩
  ar:=g.ar.keep λb x eb hb=>k b x eb (g.ar.nl g.rt.hd.ls g.qq hb)}
theorem i8.book(g:i8 cP cR cH cB cA cM cS H X S){w:List Int}(e:rz cB H' X.b X.d w)(k:∀b x,H b=some x->b≠X.d->H' b=some x):i8 cP cR cH cB cA cM cS H' X {S with ks:=w}:=by
 obtain⟨d0,e0⟩:=g.ob
 obtain⟨d1,w1,l1,e1⟩:=g.rt.ob
 exact{g with
  ob:=⟨d0,k _ _ e0 (iH e0 g.rt.bk.dc)⟩
  rt:=⟨⟨d1,w1,l1,k _ _ e1 (iH e1 g.rt.bk.dc)⟩,g.rt.hd.keep λb x eb hb=>k b x eb (by
   rcases hb with rfl|rfl
   ·obtain⟨d3,e3⟩:=g.rt.hd.ob;exact iH e3 g.rt.bk.dc
   ·exact mK g.rt.hd.ls g.rt.bk.dc),e⟩
  ar:=g.ar.keep λb x eb hb=>k b x eb (g.ar.nd g.rt.bk.dc hb)}
theorem i8.ET(g:i8 cP cR cH cB cA cM cS H X S){ws:List Int}{so sy:S3}(e:pe cA cM cS H' X.a X.m X.q X.o X.y X.s ws so sy S.ss)(k:∀b x,H b=some x->b≠X.q->b≠X.o->b≠X.y->H' b=some x):i8 cP cR cH cB cA cM cS H' X {S with ws:=ws,so:=so,sy:=sy}:=by
 obtain⟨d0,e0⟩:=g.ob
 obtain⟨d1,w1,l1,e1⟩:=g.rt.ob
 obtain⟨d2,e2⟩:=g.rt.hd.ob
 obtain⟨d3,e3⟩:=g.rt.bk.ob
 obtain⟨d4,e4⟩:=g.ar.old
 obtain⟨d5,e5⟩:=g.ar.BH
 exact{g with
  ob:=⟨d0,k _ _ e0 (fD e0 g.ar.mem.ls) g.po.1 g.po.2⟩
  rt:=⟨⟨d1,w1,l1,k _ _ e1 (fD e1 g.ar.mem.ls) g.ro.1 g.ro.2⟩,
   ⟨⟨d2,k _ _ e2 (fD e2 g.ar.mem.ls) g.ho.1 g.ho.2⟩,k _ _ g.rt.hd.ls g.qq (aj (fD e4 g.rt.hd.ls)) (aj (fD e5 g.rt.hd.ls))⟩,
   ⟨⟨d3,k _ _ e3 (fD e3 g.ar.mem.ls) g.bo.1 g.bo.2⟩,k _ _ g.rt.bk.dc (aj (mK g.ar.mem.ls g.rt.bk.dc)) (aj (iH e4 g.rt.bk.dc)) (aj (iH e5 g.rt.bk.dc))⟩⟩
  ar:=e}
end
structure So(X:HA)(W:WA):Prop where
 wq:W.wq≠X.q/\W.wq≠X.qh
 lq:W.lq≠X.q/\W.lq≠X.qh
 ld:W.ld≠X.d
 w:W.w≠X.o/\W.w≠X.y
 l:W.l≠X.o/\W.l≠X.y
theorem A5.heap{cP cR cH cB cA cM cS cW cL:Addr}{H H':Hp}{X:HA}{S:HS}{W:WA}{os:List (Option Int)}{ts:List (Option (Int×Int))}{sd:List Int}(m:A5 cR cW cL H X.r X.h X.b W os ts sd)(g:i8 cP cR cH cB cA cM cS H X S)(p:So X W)
  (k:∀b o,H b=some o->b≠X.q->b≠X.qh->b≠X.o->b≠X.y->b≠X.d->H' b=some o):A5 cR cW cL H' X.r X.h X.b W os ts sd:=by
 obtain⟨d4,e4⟩:=g.ar.old
 obtain⟨d5,e5⟩:=g.ar.BH
 obtain⟨d0,e0⟩:=m.ob
 obtain⟨d1,e1⟩:=m.wk.ob
 obtain⟨es,ml⟩:=m.ls
 obtain⟨d2,e2⟩:=ml.ob
 refine⟨⟨d0,k _ _ e0 (fD e0 g.ar.mem.ls) (fD e0 g.rt.hd.ls) g.ro.1 g.ro.2 (iH e0 g.rt.bk.dc)⟩,⟨⟨d1,k _ _ e1 (fD e1 g.ar.mem.ls) (fD e1 g.rt.hd.ls) p.w.1 p.w.2 (iH e1 g.rt.bk.dc)⟩,k _ _ m.wk.ls p.wq.1 p.wq.2 (aj (fD e4 m.wk.ls)) (aj (fD e5 m.wk.ls)) (mK m.wk.ls g.rt.bk.dc)⟩,
  ⟨es,⟨⟨d2,k _ _ e2 (fD e2 g.ar.mem.ls) (fD e2 g.rt.hd.ls) p.l.1 p.l.2 (iH e2 g.rt.bk.dc)⟩,k _ _ ml.dc (aj (mK g.ar.mem.ls ml.dc)) (aj (mK g.rt.hd.ls ml.dc)) (aj (iH e4 ml.dc)) (aj (iH e5 ml.dc)) p.ld,k _ _ ml.sq p.lq.1 p.lq.2 (aj (fD e4 ml.sq)) (aj (fD e5 ml.sq)) (mK ml.sq g.rt.bk.dc),ml.xs,λe he=> ?_,ml.ln⟩⟩,m.ne⟩
 have t:=ml.tp e he
 exact k _ _ t (λz=>by rw[z,g.ar.mem.ls]at t;cases t) (λz=>by rw[z,g.rt.hd.ls]at t;cases t) (λz=>by rw[z,e4]at t;cases t) (λz=>by rw[z,e5]at t;cases t) (λz=>by rw[z,g.rt.bk.dc]at t;cases t)
noncomputable def HS.w (S:HS) (i:Int):Int:=S.hw.getD i.toNat 0
noncomputable def HS.Ok (S:HS):Prop:=fv S.hw/\fv S.ws/\S.ws.length<=4000/\S.ks.length<1000/\∀w∈S.hw,jI w=true->w/2<S.ws.length/\∃n,eY S.ws (w/2).toNat=some n
noncomputable def HS.PN (S:HS) (w:Int):Bool:=jI w&&wi (.int (w/2)) S.sy.b (S.sy.t-1)
noncomputable def HS.put (S:HS) (i w:Int):HS:={S with ws:=S.ws.set i.toNat w,ks:=if wi (.int i) S.so.b (S.so.t-1)=true/\S.PN w=true then J5 S.ks i else Bp S.ks i}
noncomputable def HS.Ei (S:HS) (n:Int):Bool:=decide (n+1<=S.sy.e-S.sy.b)
noncomputable def HS.at (S:HS) (n:Int):Int:=if S.Ei n=true then S.sy.t else S.so.t
noncomputable def HS.fits (S:HS) (n:Int):Bool:=if S.Ei n=true then decide (n+1<=S.sy.e-S.sy.t) else decide (n+1<=S.so.e-S.so.t)
noncomputable def HS.made (S:HS) (i n:Int):HS:=if S.Ei n=true
 then{S with hw:=S.hw.set i.toNat (2*S.sy.t+1),ws:=gI S.ws S.sy.t.toNat n.toNat 0,sy:=⟨S.sy.b,S.sy.e,S.sy.t+(n+1)⟩}
 else{S with hw:=S.hw.set i.toNat (2*S.so.t+1),ws:=gI S.ws S.so.t.toNat n.toNat 2,so:=⟨S.so.b,S.so.e,S.so.t+(n+1)⟩}
theorem FW{S:HS}{i:Int}(h0:0<=i)(h1:i<=S.hw.length-1):S.w i∈S.hw:=by
 unfold HS.w
 rw[aL,aG (show i.toNat<S.hw.length by omega)]
 exact bf _
theorem Kk{w:Int}(h:(kd (.int w)).isSome=true):(jI w=true/\kd (.int w)=some (Str.ofString "place")/\w%2=1/\1<=w/\w<=19999)∨(jI w=false/\∃x,kd (.int w)=some x/\¬(x=Str.ofString "place")):=by
 obtain⟨x,hx⟩:=Option.isSome_iff_exists.mp h
 rcases Ae hx with ⟨rfl,c⟩|⟨rfl,c⟩|⟨rfl,c⟩
 ·exact .inr ⟨decide_eq_false (by omega),_,hx,P9⟩
 ·exact .inr ⟨decide_eq_false (by omega),_,hx,P7⟩
 ·exact .inl ⟨decide_eq_true (by omega),hx,c⟩
structure Rw where
 p:Int
 a:Addr
 r:List Int
noncomputable def apart (u v:Int×Int):Prop:=u.1+u.2<v.1∨v.1+v.2<u.1
noncomputable def spans (rs:List Rw):List (Int×Int):=rs.map λx=>(x.p,(x.r.length:Int))
noncomputable def tU (rs:List Rw):List Int:=rs.map Rw.p
noncomputable def fA (rs:List Rw):List (Key×V):=rs.map λx=>(Sum.inl (2*x.p+1),V.ref x.a)
noncomputable def Eg (ps:List Int) (w:Int):Prop:=(kd (.int w)).isSome=true/\(jI w=true->w/2∈ps)
noncomputable def Iu (ws:List Int) (x:Rw):Prop:=x.r.length<=8/\∃g,0<=g/\g<=2/\ws.getD x.p.toNat 0=2*(4*(x.r.length:Int)+g)/\∀j,j<x.r.length->ws.getD (x.p.toNat+1+j) 0=x.r.getD j 0
structure kO(rs:List Rw)(S:HS):Prop where
 b0:S.so.b=0
 b1:0<=S.so.t
 b2:S.so.t<=S.so.e
 b3:S.so.e=S.sy.b
 b4:S.sy.b<=S.sy.t
 b5:S.sy.t<=S.sy.e
 b6:S.sy.e<=S.ws.length
 b7:S.ws.length<=4000
 AX:fv S.ws
 A1:∀x∈rs,Iu S.ws x
 Ko:∀x∈rs,(0<=x.p/\x.p+x.r.length<S.so.t)∨(S.sy.b<=x.p/\x.p+x.r.length<S.sy.t)
 SJ:(spans rs).Pairwise apart
 Hn:∀w∈S.hw,Eg (tU rs) w
 QV:∀x∈rs,∀w∈x.r,Eg (tU rs) w
theorem Eg.neg{ps:List Int}:Eg ps (-1):=⟨by rw[oQ,if_pos rfl];rfl,λz=>by simp[jI]at z⟩
theorem Eg.num{ps:List Int}{n:Int}(h0: -1000000000000<=n)(h1:n<=1000000000000):Eg ps (2*n):=
 ⟨by rw[oQ,if_neg (by omega),if_pos (by omega)];rfl,λz=>by have:=of_decide_eq_true z;omega⟩
theorem Eg.pl{ps:List Int}{p:Int}(h:p∈ps)(h0:0<=p)(h1:p<=9999):Eg ps (2*p+1):=
 ⟨by rw[oQ,if_neg (by omega),if_neg (by omega),if_pos (by omega)];rfl,λ_=>by rw[show(2*p+1)/2=p by omega];exact h⟩
theorem Eg.mono{ps ps':List Int}{w:Int}(h:Eg ps w)(k:∀p∈ps,p∈ps'):Eg ps' w:=⟨h.1,λz=>k _ (h.2 z)⟩
theorem Kl{rs:List Rw}{p:Int}(h:p∈tU rs):∃x∈rs,x.p=p:=List.mem_map.mp h
section
variable{rs r1 r2:List Rw}{S:HS}{x:Rw}{n i:Int}{a:Addr}
theorem kO.bd(h:kO rs S)(hx:x∈rs):0<=x.p/\x.p+x.r.length<S.ws.length:=by
 have:=h.Ko x hx
 have:=h.b0;have:=h.b1;have:=h.b2;have:=h.b3;have:=h.b4;have:=h.b5;have:=h.b6
 omega
theorem kO.cell(h:kO rs S)(hx:x∈rs):∃n,eY S.ws x.p.toNat=some n/\n/4=x.r.length:=by
 obtain⟨l8,g,g0,g2,e,_⟩:=h.A1 x hx
 have:=h.bd hx
 refine⟨4*x.r.length+g,?_,by omega⟩
 rw[mS,e,if_pos (by omega)]
 congr 1;omega
theorem kO.Ok(h:kO rs S)(k:S.ks.length<1000):S.Ok:=by
 refine⟨λw hw=>(h.Hn w hw).1,h.AX,h.b7,k,λw hw c=> ?_⟩
 obtain⟨x,hx,e⟩:=Kl ((h.Hn w hw).2 c)
 obtain⟨n,hn,_⟩:=h.cell hx
 have:=h.bd hx
 rw[←e]
 exact⟨by omega,n,hn⟩
theorem Ny{u v:Int×Int}(h:apart u v):apart v u:=h.symm
theorem kO.away(h:kO (r1++x::r2) S){y:Rw}(hy:y∈r1∨y∈r2):apart (x.p,(x.r.length:Int)) (y.p,(y.r.length:Int)):=by
 have d:=h.SJ
 unfold spans at d
 rw[aV,aq,dg,di]at d
 rcases hy with hy|hy
 ·exact Ny (d.2.2 _ (bL hy) _ a_)
 ·exact d.2.1.1 _ (bL hy)
theorem jq{ws:List Int}{i j:Nat}{w:Int}(h:i≠j):(ws.set i w).getD j 0=ws.getD j 0:=by
 rw[aL,bh,if_neg h,←aL]
theorem sP{ws:List Int}{i:Nat}{w:Int}(h:i<ws.length):(ws.set i w).getD i 0=w:=by
 rw[aL,bh,if_pos rfl,if_pos h];rfl
theorem q8{x y:Rw}:y∈r1++x::r2↔y∈r1∨y=x∨y∈r2:=by simp
theorem kO.put(h:kO (r1++x::r2) S){j:Nat}(hj:j<x.r.length){w:Int}(hw:Eg (tU (r1++x::r2)) w):kO (r1++{x with r:=x.r.set j w}::r2) (S.put (x.p+1+j) w):=by
 have hx:x∈r1++x::r2:=q8.mpr (.inr (.inl rfl))
 have bx:=h.bd hx
 have ep:tU (r1++{x with r:=x.r.set j w}::r2)=tU (r1++x::r2):=by simp[tU]
 have es:spans (r1++{x with r:=x.r.set j w}::r2)=spans (r1++x::r2):=by simp[spans]
 have en:(x.p+1+(j:Int)).toNat=x.p.toNat+1+j:=by omega
 have el:(S.ws.set (x.p+1+(j:Int)).toNat w).length=S.ws.length:=aK ..
 refine⟨h.b0,h.b1,h.b2,h.b3,h.b4,h.b5,?_,?_,h.AX.set hw.1,λy hy=> ?_,λy hy=> ?_,by rw[es];exact h.SJ,λz hz=>by rw[ep];exact h.Hn z hz,λy hy z hz=> ?_⟩
 ·show S.sy.e<=(S.ws.set _ w).length;rw[el];exact h.b6
 ·show(S.ws.set _ w).length<=4000;rw[el];exact h.b7
 ·show Iu (S.ws.set _ w) y
  rw[en]
  rcases q8.mp hy with hy|rfl|hy
  ·obtain⟨l8,g,g0,g2,e,sl⟩:=h.A1 y (q8.mpr (.inl hy))
   have by':=h.bd (q8.mpr (.inl hy))
   have ap:=h.away (.inl hy)
   simp only[apart]at ap
   refine⟨l8,g,g0,g2,by rw[jq (by omega)];exact e,λt ht=>by rw[jq (by omega)];exact sl t ht⟩
  ·obtain⟨l8,g,g0,g2,e,sl⟩:=h.A1 x hx
   refine⟨by show(x.r.set j w).length<=8;rw[aK];exact l8,g,g0,g2,?_,λt ht=> ?_⟩
   ·show(S.ws.set _ w).getD x.p.toNat 0=2*(4*((x.r.set j w).length:Int)+g)
    rw[jq (by omega),aK];exact e
   ·show(S.ws.set _ w).getD (x.p.toNat+1+t) 0=(x.r.set j w).getD t 0
    have ht':t<x.r.length:=by have:t<(x.r.set j w).length:=ht;rw[aK]at this;exact this
    by_cases z:t=j
    ·subst z
     rw[sP (by omega),sP ht']
    ·rw[jq (by omega),jq (aj z)];exact sl t ht'
  ·obtain⟨l8,g,g0,g2,e,sl⟩:=h.A1 y (q8.mpr (.inr (.inr hy)))
   have by':=h.bd (q8.mpr (.inr (.inr hy)))
   have ap:=h.away (.inr hy)
   simp only[apart]at ap
   refine⟨l8,g,g0,g2,by rw[jq (by omega)];exact e,λt ht=>by rw[jq (by omega)];exact sl t ht⟩
 ·rcases q8.mp hy with hy|rfl|hy
  ·exact h.Ko y (q8.mpr (.inl hy))
  ·have:=h.Ko x hx
   show(0<=x.p/\x.p+((x.r.set j w).length:Int)<S.so.t)∨(S.sy.b<=x.p/\x.p+((x.r.set j w).length:Int)<S.sy.t)
   rw[aK];exact this
  ·exact h.Ko y (q8.mpr (.inr (.inr hy)))
 ·rw[ep]
  rcases q8.mp hy with hy|rfl|hy
  ·exact h.QV y (q8.mpr (.inl hy)) z hz
  ·rcases ck hz with q|rfl
   ·exact h.QV x hx z q
   ·exact hw
  ·exact h.QV y (q8.mpr (.inr (.inr hy))) z hz
theorem kO.lay(h:kO rs S){t g:Int}{n:Nat}{so sy:S3}(n8:n<=8)(g0:0<=g)(g2:g<=2)(t0:0<=t)(te:t+n<S.ws.length)(hb:so.b=S.so.b)(he:so.e=S.so.e)(yb:sy.b=S.sy.b)(ye:sy.e=S.sy.e)(hso:S.so.t<=so.t/\so.t<=so.e)(hsy:S.sy.t<=sy.t/\sy.t<=sy.e)
  (hr:(0<=t/\t+n<so.t)∨(sy.b<=t/\t+n<sy.t)) (ap:∀x∈rs,apart (x.p,(x.r.length:Int)) (t,(n:Int))):
  kO (rs++[⟨t,a,List.replicate n (-1)⟩]) {S with hw:=S.hw.set i.toNat (2*t+1),ws:=gI S.ws t.toNat n g,so:=so,sy:=sy}:=by
 have b0:=h.b0;have b1:=h.b1;have b2:=h.b2;have b3:=h.b3;have b4:=h.b4;have b5:=h.b5;have b6:=h.b6;have b7:=h.b7
 have sub:∀p∈tU rs,p∈tU (rs++[⟨t,a,List.replicate n (-1)⟩]):=λp hp=>by unfold tU at hp⊢;rw[aV];exact aX _ hp
 have new:t∈tU (rs++[⟨t,a,List.replicate n (-1)⟩]):=by simp[tU]
 refine⟨by show so.b=0;omega,by show 0<=so.t;omega,hso.2,by show so.e=sy.b;omega,by show sy.b<=sy.t;omega,hsy.2,?_,?_,h.AX.gI n8 g0 g2,λy hy=> ?_,λy hy=> ?_,?_,λz hz=> ?_,λy hy z hz=> ?_⟩
 ·show sy.e<=((gI S.ws t.toNat n g).length:Int);rw[iB];omega
 ·show(gI S.ws t.toNat n g).length<=4000;rw[iB];exact b7
 ·show Iu (gI S.ws t.toNat n g) y
  rcases List.mem_append.mp hy with hy|hy
  ·obtain⟨l8,g',g0',g2',e,sl⟩:=h.A1 y hy
   have by':=h.bd hy
   have ap':=ap y hy
   simp only[apart]at ap'
   exact⟨l8,g',g0',g2',by rw[qm (by omega)];exact e,λj hj=>by rw[qm (by omega)];exact sl j hj⟩
  ·rw[aU]at hy
   subst hy
   refine⟨by show(List.replicate n (-1)).length<=8;rw[bg];exact n8,g,g0,g2,?_,λj hj=> ?_⟩
   ·show(gI S.ws t.toNat n g).getD t.toNat 0=2*(4*((List.replicate n (-1)).length:Int)+g)
    rw[bg,Hz (by omega)]
   ·have hj':j<n:=by have:j<(List.replicate n (-1)).length:=hj;rw[bg]at this;exact this
    show(gI S.ws t.toNat n g).getD (t.toNat+1+j) 0=(List.replicate n (-1)).getD j 0
    rw[Jc (by omega) (by omega) (by omega),aL,cG,if_pos hj'];rfl
 ·rcases List.mem_append.mp hy with hy|hy
  ·have:=h.Ko y hy
   show(0<=y.p/\y.p+y.r.length<so.t)∨(sy.b<=y.p/\y.p+y.r.length<sy.t)
   omega
  ·rw[aU]at hy
   subst hy
   show(0<=t/\t+((List.replicate n (-1)).length:Int)<so.t)∨(sy.b<=t/\t+((List.replicate n (-1)).length:Int)<sy.t)
   rw[bg];exact hr
 ·unfold spans
  rw[aV,dg]
  refine⟨h.SJ,by simp,λu hu v hv=> ?_⟩
  obtain⟨y,hy,rfl⟩:=List.mem_map.mp hu
  simp only[aq,av,aU,bg]at hv
  subst hv
  exact ap y hy
 ·rcases ck hz with y|rfl
  ·exact(h.Hn z y).mono sub
  ·exact Eg.pl new t0 (by omega)
 ·rcases List.mem_append.mp hy with hy|hy
  ·exact(h.QV y hy z hz).mono sub
  ·rw[aU]at hy
   subst hy
   have:z= -1:=cb hz
   subst this
   exact Eg.neg
theorem kO.made(h:kO rs S)(n0:0<=n)(n8:n<=8)(hf:S.fits n=true):kO (rs++[⟨S.at n,a,List.replicate n.toNat (-1)⟩]) (S.made i n):=by
 have b0:=h.b0;have b1:=h.b1;have b2:=h.b2;have b3:=h.b3;have b4:=h.b4;have b5:=h.b5;have b6:=h.b6;have b7:=h.b7
 unfold HS.fits at hf
 unfold HS.made HS.at
 have en:((n.toNat:Nat):Int)=n:=bZ n0
 cases hY:S.Ei n with
 |true=>
  rw[hY,if_pos rfl,decide_eq_true_eq]at hf
  rw[if_pos rfl,if_pos rfl]
  exact h.lay (by omega) (by omega) (by omega) (by omega) (by omega) rfl rfl rfl rfl ⟨br _,b2⟩ ⟨by show S.sy.t<=S.sy.t+(n+1);omega,by show S.sy.t+(n+1)<=S.sy.e;omega⟩ (.inr ⟨b4,by show S.sy.t+((n.toNat:Nat):Int)<S.sy.t+(n+1);omega⟩) λy hy=>by
   have:=h.Ko y hy
   simp only[apart];omega
 |false=>
  rw[hY,if_neg (by intro z;cases z),decide_eq_true_eq]at hf
  rw[if_neg (by intro z;cases z),if_neg (by intro z;cases z)]
  exact h.lay (by omega) (by omega) (by omega) (by omega) (by omega) rfl rfl rfl rfl ⟨by show S.so.t<=S.so.t+(n+1);omega,by show S.so.t+(n+1)<=S.so.e;omega⟩ ⟨br _,b5⟩ (.inl ⟨b1,by show S.so.t+((n.toNat:Nat):Int)<S.so.t+(n+1);omega⟩) λy hy=>by
   have:=h.Ko y hy
   simp only[apart];omega
end
section
variable{cP cR cH cB cA cM cS:Addr}{H H':Hp}{X:HA}{S:HS}{L L1 L2:List (Addr×List Int)}{a:Addr}{xs ys:List Int}
theorem i8.O0(g:i8 cP cR cH cB cA cM cS H X S){l:Addr}{zs:List V}(e:H l=some (.lst zs))(n1:l≠X.qh)(n2:l≠X.q)(k:∀b o,H b=some o->b≠l->H' b=some o):i8 cP cR cH cB cA cM cS H' X S:=by
 obtain⟨d0,e0⟩:=g.ob
 obtain⟨d1,w1,l1,e1⟩:=g.rt.ob
 obtain⟨d2,e2⟩:=g.rt.hd.ob
 obtain⟨d3,e3⟩:=g.rt.bk.ob
 exact{g with
  ob:=⟨d0,k _ _ e0 (fD e0 e)⟩
  rt:=⟨⟨d1,w1,l1,k _ _ e1 (fD e1 e)⟩,⟨⟨d2,k _ _ e2 (fD e2 e)⟩,k _ _ g.rt.hd.ls (aj n1)⟩,⟨⟨d3,k _ _ e3 (fD e3 e)⟩,k _ _ g.rt.bk.dc (aj (mK e g.rt.bk.dc))⟩⟩
  ar:=g.ar.keep λb x eb hb=>k b x eb (g.ar.nl e n2 hb)}
end
noncomputable def mI (ws:List Int) (p:Int):Int:=match eY ws p.toNat with
 |some n=>n%4
 |none=>0
noncomputable def mY (ws:List Int) (p:Int):List Int:=match eY ws p.toNat with
 |some n=>kids ws p.toNat n
 |none=>[]
noncomputable def fR (ws:List Int) (p:Int):List Int:=match eY ws p.toNat with
 |some n=>(List.range (n/4).toNat).map λt:Nat=>p+1+(t:Int)
 |none=>[]
theorem gd{ws:List Int}:∀{sz:List Int} {a t:Int},walks ws a sz t->∀p∈fF a sz,a<=p/\0<=p/\p<ws.length/\∃n,eY ws p.toNat=some n/\p+n/4+1<=t
 | [],_,_,_,p,hp=>by cases hp
 |s::r,a,t,h,p,hp=>by
  obtain⟨⟨h0,h1,n,hc,hn⟩,h2⟩:=h
  rcases List.mem_cons.mp hp with rfl|hp
  ·have:=pU h2
   exact⟨br _,h0,h1,n,hc,by omega⟩
  ·obtain⟨i,j,k,l⟩:=gd h2 p hp
   have:=lR hc hn
   exact⟨by omega,j,k,l⟩
theorem xU{ws:List Int}:∀{sz:List Int} {a t p q n:Int},walks ws a sz t->p∈fF a sz->q∈fF a sz->eY ws p.toNat=some n->p<q->p+n/4+1<=q
 | [],_,_,_,_,_,_,hp,_,_,_=>by cases hp
 |s::r,a,t,p,q,n,h,hp,hq,hc,lt=>by
  obtain⟨⟨h0,h1,n',hc',hn⟩,h2⟩:=h
  rcases List.mem_cons.mp hp with rfl|hp'
  ·rcases List.mem_cons.mp hq with rfl|hq
   ·omega
   ·have:=(gd h2 q hq).1
    rw[hc]at hc'
    cases hc'
    omega
  ·rcases List.mem_cons.mp hq with rfl|hq
   ·have:=(gd h2 p hp').1
    have:=lR hc' hn
    omega
   ·exact xU h2 hp' hq hc lt
theorem uJ{ws:List Int}:∀{dn:List Int} {a t s:Int} {rr:List Int},walks ws a (dn++s::rr) t->a+dn.sum<t
 | [],a,t,s,rr,h=>by
  obtain⟨⟨_,_,n,hc,hn⟩,h2⟩:=h
  have:=pU h2
  have:=lR hc hn
  simp;omega
 |d::dn,a,t,s,rr,h=>by
  have:=uJ h.2
  rw[bO];omega
theorem qy{ws ws':List Int}(hl:ws'.length=ws.length):∀{sz:List Int} {a t:Int},(∀p∈fF a sz,∀n,eY ws p.toNat=some n->∃n',eY ws' p.toNat=some n'/\n'/4=n/4)->walks ws a sz t->walks ws' a sz t
 | [],a,t,_,h=>h
 |s::r,a,t,hs,h=>by
  obtain⟨⟨h0,h1,n,hc,hn⟩,h2⟩:=h
  obtain⟨n',hc',e⟩:=hs a a_ n hc
  exact⟨⟨h0,by rw[hl];exact h1,n',hc',by omega⟩,qy hl (λp hp=>hs p (aZ _ hp)) h2⟩
structure Fz(S:HS)(szo szy:List Int):Prop where
 b0:S.so.b=0
 b1:0<=S.so.t
 b2:S.so.t<=S.so.e
 b3:S.so.e=S.sy.b
 b4:S.sy.b<=S.sy.t
 b5:S.sy.t<=S.sy.e
 b6:S.sy.e<S.ws.length
 b7:S.ws.length<=4000
 b8:S.so.e<=100/\S.sy.e<=200
 AX:fv S.ws
 Hn:fv S.hw
 hl:S.hw.length<=6
 kl:S.ks.length<64
 nd:S.ks.Nodup
 wo:walks S.ws 0 szo S.so.t
 wy:walks S.ws S.sy.b szy S.sy.t
theorem Fz.lo{S:HS}{szo szy:List Int}(z:Fz S szo szy):szo.length<=100:=by
 have:=pU z.wo;have:=z.b8;have:=z.b2;omega
theorem Fz.ly{S:HS}{szo szy:List Int}(z:Fz S szo szy):szy.length<=200:=by
 have:=pU z.wy;have:=z.b8;have:=z.b0;have:=z.b1;have:=z.b2;have:=z.b3;have:=z.b4;have:=z.b5;omega
theorem Km{ws:List Int}:(G1 ws).length<=ws.length:=by
 unfold G1;rw[ax];exact bC _ _
theorem Bh{ws:List Int}{p:Int}:(mY ws p).length<=8:=by
 unfold mY
 split
 ·rename_i n h
  obtain⟨_,h0,h1,_⟩:=fP h
  unfold kids
  rw[ax]
  refine aA (bC _ _) (aA (List.length_take_le _ _) ?_)
  omega
 ·simp
theorem zt{ws:List Int}{p:Int}:(fR ws p).length<=8:=by
 unfold fR
 split
 ·rename_i n h
  obtain⟨_,h0,h1,_⟩:=fP h
  rw[ax,c8]
  omega
 ·simp
theorem wL{f:Int->List Int}(h:∀p,(f p).length<=8):∀l:List Int,(l.flatMap f).length<=8*l.length
 | []=>by simp
 |a::r=>by
  have:=wL h r
  have:=h a
  rw[cf,aO,af];omega
theorem E_{f:Int->List Int}{l:List Int}{i:Nat}(hi:i<l.length):(l.take (i+1)).flatMap f=(l.take i).flatMap f++f l[i]:=by
 rw[List.take_succ_eq_append_getElem hi,List.flatMap_append];simp
noncomputable def names (os:List (Option Int)):List Int:=(HP 0 os).map (·.2)
noncomputable def AW (ts:List (Option (Int×Int))):List Int:=(jv 0 ts).map λx=>x.2.1
noncomputable def fK (S:HS) (szo szy:List Int):List Int:=fF 0 szo++fF S.sy.b szy
noncomputable def told (S:HS) (szo szy os ts:List Int):List Int:=G1 S.hw++(fK S szo szy).flatMap (mY S.ws)++os++ts
noncomputable def nP (S:HS) (szo szy os ts:List Int):Bool:=(told S szo szy os ts).any λx=> !decide (x∈fK S szo szy)
noncomputable def PM (S:HS) (szy:List Int) (z:Int):Bool:=jI (S.ws.getD z.toNat 0)&&decide (S.ws.getD z.toNat 0/2∈fF S.sy.b szy)
noncomputable def su (S:HS) (szo szy:List Int):List Int:=((fF 0 szo).flatMap (fR S.ws)).filter (PM S szy)
noncomputable def G3 (S:HS) (szo szy:List Int):Bool:=((fF 0 szo).any λp=> !decide (mI S.ws p=2)) ||(fF S.sy.b szy).any λp=>decide (mI S.ws p=2)
noncomputable def tq (S:HS):Bool:=decide (S.so.e-S.so.b<S.so.t-S.so.b+(S.sy.t-S.sy.b))
noncomputable def BW (S:HS) (szo szy:List Int):Bool:= !decide (kR S.ks=su S szo szy)
noncomputable def BY (a b c d:Bool):List String:=(if a then ["stray"] else [])++(if b then ["book"] else [])++(if c then ["room"] else [])++(if d then ["age"] else [])
noncomputable def KC (ws:List Int) (b t:Int):Prop:=∃sz a,walks ws b sz a/\sz.length<=5000/\(∀dn s rr,sz=dn++s::rr->b+dn.sum<t)/\(t<a∨(0<=a/\a<t/\t<=ws.length/\eY ws a.toNat=none))
theorem JF{ks:List Int}{z:Int}:(qx (zK ks) (Sum.inl z)).isSome=decide (z∈ks):=by
 rw[CK]
 by_cases h:z∈ks
 ·rw[if_pos h,decide_eq_true h];rfl
 ·rw[if_neg h,decide_eq_false h];rfl
theorem Am{ks:List Int}{k z:Int}:z∈J5 ks k↔z∈ks∨z=k:=by
 unfold J5
 by_cases h:k∈ks
 ·rw[if_pos h]
  exact⟨.inl,λh'=>h'.elim id λe=>e▸h⟩
 ·rw[if_neg h,bD,aU]
theorem An{ks:List Int}{k z:Int}:z∈Bp ks k↔z∈ks/\z≠k:=by
 unfold Bp
 rw[cJ,decide_eq_true_eq]
theorem ME{ks:List Int}{k:Int}(h:ks.Nodup):(J5 ks k).Nodup:=by
 unfold J5
 by_cases c:k∈ks
 ·rw[if_pos c];exact h
 ·rw[if_neg c,List.nodup_append]
  exact⟨h,by simp,λa ha b hb z=>by rw[aU]at hb;subst hb;subst z;exact c ha⟩
theorem C0{ks:List Int}{k:Int}(h:ks.Nodup):(Bp ks k).Nodup:=h.filter _
theorem Fz.A1{S:HS}{szo szy:List Int}(z:Fz S szo szy){p:Int}(hp:p∈fK S szo szy):0<=p/\p<S.ws.length/\∃n,eY S.ws p.toNat=some n:=by
 rcases List.mem_append.mp hp with hp|hp
 ·obtain⟨_,h0,h1,n,hc,_⟩:=gd z.wo p hp;exact⟨h0,h1,n,hc⟩
 ·obtain⟨_,h0,h1,n,hc,_⟩:=gd z.wy p hp;exact⟨h0,h1,n,hc⟩
theorem Fz.cl{S:HS}{szo szy:List Int}(z:Fz S szo szy):(fK S szo szy).length<=300:=by
 have:=z.lo;have:=z.ly;unfold fK;rw[aO,ju,ju];omega
theorem gX{ws:List Int}{p z:Int}:z∈fR ws p↔∃n,eY ws p.toNat=some n/\p+1<=z/\z<=p+n/4:=by
 unfold fR
 cases h:eY ws p.toNat with
 |none=>simp
 |some n=>
  obtain⟨_,h0,h1,_⟩:=fP h
  simp only[cK,cO,ah,exists_eq_left']
  constructor
  ·rintro⟨t,ht,rfl⟩;omega
  ·rintro⟨h2,h3⟩;exact⟨(z-p-1).toNat,by omega,by omega⟩
theorem N9{ws:List Int}{z:Int}:z∈G1 ws↔∃w∈ws,jI w=true/\w/2=z:=by
 unfold G1;simp only[cK,cJ,and_assoc]
theorem yd{ws:List Int}{p z:Int}(h0:0<=p):z∈mY ws p↔∃q∈fR ws p,jI (ws.getD q.toNat 0)=true/\ws.getD q.toNat 0/2=z:=by
 unfold mY
 cases h:eY ws p.toNat with
 |none=>simp[fR,h]
 |some n=>
  obtain⟨_,c0,c1,_,c5⟩:=fP h
  have e:∀w,w∈(ws.drop (p.toNat+1)).take (n/4).toNat↔∃q∈fR ws p,ws.getD q.toNat 0=w:=λw=>by
   constructor
   ·intro hw
    obtain⟨k,hk,e⟩:=List.mem_iff_getElem.mp hw
    rw[bp,cI]at hk
    rw[List.getElem_take,List.getElem_drop]at e
    refine⟨p+1+(k:Int),gX.mpr ⟨n,h,by omega,by omega⟩,?_⟩
    rw[show(p+1+(k:Int)).toNat=p.toNat+1+k by omega,aL,aG (by omega)]
    exact e
   ·rintro⟨q,hq,rfl⟩
    obtain⟨n',hn',q0,q1⟩:=gX.mp hq
    rw[h]at hn'
    cases hn'
    rw[List.mem_iff_getElem]
    refine⟨(q-p-1).toNat,by rw[bp,cI];omega,?_⟩
    rw[List.getElem_take,List.getElem_drop,aL,aG (show q.toNat<ws.length by omega)]
    show ws[p.toNat+1+(q-p-1).toNat]'_=ws[q.toNat]'_
    congr 1;omega
  show z∈kids ws p.toNat n↔_
  unfold kids
  simp only[cK,cJ,e]
  constructor
  ·rintro⟨w,⟨⟨q,hq,rfl⟩,hp⟩,rfl⟩;exact⟨q,hq,hp,rfl⟩
  ·rintro⟨q,hq,hp,rfl⟩;exact⟨_,⟨⟨q,hq,rfl⟩,hp⟩,rfl⟩
theorem J0{ws:List Int}:∀{sz:List Int} {a t:Int},walks ws a sz t->((fF a sz).flatMap (fR ws)).Pairwise (·<·)/\∀z∈(fF a sz).flatMap (fR ws),a<z/\z<t
 | [],_,_,_=>⟨cZ,λz hz=>by cases hz⟩
 |s::r,a,t,h=>by
  obtain⟨⟨h0,h1,n,hc,hn⟩,h2⟩:=h
  obtain⟨i1,i2⟩:=J0 h2
  have hs:=lR hc hn
  have hl:=pU h2
  have m:∀z∈fR ws a,a+1<=z/\z<=a+n/4:=λz hz=>by
   obtain⟨n',hn',q⟩:=gX.mp hz
   rw[hc]at hn';cases hn';exact q
  show((a::fF (a+s) r).flatMap (fR ws)).Pairwise (·<·)/\∀z∈(a::fF (a+s) r).flatMap (fR ws),a<z/\z<t
  rw[cf]
  refine⟨?_,λz hz=> ?_⟩
  ·rw[dg]
   refine⟨?_,i1,λx hx y hy=> ?_⟩
   ·unfold fR
    rw[hc]
    rw[List.pairwise_map]
    exact List.pairwise_lt_range.imp λh=>by omega
   ·have:=m x hx;have:=i2 y hy;omega
  ·rcases List.mem_append.mp hz with hz|hz
   ·have:=m z hz;omega
   ·have:=i2 z hz;omega
theorem Hj{ws:List Int}:∀{sz:List Int} {a t:Int},walks ws a sz t->(((fF a sz).flatMap (fR ws)).length:Int)+sz.length=t-a/\t-a<=9*sz.length
 | [],a,t,h=>by have:a=t:=h;subst this;simp[fF]
 |s::r,a,t,h=>by
  obtain⟨⟨h0,h1,n,hc,hn⟩,h2⟩:=h
  obtain⟨i1,i2⟩:=Hj h2
  have hs:=lR hc hn
  show(((a::fF (a+s) r).flatMap (fR ws)).length:Int)+(s::r).length=t-a/\t-a<=9*(s::r).length
  have e:(fR ws a).length=(n/4).toNat:=by unfold fR;rw[hc];simp
  rw[cf,aO,af,e]
  omega
theorem yf{S:HS}{szo szy:List Int}{z:Int}:z∈su S szo szy↔(∃p∈fF 0 szo,z∈fR S.ws p)/\jI (S.ws.getD z.toNat 0)=true/\S.ws.getD z.toNat 0/2∈fF S.sy.b szy:=by
 unfold su PM
 simp only[cJ,List.mem_flatMap,aI,decide_eq_true_eq]
theorem Ky{S:HS}{szo szy:List Int}(h:walks S.ws 0 szo S.so.t):(su S szo szy).Pairwise (·<·):=(J0 h).1.filter _
theorem O5{l:List Int}(h:l.Pairwise (·<·)):l.Nodup:=h.imp λh=>by omega
theorem ug{S:HS}{szo szy:List Int}(h:walks S.ws 0 szo S.so.t)(nd:S.ks.Nodup):BW S szo szy=false↔∀z,z∈S.ks↔z∈su S szo szy:=by
 have hw:=Ky (szy:=szy) h
 unfold BW
 rw[Bool.not_eq_false',decide_eq_true_eq]
 constructor
 ·intro e z
  rw[←e]
  exact((y_ S.ks).mem_iff).symm
 ·intro e
  exact(Dy ((List.perm_ext_iff_of_nodup (O5 hw) nd).mpr λz=>(e z).symm) (hw.imp λh=>Int.le_of_lt h)).symm
theorem LU{S:HS}{szo szy:List Int}(h:walks S.ws 0 szo S.so.t)(nd:S.ks.Nodup)(h69:S.so.t<=69)(e:∀z,z∈S.ks↔z∈su S szo szy):S.ks.length<=61:=by
 have p:=(List.perm_ext_iff_of_nodup nd (O5 (Ky (szy:=szy) h))).mpr e
 have:=p.length_eq
 have l:=bC (PM S szy) ((fF 0 szo).flatMap (fR S.ws))
 have f:=Hj h
 unfold su at this
 omega
theorem pS{S:HS}{szo szy os ts:List Int}:nP S szo szy os ts=false↔(∀w∈S.hw,jI w=true->w/2∈fK S szo szy)/\(∀p∈fK S szo szy,∀x∈mY S.ws p,x∈fK S szo szy)/\(∀x∈os,x∈fK S szo szy)/\∀x∈ts,x∈fK S szo szy:=by
 unfold nP told
 rw[b9]
 simp only[bD,List.mem_flatMap,N9,aM,decide_eq_false_iff_not,Decidable.not_not]
 constructor
 ·intro h
  exact⟨λw hw c=>h _ (.inl (.inl (.inl ⟨w,hw,c,rfl⟩))),λp hp x hx=>h _ (.inl (.inl (.inr ⟨p,hp,hx⟩))),λx hx=>h _ (.inl (.inr hx)),λx hx=>h _ (.inr hx)⟩
 ·rintro⟨h1,h2,h3,h4⟩ x (((⟨w,hw,c,rfl⟩|⟨p,hp,hx⟩)|hx)|hx)
  ·exact h1 w hw c
  ·exact h2 p hp x hx
  ·exact h3 x hx
  ·exact h4 x hx
structure Pd(S:HS)(szo szy:List Int)(nm tk:Int)(fs fb fa:Bool):Prop where
 z:Fz S szo szy
 MG:S.so.e<=69
 kl:S.ks.length<=62
 hl:S.hw.length=3
 sh:∀p∈fK S szo szy,∀q∈fR S.ws p,hd (S.ws.getD q.toNat 0)=none
 st:nP S szo szy [nm] [tk]=fs
 bk:BW S szo szy=fb
 ag:G3 S szo szy=fa
theorem NP{l:List Int}{f g:Int->List Int}(h:∀x∈l,f x=g x):l.flatMap f=l.flatMap g:=by
 induction l with
 |nil=>rfl
 |cons a r ih=>rw[cf,cf,h a a_,ih λx hx=>h x (aZ _ hx)]
theorem LO{l:List Int}{f g:Int->Bool}(h:∀x∈l,f x=g x):l.any f=l.any g:=by
 induction l with
 |nil=>rfl
 |cons a r ih=>rw[bt,bt,h a a_,ih λx hx=>h x (aZ _ hx)]
section
variable{S:HS}{szo szy:List Int}{nm tk:Int}{fs fb fa:Bool}{p q w:Int}
theorem Fz.Ko(z:Fz S szo szy)(hp:p∈fK S szo szy){n:Int}(hn:eY S.ws p.toNat=some n):(p∈fF 0 szo/\0<=p/\p+n/4<S.so.t)∨(p∈fF S.sy.b szy/\S.sy.b<=p/\p+n/4<S.sy.t):=by
 rcases List.mem_append.mp hp with hp|hp
 ·obtain⟨_,h0,_,n',hn',h⟩:=gd z.wo p hp
  rw[hn]at hn';cases hn'
  exact .inl ⟨hp,h0,by omega⟩
 ·obtain⟨h,h0,_,n',hn',h'⟩:=gd z.wy p hp
  rw[hn]at hn';cases hn'
  exact .inr ⟨hp,h,by omega⟩
theorem Fz.apart(z:Fz S szo szy)(hp:p∈fK S szo szy)(hq:q∈fK S szo szy){n:Int}(hn:eY S.ws p.toNat=some n)(lt:p<q):p+n/4+1<=q:=by
 obtain⟨_,_,m,hm⟩:=z.A1 hq
 have b0:=z.b0;have b2:=z.b2;have b3:=z.b3
 obtain⟨_,c0,_⟩:=fP hn
 obtain⟨_,c1,_⟩:=fP hm
 rcases z.Ko hp hn with ⟨h1,h2,h3⟩|⟨h1,h2,h3⟩
 ·rcases z.Ko hq hm with ⟨k1,k2,k3⟩|⟨k1,k2,k3⟩
  ·exact xU z.wo h1 k1 hn lt
  ·omega
 ·rcases z.Ko hq hm with ⟨k1,k2,k3⟩|⟨k1,k2,k3⟩
  ·omega
  ·exact xU z.wy h1 k1 hn lt
theorem Fz.slot(z:Fz S szo szy)(hp:p∈fK S szo szy){x:Int}(hx:x∈fR S.ws p):x∉fK S szo szy/\0<x/\x<S.ws.length/\x∉fF S.sy.b szy:=by
 obtain⟨n,hn,x0,x1⟩:=gX.mp hx
 obtain⟨p0,p1,_⟩:=z.A1 hp
 obtain⟨_,c0,_,_,c5⟩:=fP hn
 have:x∉fK S szo szy:=λh=>by have:=z.apart hp h hn (by omega);omega
 exact⟨this,by omega,by omega,λh=>this (aY _ h)⟩
structure Lz(S S':HS)(szo szy:List Int):Prop where
 l:S'.ws.length=S.ws.length
 so:S'.so=S.so
 sy:S'.sy=S.sy
 c:∀p∈fK S szo szy,∀n,eY S.ws p.toNat=some n->∃n',eY S'.ws p.toNat=some n'/\n'/4=n/4
theorem Lz.fK{S':HS}(h:Lz S S' szo szy):fK S' szo szy=fK S szo szy:=by unfold K20.fK;rw[h.sy]
theorem Lz.slots{S':HS}(h:Lz S S' szo szy)(z:Fz S szo szy)(hp:p∈K20.fK S szo szy):fR S'.ws p=fR S.ws p:=by
 obtain⟨_,_,n,hn⟩:=z.A1 hp
 obtain⟨n',hn',e⟩:=h.c p hp n hn
 unfold fR;rw[hn,hn'];dsimp only;rw[e]
theorem Lz.fz{S':HS}(h:Lz S S' szo szy)(z:Fz S szo szy)(AX:fv S'.ws)(Hn:fv S'.hw)(hl:S'.hw.length<=6)(kl:S'.ks.length<64)(nd:S'.ks.Nodup):Fz S' szo szy where
 b0:=by rw[h.so];exact z.b0
 b1:=by rw[h.so];exact z.b1
 b2:=by rw[h.so];exact z.b2
 b3:=by rw[h.so,h.sy];exact z.b3
 b4:=by rw[h.sy];exact z.b4
 b5:=by rw[h.sy];exact z.b5
 b6:=by rw[h.sy,h.l];exact z.b6
 b7:=by rw[h.l];exact z.b7
 b8:=by rw[h.so,h.sy];exact z.b8
 AX:=AX
 Hn:=Hn
 hl:=hl
 kl:=kl
 nd:=nd
 wo:=by rw[h.so];exact qy h.l (λp hp=>h.c p (aX _ hp)) z.wo
 wy:=by rw[h.sy];exact qy h.l (λp hp=>h.c p (aY _ hp)) z.wy
theorem Lz.refl{S':HS}(hw:S'.ws=S.ws)(h1:S'.so=S.so)(h2:S'.sy=S.sy):Lz S S' szo szy:=⟨by rw[hw],h1,h2,λp _ n hn=>⟨n,by rw[hw];exact hn,rfl⟩⟩
theorem Fd{ws:List Int}{i j:Nat}{w:Int}(h:i≠j):(ws.set i w).getD j 0=ws.getD j 0:=by
 rw[aL,bh,if_neg h,←aL]
theorem Hk{ws:List Int}{i:Nat}{w:Int}(h:i<ws.length):(ws.set i w).getD i 0=w:=by
 rw[aL,bh,if_pos rfl,if_pos h];rfl
theorem Fz.put(z:Fz S szo szy)(hp:p∈fK S szo szy)(hq:q∈fR S.ws p)(S':HS)(e:S'.ws=S.ws.set q.toNat w)(h1:S'.so=S.so)(h2:S'.sy=S.sy):Lz S S' szo szy/\(∀c∈fK S szo szy,eY S'.ws c.toNat=eY S.ws c.toNat)/\S'.ws.getD q.toNat 0=w/\∀x:Int,0<=x->x≠q->S'.ws.getD x.toNat 0=S.ws.getD x.toNat 0:=by
 obtain⟨nq,q0,q1,_⟩:=z.slot hp hq
 have hc:∀c∈fK S szo szy,eY S'.ws c.toNat=eY S.ws c.toNat:=λc hc=>by
  obtain⟨c0,c1,_⟩:=z.A1 hc
  have:c≠q:=λh=>nq (h▸hc)
  exact rF (by rw[e,aK]) (by rw[e];exact Fd (by omega))
 refine⟨⟨by rw[e,aK],h1,h2,λc h n hn=>⟨n,by rw[hc c h];exact hn,rfl⟩⟩,hc,by rw[e];exact Hk (by omega),λx x0 nx=>by rw[e];exact Fd (by omega)⟩
theorem Pd.hand(P:Pd S szo szy nm tk false fb fa)(h0:0<=w)(h1:w<=9999)(nc:w∉fK S szo szy):Pd {S with hw:=S.hw.set 0 (2*w+1)} szo szy nm tk true fb fa:=by
 have hd:Lz S {S with hw:=S.hw.set 0 (2*w+1)} szo szy:= .refl rfl rfl rfl
 have hk:(kd (.int (2*w+1))).isSome=true:=by rw[oQ,if_neg (by omega),if_neg (by omega),if_pos (by omega)];rfl
 have hl:=P.hl
 refine⟨hd.fz P.z P.z.AX (P.z.Hn.set hk) (by show(S.hw.set 0 _).length<=6;rw[aK];omega) P.z.kl P.z.nd,P.MG,P.kl,by show(S.hw.set 0 _).length=3;rw[aK];exact hl,P.sh,?_,P.bk,P.ag⟩
 cases h:nP {S with hw:=S.hw.set 0 (2*w+1)} szo szy [nm] [tk] with
 |true=>rfl
 |false=>
  have:=(pS.mp h).1 (2*w+1) (by rw[List.mem_iff_getElem];exact⟨0,by show 0<(S.hw.set 0 _).length;rw[aK];omega,by simp⟩) (decide_eq_true (by omega))
  rw[show(2*w+1)/2=w by omega]at this
  exact absurd this nc
theorem Pd.name(P:Pd S szo szy nm tk false fb fa)(nc:w∉fK S szo szy):Pd S szo szy w tk true fb fa:=by
 refine{P with st:= ?_}
 cases h:nP S szo szy [w] [tk] with
 |true=>rfl
 |false=>exact absurd ((pS.mp h).2.2.1 w (by simp)) nc
theorem Pd.tick(P:Pd S szo szy nm tk false fb fa)(nc:w∉fK S szo szy):Pd S szo szy nm w true fb fa:=by
 refine{P with st:= ?_}
 cases h:nP S szo szy [nm] [w] with
 |true=>rfl
 |false=>exact absurd ((pS.mp h).2.2.2 w (by simp)) nc
theorem Pd.slot(P:Pd S szo szy nm tk false false fa)(h0:0<=w)(h1:w<=9999)(nc:w∉fK S szo szy)(hp:p∈fK S szo szy)(hq:q∈fR S.ws p)(S':HS)(e:S'={S with ws:=S.ws.set q.toNat (2*w+1),ks:=Bp S.ks q}):Pd S' szo szy nm tk true false fa:=by
 have z:=P.z
 obtain⟨hd,hc,hw,hx⟩:=z.put hp hq S' (w:=2*w+1) (by rw[e]) (by rw[e]) (by rw[e])
 have hk:(kd (.int (2*w+1))).isSome=true:=by rw[oQ,if_neg (by omega),if_neg (by omega),if_pos (by omega)];rfl
 have kl:S'.ks.length<=62:=by rw[e];exact aA (bC _ _) P.kl
 have nd:S'.ks.Nodup:=by rw[e];exact C0 z.nd
 have z':Fz S' szo szy:=hd.fz z (by rw[e];exact z.AX.set hk) (by rw[e];exact z.Hn) (by rw[e];exact z.hl) (by omega) nd
 have ec:=hd.fK
 have nq:=z.slot hp hq
 have ey:S'.sy=S.sy:=hd.sy
 refine⟨z',by rw[hd.so];exact P.MG,kl,by rw[e];exact P.hl,λc hc' x hx'=> ?_,?_,?_,?_⟩
 ·rw[ec]at hc'
  rw[hd.slots z hc']at hx'
  have:=z.slot hc' hx'
  by_cases y:x=q
  ·subst y;rw[hw];unfold K20.hd;exact if_neg (by omega)
  ·rw[hx x (by omega) y];exact P.sh c hc' x hx'
 ·cases h:nP S' szo szy [nm] [tk] with
  |true=>rfl
  |false=>
   have p0:=(z.A1 hp).1
   have:=(pS.mp h).2.1 p (by rw[ec];exact hp) w ((yd p0).mpr ⟨q,by rw[hd.slots z hp];exact hq,by rw[hw];exact decide_eq_true (by omega),by rw[hw];omega⟩)
   rw[ec]at this
   exact absurd this nc
 ·refine(ug z'.wo nd).mpr λx=> ?_
  have b:=(ug z.wo z.nd).mp P.bk x
  have ek:x∈S'.ks↔x∈S.ks/\x≠q:=by rw[e];exact An
  rw[ek,b,yf,yf,ey]
  constructor
  ·rintro⟨⟨⟨c,hc',hx'⟩,c2⟩,nx⟩
   have:=z.slot (aX _ hc') hx'
   rw[hx x (by omega) nx]
   exact⟨⟨c,hc',by rw[hd.slots z (aX _ hc')];exact hx'⟩,c2⟩
  ·rintro⟨⟨c,hc',hx'⟩,c2⟩
   rw[hd.slots z (aX _ hc')]at hx'
   have:=z.slot (aX _ hc') hx'
   have nx:x≠q:=λy=>by
    subst y
    rw[hw]at c2
    have:=c2.2
    rw[show(2*w+1)/2=w by omega]at this
    exact nc (aY _ this)
   rw[hx x (by omega) nx]at c2
   exact⟨⟨⟨c,hc',hx'⟩,c2⟩,nx⟩
 ·have ea:∀c∈fK S szo szy,mI S'.ws c=mI S.ws c:=λc h=>by unfold mI;rw[hc c h]
  rw[←P.ag]
  unfold G3
  rw[ey]
  congr 1
  ·exact LO λc h=>by rw[ea c (aX _ h)]
  ·exact LO λc h=>by rw[ea c (aY _ h)]
end
section
variable{S:HS}{szo szy:List Int}{nm tk:Int}{fs fb fa:Bool}{p q w:Int}
theorem Pd.book(P:Pd S szo szy nm tk fs false fa){ks:List Int}(nd:ks.Nodup)(kl:ks.length<=62)(x:Int)(hx:¬(x∈ks↔x∈S.ks)):Pd {S with ks:=ks} szo szy nm tk fs true fa:=by
 have hd:Lz S {S with ks:=ks} szo szy:= .refl rfl rfl rfl
 have z':=hd.fz P.z P.z.AX P.z.Hn P.z.hl (bI kl (by decide)) nd
 refine⟨z',P.MG,kl,P.hl,P.sh,P.st,?_,P.ag⟩
 cases h:BW {S with ks:=ks} szo szy with
 |true=>rfl
 |false=>
  have a:=(ug (S:={S with ks:=ks}) z'.wo nd).mp h x
  have b:=(ug P.z.wo P.z.nd).mp P.bk x
  exact absurd (a.trans b.symm) hx
theorem Pd.TU(P:Pd S szo szy nm tk fs fb fa)(hp:p∈fK S szo szy){n g:Int}(hn:eY S.ws p.toNat=some n)(g0:0<=g)(g2:g<=2)(hg:if p∈fF 0 szo then g≠2 else g=2)(S':HS)(e:S'={S with ws:=S.ws.set p.toNat (2*(4*(n/4)+g))}):Pd S' szo szy nm tk fs fb true:=by
 have z:=P.z
 obtain⟨p0,p1,_⟩:=z.A1 hp
 obtain⟨_,c0,c1,_,c5⟩:=fP hn
 have ew:S'.ws=S.ws.set p.toNat (2*(4*(n/4)+g)):=by rw[e]
 have hw:S'.ws.getD p.toNat 0=2*(4*(n/4)+g):=by rw[ew];exact Hk (by omega)
 have hx:∀x:Int,0<=x->x≠p->S'.ws.getD x.toNat 0=S.ws.getD x.toNat 0:=λx x0 nx=>by rw[ew];exact Fd (by omega)
 have hc:∀c∈fK S szo szy,c≠p->eY S'.ws c.toNat=eY S.ws c.toNat:=λc hc nc=>rF (by rw[ew,aK]) (hx c (z.A1 hc).1 nc)
 have hcp:eY S'.ws p.toNat=some (4*(n/4)+g):=by
  rw[mS,hw,ew,aK,if_pos (by omega)]
  congr 1;omega
 have hd:Lz S S' szo szy:=⟨by rw[ew,aK],by rw[e],by rw[e],λc hc' m hm=>by
  by_cases y:c=p
  ·subst y
   rw[hn]at hm;cases hm
   exact⟨_,hcp,by omega⟩
  ·exact⟨m,by rw[hc c hc' y];exact hm,rfl⟩⟩
 have hk:(kd (.int (2*(4*(n/4)+g)))).isSome=true:=by rw[oQ,if_neg (by omega),if_pos (by omega)];rfl
 have z':Fz S' szo szy:=hd.fz z (by rw[ew];exact z.AX.set hk) (by rw[e];exact z.Hn) (by rw[e];exact z.hl) (by rw[e];exact z.kl) (by rw[e];exact z.nd)
 have ec:=hd.fK
 have ey:S'.sy=S.sy:=hd.sy
 have sx:∀c∈fK S szo szy,∀x∈fR S.ws c,S'.ws.getD x.toNat 0=S.ws.getD x.toNat 0:=λc hc' x hx'=>by
  obtain⟨nc,x0,_,_⟩:=z.slot hc' hx'
  exact hx x (by omega) λy=>nc (y▸hp)
 have kd':∀c∈fK S szo szy,∀x,x∈mY S'.ws c↔x∈mY S.ws c:=λc hc' x=>by
  have c0:=(z.A1 hc').1
  rw[yd c0,yd c0,hd.slots z hc']
  constructor
  ·rintro⟨q,hq,h⟩;rw[sx c hc' q hq]at h;exact⟨q,hq,h⟩
  ·rintro⟨q,hq,h⟩;exact⟨q,hq,by rw[sx c hc' q hq];exact h⟩
 refine⟨z',by rw[hd.so];exact P.MG,by rw[e];exact P.kl,by rw[e];exact P.hl,λc hc' x hx'=> ?_,?_,?_,?_⟩
 ·rw[ec]at hc'
  rw[hd.slots z hc']at hx'
  rw[sx c hc' x hx'];exact P.sh c hc' x hx'
 ·rw[←P.st]
  have i1:=pS (S:=S') (szo:=szo) (szy:=szy) (os:=[nm]) (ts:=[tk])
  have i2:=pS (S:=S) (szo:=szo) (szy:=szy) (os:=[nm]) (ts:=[tk])
  rw[ec,show S'.hw=S.hw by rw[e]]at i1
  have:nP S' szo szy [nm] [tk]=false↔nP S szo szy [nm] [tk]=false:=by
   rw[i1,i2]
   constructor
   ·rintro⟨h1,h2,h3⟩;exact⟨h1,λc hc' x hx'=>h2 c hc' x ((kd' c hc' x).mpr hx'),h3⟩
   ·rintro⟨h1,h2,h3⟩;exact⟨h1,λc hc' x hx'=>h2 c hc' x ((kd' c hc' x).mp hx'),h3⟩
  cases h1:nP S' szo szy [nm] [tk]<;>cases h2:nP S szo szy [nm] [tk]<;>simp[h1,h2]at this<;>rfl
 ·rw[←P.bk]
  unfold BW
  have:su S' szo szy=su S szo szy:=by
   unfold su
   have h1:(fF 0 szo).flatMap (fR S'.ws)=(fF 0 szo).flatMap (fR S.ws):=NP λc h=>hd.slots z (aX _ h)
   rw[h1]
   refine c6 λx hx'=> ?_
   obtain⟨c,hc',hx'⟩:=List.mem_flatMap.mp hx'
   unfold PM
   rw[sx c (aX _ hc') x hx',ey]
  rw[this,show S'.ks=S.ks by rw[e]]
 ·unfold G3
  rw[Bool.or_eq_true,cx,cx]
  have ea:mI S'.ws p=g:=by unfold mI;rw[hcp];dsimp only;omega
  by_cases y:p∈fF 0 szo
  ·rw[if_pos y]at hg
   exact .inl ⟨p,y,by rw[ea,decide_eq_false hg];rfl⟩
  ·rw[if_neg y]at hg
   refine .inr ⟨p,?_,by rw[ea,hg];rfl⟩
   rw[ey]
   exact(List.mem_append.mp hp).resolve_left y
theorem G5{ws:List Int}{sz:List Int}{b t l n:Int}(h:walks ws b sz t)(hm:l∈fF b sz)(mx:∀x∈fF b sz,x<=l)(hn:eY ws l.toNat=some n)(tl:t<=ws.length)(sl:sz.length<=4000)(hs:¬n/4<8->hd (ws.getD (l.toNat+1) 0)=none){W:Int}(hW:W=if n/4<8 then 68 else 0):KC (ws.set l.toNat W) b t:=by
 obtain⟨pre,s,rfl,rfl⟩:∃pre s,sz=pre++[s]/\l=b+pre.sum:=by
  clear hn hs hW tl sl
  induction sz generalizing b with
  |nil=>cases hm
  |cons x r ih=>
   obtain⟨⟨_,_,m,hm',hs'⟩,h2⟩:=h
   have cs:=lR hm' hs'
   cases r with
   |nil=>
    simp[fF]at hm
    exact⟨[],x,rfl,by simp[hm]⟩
   |cons y r'=>
    have hl:l∈fF (b+x) (y::r'):=by
     rcases List.mem_cons.mp hm with rfl|hm
     ·have:=mx (l+x) (by simp[fF]);omega
     ·exact hm
    obtain⟨pre,s,e1,e2⟩:=ih h2 hl λz hz=>mx z (aZ _ hz)
    exact⟨x::pre,s,by rw[e1];rfl,by rw[e2,bO];omega⟩
 obtain⟨_,l0,l1,n',hn',hle⟩:=gd h _ hm
 rw[hn]at hn';cases hn'
 have ht:=uI h
 rw[cm,show [s].sum=s by simp]at ht
 have hp:=uJ h
 have es:n/4+1=s:=by
  have:∀{dn:List Int} {a:Int},walks ws a (dn++[s]) t->∀m,eY ws (a+dn.sum).toNat=some m->m/4+1=s:=λ{dn}=>by
   induction dn with
   |nil=>
    intro a h m hm
    obtain⟨⟨_,_,k,hk,hs⟩,_⟩:=h
    rw[show a+([]:List Int).sum=a by simp]at hm
    rw[hk]at hm;cases hm;exact hs
   |cons d dn ih=>
    intro a h m hm
    rw[bO,show a+(d+dn.sum)=a+d+dn.sum by omega]at hm
    exact ih h.2 m hm
  exact this h n hn
 obtain⟨_,c0,c1,_,c5⟩:=fP hn
 have wp:walks (ws.set (b+pre.sum).toNat W) b pre (b+pre.sum):=by
  refine lO (by rw[aK]) (λi i0 i1=>Fd (by omega)) ?_
  have:=Ea pre.length h
  rw[List.take_left]at this
  exact this
 have pl:pre.length<=4000:=by rw[aO]at sl;omega
 have pp:∀{xs:List Int},∀dn s' rr,pre=dn++s'::rr->b+dn.sum<t:=λ{xs} dn s' rr e=>by
  rw[e]at h
  rw[cy]at h
  exact uJ h
 have hW2:(ws.set (b+pre.sum).toNat W).getD (b+pre.sum).toNat 0=W:=Hk (by omega)
 by_cases c:n/4<8
 ·rw[if_pos c]at hW
  subst hW
  by_cases f:(b+pre.sum)+8<=ws.length-1
  ·refine⟨pre++[9],b+pre.sum+9,sr (n:=34) wp l0 (by rw[aK];exact l1) (by rw[mS,hW2,aK,if_pos (by omega)];rfl) (by decide),by rw[aO];show pre.length+1<=5000;omega,λdn s' rr e=> ?_,.inl (by omega)⟩
   rcases List.eq_nil_or_concat rr with rfl|⟨rr',y,rfl⟩
   ·obtain⟨e1,e2⟩:=cz e rfl
    subst e1;omega
   ·refine pp (xs:=[]) dn s' rr' ?_
    have:pre++[9]=(dn++s'::rr')++[y]:=by rw[e];simp
    exact(cz this rfl).1
  ·exact⟨pre,_,wp,by omega,pp (xs:=[]),.inr ⟨l0,hp,by rw[aK];exact tl,by rw[mS,hW2,aK,if_neg (by omega)]⟩⟩
 ·rw[if_neg c]at hW
  subst hW
  refine⟨pre++[1],b+pre.sum+1,sr (n:=0) wp l0 (by rw[aK];exact l1) (by rw[mS,hW2,aK,if_pos (by omega)];rfl) (by decide),by rw[aO];show pre.length+1<=5000;omega,λdn s' rr e=> ?_,.inr ⟨by omega,by omega,by rw[aK];exact tl,?_⟩⟩
  ·rcases List.eq_nil_or_concat rr with rfl|⟨rr',y,rfl⟩
   ·obtain⟨e1,e2⟩:=cz e rfl
    subst e1;omega
   ·refine pp (xs:=[]) dn s' rr' ?_
    have:pre++[1]=(dn++s'::rr')++[y]:=by rw[e];simp
    exact(cz this rfl).1
  ·rw[show(b+pre.sum+1).toNat=(b+pre.sum).toNat+1 by omega]
   unfold eY
   rw[Fd (by omega),hs c]
end
structure Clean(o:Int)(rs:List Rw)(szo szy:List Int)(S:HS):Prop where
 ro:kO rs S
 eo:S.so.e=o
 MG:o<=69
 ye:S.sy.e<S.ws.length/\S.sy.e<=200
 wo:walks S.ws 0 szo S.so.t
 wy:walks S.ws S.sy.b szy S.sy.t
 pl:∀p,p∈tU rs↔p∈fK S szo szy
 ao:∀p∈fF 0 szo,mI S.ws p=2
 ay:∀p∈fF S.sy.b szy,mI S.ws p=0
 nd:S.ks.Nodup
 bk:∀z,z∈S.ks↔∃x∈rs,x.p<o/\∃j:Nat,j<x.r.length/\z=x.p+1+(j:Int)/\jI (x.r.getD j 0)=true/\o<=x.r.getD j 0/2
 hl:S.hw.length=3
 ho:∀w∈S.hw,w%2=1
 so:∀x∈rs,∀w∈x.r,w%2=1∨w=6
section
variable{o:Int}{rs r1 r2:List Rw}{szo szy:List Int}{S:HS}{x:Rw}{w:Int}
theorem getD_mem'{l:List Int}{j:Nat}(h:j<l.length):l.getD j 0∈l:=by rw[aL,aG h];exact bf h
theorem Clean.row(c:Clean o rs szo szy S){p:Int}(hp:p∈fK S szo szy):∃x∈rs,x.p=p/\∃n,eY S.ws p.toNat=some n/\n/4=x.r.length/\∀j:Nat,j<x.r.length->S.ws.getD (p+1+(j:Int)).toNat 0=x.r.getD j 0:=by
 obtain⟨x,hx,rfl⟩:=Kl ((c.pl p).mpr hp)
 obtain⟨n,hn,e⟩:=c.ro.cell hx
 obtain⟨l8,g,g0,g2,e',sl⟩:=c.ro.A1 x hx
 have:=c.ro.bd hx
 exact⟨x,hx,rfl,n,hn,e,λj hj=>by rw[show(x.p+1+(j:Int)).toNat=x.p.toNat+1+j by omega];exact sl j hj⟩
theorem Clean.oy(c:Clean o rs szo szy S){p:Int}(hp:p∈tU rs):(p∈fF 0 szo/\p<o)∨(p∈fF S.sy.b szy/\o<=p/\p<S.sy.t):=by
 have eo:=c.eo;have b2:=c.ro.b2;have b3:=c.ro.b3
 rcases List.mem_append.mp ((c.pl p).mp hp) with h|h
 ·obtain⟨_,_,_,n,hn,h'⟩:=gd c.wo p h
  obtain⟨_,c0,_⟩:=fP hn
  exact .inl ⟨h,by omega⟩
 ·obtain⟨h1,_,_,n,hn,h'⟩:=gd c.wy p h
  obtain⟨_,c0,_⟩:=fP hn
  exact .inr ⟨h,by omega,by omega⟩
theorem Clean.want(c:Clean o rs szo szy S)(z:Int):z∈S.ks↔z∈su S szo szy:=by
 rw[c.bk,yf]
 constructor
 ·rintro⟨x,hx,xo,j,hj,rfl,hp,hw⟩
  have hpx:x.p∈tU rs:=bL hx
  obtain⟨y,hy,ey,n,hn,e,sl⟩:=c.row ((c.pl _).mp hpx)
  have exy:y.p=x.p/\y.r=x.r:=by
   refine⟨ey,?_⟩
   obtain⟨n1,hn1,e1⟩:=c.ro.cell hx
   obtain⟨n2,hn2,e2⟩:=c.ro.cell hy
   rw[ey,hn1]at hn2
   cases hn2
   obtain⟨_,_,_,_,_,s1⟩:=c.ro.A1 x hx
   obtain⟨_,_,_,_,_,s2⟩:=c.ro.A1 y hy
   refine List.ext_getElem (by omega) λi i1 i2=> ?_
   have a:=s1 i i2
   have b:=s2 i i1
   rw[ey,a]at b
   rw[aL,aG i2,aL,aG i1]at b
   exact b.symm
  rw[exy.2]at sl e
  rw[sl j hj]
  refine⟨⟨x.p,?_,gX.mpr ⟨n,hn,by omega,by omega⟩⟩,hp,?_⟩
  ·rcases c.oy hpx with h|h
   ·exact h.1
   ·omega
  ·rcases c.oy ((c.ro.QV x hx _ (getD_mem' hj)).2 hp) with h|h
   ·omega
   ·exact h.1
 ·rintro⟨⟨p,hp,hz⟩,h1,h2⟩
  obtain⟨x,hx,rfl,n,hn,e,sl⟩:=c.row (aX _ hp)
  obtain⟨n',hn',z0,z1⟩:=gX.mp hz
  rw[hn]at hn';cases hn'
  have hj:(z-x.p-1).toNat<x.r.length:=by omega
  have ez:z=x.p+1+((z-x.p-1).toNat:Int):=by omega
  have es:=sl _ hj
  rw[←ez]at es
  rw[es]at h1 h2
  refine⟨x,hx,?_,_,hj,ez,h1,?_⟩
  ·rcases c.oy (bL hx) with h|h
   ·exact h.2
   ·have eo:=c.eo
    obtain⟨_,_,_,n',hn',h'⟩:=gd c.wo _ hp
    have b2:=c.ro.b2
    obtain⟨_,c0,_⟩:=fP hn'
    omega
  ·have:=(gd c.wy _ h2).1
   have:=c.ro.b3
   have:=c.eo
   omega
theorem Clean.Mx(c:Clean o rs szo szy S):S.ks.length<=61:=LU c.wo c.nd (by have:=c.eo;have:=c.MG;have:=c.ro.b2;omega) c.want
theorem Clean.pd(c:Clean o rs szo szy S){nm tk:Int}(h1:nm∈tU rs)(h2:tk∈tU rs):Pd S szo szy nm tk false false false:=by
 have r:=c.ro
 have kl:=c.Mx
 have MG:=c.MG
 have eo:=c.eo
 have z:Fz S szo szy:=⟨r.b0,r.b1,r.b2,r.b3,r.b4,r.b5,by have:=c.ye;omega,r.b7,by have:=c.ye;omega,r.AX,λw hw=>(r.Hn w hw).1,by have:=c.hl;omega,by omega,c.nd,c.wo,c.wy⟩
 refine⟨z,by omega,by omega,c.hl,λp hp q hq=> ?_,pS.mpr ⟨λw hw hp=>(c.pl _).mp ((r.Hn w hw).2 hp),λp hp x hx=> ?_,λx hx=> ?_,λx hx=> ?_⟩,(ug c.wo c.nd).mpr c.want,?_⟩
 ·obtain⟨x,hx,rfl,n,hn,e,sl⟩:=c.row hp
  obtain⟨n',hn',z0,z1⟩:=gX.mp hq
  rw[hn]at hn';cases hn'
  have hj:(q-x.p-1).toNat<x.r.length:=by omega
  have ez:q=x.p+1+((q-x.p-1).toNat:Int):=by omega
  have es:=sl _ hj
  rw[←ez]at es
  rw[es]
  rcases c.so x hx _ (getD_mem' hj) with h|h
  ·unfold hd;exact if_neg (by omega)
  ·rw[h];decide
 ·obtain⟨q,hq,h1,rfl⟩:=(yd (z.A1 hp).1).mp hx
  obtain⟨y,hy,rfl,n,hn,e,sl⟩:=c.row hp
  obtain⟨n',hn',z0,z1⟩:=gX.mp hq
  rw[hn]at hn';cases hn'
  have hj:(q-y.p-1).toNat<y.r.length:=by omega
  have ez:q=y.p+1+((q-y.p-1).toNat:Int):=by omega
  have es:=sl _ hj
  rw[←ez]at es
  rw[es]at h1⊢
  exact(c.pl _).mp ((r.QV y hy _ (getD_mem' hj)).2 h1)
 ·rw[aU]at hx;subst hx;exact(c.pl _).mp h1
 ·rw[aU]at hx;subst hx;exact(c.pl _).mp h2
 ·unfold G3
  rw[Bool.or_eq_false_iff,b9,b9]
  exact⟨λp hp=>by rw[c.ao p hp];decide,λp hp=>by rw[c.ay p hp];decide⟩
theorem Clean.put(c:Clean o (r1++x::r2) szo szy S){j:Nat}(hj:j<x.r.length)(hw:Eg (tU (r1++x::r2)) w)(h6:w%2=1∨w=6):Clean o (r1++{x with r:=x.r.set j w}::r2) szo szy (S.put (x.p+1+j) w):=by
 have hx:x∈r1++x::r2:=q8.mpr (.inr (.inl rfl))
 have hxp:=bL (f:=Rw.p) hx
 have kl:=c.Mx
 have P:=c.pd hxp hxp
 have r:=c.ro.put hj hw
 have ep:tU (r1++{x with r:=x.r.set j w}::r2)=tU (r1++x::r2):=by simp[tU]
 obtain⟨n,hn,en⟩:=c.ro.cell hx
 have bx:=c.ro.bd hx
 have hs:x.p+1+(j:Int)∈fR S.ws x.p:=gX.mpr ⟨n,hn,by omega,by omega⟩
 obtain⟨hd,hc,_,_⟩:=P.z.put ((c.pl _).mp hxp) hs (S.put (x.p+1+j) w) (w:=w) rfl rfl rfl
 have eo:=c.eo
 have b0:=c.ro.b0;have b2:=c.ro.b2;have b3:=c.ro.b3;have b4:=c.ro.b4
 have ew:wi (.int (x.p+1+(j:Int))) S.so.b (S.so.t-1)=true↔x.p<o:=by
  simp only[wi,aI,decide_eq_true_eq]
  have:=c.ro.Ko x hx
  omega
 have ey:S.PN w=true↔jI w=true/\o<=w/2:=by
  unfold HS.PN
  rw[aI]
  simp only[wi,aI,decide_eq_true_eq]
  constructor
  ·rintro⟨h1,h2,h3⟩;exact⟨h1,by omega⟩
  ·rintro⟨h1,h2⟩
   rcases c.oy (hw.2 h1) with h|h
   ·omega
   ·exact⟨h1,by omega,by omega⟩
 have ek:∀z,z∈(S.put (x.p+1+j) w).ks↔(z=x.p+1+(j:Int)/\x.p<o/\jI w=true/\o<=w/2)∨(z≠x.p+1+(j:Int)/\z∈S.ks):=λz=>by
  show z∈(if wi (.int (x.p+1+(j:Int))) S.so.b (S.so.t-1)=true/\S.PN w=true then J5 S.ks (x.p+1+j) else Bp S.ks (x.p+1+j))↔_
  by_cases cc:wi (.int (x.p+1+(j:Int))) S.so.b (S.so.t-1)=true/\S.PN w=true
  ·rw[if_pos cc,Am]
   rw[ew,ey]at cc
   constructor
   ·rintro(h|h)
    ·by_cases e:z=x.p+1+(j:Int)
     ·exact .inl ⟨e,cc.1,cc.2.1,cc.2.2⟩
     ·exact .inr ⟨e,h⟩
    ·exact .inl ⟨h,cc.1,cc.2.1,cc.2.2⟩
   ·rintro(h|h)
    ·exact .inr h.1
    ·exact .inl h.2
  ·rw[if_neg cc,An]
   rw[ew,ey]at cc
   constructor
   ·rintro⟨h1,h2⟩;exact .inr ⟨h2,h1⟩
   ·rintro(⟨h1,h2,h3⟩|h)
    ·exact absurd ⟨h2,h3⟩ cc
    ·exact⟨h.2,h.1⟩
 refine⟨r,c.eo,c.MG,?_,?_,?_,λp=> ?_,λp hp=> ?_,λp hp=> ?_,?_,λz=> ?_,c.hl,c.ho,λy hy v hv=> ?_⟩
 ·show S.sy.e<((S.ws.set _ w).length:Int)/\S.sy.e<=200
  rw[aK];exact c.ye
 ·exact qy hd.l (λp hp=>hd.c p (aX _ hp)) c.wo
 ·exact qy hd.l (λp hp=>hd.c p (aY _ hp)) c.wy
 ·rw[ep,hd.fK];exact c.pl p
 ·show mI (S.put (x.p+1+j) w).ws p=2
  rw[←c.ao p hp];unfold mI;rw[hc p (aX _ hp)]
 ·have hp':p∈fF S.sy.b szy:=hp
  rw[←c.ay p hp'];unfold mI;rw[hc p (aY _ hp')]
 ·show(if _ then _ else _:List Int).Nodup
  split
  ·exact ME c.nd
  ·exact C0 c.nd
 ·rw[ek,c.bk]
  have away:∀y,(y∈r1∨y∈r2)->∀i:Nat,i<y.r.length->y.p+1+(i:Int)≠x.p+1+(j:Int):=λy hy i hi e=>by
   have:=c.ro.away hy
   simp only[K20.apart]at this
   omega
  constructor
  ·rintro(⟨rfl,h1,h2,h3⟩|⟨nz,y,hy,yo,i,hi,rfl,h⟩)
   ·refine⟨_,q8.mpr (.inr (.inl rfl)),h1,j,by show j<(x.r.set j w).length;rw[aK];exact hj,rfl,?_⟩
    show jI ((x.r.set j w).getD j 0)=true/\o<=(x.r.set j w).getD j 0/2
    rw[sP hj];exact⟨h2,h3⟩
   ·rcases q8.mp hy with hy|rfl|hy
    ·exact⟨y,q8.mpr (.inl hy),yo,i,hi,rfl,h⟩
    ·refine⟨_,q8.mpr (.inr (.inl rfl)),yo,i,by show i<(y.r.set j w).length;rw[aK];exact hi,rfl,?_⟩
     show jI ((y.r.set j w).getD i 0)=true/\o<=(y.r.set j w).getD i 0/2
     rw[jq (λe=>nz (by rw[e]))];exact h
    ·exact⟨y,q8.mpr (.inr (.inr hy)),yo,i,hi,rfl,h⟩
  ·rintro⟨y,hy,yo,i,hi,rfl,h⟩
   rcases q8.mp hy with hy|rfl|hy
   ·exact .inr ⟨away y (.inl hy) i hi,y,q8.mpr (.inl hy),yo,i,hi,rfl,h⟩
   ·have hi':i<x.r.length:=by have:i<(x.r.set j w).length:=hi;rwa[aK]at this
    have h':jI ((x.r.set j w).getD i 0)=true/\o<=(x.r.set j w).getD i 0/2:=h
    by_cases e:i=j
    ·subst e
     rw[sP hj]at h'
     exact .inl ⟨rfl,yo,h'⟩
    ·rw[jq (aj e)]at h'
     exact .inr ⟨by show x.p+1+(i:Int)≠_;omega,x,hx,yo,i,hi',rfl,h'⟩
   ·exact .inr ⟨away y (.inr hy) i hi,y,q8.mpr (.inr (.inr hy)),yo,i,hi,rfl,h⟩
 ·rcases q8.mp hy with hy|rfl|hy
  ·exact c.so y (q8.mpr (.inl hy)) v hv
  ·rcases ck hv with q|rfl
   ·exact c.so x hx v q
   ·exact h6
  ·exact c.so y (q8.mpr (.inr (.inr hy))) v hv
theorem FA{ws ws':List Int}{p:Int}(h:eY ws' p.toNat=eY ws p.toNat):mI ws' p=mI ws p:=by unfold mI;rw[h]
theorem HS.Kd{n i:Int}(hY:S.Ei n=true):S.made i n={S with hw:=S.hw.set i.toNat (2*S.sy.t+1),ws:=gI S.ws S.sy.t.toNat n.toNat 0,sy:=⟨S.sy.b,S.sy.e,S.sy.t+(n+1)⟩}:=by unfold HS.made;rw[if_pos hY]
theorem HS.N6{n i:Int}(hY:S.Ei n=false):S.made i n={S with hw:=S.hw.set i.toNat (2*S.so.t+1),ws:=gI S.ws S.so.t.toNat n.toNat 2,so:=⟨S.so.b,S.so.e,S.so.t+(n+1)⟩}:=by unfold HS.made;rw[if_neg (by rw[hY];intro z;cases z)]
theorem Clean.made(c:Clean o rs szo szy S){n i:Int}(n0:0<=n)(n8:n<=8)(hf:S.fits n=true):∃szo' szy',Clean o (rs++[⟨S.at n,0,List.replicate n.toNat (-1)⟩]) szo' szy' (S.made i n):=by
 have r:=c.ro.made (a:=0) (i:=i) n0 n8 hf
 have eo:=c.eo
 have b0:=c.ro.b0;have b1:=c.ro.b1;have b2:=c.ro.b2;have b3:=c.ro.b3;have b4:=c.ro.b4;have b5:=c.ro.b5;have b6:=c.ro.b6
 have ye:=c.ye
 unfold HS.fits at hf
 have bk:∀(t z:Int),z∈S.ks↔∃x∈rs++[⟨t,0,List.replicate n.toNat (-1)⟩],x.p<o/\∃j:Nat,j<x.r.length/\z=x.p+1+(j:Int)/\jI (x.r.getD j 0)=true/\o<=x.r.getD j 0/2:=λt z=>by
  rw[c.bk]
  constructor
  ·rintro⟨x,hx,q⟩;exact⟨x,aX _ hx,q⟩
  ·rintro⟨x,hx,xo,j,hj,ez,hp,hw⟩
   rcases List.mem_append.mp hx with hx|hx
   ·exact⟨x,hx,xo,j,hj,ez,hp,hw⟩
   ·rw[aU]at hx
    subst hx
    have hj':j<n.toNat:=by have:j<(List.replicate n.toNat (-1:Int)).length:=hj;rwa[bg]at this
    have e:(List.replicate n.toNat (-1:Int)).getD j 0= -1:=by rw[aL,cG,if_pos hj'];rfl
    have hp':jI ((List.replicate n.toNat (-1:Int)).getD j 0)=true:=hp
    rw[e]at hp'
    cases hp'
 have hs6:∀(t:Int),∀x∈rs++[⟨t,0,List.replicate n.toNat (-1)⟩],∀w∈x.r,w%2=1∨w=6:=λt x hx w hw=>by
  rcases List.mem_append.mp hx with hx|hx
  ·exact c.so x hx w hw
  ·rw[aU]at hx
   subst hx
   have:w= -1:=cb hw
   subst this
   exact .inl (by decide)
 have hho:∀(t:Int),∀w∈S.hw.set i.toNat (2*t+1),w%2=1:=λt w hw=>by
  rcases ck hw with q|rfl
  ·exact c.ho w q
  ·omega
 have G1:∀(t:Int),tU (rs++[⟨t,0,List.replicate n.toNat (-1)⟩])=tU rs++[t]:=λt=>by simp[tU]
 cases hY:S.Ei n with
 |true=>
  rw[hY,if_pos rfl,decide_eq_true_eq]at hf
  rw[HS.Kd hY]at r⊢
  have ea:S.at n=S.sy.t:=by unfold HS.at;rw[if_pos hY]
  rw[ea]at r⊢
  have ne:∀{p:Int},0<=p->p<S.sy.t->(gI S.ws S.sy.t.toNat n.toNat 0).getD p.toNat 0=S.ws.getD p.toNat 0:=λh0 h=>qm (by omega)
  have ce:∀{p:Int},0<=p->p<S.sy.t->eY (gI S.ws S.sy.t.toNat n.toNat 0) p.toNat=eY S.ws p.toNat:=λh0 h=>rF iB (ne h0 h)
  have hc:eY (gI S.ws S.sy.t.toNat n.toNat 0) S.sy.t.toNat=some (4*(n.toNat:Int)+0):=BX (by omega) (by omega) (by decide) (by decide)
  have wo:walks (gI S.ws S.sy.t.toNat n.toNat 0) 0 szo S.so.t:=lO iB (λk k0 k1=>qm (by omega)) c.wo
  have wy:walks (gI S.ws S.sy.t.toNat n.toNat 0) S.sy.b szy S.sy.t:=lO iB (λk k0 k1=>qm (by omega)) c.wy
  have wy2:=sr wy (by omega) (by rw[iB];omega) hc rfl
  have et:=uI c.wy
  have ep:fF S.sy.b (szy++[(4*(n.toNat:Int)+0)/4+1])=fF S.sy.b szy++[S.sy.t]:=by rw[yi,←et]
  refine⟨szo,szy++[(4*(n.toNat:Int)+0)/4+1],r,eo,c.MG,?_,wo,?_,λp=> ?_,λp hp=> ?_,λp hp=> ?_,c.nd,bk _,?_,hho _,hs6 _⟩
  ·show S.sy.e<((gI S.ws _ _ _).length:Int)/\S.sy.e<=200
   rw[iB];exact ye
  ·show walks _ S.sy.b _ (S.sy.t+(n+1))
   rw[show S.sy.t+(n+1)=S.sy.t+((4*(n.toNat:Int)+0)/4+1) by omega]
   exact wy2
  ·rw[G1]
   show _↔p∈fF 0 szo++fF S.sy.b (szy++_)
   rw[ep,←cy,bD,bD,c.pl];rfl
  ·obtain⟨_,p0,_,m,hm,h⟩:=gd c.wo p hp
   obtain⟨_,c0,_⟩:=fP hm
   exact(FA (ce p0 (by omega))).trans (c.ao p hp)
  ·have hp':p∈fF S.sy.b (szy++[(4*(n.toNat:Int)+0)/4+1]):=hp
   rw[ep]at hp'
   rcases List.mem_append.mp hp' with hp'|hp'
   ·obtain⟨_,p0,_,m,hm,h⟩:=gd c.wy p hp'
    obtain⟨_,c0,_⟩:=fP hm
    exact(FA (ce p0 (by omega))).trans (c.ay p hp')
   ·rw[aU]at hp'
    subst hp'
    unfold mI
    rw[hc];dsimp only;omega
  ·show(S.hw.set _ _).length=3
   rw[aK];exact c.hl
 |false=>
  rw[hY,if_neg (by intro z;cases z),decide_eq_true_eq]at hf
  rw[HS.N6 hY]at r⊢
  have ea:S.at n=S.so.t:=by unfold HS.at;rw[if_neg (by rw[hY];intro z;cases z)]
  rw[ea]at r⊢
  have ne:∀{p:Int},0<=p->(p<S.so.t∨S.sy.b<=p)->(gI S.ws S.so.t.toNat n.toNat 2).getD p.toNat 0=S.ws.getD p.toNat 0:=λh0 h=>qm (by omega)
  have ce:∀{p:Int},0<=p->(p<S.so.t∨S.sy.b<=p)->eY (gI S.ws S.so.t.toNat n.toNat 2) p.toNat=eY S.ws p.toNat:=λh0 h=>rF iB (ne h0 h)
  have hc:eY (gI S.ws S.so.t.toNat n.toNat 2) S.so.t.toNat=some (4*(n.toNat:Int)+2):=BX (by omega) (by omega) (by decide) (by decide)
  have wo:walks (gI S.ws S.so.t.toNat n.toNat 2) 0 szo S.so.t:=lO iB (λk k0 k1=>qm (by omega)) c.wo
  have wy:walks (gI S.ws S.so.t.toNat n.toNat 2) S.sy.b szy S.sy.t:=lO iB (λk k0 k1=>qm (by omega)) c.wy
  have wo2:=sr wo (by omega) (by rw[iB];omega) hc rfl
  have et:=uI c.wo
  have ep:fF 0 (szo++[(4*(n.toNat:Int)+2)/4+1])=fF 0 szo++[S.so.t]:=by rw[yi,←et]
  refine⟨szo++[(4*(n.toNat:Int)+2)/4+1],szy,r,eo,c.MG,?_,?_,wy,λp=> ?_,λp hp=> ?_,λp hp=> ?_,c.nd,bk _,?_,hho _,hs6 _⟩
  ·show S.sy.e<((gI S.ws _ _ _).length:Int)/\S.sy.e<=200
   rw[iB];exact ye
  ·show walks _ 0 _ (S.so.t+(n+1))
   rw[show S.so.t+(n+1)=S.so.t+((4*(n.toNat:Int)+2)/4+1) by omega]
   exact wo2
  ·rw[G1]
   show _↔p∈fF 0 (szo++_)++fF S.sy.b szy
   rw[ep,bD,bD,bD,c.pl]
   show(p∈fF 0 szo++fF S.sy.b szy)∨_↔_
   rw[bD]
   constructor
   ·rintro((h|h)|h)
    ·exact .inl (.inl h)
    ·exact .inr h
    ·exact .inl (.inr h)
   ·rintro((h|h)|h)
    ·exact .inl (.inl h)
    ·exact .inr h
    ·exact .inl (.inr h)
  ·rw[ep]at hp
   rcases List.mem_append.mp hp with hp|hp
   ·obtain⟨_,p0,_,m,hm,h⟩:=gd c.wo p hp
    obtain⟨_,c0,_⟩:=fP hm
    exact(FA (ce p0 (.inl (by omega)))).trans (c.ao p hp)
   ·rw[aU]at hp
    subst hp
    unfold mI
    rw[hc];dsimp only;omega
  ·have hp':p∈fF S.sy.b szy:=hp
   obtain⟨p1,p0,_,m,hm,h⟩:=gd c.wy p hp'
   exact(FA (ce p0 (.inr p1))).trans (c.ay p hp')
  ·show(S.hw.set _ _).length=3
   rw[aK];exact c.hl
end
set_option genInjectivity false in
structure Ad where
 nI:Addr
 pB:FuncData
 rH:Addr
 um:FuncData
 ji:Addr
 lZ:FuncData
 jj:Addr
 l7:FuncData
 jl:Addr
 ma:FuncData
 g_:Addr
 jS:FuncData
 jW:Addr
 nS:FuncData
 ik:Addr
 kD:FuncData
 jZ:Addr
 nV:FuncData
 jf:Addr
 lW:FuncData
 gR:Addr
 iY:FuncData
 j_:Addr
 oa:FuncData
 jm:Addr
 me:FuncData
 lj:Addr
 oj:FuncData
 lA:Addr
 ou:FuncData
 jk:Addr
 l_:FuncData
 fS:Addr
 gx:FuncData
 fY:Addr
 gL:FuncData
 lz:Addr
 ot:FuncData
 nH:Addr
 pA:FuncData
 kq:Addr
 mn:FuncData
 pF:Addr
 rk:FuncData
 y7:Addr
 Bb:FuncData
 il:Addr
 kE:FuncData
 fZ:Addr
 gN:FuncData
 j9:Addr
 n_:FuncData
 jd:Addr
 lU:FuncData
 gn:Addr
 hZ:FuncData
 oz:Addr
 rj:FuncData
 jB:Addr
 kM:FuncData
 kn:Addr
 mm:FuncData
 y8:Addr
 Bc:FuncData
 ip:Addr
 kF:FuncData
 jX:Addr
 nT:FuncData
 fT:Addr
 gy:FuncData
 gA:Addr
 iz:FuncData
 jz:Addr
 kK:FuncData
 kj:Addr
 mh:FuncData
 uV:Addr
 x4:FuncData
 g8:Addr
 jQ:FuncData
 jb:Addr
 lS:FuncData
 jc:Addr
 lT:FuncData
 la:Addr
 pk:FuncData
 jY:Addr
 nU:FuncData
 je:Addr
 lV:FuncData
 jg:Addr
 lX:FuncData
 kb:Addr
 oh:FuncData
 ka:Addr
 og:FuncData
 jh:Addr
 lY:FuncData
 j4:Addr
 nW:FuncData
 gB:Addr
 iA:FuncData
 lx:Addr
 oq:FuncData
 jx:Addr
 kI:FuncData
 lB:Addr
 ox:FuncData
 lb:Addr
 pv:FuncData
 g9:Addr
 jR:FuncData
 jy:Addr
 kJ:FuncData
 j5:Addr
 nX:FuncData
 g7:Addr
 jP:FuncData
 kh:Addr
 mf:FuncData
 Dk:Addr
 E4:FuncData
 nJ:Addr
 pC:FuncData
 rG:Addr
 uk:FuncData
 j6:Addr
 nY:FuncData
 j8:Addr
 n6:FuncData
 nK:Addr
 pE:FuncData
 y6:Addr
 Ba:FuncData
 km:Addr
 mj:FuncData
 jA:Addr
 kL:FuncData
 iE:Addr
 jT:FuncData
 nG:Addr
 pz:FuncData
 iq:Addr
 kG:FuncData
 gz:Addr
 iy:FuncData
 gQ:Addr
 iX:FuncData
 iF:Addr
 jU:FuncData
 uU:Addr
 xZ:FuncData
 lu:Addr
 oo:FuncData
 ie:Addr
 i4:FuncData
 ic:Addr
 iZ:FuncData
 gm:Addr
 hV:FuncData
 gP:Addr
 iW:FuncData
 lh:Addr
 pw:FuncData
 rJ:Addr
 uo:FuncData
 j7:Addr
 nZ:FuncData
 lr:Addr
 om:FuncData
 jw:Addr
 kH:FuncData
 Hi:Addr
 JV:FuncData
 nR:Addr
 i_:Addr
 iV:Addr
 fO:Addr
 fB:Addr
 jN:Addr
 mR:Addr
 gH:Addr
 g6:Addr
 gF:Addr
 k_:Addr
 dP:Addr
 dU:Addr
 eu:Addr
 eV:Addr
 eN:Addr
 fc:Addr
 fw:Addr
 eB:Addr
 eR:Addr
structure Txt(K:PySem.W.Frag)(mg:Str->Option Value)(A:Ad):Prop where
 oB:iS K "is_whole" "is_whole" zl A.nI A.pB
 rE:Binds K A.pB ["thing"] []
 nL:mg "is_whole"=some (.ref A.nI)
 x8:iS K "all_of" "all_of" DS A.rH A.um
 C6:Binds K A.um ["places"] []
 wV:mg "all_of"=some (.ref A.rH)
 yD:iS K "__init__" "Space.__init__" vq A.ji A.lZ
 qJ:Binds K A.lZ ["self","begin","end"] []
 yE:iS K "room" "Space.room" vt A.jj A.l7
 zE:Binds K A.l7 ["self"] []
 Aj:Meth K A.dU "room" A.jj
 yG:iS K "used" "Space.used" vw A.jl A.ma
 lQ:Binds K A.ma ["self"] []
 mz:Meth K A.dU "used" A.jl
 vS:iS K "extent" "Space.extent" r9 A.g_ A.jS
 rB:Binds K A.jS ["self"] []
 rW:Meth K A.dU "extent" A.g_
 zO:iS K "__init__" "Book.__init__" xk A.jW A.nS
 BJ:Binds K A.nS ["self"] []
 wM:iS K "places" "Book.places" tV A.ik A.kD
 tG:Binds K A.kD ["self"] []
 tR:Meth K A.eV "places" A.ik
 zR:iS K "row" "Hands.row" xn A.jZ A.nV
 BL:Binds K A.nV ["self"] []
 B8:Meth K A.eN "row" A.jZ
 yA:iS K "__init__" "Lasts.__init__" vn A.jf A.lW
 zB:Binds K A.lW ["self"] []
 uu:iS K "pending" "Lasts.pending" nA A.gR A.iY
 vM:Binds K A.iY ["self"] []
 vV:Meth K A.fc "pending" A.gR
 zY:iS K "__init__" "Weak.__init__" xx A.j_ A.oa
 BP:Binds K A.oa ["self"] []
 yH:iS K "names" "Weak.names" ra A.jm A.me
 zG:Binds K A.me ["self"] []
 Al:Meth K A.fw "names" A.jm
 jn:iS K "_law_draw" "_law_draw" xB A.lj A.oj
 kZ:Binds K A.oj ["_law_script","_law_k"] []
 jo:mg "_law_draw"=some (.ref A.lj)
 fH:iS K "is_within" "is_within" xF A.lA A.ou
 fX:Binds K A.ou ["thing","least","most"] []
 fL:mg "is_within"=some (.ref A.lA)
 yF:iS K "take" "Space.take" vv A.jk A.l_
 zF:Binds K A.l_ ["self","many"] []
 Ak:Meth K A.dU "take" A.jk
 o9:iS K "want_pending" "Lasts.want_pending" lG A.fS A.gx
 qe:Binds K A.gx ["self","ticket"] []
 qp:Meth K A.fc "want_pending" A.fS
 qg:iS K "is_for_young" "Heap.is_for_young" mM A.fY A.gL
 qH:Binds K A.gL ["self","slots"] []
 qI:Meth K A.eR "is_for_young" A.fY
 qO:iS K "is_number" "is_number" xE A.lz A.ot
 wF:Binds K A.ot ["thing"] []
 qk:mg "is_number"=some (.ref A.lz)
 sH:iS K "is_place" "is_place" zk A.nH A.pA
 yX:Binds K A.pA ["thing"] []
 rP:mg "is_place"=some (.ref A.nH)
 mT:iS K "want_slots" "want_slots" vB A.kq A.mn
 qK:Binds K A.mn ["slots"] []
 mr:mg "want_slots"=some (.ref A.kq)
 y9:iS K "is_head" "is_head" Br A.pF A.rk
 EV:Binds K A.rk ["number"] []
 x_:mg "is_head"=some (.ref A.pF)
 CN:iS K "fits" "fits" Jr A.y7 A.Bb
 IF:Binds K A.Bb ["memory","at","slots"] []
 Dp:mg "fits"=some (.ref A.y7)
 wN:iS K "__init__" "Memory.__init__" tW A.il A.kE
 yq:Binds K A.kE ["self","size"] []
 qi:iS K "want_place" "Memory.want_place" mO A.fZ A.gN
 mJ:Binds K A.gN ["self","at"] []
 mL:Meth K A.dP "want_place" A.fZ
 zX:iS K "has" "Space.has" xw A.j9 A.n_
 wB:Binds K A.n_ ["self","at"] []
 w_:Meth K A.dU "has" A.j9
 yy:iS K "__init__" "Hands.__init__" vk A.jd A.lU
 zy:Binds K A.lU ["self","many"] []
 rL:iS K "want_hand" "Hands.want_hand" oU A.gn A.hZ
 kP:Binds K A.hZ ["self","hand"] []
 kT:Meth K A.eN "want_hand" A.gn
 Dl:iS K "at" "Weak.at" Bq A.oz A.rj
 EU:Binds K A.rj ["self","name"] []
 Fj:Meth K A.fw "at" A.oz
 oM:iS K "want_number" "want_number" t9 A.jB A.kM
 tK:Binds K A.kM ["thing"] []
 mW:mg "want_number"=some (.ref A.jB)
 gZ:iS K "want_place" "want_place" vA A.kn A.mm
 i9:Binds K A.mm ["thing"] []
 g5:mg "want_place"=some (.ref A.kn)
 oJ:iS K "kind" "kind" Js A.y8 A.Bc
 tI:Binds K A.Bc ["word"] []
 qB:mg "kind"=some (.ref A.y8)
 wO:iS K "read" "Memory.read" tX A.ip A.kF
 pV:Binds K A.kF ["self","at"] []
 p8:Meth K A.dP "read" A.ip
 zP:iS K "get" "Hands.get" xl A.jX A.nT
 BK:Binds K A.nT ["self","hand"] []
 B7:Meth K A.eN "get" A.jX
 o_:iS K "want_standing" "Weak.want_standing" lH A.fT A.gy
 qf:Binds K A.gy ["self","name"] []
 qr:Meth K A.fw "want_standing" A.fT
 sF:iS K "want_hand" "Heap.want_hand" pN A.gA A.iz
 ue:Binds K A.iz ["self","hand"] []
 uC:Meth K A.eR "want_hand" A.gA
 rO:iS K "number_word" "number_word" t7 A.jz A.kK
 yu:Binds K A.kK ["n"] []
 pZ:mg "number_word"=some (.ref A.jz)
 tN:iS K "place_word" "place_word" vy A.kj A.mh
 zI:Binds K A.mh ["at"] []
 qQ:mg "place_word"=some (.ref A.kj)
 oN:iS K "worth" "worth" Gr A.uV A.x4
 sC:Binds K A.x4 ["word"] []
 p5:mg "worth"=some (.ref A.uV)
 vQ:iS K "write" "Memory.write" r0 A.g8 A.jQ
 iD:Binds K A.jQ ["self","at","word"] []
 iK:Meth K A.dP "write" A.g8
 yw:iS K "__init__" "Areas.__init__" vi A.jb A.lS
 zx:Binds K A.lS ["self","old_words","young_words"] []
 yx:iS K "write" "Book.write" vj A.jc A.lT
 uR:Binds K A.lT ["self","place"] []
 vf:Meth K A.eV "write" A.jc
 BZ:iS K "has" "Book.has" zh A.la A.pk
 yW:Binds K A.pk ["self","place"] []
 zd:Meth K A.eV "has" A.la
 zQ:iS K "put" "Hands.put" xm A.jY A.nU
 wu:Binds K A.nU ["self","hand","word"] []
 w4:Meth K A.eN "put" A.jY
 yz:iS K "give" "Lasts.give" vm A.je A.lV
 zA:Binds K A.lV ["self","at","number"] []
 Ah:Meth K A.fc "give" A.je
 yB:iS K "move" "Lasts.move" vo A.jg A.lX
 zC:Binds K A.lX ["self","ticket","at"] []
 Ai:Meth K A.fc "move" A.jg
 z3:iS K "name" "Weak.name" xA A.kb A.oh
 BR:Binds K A.oh ["self","at"] []
 Cb:Meth K A.fw "name" A.kb
 zZ:iS K "move" "Weak.move" xy A.ka A.og
 BQ:Binds K A.og ["self","name","at"] []
 Ca:Meth K A.fw "move" A.ka
 yC:iS K "__init__" "Roots.__init__" vp A.jh A.lY
 zD:Binds K A.lY ["self","many"] []
 zS:iS K "held" "Heap.held" xp A.j4 A.nW
 qc:Binds K A.nW ["self","hand"] []
 qo:Meth K A.eR "held" A.j4
 sG:iS K "want_make" "Heap.want_make" pO A.gB A.iA
 uf:Binds K A.iA ["self","hand","slots"] []
 uD:Meth K A.eR "want_make" A.gB
 qN:iS K "head_word" "head_word" xD A.lx A.oq
 wD:Binds K A.oq ["slots","age"] []
 qj:mg "head_word"=some (.ref A.lx)
 oI:iS K "head_number" "head_number" t5 A.jx A.kI
 tH:Binds K A.kI ["memory","at"] []
 mU:mg "head_number"=some (.ref A.jx)
 uY:iS K "stands_in" "stands_in" xG A.lB A.ox
 BV:Binds K A.ox ["memory","place","cells"] []
 sO:mg "stands_in"=some (.ref A.lB)
 B0:iS K "rub" "Book.rub" zi A.lb A.pv
 rA:Binds K A.pv ["self","place"] []
 rV:Meth K A.eV "rub" A.lb
 vR:iS K "starts" "Roots.starts" oV A.g9 A.jR
 wA:Binds K A.jR ["self"] []
 w6:Meth K A.eB "starts" A.g9
 rN:iS K "is_of_young" "is_of_young" t6 A.jy A.kJ
 yt:Binds K A.kJ ["areas","word"] []
 pY:mg "is_of_young"=some (.ref A.jy)
 zT:iS K "hold" "Heap.hold" xq A.j5 A.nX
 BM:Binds K A.nX ["self","hand","word"] []
 B9:Meth K A.eR "hold" A.j5
 vP:iS K "cell_of" "Heap.cell_of" rZ A.g7 A.jP
 kY:Binds K A.jP ["self","hand"] []
 lF:Meth K A.eR "cell_of" A.g7
 tM:iS K "_law_stray" "_law_stray" vx A.kh A.mf
 zH:Binds K A.mf ["_law_heap","_law_way","_law_at","_law_nowhere_here"] []
 qP:mg "_law_stray"=some (.ref A.kh)
 IQ:iS K "lay" "lay" Na A.Dk A.E4
 OU:Binds K A.E4 ["memory","at","slots"] []
 J1:mg "lay"=some (.ref A.Dk)
 ir:iS K "slots_of" "slots_of" zm A.nJ A.pC
 kg:Binds K A.pC ["memory","at"] []
 iG:mg "slots_of"=some (.ref A.nJ)
 x5:iS K "age_of" "age_of" DR A.rG A.uk
 C5:Binds K A.uk ["memory","at"] []
 wU:mg "age_of"=some (.ref A.rG)
 zU:iS K "__init__" "Heap.__init__" xr A.j6 A.nY
 BN:Binds K A.nY ["self","hands","old_words","young_words"] []
 zW:iS K "note" "Heap.note" xu A.j8 A.n6
 BO:Binds K A.n6 ["self","place","word"] []
 B_:Meth K A.eR "note" A.j8
 sI:iS K "words_of" "words_of" zo A.nK A.pE
 yY:Binds K A.pE ["memory","at"] []
 rQ:mg "words_of"=some (.ref A.nK)
 CM:iS K "aged" "aged" Jq A.y6 A.Ba
 IE:Binds K A.Ba ["memory","at","age"] []
 Dm:mg "aged"=some (.ref A.y6)
 tO:iS K "slot_place" "slot_place" vz A.km A.mj
 zJ:Binds K A.mj ["memory","at","slot"] []
 qR:mg "slot_place"=some (.ref A.km)
 oK:iS K "slot_places" "slot_places" t8 A.jA A.kL
 tJ:Binds K A.kL ["memory","at"] []
 mV:mg "slot_places"=some (.ref A.jA)
 qA:iS K "_law_nowhere" "_law_nowhere" r_ A.iE A.jT
 wC:Binds K A.jT ["_law_heap","_law_cells","_law_draw_here"] []
 oO:mg "_law_nowhere"=some (.ref A.iE)
 wR:iS K "children" "children" sf A.nG A.pz
 C7:Binds K A.pz ["memory","at"] []
 uZ:mg "children"=some (.ref A.nG)
 wQ:iS K "cells" "Space.cells" tY A.iq A.kG
 ij:Binds K A.kG ["self","memory"] []
 iw:Meth K A.dU "cells" A.iq
 sE:iS K "lay_into" "Areas.lay_into" pM A.gz A.iy
 pf:Binds K A.iy ["self","space","slots","age"] []
 pL:Meth K A.eu "lay_into" A.gz
 ur:iS K "place_of" "Heap.place_of" qE A.gQ A.iX
 vL:Binds K A.iX ["self","hand","slot"] []
 vU:Meth K A.eR "place_of" A.gQ
 m_:iS K "_law_planted" "_law_planted" se A.iF A.jU
 rC:Binds K A.jU ["_law_heap","_law_cells","_law_way","_law_at","_law_draw_here"] []
 lD:mg "_law_planted"=some (.ref A.iF)
 z4:iS K "walks" "walks" C1 A.uU A.xZ
 FE:Binds K A.xZ ["memory","space"] []
 z9:mg "walks"=some (.ref A.uU)
 uX:iS K "has_stray" "has_stray" oE A.lu A.oo
 BU:Binds K A.oo ["areas","roots"] []
 sN:mg "has_stray"=some (.ref A.lu)
 pH:iS K "wanted_places" "wanted_places" nB A.ie A.i4
 vO:Binds K A.i4 ["areas"] []
 ni:mg "wanted_places"=some (.ref A.ie)
 pG:iS K "has_wrong_age" "has_wrong_age" i7 A.ic A.iZ
 vN:Binds K A.iZ ["areas"] []
 ng:mg "has_wrong_age"=some (.ref A.ic)
 rK:iS K "lay_young" "Areas.lay_young" oS A.gm A.hV
 sA:Binds K A.hV ["self","slots"] []
 s9:Meth K A.eu "lay_young" A.gm
 uq:iS K "lay_old" "Areas.lay_old" qD A.gP A.iW
 vK:Binds K A.iW ["self","slots"] []
 vT:Meth K A.eu "lay_old" A.gP
 B1:iS K "put" "Heap.put" zj A.lh A.pw
 C4:Binds K A.pw ["self","hand","slot","word"] []
 DI:Meth K A.eR "put" A.lh
 oA:iS K "faults" "faults" DT A.rJ A.uo
 rD:Binds K A.uo ["areas","roots"] []
 oP:mg "faults"=some (.ref A.rJ)
 zV:iS K "make" "Heap.make" xt A.j7 A.nZ
 wz:Binds K A.nZ ["self","hand","slots"] []
 w5:Meth K A.eR "make" A.j7
 uW:iS K "_law_made" "_law_made" xC A.lr A.om
 BS:Binds K A.om ["_law_heap","_law_hand","_law_slots"] []
 sM:mg "_law_made"=some (.ref A.lr)
 rM:iS K "_law_filled" "_law_filled" tZ A.jw A.kH
 yr:Binds K A.kH ["_law_heap","_law_cell"] []
 pX:mg "_law_filled"=some (.ref A.jw)
 Mf:iS K "law" "law" Cg A.Hi A.JV
 z5:mg "Memory"=some (.ref A.dP)
 gf:Cq K A.dP
 yg:Mk K A.dP A.il
 iL:gG K A.dP "size"
 i5:gG K A.dP "words"
 x9:mg "Space"=some (.ref A.dU)
 fG:Cq K A.dU
 uE:Mk K A.dU A.ji
 hJ:gG K A.dU "begin"
 jr:gG K A.dU "end"
 gK:gG K A.dU "top"
 CO:mg "Areas"=some (.ref A.eu)
 eQ:Cq K A.eu
 Ao:Mk K A.eu A.jb
 d_:gG K A.eu "memory"
 fN:gG K A.eu "old"
 fE:gG K A.eu "young"
 oR:gG K A.eu "spare"
 FP:mg "Book"=some (.ref A.eV)
 jJ:Cq K A.eV
 CV:Mk K A.eV A.jW
 gS:gG K A.eV "written"
 CP:mg "Hands"=some (.ref A.eN)
 jO:Cq K A.eN
 Ap:Mk K A.eN A.jd
 hE:gG K A.eN "words"
 CQ:mg "Lasts"=some (.ref A.fc)
 ja:Cq K A.fc
 Aq:Mk K A.fc A.jf
 fQ:gG K A.fc "waiting"
 kC:gG K A.fc "spoken"
 FR:mg "Weak"=some (.ref A.fw)
 m8:Cq K A.fw
 CZ:Mk K A.fw A.j_
 ig:gG K A.fw "told"
 CS:mg "Roots"=some (.ref A.eB)
 f_:Cq K A.eB
 Ar:Mk K A.eB A.jh
 gJ:gG K A.eB "hands"
 gu:gG K A.eB "book"
 iN:gG K A.eB "weaks"
 iM:gG K A.eB "lasts"
 FQ:mg "Heap"=some (.ref A.eR)
 eU:Cq K A.eR
 CY:Mk K A.eR A.j6
 eP:gG K A.eR "roots"
 eT:gG K A.eR "areas"
 pT:Gv mg "NOTHING" (.int (-1))
 m7:Gv mg "MOST_NUMBER" (.int (1000000000000))
 rf:Gv mg "MOST_PLACE" (.int (9999))
 o7:Gv mg "MOST_SLOTS" (.int (8))
 lN:Gv mg "MOST_AGE" (.int (2))
 rg:Gv mg "MOST_WORDS" (.int (4000))
 kW:Gv mg "LEAST_OLD_WORDS" (.int (4))
 mE:Gv mg "MOST_OLD_WORDS" (.int (2000))
 jM:Gv mg "LEAST_YOUNG_WORDS" (.int (2))
 kB:Gv mg "MOST_YOUNG_WORDS" (.int (500))
 rd:Gv mg "MOST_HANDS" (.int (6))
 sL:mg "KeepError"=some (.ref A.nR)
 sJ:mg "BadNumber"=some (.ref A.i_)
 uv:mg "BadWord"=some (.ref A.iV)
 jC:mg "BadCount"=some (.ref A.fO)
 rl:mg "NoPlace"=some (.ref A.fB)
 z7:mg "NoRoom"=some (.ref A.jN)
 z8:mg "NoSlot"=some (.ref A.mR)
 uw:mg "NoCell"=some (.ref A.gH)
 z6:mg "NoHand"=some (.ref A.g6)
 pW:mg "NothingHeld"=some (.ref A.gF)
 ux:mg "NoName"=some (.ref A.k_)
 jF:yk K A.fO
 tF:yk K A.i_
 uK:yk K A.iV
 xV:yk K A.gH
 mq:PySem.W.exmOne K (.ref A.gH) (.ref A.gH)=some true
 AY:yk K A.g6
 uL:yk K A.k_
 rq:yk K A.fB
 AZ:yk K A.jN
 jK:PySem.W.exmOne K (.ref A.jN) (.ref A.nR)=some true
 A0:yk K A.mR
 qa:yk K A.gF
 nt:PySem.W.kitOne K (.type "NoneType") (.type "int")=some false
 my:PySem.W.kitOne K (.type "NoneType") (.type "bool")=some false
 sU:PySem.W.kitOne K (.type "bool") (.type "int")=some true
 qV:PySem.W.kitOne K (.type "bool") (.type "bool")=some true
 vd:PySem.W.kitOne K (.type "int") (.type "int")=some true
 sX:PySem.W.kitOne K (.type "int") (.type "bool")=some false
 ve:PySem.W.kitOne K (.type "str") (.type "int")=some false
 sZ:PySem.W.kitOne K (.type "str") (.type "bool")=some false
 sY:PySem.W.kitOne K (.type "list") (.type "int")=some false
 qX:PySem.W.kitOne K (.type "list") (.type "bool")=some false
 qY:PySem.W.kitOne K (.type "list") (.type "list")=some true
 qZ:PySem.W.kitOne K (.type "tuple") (.type "int")=some false
 p7:PySem.W.kitOne K (.type "tuple") (.type "bool")=some false
 sW:PySem.W.kitOne K (.type "dict") (.type "int")=some false
 qW:PySem.W.kitOne K (.type "dict") (.type "bool")=some false
 HG:mg "any"=none
 F5:mg "bool"=none
 s_:mg "enumerate"=none
 Fm:mg "int"=none
 mB:mg "isinstance"=none
 uF:mg "len"=none
 ze:mg "list"=none
 Ke:mg "max"=none
 yh:mg "range"=none
 xa:mg "sorted"=none
 Kf:mg "sum"=none
section
variable{P:Program}{w:World}{K:PySem.W.Frag}{mg:Str->Option Value}{base:Heap}{A:Ad}
theorem RE(T:Txt K mg A){H:Hp}{v:V}(h:Kn H v):∃t,QM H v=some t/\IA K H v/\PySem.W.kitOne K t (.type "int")=some (K4 v ||SN v)/\PySem.W.kitOne K t (.type "bool")=some (SN v):=by
 cases v with
 |gT=>exact⟨_,rfl,au,T.nt,T.my⟩
 |bl b=>exact⟨_,rfl,au,T.sU,T.qV⟩
 |int i=>exact⟨_,rfl,au,T.vd,T.sX⟩
 |str x=>exact⟨_,rfl,au,T.ve,T.sZ⟩
 |ref a=>
  rcases h with ⟨xs,e⟩|⟨xs,e⟩|⟨xs,e⟩
  ·exact⟨.type "list",by simp[QM,e],by simp[IA,e],T.sY,T.qX⟩
  ·exact⟨.type "tuple",by simp[QM,e],by simp[IA,e],T.qZ,T.p7⟩
  ·exact⟨.type "dict",by simp[QM,e],by simp[IA,e],T.sW,T.qW⟩
 |byt b=>exact h.elim
 |KU b=>exact h.elim
 |ty n=>exact h.elim
noncomputable def ke:Sp:=λvs H Q _=>∃v,vs=[v]/\Kn H v/\Q (.bl (K4 v)) H
theorem HY:dX ["thing"] ["thing"] (dM zl):=fsc
theorem tm{ca:Bool}(T:Txt K mg A):e_ P w K mg base (gY P w) ca 1 A.nI A.pB ["thing"] ke:=by
 refine T.oB.jD HY (λvs H Q E h=> ?_) (λcdv A' outer s H vs Q E hr hx h=> ?_)
 ·obtain⟨_,rfl,_⟩:=h
  rfl
 ·obtain⟨v,rfl,hk,q⟩:=h
  refine⟨_,ix.run (dF (d9 (uA (fI za (by rfl) T.mB PyProof.Rows.Boot.«isinstance» (dB (dE 0) (dB (F3 T.Fm PyProof.Rows.Boot.«int») dA))) (rR (Mu (fI za (by rfl) T.mB PyProof.Rows.Boot.«isinstance» (dB (dE 0) (dB (F3 T.F5 PyProof.Rows.Boot.«bool») dA)))))))),?_⟩
  obtain⟨t,h1,h2,h3,h4⟩:=RE T hk
  simp only[fW,Cn,Nh,AV,dN,dZ,tC,dQ,M7,PZ,eA,Int.reduceAdd,L2.start,aq,av,af,ak,List.replicate,az,aa,true_and,Nat.reduceAdd,aB,↓gb,h1,h2,h3,h4]
  cases v<;>simpa [K4,SN] using q
noncomputable def Bx:Sp:=λvs H Q _=>∃(l:Addr) (ks:List Int),vs=[.ref l]/\H l=some (.lst (ks.map V.int))/\ks.length<=5000/\∀d H' ks',dY H H'->H d=none->(∀z,z∈ks'↔z∈ks)->H' d=some (.dK (zK ks'))->Q (.ref d) H'
theorem Bv:dX ["places","among","at"] ["places"] (dM DS):=fsc
theorem Fo(T:Txt K mg A):e_ P w K mg base (gY P w) true 1 A.rH A.um ["places"] Bx:=by
 refine T.x8.jD Bv (λvs H Q E h=> ?_) (λcdv A' outer s H vs Q E hr hx h=> ?_)
 ·obtain⟨_,_,rfl,_⟩:=h
  rfl
 ·obtain⟨l,ks,rfl,h⟩:=h
  obtain⟨q,el,kl⟩:=A6 h
  refine⟨_,ix.run (dC (eK (i:=1) Bv.nd rfl lo zb)
   (dC (rS hx.own rfl (gg (dE 0)) (pI (i:=2) Bv.nd rfl lo)
    (dF (Aa (yI hr) (dE 1) (dE 2) vb rfl)))
   (dF (d9 (dE 1))))),?_⟩
  show gj _ _ _ [some (V.ref l),none,none] H
  refine eF (λσ' H'=>∃d,H d=none/\H' d=some (.dK [])/\dY H H'/\σ'=[some (V.ref l),some (V.ref d),none]) (λR hR=> ?_) ?_
  ·simp only[gh,eZ,D6,aE,aD]
   exact λd hd=>hR _ _ ⟨d,hd,dH,dY.upd hd,rfl⟩
  rintro Gq hGq _ H1 ⟨d,hd,ed,s1,rfl⟩
  subst hGq
  refine eF (λσ' H'=>∃ks' v,(∀z,z∈ks'↔z∈ks)/\H' d=some (.dK (zK ks'))/\dY H H'/\σ'=[some (V.ref l),some (V.ref d),v]) (λR hR=> ?_) ?_
  ·simp only[dQ,eA,tE,mH,aa,V.int.injEq,V.bl.injEq,V.str.injEq,V.ref.injEq,V.ty.injEq,ai,ah,exists_eq_left']
   refine⟨⟨_,iC.of (s1 _ _ el)⟩,oG.HC (xs:=ks.map V.int) (λi σ H'=>∃ks' v,(∀z,z∈ks'↔z∈ks.take i)/\ks'.length<=i/\H' d=some (.dK (zK ks'))/\dY H H'/\σ=[some (V.ref l),some (V.ref d),v]) ⟨[],_,by simp,aF _,ed,s1,rfl⟩ (λi σ H' _ ⟨_,_,_,_,_,s2,_⟩=>iC.of (s2 _ _ el)) ?_ ?_⟩
   ·rintro i x σ H2 hx' ⟨ks',v,m2,l2,e2,s2,rfl⟩ R2 hR2
    obtain⟨hi,rfl,tk⟩:=ints_get hx'
    simp only[tC,dQ,eZ,Dc,uB,aa,ae,aE,aD,e2,JK]
    refine⟨by rw[JJ];exact bI (aA (bW (bI l2 hi)) kl) (by decide),hR2 _ _ ⟨J5 ks' ks[i],_,λz=> ?_,?_,dH,s2.put hd,rfl⟩⟩
    ·rw[Am,m2,tk,bD,aU]
    ·unfold J5;split
     ·omega
     ·rw[aO];exact cu l2
   ·rintro σ H2 ⟨ks',v,m2,l2,e2,s2,rfl⟩
    rw[ax,bE]at m2
    exact hR _ _ ⟨ks',v,m2,e2,s2,rfl⟩
  rintro Gq hGq _ H2 ⟨ks',v,m2,e2,s2,rfl⟩
  subst hGq
  simp only[fW,dQ,aa,ae]
  exact q d H2 ks' s2 hd m2 e2
noncomputable def p9 (A:Ad):Sp:=λvs H Q _=>∃p dx b e,vs=[.ref p,.int b,.int e]/\H p=some (.ins A.dU dx [])/\Q .gT (upd H p (.ins A.dU dx (uN b e b)))
theorem EE:dX ["self","begin","end"] ["self","begin","end"] (dM vq):=fsc
theorem tS{ca:Bool}(T:Txt K mg A):e_ P w K mg base (gY P w) ca 1 A.ji A.lZ ["self","begin","end"] (p9 A):=by
 refine T.yD.jD EE (λvs H Q E h=> ?_) (λcdv A' outer s H vs Q E hr hx h=> ?_)
 ·obtain⟨_,_,_,_,rfl,_⟩:=h
  rfl
 ·obtain⟨p,dx,b,e,rfl,hp,q⟩:=h
  refine⟨_,ix.run (dC (gr (dE 0) (dE 1) rfl)
   (dC (gr (dE 0) (dE 2) rfl)
   (dF (gr (dE 0) (dE 1) rfl)))),?_⟩
  simp only[gj,dQ,eA,Int.reduceLT,Int.reduceEq,Nat.reduceLT,Int.reduceAdd,As,String.reduceEq,↓reduceIte,dH,oH,L2.start,aq,av,af,ak,List.replicate,az,aa,ae,true_and,Nat.reduceAdd,aB,hp,T.fG,T.hJ,T.jr,T.gK,gD,OO]
  exact q
noncomputable def ER (A:Ad):Sp:=λvs H Q _=>∃p dx b e t,vs=[.ref p]/\H p=some (.ins A.dU dx (uN b e t))/\Q (.int (e-t)) H
theorem EF:dX ["self"] ["self"] (dM vt):=fsc
theorem Es{ca:Bool}(T:Txt K mg A):e_ P w K mg base (gY P w) ca 1 A.jj A.l7 ["self"] (ER A):=by
 refine T.yE.jD EF (λvs H Q E h=> ?_) (λcdv A' outer s H vs Q E hr hx h=> ?_)
 ·obtain⟨_,_,_,_,_,rfl,_⟩:=h
  rfl
 ·obtain⟨p,dx,b,e,t,rfl,hp,q⟩:=h
  refine⟨_,ix.run (dF (d9 (dS nj (dI (dE 0) rfl) (dI (dE 0) rfl)))),?_⟩
  simp only[fW,gU,dQ,yn,eA,Int.reduceAdd,↓eJ,L2.start,aq,av,af,ak,List.replicate,az,aa,and_true,true_and,Nat.reduceAdd,aB,fU,kr,hp,T.fG,T.jr,T.gK,Kt,D0]
  exact q
noncomputable def ub (A:Ad):Sp:=λvs H Q _=>∃p dx b e t,vs=[.ref p]/\H p=some (.ins A.dU dx (uN b e t))/\Q (.int (t-b)) H
theorem EG:dX ["self"] ["self"] (dM vw):=fsc
theorem mZ{ca:Bool}(T:Txt K mg A):e_ P w K mg base (gY P w) ca 1 A.jl A.ma ["self"] (ub A):=by
 refine T.yG.jD EG (λvs H Q E h=> ?_) (λcdv A' outer s H vs Q E hr hx h=> ?_)
 ·obtain⟨_,_,_,_,_,rfl,_⟩:=h
  rfl
 ·obtain⟨p,dx,b,e,t,rfl,hp,q⟩:=h
  refine⟨_,ix.run (dF (d9 (dS nj (dI (dE 0) rfl) (dI (dE 0) rfl)))),?_⟩
  simp only[fW,gU,dQ,yn,eA,Int.reduceAdd,↓eJ,L2.start,aq,av,af,ak,List.replicate,az,aa,and_true,true_and,Nat.reduceAdd,aB,fU,kr,hp,T.fG,T.hJ,T.gK,Ks,D0]
  exact q
noncomputable def v5 (A:Ad):Sp:=λvs H Q _=>∃p dx b e t,vs=[.ref p]/\H p=some (.ins A.dU dx (uN b e t))/\Q (.int (e-b)) H
theorem CB:dX ["self"] ["self"] (dM r9):=fsc
theorem vW{ca:Bool}(T:Txt K mg A):e_ P w K mg base (gY P w) ca 1 A.g_ A.jS ["self"] (v5 A):=by
 refine T.vS.jD CB (λvs H Q E h=> ?_) (λcdv A' outer s H vs Q E hr hx h=> ?_)
 ·obtain⟨_,_,_,_,_,rfl,_⟩:=h
  rfl
 ·obtain⟨p,dx,b,e,t,rfl,hp,q⟩:=h
  refine⟨_,ix.run (dF (d9 (dS nj (dI (dE 0) rfl) (dI (dE 0) rfl)))),?_⟩
  simp only[fW,gU,dQ,yn,eA,Int.reduceAdd,↓eJ,L2.start,aq,av,af,ak,List.replicate,az,aa,and_true,true_and,Nat.reduceAdd,aB,fU,kr,hp,T.fG,T.jr,T.hJ,Kt,Ks]
  exact q
noncomputable def AK (A:Ad):Sp:=λvs H Q _=>∃p dx,vs=[.ref p]/\H p=some (.ins A.eV dx [])/\∀d H',H d=none->rz A.eV H' p d []->(∀y o,y≠p->H y=some o->H' y=some o)->Q .gT H'
theorem Gs:dX ["self"] ["self"] (dM xk):=fsc
theorem F7{ca:Bool}(T:Txt K mg A):e_ P w K mg base (gY P w) ca 1 A.jW A.nS ["self"] (AK A):=by
 refine T.zO.jD Gs (λvs H Q E h=> ?_) (λcdv A' outer s H vs Q E hr hx h=> ?_)
 ·obtain⟨_,_,rfl,_⟩:=h
  rfl
 ·obtain⟨p,dx,rfl,hp,h⟩:=h
  refine⟨_,ix.run (dF (gr (dE 0) zb rfl)),?_⟩
  simp only[dQ,D6,eA,Int.reduceAdd,oH,L2.start,aq,av,af,ak,List.replicate,az,aa,Nat.reduceAdd,aB]
  intro d hd
  have npd:=dD hp hd
  have e:upd H d (.dK []) p=some (.ins A.eV dx []):=by rw[dO npd];exact hp
  simp only[Int.reduceLT,Nat.reduceLT,ak,true_and,e,T.jJ,T.gS,Pe]
  exact h d _ hd ⟨⟨dx,dH⟩,by rw[dO (aj npd),dH];rfl⟩ λy o hy e=>by rw[dO hy,dO (dD e hd)];exact e
theorem G6:∀{ks:List Int},Dt (zK ks)=some ks
 | []=>rfl
 |k::r=>by show(Dt (zK r)).map _=_;rw[G6];rfl
noncomputable def xK (A:Ad):Sp:=λvs H Q _=>∃p d ks,vs=[.ref p]/\rz A.eV H p d ks/\ks.length<64/\∀l,H l=none->Q (.ref l) (upd H l (.lst ((kR ks).map V.int)))
theorem DU:dX ["self"] ["self"] (dM tV):=fsc
theorem xb(T:Txt K mg A):e_ P w K mg base (gY P w) true 1 A.ik A.kD ["self"] (xK A):=by
 refine T.wM.jD DU (λvs H Q E h=> ?_) (λcdv A' outer s H vs Q E hr hx h=> ?_)
 ·obtain⟨_,_,_,rfl,_⟩:=h
  rfl
 ·obtain⟨p,d,ks,rfl,h⟩:=h
  obtain⟨h,m,hl⟩:=A6 h
  refine⟨_,ix.run (dF (d9 (fI (B2 (by rfl)) (by rfl) T.xa PyProof.Rows.Boot.«sorted» (dB (dI (dE 0) rfl) dA)))),?_⟩
  obtain⟨dx,e⟩:=m.ob
  simp only[fW,AV,dN,dZ,dQ,eA,Int.reduceAdd,↓eJ,L2.start,wH,aq,av,af,ak,List.replicate,az,aa,and_true,true_and,Nat.reduceAdd,aB,fU,kr,e,T.jJ,T.gS,JD,m.dc,G6]
  exact⟨hl,h⟩
noncomputable def AN (A:Ad):Sp:=λvs H Q _=>∃p q ws,vs=[.ref p]/\A4 A.eN H p q ws/\∀l,H l=none->Q (.ref l) (upd H l (.lst (ws.map V.int)))
theorem Gx:dX ["self"] ["self"] (dM xn):=fsc
theorem F9{ca:Bool}(T:Txt K mg A):e_ P w K mg base (gY P w) ca 1 A.jZ A.nV ["self"] (AN A):=by
 refine T.zR.jD Gx (λvs H Q E h=> ?_) (λcdv A' outer s H vs Q E hr hx h=> ?_)
 ·obtain⟨_,_,_,rfl,_⟩:=h
  rfl
 ·obtain⟨p,q,ws,rfl,m,h⟩:=h
  refine⟨_,ix.run (dF (d9 (qS Ht (by rfl) T.ze PyProof.Rows.Boot.«list» (dB (dI (dE 0) rfl) dA)))),?_⟩
  obtain⟨dx,e⟩:=m.ob
  simp only[fW,AV,dN,dZ,dQ,eA,Int.reduceAdd,G9,↓eJ,L2.start,aq,av,af,ak,List.replicate,az,aa,and_true,true_and,Nat.reduceAdd,aB,fU,kr,e,T.jO,T.hE,J3,m.ls]
  exact h
noncomputable def yP (A:Ad):Sp:=λvs H Q _=>∃p dx,vs=[.ref p]/\H p=some (.ins A.fc dx [])/\∀d q H',H d=none->H q=none->(∀y o,y≠p->H y=some o->H' y=some o)->jG A.fc H' p d q [] [] []->Q .gT H'
theorem EB:dX ["self"] ["self"] (dM vn):=fsc
theorem Eo{ca:Bool}(T:Txt K mg A):e_ P w K mg base (gY P w) ca 1 A.jf A.lW ["self"] (yP A):=by
 refine T.yA.jD EB (λvs H Q E h=> ?_) (λcdv A' outer s H vs Q E hr hx h=> ?_)
 ·obtain⟨_,_,rfl,_⟩:=h
  rfl
 ·obtain⟨p,dx,rfl,hp,h⟩:=h
  refine⟨_,ix.run (dC (gr (dE 0) zb rfl)
   (dF (gr (dE 0) (gC dA) rfl))),?_⟩
  simp only[gj,dZ,dQ,qw,D6,eA,Int.reduceAdd,oH,L2.start,aq,av,af,ak,List.replicate,az,aa,true_and,Nat.reduceAdd,aB,Ng]
  intro d hd
  have npd:=dD hp hd
  have e:upd H d (.dK []) p=some (.ins A.fc dx []):=by rw[dO npd];exact hp
  simp only[Int.reduceLT,Nat.reduceLT,ak,true_and,e,T.ja,T.fQ]
  intro q hq
  have nqp:q≠p:=λz=>by rw[z,dH]at hq;cases hq
  have nqd:q≠d:=λz=>by rw[z,dO (aj npd),dH]at hq;cases hq
  have hq0:H q=none:=by rw[dO nqp,dO nqd]at hq;exact hq
  rw[dO (aj nqp),dH]
  simp only[true_and,T.ja,T.kC,P0]
  refine⟨N5,h d q _ hd hq0 (λy o hy e=> ?_) ⟨⟨dx,dH⟩,?_,?_,rfl,(λe he=>by cases he),rfl⟩⟩
  ·rw[dO hy,dO (dD e hq0),dO hy,dO (dD e hd)];exact e
  ·rw[dO (aj npd),dO (aj nqd),dO (aj npd),dH];rfl
  ·rw[dO nqp,dH];rfl
theorem OM{es:List We}{ws:List (Option (Int×Int))}(h:es.map We.x=jv 0 ws){n:Nat}{v:V}(hv:((es.map We.t).map V.int)[n]? =some v):∃e∈es,v= .int e.t/\pd ws (.int e.t)=some (e.p,e.n)/\(jv 0 ws).take (n+1)=(jv 0 ws).take n++[e.x]:=by
 rw[bb,bb]at hv
 obtain⟨t,ht,rfl⟩:=Option.map_eq_some_iff.mp hv
 obtain⟨e,he,rfl⟩:=Option.map_eq_some_iff.mp ht
 refine⟨e,cN he,rfl,?_,?_⟩
 ·have f:=Ki (ws:=ws) (i:=e.t)
  have g:(jv 0 ws).find? (λx=>decide (x.1=e.t))=some e.x:=by
   rw[←h]
   exact Ls h (cN he)
  rw[g]at f
  cases hp:pd ws (.int e.t) with
  |none=>rw[hp]at f;cases f
  |some y=>rw[hp]at f;have:=congrArg (λo=>o.map (·.2)) f;exact congrArg some (by have:=this.symm;simp[We.x]at this;exact Prod.ext this.1 this.2)
 ·rw[←h,bM,bb,he];rfl
noncomputable def uH (A:Ad):Sp:=λvs H Q _=>∃p d q ws sp es,vs=[.ref p]/\jG A.fc H p d q ws sp es/\ws.length<64/\∀l as H',dY H H'->H l=none->H' l=some (.lst as)->yU H' as (jv 0 ws)->Q (.ref l) H'
theorem Bu:dX ["self"] ["self"] (dM nA):=fsc
theorem Bm(T:Txt K mg A):e_ P w K mg base (gY P w) true 1 A.gR A.iY ["self"] (uH A):=by
 refine T.uu.jD Bu (λvs H Q E h=> ?_) (λcdv A' outer s H vs Q E hr hx h=> ?_)
 ·obtain⟨_,_,_,_,_,_,rfl,_⟩:=h
  rfl
 ·obtain⟨p,d,q,ws,sp,es,rfl,h⟩:=h
  obtain⟨h,m,hl⟩:=A6 h
  refine⟨_,ix.run (dF (d9 (mw (fsc:=dM nA) (N2:=["self"]) (js:=[0]) ⟨rfl,rfl,by decide+kernel,by decide+kernel,by decide+kernel,by decide+kernel,by decide+kernel,by decide+kernel,by decide+kernel⟩ rfl rfl (by rfl) (gg (fI (B2 (by rfl)) (by rfl) T.xa PyProof.Rows.Boot.«sorted» (dB (dI (dE 0) rfl) dA))) (λ_ _ _ _=>ky) (λ_ _ _ _=>(dS Mp (wY (dB (dE 0) dA)) (Hr (by exact yI hr) (Ab (K:=K) rfl (dE 1) rfl) (dE 0) (λ_ _=>rfl))))))),?_⟩
  obtain⟨dx,e⟩:=m.ob
  have ll:=m.ln
  simp only[fW,AV,dN,dZ,dQ,eA,Int.reduceAdd,qv,pj,mH,↓eJ,L2.start,wH,aq,av,af,ak,List.replicate,az,aa,V.int.injEq,V.bl.injEq,V.str.injEq,V.ref.injEq,V.ty.injEq,ai,ah,and_true,true_and,exists_eq_left',Nat.reduceAdd,aB,fU,kr,e,T.ja,T.fQ,DF,m.dc,Io,m.sorted,ax]
  refine⟨by omega,λl0 hl0=> ?_⟩
  have s0:dY H (upd H l0 (.lst ((es.map We.t).map V.int))):=dY.upd hl0
  have d0:upd H l0 (.lst ((es.map We.t).map V.int)) l0=some (.lst ((es.map We.t).map V.int)):=dH
  generalize upd H l0 (.lst ((es.map We.t).map V.int))=H1 at*
  refine⟨⟨_,iC.of d0⟩,Hc (xs:=(es.map We.t).map V.int) (λn ys H'=>dY H1 H'/\yU H' ys ((jv 0 ws).take n)/\ys.length<=n) ⟨dY.refl _,.nil,aF _⟩ (λn ys H' hP=>iC.of (hP.1 _ _ d0)) (by rw[ax,ax];exact aA (show es.length<=64 by omega) (by decide)) (λn ys H' hP=>hP.2.2) (λn x ys H' hx' hP K1 hK=> ?_) λys H' hP l hl'=> ?_⟩
  ·obtain⟨s1,hp,hy⟩:=hP
   obtain⟨r,hr,rfl,hpd,tk⟩:=OM m.xs hx'
   have m1:=m.same (s0.trans s1)
   have e1:=(s0.trans s1) _ _ e
   obtain⟨r',hr',t1,t2,t3,t4⟩:=m1.find hpd
   have tr:=m1.tp r' hr'
   simp only[gU,dN,dZ,dQ,Jy,JL,Int.reduceAdd,↓reduceIte,Lr,↓eJ,JM,uB,af,ak,aa,ae,true_and,Nat.reduceAdd,uO,fU,kr,bJ]
   intro p1 h1
   have s2:dY H' (upd H' p1 (.tup [.int r.t])):=dY.upd h1
   have d2:upd H' p1 (.tup [.int r.t]) p1=some (.tup [.int r.t]):=dH
   generalize upd H' p1 (.tup [.int r.t])=H2 at*
   have e2:=s2 _ _ e1
   have dc2:=s2 _ _ m1.dc
   have tr2:=s2 _ _ tr
   simp only[Int.reduceAdd,af,ak,aJ,aN,and_true,true_and,Nat.reduceAdd,TY,e2,T.ja,T.fQ,DF,dc2,t4,d2,tr2,af,ak,aJ,aN]
   refine⟨List.cons_ne_nil _ _,List.cons_ne_nil _ _,λp2 h2=>hK _ _ ⟨(s1.trans s2).trans (dY.upd h2),?_,by rw[aO];exact cu hy⟩⟩
   rw[tk]
   refine((hp.same s2).same (dY.upd h2)).snoc ?_
   rw[dH,t2,t3];rfl
  ·rw[ax,ax,show es.length=(jv 0 ws).length by rw[←m.xs,ax],bE]at hP
   exact h l ys _ ((s0.trans hP.1).trans (dY.upd hl')) ((s0.trans hP.1).free hl') dH (hP.2.1.same (dY.upd hl'))
noncomputable def AS (A:Ad):Sp:=λvs H Q _=>∃p dx,vs=[.ref p]/\H p=some (.ins A.fw dx [])/\∀d,H d=none->Q .gT (upd (upd H d (.lst [])) p (.ins A.fw dx (G2 d)))
theorem GD:dX ["self"] ["self"] (dM xx):=fsc
theorem Ge{ca:Bool}(T:Txt K mg A):e_ P w K mg base (gY P w) ca 1 A.j_ A.oa ["self"] (AS A):=by
 refine T.zY.jD GD (λvs H Q E h=> ?_) (λcdv A' outer s H vs Q E hr hx h=> ?_)
 ·obtain⟨_,_,rfl,_⟩:=h
  rfl
 ·obtain⟨p,dx,rfl,hp,q⟩:=h
  refine⟨_,ix.run (dF (gr (dE 0) (gC dA) rfl)),?_⟩
  simp only[dZ,dQ,qw,eA,Int.reduceAdd,oH,L2.start,aq,av,af,ak,List.replicate,az,aa,true_and,Nat.reduceAdd,aB,Ng]
  intro d hd
  have e:upd H d (.lst []) p=some (.ins A.fw dx []):=by rw[dO (dD hp hd)];exact hp
  simp only[Int.reduceLT,Nat.reduceLT,ak,true_and,e,T.m8,T.ig,QP]
  exact q d hd
noncomputable def yS (A:Ad):Sp:=λvs H Q _=>∃p q os,vs=[.ref p]/\uQ A.fw H p q os/\os.length<=1000/\∀l as H',dY H H'->H l=none->H' l=some (.lst as)->v8 H' as (HP 0 os)->Q (.ref l) H'
theorem EH:dX ["self"] ["self"] (dM ra):=fsc
theorem Eu(T:Txt K mg A):e_ P w K mg base (gY P w) true 1 A.jm A.me ["self"] (yS A):=by
 refine T.yH.jD EH (λvs H Q E h=> ?_) (λcdv A' outer s H vs Q E hr hx h=> ?_)
 ·obtain⟨_,_,_,rfl,_⟩:=h
  rfl
 ·obtain⟨p,q,os,rfl,h⟩:=h
  obtain⟨h,m,hl⟩:=A6 h
  refine⟨_,ix.run (dF (d9 (DA (fsc:=dM ra) (N2:=[]) (js:=[]) ⟨rfl,rfl,by decide+kernel,by decide+kernel,by decide+kernel,by decide+kernel,by decide+kernel,by decide+kernel,by decide+kernel⟩ rfl rfl (by rfl) (K8 rfl T.s_ (dB (dI (dE 0) rfl) dA)) (λ_ _ _ _=>(pJ (eC K6 (dE 1) DB (fk _)))) (λ_ _ _ _=>(wY (dB (dE 0) (dB (dE 1) dA))))))),?_⟩
  obtain⟨dx,e⟩:=m.ob
  simp only[fW,dN,dZ,dQ,eA,Int.reduceAdd,pj,↓eJ,L2.start,Mn,GV,aq,av,af,ak,List.replicate,az,aa,and_true,true_and,Nat.reduceAdd,aB,fU,kr,e,T.m8,T.ig,Im]
  refine⟨⟨_,iC.of m.ls⟩,FJ (λi ys H'=>dY H H'/\v8 H' ys (HP 0 (os.take i))/\ys.length<=i) ⟨dY.refl _,au,aF _⟩ (λi ys H' hP=>iC.of (hP.1 _ _ m.ls)) (by rw[BE];exact aA hl (by decide)) (λi ys H' hP=>hP.2.2) (λi x ys H' hx' hP p1 hp1 K1 hK=> ?_) λys H' hP l hl'=> ?_⟩
  ·obtain⟨s1,hp,hy⟩:=hP
   rw[bb]at hx'
   obtain⟨o,ho,rfl⟩:=Option.map_eq_some_iff.mp hx'
   have tk:os.take (i+1)=os.take i++[o]:=by rw[bM,ho];rfl
   have hi:=(List.getElem?_eq_some_iff.mp ho).1
   have hlt:(os.take i).length=i:=by rw[bp];omega
   cases o with
   |none=>
    simp only[gp,gU,tC,dQ,Dd,Dx,↓reduceIte,Bool.not_true,aa,ae,aH,↓gb,tv]
    refine hK _ _ ⟨s1.trans (dY.upd hp1),?_,by omega⟩
    rw[tk,AD,az]
    exact hp.same (dY.upd hp1)
   |some y=>
    simp only[gp,gU,dN,dZ,tC,dQ,Jy,Dd,Dx,Int.reduceAdd,↓reduceIte,Bool.not_false,af,ak,aa,ae,true_and,Nat.reduceAdd,R_,↓gb,tv]
    intro p2 hp2
    refine hK _ _ ⟨(s1.trans (dY.upd hp1)).trans (dY.upd hp2),?_,by rw[aO];exact cu hy⟩
    rw[tk,AD,hlt]
    exact v8.snoc (by rw[dH,Nat.zero_add]) (hp.same ((dY.upd hp1).trans (dY.upd hp2)))
  ·rw[BE,bE]at hP
   exact h l ys _ (hP.1.trans (dY.upd hl')) (hP.1.free hl') dH (hP.2.1.same (dY.upd hl'))
noncomputable def wj (X:HA) (W:WA) (H H':Hp):Prop:=∀b o,H b=some o->b≠X.q->b≠X.qh->b≠X.o->b≠X.y->b≠X.d->b≠W.wq->b≠W.ld->b≠W.lq->H' b=some o
theorem wj.same{X:HA}{W:WA}{H H':Hp}(s:dY H H'):wj X W H H':=λb o e _ _ _ _ _ _ _ _=>s b o e
theorem wj.trans{X:HA}{W:WA}{H H1 H2:Hp}(a:wj X W H H1)(b:wj X W H1 H2):wj X W H H2:=λc o e h1 h2 h3 h4 h5 h6 h7 h8=>b c o (a c o e h1 h2 h3 h4 h5 h6 h7 h8) h1 h2 h3 h4 h5 h6 h7 h8
structure Wd(A:Ad)(H:Hp)(X:HA)(W:WA)(S:HS)(os:List (Option Int))(ts:List (Option (Int×Int))):Prop where
 g:i8 A.eR A.eB A.eN A.eV A.eu A.dP A.dU H X S
 wl:A5 A.eB A.fw A.fc H X.r X.h X.b W os ts []
 ap:So X W
section
variable{A:Ad}{H H':Hp}{X:HA}{W:WA}{S S':HS}{os os':List (Option Int)}{ts ts':List (Option (Int×Int))}{l:Addr}{zs:List V}
theorem Wd.same(m:Wd A H X W S os ts)(s:dY H H'):Wd A H' X W S os ts:=⟨m.g.same s,m.wl.same s,m.ap⟩
theorem Wd.lst(m:Wd A H X W S os ts)(f:wj X W H H')(e:H l=some (.lst zs))(n:l≠X.q/\l≠X.qh/\l≠W.wq/\l≠W.lq):H' l=some (.lst zs):=by
 obtain⟨d4,e4⟩:=m.g.ar.old
 obtain⟨d5,e5⟩:=m.g.ar.BH
 obtain⟨es,ml⟩:=m.wl.ls
 exact f l _ e n.1 n.2.1 (aj (fD e4 e)) (aj (fD e5 e)) (mK e m.g.rt.bk.dc) n.2.2.1 (mK e ml.dc) n.2.2.2
theorem Wd.own(m:Wd A H X W S os ts)(h:H l=none):l≠X.q/\l≠X.qh/\l≠W.wq/\l≠W.lq:=by
 obtain⟨es,ml⟩:=m.wl.ls
 exact⟨aj (dD m.g.ar.mem.ls h),aj (dD m.g.rt.hd.ls h),aj (dD m.wl.wk.ls h),aj (dD ml.sq h)⟩
theorem Wd.heap(m:Wd A H X W S os ts)(g:i8 A.eR A.eB A.eN A.eV A.eu A.dP A.dU H' X S')(k:∀b o,H b=some o->b≠X.q->b≠X.qh->b≠X.o->b≠X.y->b≠X.d->H' b=some o):Wd A H' X W S' os ts/\wj X W H H':=
 ⟨⟨g,m.wl.heap m.g m.ap k,m.ap⟩,λb o e h1 h2 h3 h4 h5 _ _ _=>k b o e h1 h2 h3 h4 h5⟩
theorem Wd.free(m:Wd A H X W S os ts)(m':Wd A H' X W S' os' ts')(f:wj X W H H')(h:H' l=none):H l=none:=by
 cases e:H l with
 |none=>rfl
 |some o=>
  have o':=m'.own h
  obtain⟨d4,e4⟩:=m'.g.ar.old
  obtain⟨d5,e5⟩:=m'.g.ar.BH
  obtain⟨es,ml⟩:=m'.wl.ls
  have:=f l o e o'.1 o'.2.1 (aj (dD e4 h)) (aj (dD e5 h)) (aj (dD m'.g.rt.bk.dc h)) o'.2.2.1 (aj (dD ml.dc h)) o'.2.2.2
  rw[h]at this;cases this
theorem i8.RD(g:i8 A.eR A.eB A.eN A.eV A.eu A.dP A.dU H X S){d:Addr}{kv:List (Key×V)}(e:H l=some (.lst zs))(n1:l≠X.qh)(n2:l≠X.q)(ed:H d=some (.dK kv))(n3:d≠X.d)(k:∀b o,b≠d->b≠l->H b=some o->H' b=some o):i8 A.eR A.eB A.eN A.eV A.eu A.dP A.dU H' X S:=by
 obtain⟨d0,e0⟩:=g.ob
 obtain⟨d1,w1,l1,e1⟩:=g.rt.ob
 obtain⟨d2,e2⟩:=g.rt.hd.ob
 obtain⟨d3,e3⟩:=g.rt.bk.ob
 exact{g with
  ob:=⟨d0,k _ _ (iH e0 ed) (fD e0 e) e0⟩
  rt:=⟨⟨d1,w1,l1,k _ _ (iH e1 ed) (fD e1 e) e1⟩,⟨⟨d2,k _ _ (iH e2 ed) (fD e2 e) e2⟩,k _ _ (mK g.rt.hd.ls ed) (aj n1) g.rt.hd.ls⟩,⟨⟨d3,k _ _ (iH e3 ed) (fD e3 e) e3⟩,k _ _ (aj n3) (aj (mK e g.rt.bk.dc)) g.rt.bk.dc⟩⟩
  ar:=g.ar.keep λb x eb hb=>k b x (g.ar.nd ed hb) (g.ar.nl e n2 hb) eb}
theorem Wd.weak(m:Wd A H X W S os ts):Wd A (upd H W.wq (.lst (os'.map tv))) X W S os' ts/\wj X W H (upd H W.wq (.lst (os'.map tv))):=by
 have k:∀b o,H b=some o->b≠W.wq->upd H W.wq (.lst (os'.map tv)) b=some o:=λb o e n=>by rw[dO n];exact e
 obtain⟨d0,e0⟩:=m.wl.ob
 obtain⟨es,ml⟩:=m.wl.ls
 obtain⟨d2,e2⟩:=ml.ob
 refine⟨⟨m.g.O0 m.wl.wk.ls m.ap.wq.2 m.ap.wq.1 k,⟨⟨d0,k _ _ e0 (fD e0 m.wl.wk.ls)⟩,m.wl.wk.put,⟨es,⟨⟨d2,k _ _ e2 (fD e2 m.wl.wk.ls)⟩,k _ _ ml.dc (aj (mK m.wl.wk.ls ml.dc)),k _ _ ml.sq (aj m.wl.ne),ml.xs,λe he=> ?_,ml.ln⟩⟩,m.wl.ne⟩,m.ap⟩,λb o e _ _ _ _ _ n _ _=>k b o e n⟩
 have t:=ml.tp e he
 exact k _ _ t λz=>by rw[z,m.wl.wk.ls]at t;cases t
theorem Wd.last(m:Wd A H X W S os ts){es':List We}(ml':jG A.fc H' W.l W.ld W.lq ts' [] es')(ko:Out W.ld W.lq H H'):Wd A H' X W S os ts'/\wj X W H H':=by
 obtain⟨es,ml⟩:=m.wl.ls
 obtain⟨d0,e0⟩:=m.wl.ob
 obtain⟨d1,e1⟩:=m.wl.wk.ob
 exact⟨⟨i8.RD m.g ml.sq m.ap.lq.2 m.ap.lq.1 ml.dc m.ap.ld λb o h1 h2 e=>ko b o h1 h2 e,⟨⟨d0,ko _ _ (iH e0 ml.dc) (fD e0 ml.sq) e0⟩,⟨⟨d1,ko _ _ (iH e1 ml.dc) (fD e1 ml.sq) e1⟩,ko _ _ (mK m.wl.wk.ls ml.dc) m.wl.ne m.wl.wk.ls⟩,⟨es',ml'⟩,m.wl.ne⟩,m.ap⟩,λb o e _ _ _ _ _ _ h1 h2=>ko b o h1 h2 e⟩
end
noncomputable def cat (ns:List Int) (k:Int):Int:=ns.getD k.toNat 0
theorem LR{ns:List Int}{k:Int}(h0:0<=k)(h:k<(ns.map V.int).length):FD (ns.map V.int) k=some (.int (cat ns k)):=by
 obtain⟨n,rfl⟩:∃n:Nat,k=n:=⟨k.toNat,by omega⟩
 rw[ax]at h
 refine JC ?_
 rw[bb,aG (by omega)]
 simp only[cat,Int.toNat_natCast,cT,aL,aG (show n<ns.length by omega),dk]
theorem NJ{ns:List Int}{k:Int}(h0:0<=k)(h:¬k<(ns.map V.int).length):cat ns k=0:=by
 rw[ax]at h
 unfold cat
 rw[aL,cg (by omega)]
 rfl
noncomputable def rb (K:PySem.W.Frag):Sp:=λvs H Q _=>∃a ns k,vs=[.ref a,.int k]/\iC K H a (ns.map V.int)/\0<=k/\Q (.int (cat ns k)) H
theorem GH:dX ["_law_script","_law_k"] ["_law_script","_law_k"] (dM xB):=fsc
theorem mC{ca:Bool}(T:Txt K mg A):e_ P w K mg base (gY P w) ca 1 A.lj A.oj ["_law_script","_law_k"] (rb K):=by
 refine T.jn.jD GH (λvs H Q E h=> ?_) (λcdv A' outer s H vs Q E hr hx h=> ?_)
 ·obtain⟨_,_,_,rfl,_⟩:=h
  rfl
 ·obtain⟨a,ns,k,rfl,h⟩:=h
  obtain⟨q,hS,h0⟩:=A6 h
  refine⟨_,ix.run (dF (d9 (zc (eC Bf (fI Ms (by rfl) T.uF PyProof.Rows.Boot.«len» (dB (dE 0) dA)) (dE 1) (fk _)) (qT NW (dE 0) (dE 1) (λ_ _=>rfl)) dJ))),?_⟩
  simp only[fW,gp,gU,Sa,AV,dN,dZ,tC,dQ,NB,qz,ND,JQ,eA,Int.reduceAdd,L2.start,aq,av,af,ak,List.replicate,az,aa,ae,decide_eq_true_eq,Nat.reduceAdd,aB,↓gb]
  refine⟨_,hS,?_⟩
  split<;>rename_i h
  ·refine⟨_,hS,?_⟩
   rw[LR h0 h];exact q
  ·rw[NJ h0 h]at q;exact q
noncomputable def fg:Sp:=λvs H Q _=>∃v a b,vs=[v,.int a,.int b]/\Kn H v/\Q (.bl (wi v a b)) H
theorem GL:dX ["thing","least","most"] ["thing","least","most"] (dM xF):=fsc
theorem fV{ca:Bool}(T:Txt K mg A):e_ P w K mg base (gY P w) ca 2 A.lA A.ou ["thing","least","most"] fg:=by
 refine T.fH.jD GL (λvs H Q E h=> ?_) (λcdv A' outer s H vs Q E hr hx h=> ?_)
 ·obtain⟨_,_,_,rfl,_⟩:=h
  rfl
 ·obtain⟨v,a,b,rfl,hk,q⟩:=h
  refine⟨_,ix.run (dF (d9 (uA (dG ((tm T).mono (by decide)) hr rfl T.nL T.oB.kp T.rE hx (dB (dE 0) dA)) (rR (IX F0 F0 (dE 1) (dE 0) (dE 2)))))),?_⟩
  simp only[fW,Cn,dN,dZ,dQ,dR,Q2,qz,Jw,Int.reduceAdd,L2.start,aq,av,af,ak,List.replicate,az,aa,ae,V.int.injEq,V.bl.injEq,V.str.injEq,V.ref.injEq,V.ty.injEq,ai,ah,and_true,exists_eq_left',decide_eq_true_eq,Nat.reduceAdd,aB,↓gb,ke]
  refine⟨hk,?_⟩
  cases v<;>simp only[K4,wi]at q⊢<;>simp only[↓reduceIte,aH]<;>try exact q
  split<;>rename_i h<;>simpa [h] using q
noncomputable def yR (A:Ad):Sp:=λvs H Q E=>∃p dx b e t v,vs=[.ref p,v]/\H p=some (.ins A.dU dx (uN b e t))/\Kn H v/\
 if K4 v=true/\1<=iv v then(if iv v<=e-t then Q (.int t) (upd H p (.ins A.dU dx (uN b e (t+iv v)))) else E (.ref A.jN) none H) else E (.ref A.fO) none H
theorem yL:dX ["self","many","at"] ["self","many"] (dM vv):=fsc
theorem Et(T:Txt K mg A):e_ P w K mg base (gY P w) true 2 A.jk A.l_ ["self","many"] (yR A):=by
 refine T.yF.jD yL (λvs H Q E h=> ?_) (λcdv A' outer s H vs Q E hr hx h=> ?_)
 ·obtain⟨_,_,_,_,_,_,rfl,_⟩:=h
  rfl
 ·obtain⟨p,dx,b,e,t,v,rfl,h⟩:=h
  obtain⟨q,hp,hk⟩:=A6 h
  refine⟨_,ix.run (dC (eX (kS (qU (gs (eW (dG ((tm T).mono (by decide)) hr rfl T.nL T.oB.kp T.rE hx (dB (dE 1) dA)) (λ_=>rfl))) (rT (eC va (dE 1) dJ (fk _))))) (dF (fu hx rfl T.jC T.jF rfl (dB eO dA))) eG)
   (dC (eX (eC Bf (dE 1) (h_ (dE 0) T.fG T.Aj ((Es T).mono (by decide)) hr T.zE hx) (fk _)) (dF (fu hx rfl T.z7 T.AZ rfl (dB eO dA))) eG)
   (dC (eK (i:=2) yL.nd rfl lo (dI (dE 0) rfl))
   (dC (gr (dE 0) (dS fM (dE 2) (dE 1)) rfl)
   (dF (d9 (dE 2))))))),?_⟩
  cases hi:K4 v with
  |false=>
   refine ib (λ_ _=>False) (λR _=> ?_) (λ_ _ z=>z.elim)
   simp only[gc,gO,gp,gU,Kw,nQ,dN,dZ,tC,dQ,dR,gi,LH,qz,jH,Int.reduceAdd,Int.reduceSub,↓reduceIte,aM,L2.start,aq,av,af,ak,List.replicate,aJ,aN,aa,ae,V.int.injEq,V.bl.injEq,V.str.injEq,V.ref.injEq,V.ty.injEq,ai,ah,and_true,true_and,exists_eq_left',exists_eq_left,decide_eq_true_eq,Nat.reduceSub,Nat.reduceAdd,uO,↓gb,ke,hi]
   rw[if_neg (by rw[hi];rintro⟨z,_⟩;cases z)]at q
   exact⟨hk,q⟩
  |true=>
   obtain⟨n,rfl⟩:=FX hi
   have st:start ["self","many","at"] [V.ref p,V.int n]=[some (V.ref p),some (V.int n),none]:=rfl
   rw[st]
   by_cases h1:n<1
   ·rw[if_neg (by rintro⟨_,z⟩;have:(1:Int)<=n:=z;omega)]at q
    refine ib (λ_ _=>False) (λR _=> ?_) (λ_ _ z=>z.elim)
    simp only[gO,gp,gU,Kw,nQ,dN,dZ,tC,dQ,dR,gi,LH,qz,jH,Int.reduceAdd,↓reduceIte,aM,decide_true,bc,af,ak,aa,ae,V.int.injEq,V.bl.injEq,V.str.injEq,V.ref.injEq,V.ty.injEq,ai,ah,and_true,true_and,exists_eq_left',exists_eq_left,Nat.reduceAdd,uO,↓gb,ke,NU,TJ,h1]
    exact q
   ·rw[if_pos ⟨hi,(by show(1:Int)<=n;omega)⟩]at q
    refine eF (λσ' H'=>H=H'/\σ'=[some (V.ref p),some (V.int n),none]) (λR hR=> ?_) ?_
    ·simp only[gc,gO,gp,gU,Kw,nQ,dN,dZ,tC,dQ,dR,gi,LH,qz,jH,Int.reduceAdd,↓reduceIte,aM,decide_false,bc,af,ak,aa,ae,V.int.injEq,V.bl.injEq,V.str.injEq,V.ref.injEq,V.ty.injEq,ai,ah,and_true,true_and,exists_eq_left',exists_eq_left,aH,Nat.reduceAdd,uO,↓gb,ke,NU,TJ,h1]
     exact hR _ _ ⟨rfl,rfl⟩
    rintro Gq hGq _ _ ⟨rfl,rfl⟩
    subst hGq
    by_cases h2:e-t<n
    ·rw[if_neg (by show¬(n<=e-t);omega)]at q
     refine ib (λ_ _=>False) (λR _=> ?_) (λ_ _ z=>z.elim)
     simp only[gc,gO,gp,gU,dN,dZ,tC,dQ,gi,NB,qz,Int.reduceAdd,↓er,af,ak,aa,ae,and_true,true_and,decide_eq_true_eq,Nat.reduceAdd,uO,↓gb,nu,hp,Ic]
     refine⟨p,dx,b,e,t,rfl,hp,?_⟩
     simp only[↓reduceIte,h2]
     exact q
    ·rw[if_pos (by show n<=e-t;omega)]at q
     refine eF (λσ' H'=>H=H'/\σ'=[some (V.ref p),some (V.int n),none]) (λR hR=> ?_) ?_
     ·simp only[gc,gO,gp,gU,dN,dZ,tC,dQ,gi,NB,qz,Int.reduceAdd,↓er,af,ak,aa,ae,and_true,true_and,decide_eq_true_eq,Nat.reduceAdd,uO,↓gb,nu,hp,Ic]
      refine⟨p,dx,b,e,t,rfl,hp,?_⟩
      simp only[↓reduceIte,h2]
      exact hR _ _ ⟨rfl,rfl⟩
     rintro Gq hGq _ _ ⟨rfl,rfl⟩
     subst hGq
     simp only[fW,gj,gU,dQ,gh,eZ,oF,eA,Int.reduceLT,Nat.reduceLT,↓eJ,oH,aa,ae,aE,aD,and_true,true_and,fU,kr,hp,T.fG,T.gK,D0,OH,OG]
     exact q
noncomputable def iQ (A:Ad):Sp:=λvs H Q E=>∃p d q ws sp es v,vs=[.ref p,v]/\jG A.fc H p d q ws sp es/\Kn H v/\if (pd ws v).isSome=true then Q .gT H else E (.ref A.k_) none H
theorem wd:dX ["self","ticket"] ["self","ticket"] (dM lG):=fsc
theorem wa(T:Txt K mg A):e_ P w K mg base (gY P w) true 2 A.fS A.gx ["self","ticket"] (iQ A):=by
 refine T.o9.jD wd (λvs H Q E h=> ?_) (λcdv A' outer s H vs Q E hr hx h=> ?_)
 ·obtain⟨_,_,_,_,_,_,_,rfl,_⟩:=h
  rfl
 ·obtain⟨p,d,q,ws,sp,es,v,rfl,h⟩:=h
  obtain⟨h,m,hk⟩:=A6 h
  refine⟨_,ix.run (dF (eX (kS (qU (gs (eW (dG ((tm T).mono (by decide)) hr rfl T.nL T.oB.kp T.rE hx (dB (dE 1) dA)) (λ_=>rfl))) (rT (eC (Dz (yI hr)) (dE 1) (dI (dE 0) rfl) (by with_unfolding_all rfl))))) (dF (fu hx rfl T.ux T.uL rfl (dB eO dA))) eG)),?_⟩
  obtain⟨dx,e⟩:=m.ob
  cases hi:K4 v with
  |false=>
   rw[MH hi]at h
   simp only[gc,gO,gp,gU,Kw,nQ,dN,dZ,tC,dQ,dR,gi,eA,jH,Int.reduceAdd,↓reduceIte,aM,↓eJ,uB,L2.start,xX,aq,av,af,ak,List.replicate,az,aa,ae,V.int.injEq,V.bl.injEq,V.str.injEq,V.ref.injEq,V.ty.injEq,ai,ah,and_true,true_and,exists_eq_left',exists_eq_left,Nat.reduceAdd,aB,uO,↓gb,fU,kr,ke,hi]
   exact⟨hk,h⟩
  |true=>
   obtain⟨i,rfl⟩:=FX hi
   simp only[gc,gO,gp,gU,Kw,nQ,dN,dZ,tC,dQ,dR,gi,eA,jH,Int.reduceAdd,↓reduceIte,aM,bc,↓eJ,uB,L2.start,xX,aq,av,af,ak,List.replicate,az,aa,ae,V.int.injEq,V.bl.injEq,V.str.injEq,V.ref.injEq,V.ty.injEq,ai,ah,and_true,true_and,exists_eq_left',exists_eq_left,Nat.reduceAdd,aB,uO,↓gb,fU,kr,ke,NU,e,T.ja,T.fQ,DF,m.dc,m.has]
   refine⟨au,?_⟩
   cases hp:(pd ws (.int i)).isSome<;>simp[hp]at h⊢<;>exact h
noncomputable def lJ (A:Ad):Sp:=λvs H Q _=>∃X S n,vs=[.ref X.p,.int n]/\i8 A.eR A.eB A.eN A.eV A.eu A.dP A.dU H X S/\Q (.bl (S.Ei n)) H
theorem xH:dX ["self","slots"] ["self","slots"] (dM mM):=fsc
theorem xc{ca:Bool}(T:Txt K mg A):e_ P w K mg base (gY P w) ca 2 A.fY A.gL ["self","slots"] (lJ A):=by
 refine T.qg.jD xH (λvs H Q E h=> ?_) (λcdv A' outer s H vs Q E hr hx h=> ?_)
 ·obtain⟨_,_,_,rfl,_⟩:=h
  rfl
 ·obtain⟨X,S,n,rfl,g,q⟩:=h
  refine⟨_,ix.run (dF (d9 (gW F0 (dS fM (dE 1) dJ) (h_ (dI (dI (dE 0) rfl) rfl) T.fG T.rW ((vW T).mono (by decide)) hr T.rB hx) (fk _)))),?_⟩
  obtain⟨d0,e0⟩:=g.ob
  obtain⟨d1,e1⟩:=g.ar.ob
  obtain⟨d2,e2⟩:=g.ar.BH
  simp only[fW,gU,dZ,tC,dQ,oF,Q2,qz,eA,Int.reduceAdd,↓eJ,↓er,L2.start,aq,av,af,ak,List.replicate,az,aa,ae,V.int.injEq,V.bl.injEq,V.str.injEq,V.ref.injEq,V.ty.injEq,ai,ah,and_true,true_and,exists_eq_left',exists_and_left,Nat.reduceAdd,aB,fU,kr,nu,e0,T.eU,T.eT,oC,e1,T.eQ,T.fE,wt,e2,Ku,v5]
  exact⟨d2,_,_,_,rfl,q⟩
noncomputable def vH:Sp:=λvs H Q _=>∃v,vs=[v]/\Kn H v/\Q (.bl (wi v (-1000000000000) 1000000000000)) H
theorem GK:dX ["thing"] ["thing"] (dM xE):=fsc
theorem AA{ca:Bool}(T:Txt K mg A):e_ P w K mg base (gY P w) ca 3 A.lz A.ot ["thing"] vH:=by
 refine T.qO.jD GK (λvs H Q E h=> ?_) (λcdv A' outer s H vs Q E hr hx h=> ?_)
 ·obtain⟨_,rfl,_⟩:=h
  rfl
 ·obtain⟨v,rfl,hk,q⟩:=h
  refine⟨_,ix.run (dF (d9 (dG ((fV T).mono (by decide)) hr rfl T.fL T.fH.kp T.fX hx (dB (dE 0) (dB (Kb Ka (ia T.m7)) (dB (ia T.m7) dA)))))),?_⟩
  simp only[fW,Sm,dN,dZ,tC,dQ,dR,LX,and_assoc,Int.reduceNeg,Int.reduceAdd,L2.start,aq,av,af,ak,List.replicate,az,aa,V.int.injEq,V.bl.injEq,V.str.injEq,V.ref.injEq,V.ty.injEq,ai,ah,and_true,exists_eq_left',exists_and_left,Nat.reduceAdd,aB,fg]
  exact⟨hk,q⟩
noncomputable def xO:Sp:=λvs H Q _=>∃v,vs=[v]/\Kn H v/\Q (.bl (wi v 0 9999)) H
theorem HX:dX ["thing"] ["thing"] (dM zk):=fsc
theorem Ce{ca:Bool}(T:Txt K mg A):e_ P w K mg base (gY P w) ca 3 A.nH A.pA ["thing"] xO:=by
 refine T.sH.jD HX (λvs H Q E h=> ?_) (λcdv A' outer s H vs Q E hr hx h=> ?_)
 ·obtain⟨_,rfl,_⟩:=h
  rfl
 ·obtain⟨v,rfl,hk,q⟩:=h
  refine⟨_,ix.run (dF (d9 (dG ((fV T).mono (by decide)) hr rfl T.fL T.fH.kp T.fX hx (dB (dE 0) (dB dJ (dB (ia T.rf) dA)))))),?_⟩
  simp only[fW,dN,dZ,tC,dQ,dR,and_assoc,Int.reduceAdd,L2.start,aq,av,af,ak,List.replicate,az,aa,V.int.injEq,V.bl.injEq,V.str.injEq,V.ref.injEq,V.ty.injEq,ai,ah,and_true,exists_eq_left',exists_and_left,Nat.reduceAdd,aB,fg]
  exact⟨hk,q⟩
noncomputable def kN (A:Ad):Sp:=λvs H Q E=>∃v,vs=[v]/\Kn H v/\if wi v 0 8=true then Q .gT H else E (.ref A.fO) none H
theorem EL:dX ["slots"] ["slots"] (dM vB):=fsc
theorem tT(T:Txt K mg A):e_ P w K mg base (gY P w) true 3 A.kq A.mn ["slots"] (kN A):=by
 refine T.mT.jD EL (λvs H Q E h=> ?_) (λcdv A' outer s H vs Q E hr hx h=> ?_)
 ·obtain⟨_,rfl,_⟩:=h
  rfl
 ·obtain⟨v,rfl,hk,q⟩:=h
  refine⟨_,ix.run (dF (eX (gs (eW (dG ((fV T).mono (by decide)) hr rfl T.fL T.fH.kp T.fX hx (dB (dE 0) (dB dJ (dB (ia T.o7) dA)))) (λ_=>rfl))) (dF (fu hx rfl T.jC T.jF rfl (dB eO dA))) eG)),?_⟩
  simp only[gc,gO,nQ,dN,dZ,tC,dQ,dR,gi,jH,and_assoc,Int.reduceAdd,aM,L2.start,aq,av,af,ak,List.replicate,az,aa,V.int.injEq,V.bl.injEq,V.str.injEq,V.ref.injEq,V.ty.injEq,ai,ah,and_true,true_and,exists_eq_left',exists_and_left,exists_eq_left,Nat.reduceAdd,aB,uO,fg]
  refine⟨hk,?_⟩
  cases hw:wi v 0 8<;>simp[hw]at q⊢<;>exact q
noncomputable def D4:Sp:=λvs H Q _=>∃n,vs=[.int n]/\Q (.bl (decide (0<=n/\n<=34/\n%4<=2))) H
theorem Ju:dX ["number"] ["number"] (dM Br):=fsc
theorem Jk{ca:Bool}(T:Txt K mg A):e_ P w K mg base (gY P w) ca 3 A.pF A.rk ["number"] D4:=by
 refine T.y9.jD Ju (λvs H Q E h=> ?_) (λcdv A' outer s H vs Q E hr hx h=> ?_)
 ·obtain⟨_,rfl,_⟩:=h
  rfl
 ·obtain⟨n,rfl,q⟩:=h
  refine⟨_,ix.run (dF (d9 (uA (dG ((fV T).mono (by decide)) hr rfl T.fL T.fH.kp T.fX hx (dB (dS iJ (dE 0) dJ) (dB dJ (dB (ia T.o7) dA)))) (rR (gW F0 (dS iP (dE 0) dJ) (ia T.lN) (fk _)))))),?_⟩
  simp only[fW,gU,Cn,dN,dZ,tC,dQ,dR,o8,ui,Q2,qz,and_assoc,wg,Int.reduceLT,Nat.reduceLT,Int.reduceAdd,L2.start,aq,av,af,ak,List.replicate,az,aa,V.int.injEq,V.bl.injEq,V.str.injEq,V.ref.injEq,V.ty.injEq,ai,ah,and_true,true_and,exists_eq_left',exists_and_left,Nat.reduceAdd,aB,↓gb,fg,Kn]
  by_cases c:wi (.int (n/4)) 0 8=true
  ·have c':=c
   simp only[wi,aI,decide_eq_true_eq]at c'
   by_cases d:n%4<=2
   ·rw[decide_eq_true (by omega)]at q
    simp[c,d];exact q
   ·rw[decide_eq_false (by omega)]at q
    simp[c,d];exact q
  ·have c':=c
   simp only[wi,aI,decide_eq_true_eq]at c'
   rw[decide_eq_false (by omega)]at q
   simp[c];exact q
noncomputable def C2 (A:Ad):Sp:=λvs H Q _=>∃p q ws v k,vs=[.ref p,v,.int k]/\gE A.dP H p q ws/\Kn H v/\Q (.bl (wi v 0 (ws.length-1-k))) H
theorem OD:dX ["memory","at","slots"] ["memory","at","slots"] (dM Jr):=fsc
theorem Kh{ca:Bool}(T:Txt K mg A):e_ P w K mg base (gY P w) ca 3 A.y7 A.Bb ["memory","at","slots"] (C2 A):=by
 refine T.CN.jD OD (λvs H Q E h=> ?_) (λcdv A' outer s H vs Q E hr hx h=> ?_)
 ·obtain⟨_,_,_,_,_,rfl,_⟩:=h
  rfl
 ·obtain⟨p,q,ws,v,k,rfl,h⟩:=h
  obtain⟨h,m,hk⟩:=A6 h
  refine⟨_,ix.run (dF (d9 (dG ((fV T).mono (by decide)) hr rfl T.fL T.fH.kp T.fX hx (dB (dE 1) (dB dJ (dB (dS nj (dS nj (dI (dE 0) rfl) dJ) (dE 2)) dA)))))),?_⟩
  obtain⟨dx,e⟩:=m.ob
  simp only[fW,gU,dN,dZ,tC,dQ,dR,yn,eA,and_assoc,Int.reduceAdd,↓eJ,L2.start,aq,av,af,ak,List.replicate,az,aa,ae,V.int.injEq,V.bl.injEq,V.str.injEq,V.ref.injEq,V.ty.injEq,ai,ah,and_true,true_and,exists_eq_left',exists_and_left,Nat.reduceAdd,aB,fU,kr,fg,e,T.gf,T.iL,DK]
  exact⟨hk,h⟩
noncomputable def xM (A:Ad):Sp:=λvs H Q E=>∃p dx v,vs=[.ref p,v]/\H p=some (.ins A.dP dx [])/\Kn H v/\
 if wi v 1 4000=true then(∀q H',H q=none->gE A.dP H' p q (List.replicate (iv v).toNat (-1))->(∀b o,H b=some o->b≠p->H' b=some o)->Q .gT H') else E (.ref A.fO) none H
theorem DV:dX ["self","size"] ["self","size"] (dM tW):=fsc
theorem DL(T:Txt K mg A):e_ P w K mg base (gY P w) true 3 A.il A.kE ["self","size"] (xM A):=by
 refine T.wN.jD DV (λvs H Q E h=> ?_) (λcdv A' outer s H vs Q E hr hx h=> ?_)
 ·obtain⟨_,_,_,rfl,_⟩:=h
  rfl
 ·obtain⟨p,dx,v,rfl,h⟩:=h
  obtain⟨h,e,hk⟩:=A6 h
  refine⟨_,ix.run (dC (eX (gs (eW (dG ((fV T).mono (by decide)) hr rfl T.fL T.fH.kp T.fX hx (dB (dE 1) (dB dJ (dB (ia T.rg) dA)))) (λ_=>rfl))) (dF (fu hx rfl T.jC T.jF rfl (dB eO dA))) eG)
   (dC (gr (dE 0) (dE 1) rfl)
   (dF (gr (dE 0) (dS F1 (gC (dB (ia T.pT) dA)) (dE 1)) rfl)))),?_⟩
  simp only[gc,gj,gO,gU,nQ,dN,dZ,tC,dQ,qw,dR,gi,eA,jH,and_assoc,Int.reduceLT,Nat.reduceLT,Int.reduceNeg,Int.reducePow,Int.reduceAdd,aM,oH,KJ,L2.start,aq,av,af,ak,List.replicate,az,aa,ae,V.int.injEq,V.bl.injEq,V.str.injEq,V.ref.injEq,V.ty.injEq,ai,ah,and_true,true_and,exists_eq_left',exists_and_left,exists_eq_left,Nat.reduceAdd,aB,uO,fg,e,T.gf,T.iL]
  refine⟨hk,?_⟩
  cases hw:wi v 1 4000
  ·simp[hw]at h⊢;exact h
  ·obtain⟨n,rfl,h0,h1⟩:=gk hw
   simp only[hw,if_true]at h⊢
   rw[if_neg (λz=>by cases z)]
   intro l hl
   obtain⟨nl,hl0⟩:=gv hl
   simp only[dH]
   refine⟨by omega,by omega,aA (show [V.int (-1)].length*n.toNat<=4000 by simp;omega) (by decide),λl2 hl2=> ?_⟩
   obtain⟨nl2,hl2'⟩:=gv hl2
   obtain⟨nl2p,hl20⟩:=gv hl2'
   rw[dO (aj nl2p),dO (aj nl),dH]
   refine⟨T.gf,T.i5,by simp[gD],?_⟩
   refine h l2 _ hl20 ⟨⟨dx,?_⟩,?_⟩ λb o eb nb=> ?_
   ·rw[dH,P4,bg,show((iv (V.int n)).toNat:Int)=n from bZ (by show 0<=n;omega)]
   ·rw[dO nl2p,dH,Me,List.map_replicate];rfl
   ·rw[dO nb,dO (dD eb hl20),dO (dD eb hl0),dO nb];exact eb
noncomputable def lK (A:Ad):Sp:=λvs H Q E=>∃p q ws v,vs=[.ref p,v]/\gE A.dP H p q ws/\Kn H v/\if wi v 0 (ws.length-1)=true then Q .gT H else E (.ref A.fB) none H
theorem xI:dX ["self","at"] ["self","at"] (dM mO):=fsc
theorem qt(T:Txt K mg A):e_ P w K mg base (gY P w) true 3 A.fZ A.gN ["self","at"] (lK A):=by
 refine T.qi.jD xI (λvs H Q E h=> ?_) (λcdv A' outer s H vs Q E hr hx h=> ?_)
 ·obtain⟨_,_,_,_,rfl,_⟩:=h
  rfl
 ·obtain⟨p,q,ws,v,rfl,h⟩:=h
  obtain⟨h,m,hk⟩:=A6 h
  refine⟨_,ix.run (dF (eX (gs (eW (dG ((fV T).mono (by decide)) hr rfl T.fL T.fH.kp T.fX hx (dB (dE 1) (dB dJ (dB (dS nj (dI (dE 0) rfl) dJ) dA)))) (λ_=>rfl))) (dF (fu hx rfl T.rl T.rq rfl (dB eO dA))) eG)),?_⟩
  obtain⟨dx,e⟩:=m.ob
  simp only[gc,gO,gU,nQ,dN,dZ,tC,dQ,dR,gi,yn,eA,jH,and_assoc,Int.reduceAdd,aM,↓eJ,L2.start,aq,av,af,ak,List.replicate,az,aa,ae,V.int.injEq,V.bl.injEq,V.str.injEq,V.ref.injEq,V.ty.injEq,ai,ah,and_true,true_and,exists_eq_left',exists_and_left,exists_eq_left,Nat.reduceAdd,aB,uO,fU,kr,fg,e,T.gf,T.iL,DK]
  refine⟨hk,?_⟩
  cases hw:wi v 0 (ws.length-1)<;>simp[hw]at h⊢<;>exact h
noncomputable def vF (A:Ad):Sp:=λvs H Q _=>∃p dx b e t v,vs=[.ref p,v]/\H p=some (.ins A.dU dx (uN b e t))/\Kn H v/\Q (.bl (wi v b (t-1))) H
theorem GC:dX ["self","at"] ["self","at"] (dM xw):=fsc
theorem Ay{ca:Bool}(T:Txt K mg A):e_ P w K mg base (gY P w) ca 3 A.j9 A.n_ ["self","at"] (vF A):=by
 refine T.zX.jD GC (λvs H Q E h=> ?_) (λcdv A' outer s H vs Q E hr hx h=> ?_)
 ·obtain⟨_,_,_,_,_,_,rfl,_⟩:=h
  rfl
 ·obtain⟨p,dx,b,e,t,v,rfl,h⟩:=h
  obtain⟨q,hp,hk⟩:=A6 h
  refine⟨_,ix.run (dF (d9 (dG ((fV T).mono (by decide)) hr rfl T.fL T.fH.kp T.fX hx (dB (dE 1) (dB (dI (dE 0) rfl) (dB (dS nj (dI (dE 0) rfl) dJ) dA)))))),?_⟩
  simp only[fW,gU,dN,dZ,tC,dQ,dR,yn,eA,and_assoc,Int.reduceAdd,↓eJ,L2.start,aq,av,af,ak,List.replicate,az,aa,ae,V.int.injEq,V.bl.injEq,V.str.injEq,V.ref.injEq,V.ty.injEq,ai,ah,and_true,true_and,exists_eq_left',exists_and_left,Nat.reduceAdd,aB,fU,kr,fg,hp,T.fG,T.hJ,T.gK,Ks,D0]
  exact⟨hk,q⟩
noncomputable def yO (A:Ad):Sp:=λvs H Q E=>∃p dx v,vs=[.ref p,v]/\H p=some (.ins A.eN dx [])/\Kn H v/\
 if wi v 1 6=true then(∀q H',H q=none->A4 A.eN H' p q (List.replicate (iv v).toNat (-1))->(∀b o,H b=some o->b≠p->H' b=some o)->Q .gT H') else E (.ref A.fO) none H
theorem EA:dX ["self","many"] ["self","many"] (dM vk):=fsc
theorem Em(T:Txt K mg A):e_ P w K mg base (gY P w) true 3 A.jd A.lU ["self","many"] (yO A):=by
 refine T.yy.jD EA (λvs H Q E h=> ?_) (λcdv A' outer s H vs Q E hr hx h=> ?_)
 ·obtain⟨_,_,_,rfl,_⟩:=h
  rfl
 ·obtain⟨p,dx,v,rfl,h⟩:=h
  obtain⟨h,e,hk⟩:=A6 h
  refine⟨_,ix.run (dC (eX (gs (eW (dG ((fV T).mono (by decide)) hr rfl T.fL T.fH.kp T.fX hx (dB (dE 1) (dB dJ (dB (ia T.rd) dA)))) (λ_=>rfl))) (dF (fu hx rfl T.jC T.jF rfl (dB eO dA))) eG)
   (dF (gr (dE 0) (dS F1 (gC (dB (ia T.pT) dA)) (dE 1)) rfl))),?_⟩
  simp only[gc,gj,gO,gU,nQ,dN,dZ,tC,dQ,qw,dR,gi,eA,jH,and_assoc,Int.reduceNeg,Int.reducePow,Int.reduceAdd,aM,oH,KJ,L2.start,aq,av,af,ak,List.replicate,az,aa,ae,V.int.injEq,V.bl.injEq,V.str.injEq,V.ref.injEq,V.ty.injEq,ai,ah,and_true,true_and,exists_eq_left',exists_and_left,exists_eq_left,Nat.reduceAdd,aB,uO,fg]
  refine⟨hk,?_⟩
  cases hw:wi v 1 6
  ·simp[hw]at h⊢;exact h
  ·obtain⟨n,rfl,h0,h1⟩:=gk hw
   simp only[hw,if_true]at h⊢
   rw[if_neg (λz=>by cases z)]
   intro l hl
   rw[dH]
   dsimp only
   refine⟨by omega,by omega,aA (show [V.int (-1)].length*n.toNat<=6 by show 1*n.toNat<=6;omega) (by decide),λp1 hp1=> ?_⟩
   obtain⟨n1,hq⟩:=gv hp1
   have npl:=dD e hl
   have np1:=dD e hq
   rw[dO np1,dO npl,e]
   dsimp only
   refine⟨T.jO,T.hE,by decide,h p1 _ hq ⟨⟨dx,dH⟩,?_⟩ λb o eb nb=> ?_⟩
   ·rw[dO (aj np1),dH]
    have z:∀j:Nat,(List.replicate j [V.int (-1)]).flatten=(List.replicate j (-1)).map V.int:=λj=>by
     induction j with
     |zero=>rfl
     |succ j ih=>rw[bH,bH,bT,ih];rfl
    rw[z];rfl
   ·rw[dO nb,dO (dD eb hq),dO (dD eb hl)];exact eb
noncomputable def kA (A:Ad):Sp:=λvs H Q E=>∃p q ws v,vs=[.ref p,v]/\A4 A.eN H p q ws/\Kn H v/\if wi v 0 (ws.length-1)=true then Q .gT H else E (.ref A.g6) none H
theorem zq:dX ["self","hand"] ["self","hand"] (dM oU):=fsc
theorem nN(T:Txt K mg A):e_ P w K mg base (gY P w) true 3 A.gn A.hZ ["self","hand"] (kA A):=by
 refine T.rL.jD zq (λvs H Q E h=> ?_) (λcdv A' outer s H vs Q E hr hx h=> ?_)
 ·obtain⟨_,_,_,_,rfl,_⟩:=h
  rfl
 ·obtain⟨p,q,ws,v,rfl,h⟩:=h
  obtain⟨h,m,hk⟩:=A6 h
  refine⟨_,ix.run (dF (eX (gs (eW (dG ((fV T).mono (by decide)) hr rfl T.fL T.fH.kp T.fX hx (dB (dE 1) (dB dJ (dB (dS nj (fI sR (by rfl) T.uF PyProof.Rows.Boot.«len» (dB (dI (dE 0) rfl) dA)) dJ) dA)))) (λ_=>rfl))) (dF (fu hx rfl T.z6 T.AY rfl (dB eO dA))) eG)),?_⟩
  obtain⟨dx,e⟩:=m.ob
  simp only[gc,gO,gU,nQ,AV,dN,dZ,tC,dQ,dR,gi,yn,Ct,eA,jH,and_assoc,Int.reduceAdd,aM,↓eJ,L2.start,aq,av,af,ak,List.replicate,az,aa,ae,V.int.injEq,V.bl.injEq,V.str.injEq,V.ref.injEq,V.ty.injEq,ai,ah,and_true,true_and,exists_eq_left',exists_and_left,exists_eq_left,Nat.reduceAdd,aB,uO,fU,kr,fg,e,T.jO,T.hE,J3,m.ls,ax]
  refine⟨hk,?_⟩
  cases hw:wi v 0 (ws.length-1)<;>simp[hw]at h⊢<;>exact h
noncomputable def D1 (A:Ad):Sp:=λvs H Q E=>∃p q os v,vs=[.ref p,v]/\uQ A.fw H p q os/\Kn H v/\if wi v 0 (os.length-1)=true then Q (tv (os.getD (iv v).toNat none)) H else E (.ref A.k_) none H
theorem Jt:dX ["self","name"] ["self","name"] (dM Bq):=fsc
theorem Jj(T:Txt K mg A):e_ P w K mg base (gY P w) true 3 A.oz A.rj ["self","name"] (D1 A):=by
 refine T.Dl.jD Jt (λvs H Q E h=> ?_) (λcdv A' outer s H vs Q E hr hx h=> ?_)
 ·obtain⟨_,_,_,_,rfl,_⟩:=h
  rfl
 ·obtain⟨p,q,os,v,rfl,h⟩:=h
  obtain⟨h,m,hk⟩:=A6 h
  refine⟨_,ix.run (dC (eX (gs (eW (dG ((fV T).mono (by decide)) hr rfl T.fL T.fH.kp T.fX hx (dB (dE 1) (dB dJ (dB (dS nj (fI sR (by rfl) T.uF PyProof.Rows.Boot.«len» (dB (dI (dE 0) rfl) dA)) dJ) dA)))) (λ_=>rfl))) (dF (fu hx rfl T.ux T.uL rfl (dB eO dA))) eG)
   (dF (d9 (qT wW (dI (dE 0) rfl) (dE 1) (λ_ _=>rfl))))),?_⟩
  obtain⟨dx,e⟩:=m.ob
  cases hw:wi v 0 (os.length-1) with
  |false=>
   rw[hw]at h
   simp only[fW,gc,gj,gO,gU,nQ,AV,dN,dZ,tC,dQ,dR,gi,yn,LG,Ct,eA,jH,and_assoc,Int.reduceAdd,↓reduceIte,aM,↓eJ,L2.start,aq,av,af,ak,List.replicate,az,aa,ae,V.int.injEq,V.bl.injEq,V.str.injEq,V.ref.injEq,V.ty.injEq,ai,ah,and_true,true_and,exists_eq_left',exists_and_left,exists_eq_left,Nat.reduceAdd,aB,uO,fU,kr,fg,e,T.m8,T.ig,Im,m.ls,BE,hw]
   exact⟨hk,h⟩
  |true=>
   obtain⟨i,rfl,h0,h1⟩:=gk hw
   rw[if_pos hw]at h
   simp only[fW,gc,gj,gO,gU,nQ,AV,dN,dZ,tC,dQ,dR,gi,yn,LG,Ct,eA,jH,and_assoc,Int.reduceAdd,↓reduceIte,aM,bc,↓eJ,L2.start,aq,av,af,ak,List.replicate,az,aa,ae,V.int.injEq,V.bl.injEq,V.str.injEq,V.ref.injEq,V.ty.injEq,ai,ah,and_true,true_and,exists_eq_left',exists_and_left,exists_eq_left,Nat.reduceAdd,aB,uO,fU,kr,fg,e,T.m8,T.ig,Im,m.ls,BE,hw,Sd h0 h1]
   exact⟨au,h⟩
noncomputable def oZ (A:Ad):Sp:=λvs H Q E=>∃v,vs=[v]/\Kn H v/\if wi v (-1000000000000) 1000000000000=true then Q .gT H else E (.ref A.i_) none H
theorem DZ:dX ["thing"] ["thing"] (dM t9):=fsc
theorem xh(T:Txt K mg A):e_ P w K mg base (gY P w) true 4 A.jB A.kM ["thing"] (oZ A):=by
 refine T.oM.jD DZ (λvs H Q E h=> ?_) (λcdv A' outer s H vs Q E hr hx h=> ?_)
 ·obtain⟨_,rfl,_⟩:=h
  rfl
 ·obtain⟨v,rfl,hk,q⟩:=h
  refine⟨_,ix.run (dF (eX (gs (eW (dG ((AA T).mono (by decide)) hr rfl T.qk T.qO.kp T.wF hx (dB (dE 0) dA)) (λ_=>rfl))) (dF (fu hx rfl T.sJ T.tF rfl (dB eO dA))) eG)),?_⟩
  simp only[gc,gO,nQ,dN,dZ,tC,dQ,dR,gi,jH,Int.reduceNeg,Int.reduceAdd,aM,L2.start,aq,av,af,ak,List.replicate,az,aa,V.int.injEq,V.bl.injEq,V.str.injEq,V.ref.injEq,V.ty.injEq,ai,ah,and_true,true_and,exists_eq_left',exists_eq_left,Nat.reduceAdd,aB,uO,vH]
  refine⟨hk,?_⟩
  cases hw:wi v (-1000000000000) 1000000000000<;>simp[hw]at q⊢<;>exact q
noncomputable def fJ (A:Ad):Sp:=λvs H Q E=>∃v,vs=[v]/\Kn H v/\if wi v 0 9999=true then Q .gT H else E (.ref A.fB) none H
theorem EK:dX ["thing"] ["thing"] (dM vA):=fsc
theorem jE(T:Txt K mg A):e_ P w K mg base (gY P w) true 4 A.kn A.mm ["thing"] (fJ A):=by
 refine T.gZ.jD EK (λvs H Q E h=> ?_) (λcdv A' outer s H vs Q E hr hx h=> ?_)
 ·obtain⟨_,rfl,_⟩:=h
  rfl
 ·obtain⟨v,rfl,hk,q⟩:=h
  refine⟨_,ix.run (dF (eX (gs (eW (dG ((Ce T).mono (by decide)) hr rfl T.rP T.sH.kp T.yX hx (dB (dE 0) dA)) (λ_=>rfl))) (dF (fu hx rfl T.rl T.rq rfl (dB eO dA))) eG)),?_⟩
  simp only[gc,gO,nQ,dN,dZ,tC,dQ,dR,gi,jH,Int.reduceAdd,aM,L2.start,aq,av,af,ak,List.replicate,az,aa,V.int.injEq,V.bl.injEq,V.str.injEq,V.ref.injEq,V.ty.injEq,ai,ah,and_true,true_and,exists_eq_left',exists_eq_left,Nat.reduceAdd,aB,uO,xO]
  refine⟨hk,?_⟩
  cases hw:wi v 0 9999<;>simp[hw]at q⊢<;>exact q
noncomputable def p_ (A:Ad):Sp:=λvs H Q E=>∃v,vs=[v]/\Kn H v/\match kd v with
 |some x=>Q (.str x) H
 |none=>E (.ref A.iV) none H
theorem OE:dX ["word"] ["word"] (dM Js):=fsc
theorem q_(T:Txt K mg A):e_ P w K mg base (gY P w) true 4 A.y8 A.Bc ["word"] (p_ A):=by
 refine T.oJ.jD OE (λvs H Q E h=> ?_) (λcdv A' outer s H vs Q E hr hx h=> ?_)
 ·obtain⟨_,rfl,_⟩:=h
  rfl
 ·obtain⟨v,rfl,hk,q⟩:=h
  refine⟨_,ix.run (dC (eX (gs (eW (dG ((tm T).mono (by decide)) hr rfl T.nL T.oB.kp T.rE hx (dB (dE 0) dA)) (λ_=>rfl))) (dF (fu hx rfl T.uv T.uK rfl (dB eO dA))) eG)
   (dC (eX (eC qC (dE 0) (ia T.pT) (fk _)) (dF (d9 eO)) eG)
   (dC (eX (kS (ql (eC qC (dS iP (dE 0) dJ) dJ (fk _)) (pK (eW (dG ((AA T).mono (by decide)) hr rfl T.qk T.qO.kp T.wF hx (dB (dS iJ (dE 0) dJ) dA)) (λ_=>rfl))))) (dF (d9 eO)) eG)
   (dC (eX (kS (ql (eC qC (dS iP (dE 0) dJ) dJ (fk _)) (pK (eW (dG ((Ce T).mono (by decide)) hr rfl T.rP T.sH.kp T.yX hx (dB (dS iJ (dE 0) dJ) dA)) (λ_=>rfl))))) (dF (d9 eO)) eG)
   (dF (fu hx rfl T.uv T.uK rfl (dB eO dA))))))),?_⟩
  simp only[fW,gc,gj,gO,gp,gU,Ij,nQ,dN,dZ,tC,dQ,dR,gi,o8,ui,IH,eqv,jH,and_assoc,wg,Int.reduceNeg,Int.reduceAdd,↓reduceIte,aM,L2.start,aq,av,af,ak,List.replicate,az,aa,V.int.injEq,V.bl.injEq,V.str.injEq,V.ref.injEq,V.ty.injEq,ai,ah,and_true,true_and,exists_eq_left',exists_eq_left,aH,decide_eq_true_eq,Nat.reduceAdd,aB,uO,↓gb,ke,vH,xO]
  refine⟨hk,?_⟩
  cases v<;>simp only[kd,K4]at q⊢<;>simp only[Int.reduceLT,Nat.reduceLT,Int.reduceNeg,↓reduceIte,bc,true_and,decide_eq_true_eq,Kn]at q⊢<;>try exact q
  rename_i w
  by_cases h1:w= -1
  ·simp[h1]at q⊢;exact q
  ·by_cases h2:w%2=0
   ·by_cases h3:wi (.int (w/2)) (-1000000000000) 1000000000000=true
    ·simp[h1,h2,h3]at q⊢;exact q
    ·simp[h1,h2,h3]at q⊢;exact q
   ·by_cases h4:w%2=1
    ·by_cases h5:wi (.int (w/2)) 0 9999=true
     ·simp[h1,h2,h4,h5]at q⊢;exact q
     ·simp[h1,h2,h4,h5]at q⊢;exact q
    ·omega
noncomputable def si (A:Ad):Sp:=λvs H Q E=>∃p q ws v,vs=[.ref p,v]/\gE A.dP H p q ws/\Kn H v/\if wi v 0 (ws.length-1)=true then Q (.int (ws.getD (iv v).toNat 0)) H else E (.ref A.fB) none H
theorem DW:dX ["self","at"] ["self","at"] (dM tX):=fsc
theorem rX(T:Txt K mg A):e_ P w K mg base (gY P w) true 4 A.ip A.kF ["self","at"] (si A):=by
 refine T.wO.jD DW (λvs H Q E h=> ?_) (λcdv A' outer s H vs Q E hr hx h=> ?_)
 ·obtain⟨_,_,_,_,rfl,_⟩:=h
  rfl
 ·obtain⟨p,q,ws,v,rfl,h⟩:=h
  obtain⟨h,m,hk⟩:=A6 h
  refine⟨_,ix.run (dC (dW (ej (dE 0) T.gf T.mL ((qt T).mono (by decide)) hr T.mJ hx (dB (dE 1) dA)))
   (dF (d9 (qT wW (dI (dE 0) rfl) (dE 1) (λ_ _=>rfl))))),?_⟩
  obtain⟨dx,e⟩:=m.ob
  simp only[fW,fj,gj,gU,dN,dZ,dQ,LG,eA,and_assoc,Int.reduceAdd,↓eJ,↓er,L2.start,aq,av,af,ak,List.replicate,az,aa,ae,V.int.injEq,V.bl.injEq,V.str.injEq,V.ref.injEq,V.ty.injEq,ai,ah,and_true,true_and,exists_eq_left',exists_and_left,Nat.reduceAdd,aB,fU,kr,nu,lK,e,T.gf,T.i5,Fl,MD]
  refine⟨q,ws,m,hk,?_⟩
  cases hw:wi v 0 (ws.length-1)
  ·simp[hw]at h⊢;exact h
  ·obtain⟨i,rfl,h0,h1⟩:=gk hw
   simp only[hw,if_true,m.ls,zw h0 h1,iv]at h⊢
   exact h
noncomputable def AL (A:Ad):Sp:=λvs H Q E=>∃p q ws v,vs=[.ref p,v]/\A4 A.eN H p q ws/\Kn H v/\if wi v 0 (ws.length-1)=true then Q (.int (ws.getD (iv v).toNat 0)) H else E (.ref A.g6) none H
theorem Gu:dX ["self","hand"] ["self","hand"] (dM xl):=fsc
theorem F8(T:Txt K mg A):e_ P w K mg base (gY P w) true 4 A.jX A.nT ["self","hand"] (AL A):=by
 refine T.zP.jD Gu (λvs H Q E h=> ?_) (λcdv A' outer s H vs Q E hr hx h=> ?_)
 ·obtain⟨_,_,_,_,rfl,_⟩:=h
  rfl
 ·obtain⟨p,q,ws,v,rfl,h⟩:=h
  obtain⟨h,m,hk⟩:=A6 h
  refine⟨_,ix.run (dC (dW (ej (dE 0) T.jO T.kT ((nN T).mono (by decide)) hr T.kP hx (dB (dE 1) dA)))
   (dF (d9 (qT wW (dI (dE 0) rfl) (dE 1) (λ_ _=>rfl))))),?_⟩
  obtain⟨dx,e⟩:=m.ob
  simp only[fW,fj,gj,gU,dN,dZ,dQ,LG,eA,and_assoc,Int.reduceAdd,↓eJ,↓er,L2.start,aq,av,af,ak,List.replicate,az,aa,ae,V.int.injEq,V.bl.injEq,V.str.injEq,V.ref.injEq,V.ty.injEq,ai,ah,and_true,true_and,exists_eq_left',exists_and_left,Nat.reduceAdd,aB,fU,kr,nu,kA,e,T.jO,T.hE,J3,Dr]
  refine⟨q,ws,m,hk,?_⟩
  cases hw:wi v 0 (ws.length-1)
  ·simp[hw]at h⊢;exact h
  ·obtain⟨i,rfl,h0,h1⟩:=gk hw
   simp only[hw,if_true,m.ls,zw h0 h1,iv]at h⊢
   exact h
noncomputable def iR (A:Ad):Sp:=λvs H Q E=>∃p q os v,vs=[.ref p,v]/\uQ A.fw H p q os/\Kn H v/\if stN os v=true then Q .gT H else E (.ref A.k_) none H
theorem we:dX ["self","name"] ["self","name"] (dM lH):=fsc
theorem wb(T:Txt K mg A):e_ P w K mg base (gY P w) true 4 A.fT A.gy ["self","name"] (iR A):=by
 refine T.o_.jD we (λvs H Q E h=> ?_) (λcdv A' outer s H vs Q E hr hx h=> ?_)
 ·obtain⟨_,_,_,_,rfl,_⟩:=h
  rfl
 ·obtain⟨p,q,os,v,rfl,h⟩:=h
  obtain⟨h,m,hk⟩:=A6 h
  refine⟨_,ix.run (dF (eX (eC PR (ej (dE 0) T.m8 T.Fj ((Jj T).mono (by decide)) hr T.EU hx (dB (dE 1) dA)) DB (fk _)) (dF (fu hx rfl T.ux T.uL rfl (dB eO dA))) eG)),?_⟩
  obtain⟨dx,e⟩:=m.ob
  simp only[gc,gO,gp,gU,dN,dZ,tC,dQ,gi,Sl,Dx,and_assoc,Int.reduceAdd,↓er,L2.start,aq,av,af,ak,List.replicate,az,aa,ae,V.int.injEq,V.bl.injEq,V.str.injEq,V.ref.injEq,V.ty.injEq,ai,ah,and_true,true_and,exists_eq_left',exists_and_left,Nat.reduceAdd,aB,uO,↓gb,nu,D1,e,QO]
  refine⟨q,os,m,hk,?_⟩
  cases hw:wi v 0 (os.length-1) with
  |false=>
   rw[if_neg (λz=>by cases z)]
   rw[if_neg (by rw[stN,hw];intro z;cases z)]at h
   exact h
  |true=>
   rw[if_pos rfl]
   cases ho:os.getD (iv v).toNat none with
   |none=>
    rw[if_neg (by rw[stN,hw,ho];intro z;cases z)]at h
    exact h
   |some y=>
    rw[if_pos (by rw[stN,hw,ho];rfl)]at h
    exact h
noncomputable def tD (A:Ad):Sp:=λvs H Q E=>∃X S v,vs=[.ref X.p,v]/\i8 A.eR A.eB A.eN A.eV A.eu A.dP A.dU H X S/\Kn H v/\if wi v 0 (S.hw.length-1)=true then Q .gT H else E (.ref A.g6) none H
theorem AG:dX ["self","hand"] ["self","hand"] (dM pN):=fsc
theorem Aw(T:Txt K mg A):e_ P w K mg base (gY P w) true 4 A.gA A.iz ["self","hand"] (tD A):=by
 refine T.sF.jD AG (λvs H Q E h=> ?_) (λcdv A' outer s H vs Q E hr hx h=> ?_)
 ·obtain⟨_,_,_,rfl,_⟩:=h
  rfl
 ·obtain⟨X,S,v,rfl,h⟩:=h
  obtain⟨q,g,hk⟩:=A6 h
  refine⟨_,ix.run (dF (dW (ej (dI (dI (dE 0) rfl) rfl) T.jO T.kT ((nN T).mono (by decide)) hr T.kP hx (dB (dE 1) dA)))),?_⟩
  obtain⟨d0,e0⟩:=g.ob
  obtain⟨d1,w1,l1,e1⟩:=g.rt.ob
  obtain⟨d2,e2⟩:=g.rt.hd.ob
  simp only[fj,dN,dZ,dQ,eA,and_assoc,Int.reduceAdd,↓eJ,↓er,L2.start,aq,av,af,ak,List.replicate,az,aa,ae,V.int.injEq,V.bl.injEq,V.str.injEq,V.ref.injEq,V.ty.injEq,ai,ah,and_true,true_and,exists_eq_left',exists_and_left,Nat.reduceAdd,aB,fU,kr,nu,e0,T.eU,T.eP,mX,e1,T.f_,T.gJ,DQ,e2,Dr,kA]
  refine⟨X.qh,S.hw,g.rt.hd,hk,?_⟩
  cases hw:wi v 0 (S.hw.length-1)<;>rw[hw]at q<;>exact q
noncomputable def xP (A:Ad):Sp:=λvs H Q E=>∃v,vs=[v]/\Kn H v/\if wi v (-1000000000000) 1000000000000=true then Q (.int (2*iv v)) H else E (.ref A.i_) none H
theorem DY:dX ["n"] ["n"] (dM t7):=fsc
theorem DO(T:Txt K mg A):e_ P w K mg base (gY P w) true 5 A.jz A.kK ["n"] (xP A):=by
 refine T.rO.jD DY (λvs H Q E h=> ?_) (λcdv A' outer s H vs Q E hr hx h=> ?_)
 ·obtain⟨_,rfl,_⟩:=h
  rfl
 ·obtain⟨v,rfl,hk,q⟩:=h
  refine⟨_,ix.run (dC (dW (dG ((xh T).mono (by decide)) hr rfl T.mW T.oM.kp T.tK hx (dB (dE 0) dA)))
   (dF (d9 (dS sS dJ (dE 0))))),?_⟩
  simp only[fW,fj,gj,gU,dN,dZ,tC,dQ,dR,Df,Cp,Int.reduceNeg,Int.reducePow,Int.reduceAdd,NM,L2.start,aq,av,af,ak,List.replicate,az,aa,V.int.injEq,V.bl.injEq,V.str.injEq,V.ref.injEq,V.ty.injEq,ai,ah,and_true,exists_eq_left',Nat.reduceAdd,aB,oZ]
  refine⟨hk,?_⟩
  cases v<;>simp only[wi,iv]at q⊢<;>simp only[true_or,Int.reduceLT,Nat.reduceLT,Int.reduceNeg,↓reduceIte,and_true,true_and,aH]at q⊢<;>try exact q
  all_goals (split<;>rename_i h<;>simp[h]at q⊢<;>exact q)
noncomputable def uc (A:Ad):Sp:=λvs H Q E=>∃v,vs=[v]/\Kn H v/\if wi v 0 9999=true then Q (.int (2*iv v+1)) H else E (.ref A.fB) none H
theorem EJ:dX ["at"] ["at"] (dM vy):=fsc
theorem Ex(T:Txt K mg A):e_ P w K mg base (gY P w) true 5 A.kj A.mh ["at"] (uc A):=by
 refine T.tN.jD EJ (λvs H Q E h=> ?_) (λcdv A' outer s H vs Q E hr hx h=> ?_)
 ·obtain⟨_,rfl,_⟩:=h
  rfl
 ·obtain⟨v,rfl,hk,q⟩:=h
  refine⟨_,ix.run (dC (dW (dG ((jE T).mono (by decide)) hr rfl T.g5 T.gZ.kp T.i9 hx (dB (dE 0) dA)))
   (dF (d9 (dS fM (dS sS dJ (dE 0)) dJ)))),?_⟩
  simp only[fW,fj,gj,gU,dN,dZ,tC,dQ,dR,oF,Df,Cp,Int.reduceNeg,Int.reducePow,Int.reduceAdd,L2.start,aq,av,af,ak,List.replicate,az,aa,V.int.injEq,V.bl.injEq,V.str.injEq,V.ref.injEq,V.ty.injEq,ai,ah,and_true,exists_eq_left',and_false,Nat.reduceAdd,aB,fJ]
  refine⟨hk,?_⟩
  cases v<;>simp only[wi,iv]at q⊢<;>simp only[true_or,Int.reduceLT,Nat.reduceLT,Int.reduceNeg,↓reduceIte,and_true,true_and,aH]at q⊢<;>try exact q
  all_goals (split<;>rename_i h<;>simp[h]at q⊢<;>exact q)
noncomputable def sm (A:Ad):Sp:=λvs H Q E=>∃v,vs=[v]/\Kn H v/\match kd v with
 |some _=>Q (wo v) H
 |none=>E (.ref A.iV) none H
theorem Jb{v:V}{x:Str}(h:kd v=some x):∃w,v= .int w/\(x=Str.ofString "nothing"↔w= -1):=by
 cases v with
 |int w=>
  refine⟨w,rfl,?_⟩
  simp only[kd]at h
  split at h
  ·rename_i e;cases h;exact⟨λ_=>e,λ_=>rfl⟩
  ·rename_i e
   refine⟨λz=> ?_,λz=>absurd z e⟩
   subst z
   split at h
   ·cases aT h|>(As▸·)|>(by decide:¬("number"="nothing"))
   ·split at h
    ·cases aT h|>(As▸·)|>(by decide:¬("place"="nothing"))
    ·cases h
 |_=>cases h
theorem Nc:dX ["word"] ["word"] (dM Gr):=fsc
theorem rY(T:Txt K mg A):e_ P w K mg base (gY P w) true 5 A.uV A.x4 ["word"] (sm A):=by
 refine T.oN.jD Nc (λvs H Q E h=> ?_) (λcdv A' outer s H vs Q E hr hx h=> ?_)
 ·obtain⟨_,rfl,_⟩:=h
  rfl
 ·obtain⟨v,rfl,hk,q⟩:=h
  refine⟨_,ix.run (dC (eX (eC qC (dG ((q_ T).mono (by decide)) hr rfl T.qB T.oJ.kp T.tI hx (dB (dE 0) dA)) eO (fk _)) (dF (d9 DB)) eG)
   (dF (d9 (dS iJ (dE 0) dJ)))),?_⟩
  simp only[fW,gc,gj,gO,gp,gU,dN,dZ,tC,dQ,dR,o8,IH,eqv,and_assoc,wg,Int.reduceAdd,L2.start,aq,av,af,ak,List.replicate,az,aa,V.int.injEq,V.bl.injEq,V.str.injEq,V.ref.injEq,V.ty.injEq,ai,ah,and_true,exists_eq_left',decide_eq_true_eq,Nat.reduceAdd,aB,↓gb,p_]
  refine⟨hk,?_⟩
  cases e:kd v with
  |none=>rw[e]at q;exact q
  |some x=>
   rw[e]at q
   obtain⟨w,rfl,hw⟩:=Jb e
   simp only[Int.reduceLT,Nat.reduceLT,Int.reduceNeg,true_and,wo]at q⊢
   by_cases h1:w= -1
   ·simp only[hw.mpr h1,h1,if_true]at q⊢;exact q
   ·rw[if_neg λz=>h1 (hw.mp z)];rw[if_neg h1]at q;exact q
noncomputable def qG (A:Ad):Sp:=λvs H Q E=>∃p q ws v x,vs=[.ref p,v,x]/\gE A.dP H p q ws/\Kn H v/\Kn H x/\
 if wi v 0 (ws.length-1)=true then(match kd x with
  |some _=>Q .gT (upd H q (.lst ((ws.set (iv v).toNat (iv x)).map V.int)))
  |none=>E (.ref A.iV) none H) else E (.ref A.fB) none H
theorem Cz:dX ["self","at","word"] ["self","at","word"] (dM r0):=fsc
theorem i6(T:Txt K mg A):e_ P w K mg base (gY P w) true 5 A.g8 A.jQ ["self","at","word"] (qG A):=by
 refine T.vQ.jD Cz (λvs H Q E h=> ?_) (λcdv A' outer s H vs Q E hr hx h=> ?_)
 ·obtain⟨_,_,_,_,_,rfl,_⟩:=h
  rfl
 ·obtain⟨p,q,ws,v,x,rfl,h⟩:=h
  obtain⟨h,m,hk,hx'⟩:=IC h
  refine⟨_,ix.run (dC (dW (ej (dE 0) T.gf T.mL ((qt T).mono (by decide)) hr T.mJ hx (dB (dE 1) dA)))
   (dC (dW (dG ((q_ T).mono (by decide)) hr rfl T.qB T.oJ.kp T.tI hx (dB (dE 2) dA)))
   (dF (DD (dE 2) (DC (dI (dE 0) rfl) (dE 1) F2))))),?_⟩
  obtain⟨dx,e⟩:=m.ob
  simp only[fj,gj,dN,dZ,dQ,gh,dR,eA,and_assoc,Int.reduceAdd,↓eJ,↓er,E3,Mi,L2.start,aq,av,af,ak,List.replicate,az,aa,ae,V.int.injEq,V.bl.injEq,V.str.injEq,V.ref.injEq,V.ty.injEq,ai,ah,and_true,true_and,exists_eq_left',exists_and_left,Nat.reduceAdd,aB,fU,kr,nu,lK,p_,e,T.gf,T.i5,Fl,MD]
  refine⟨q,ws,m,hk,?_⟩
  cases hw:wi v 0 (ws.length-1)
  ·simp[hw]at h⊢;exact h
  ·obtain⟨i,rfl,h0,h1⟩:=gk hw
   simp only[hw,if_true]at h⊢
   refine⟨hx',?_⟩
   cases hd:kd x with
   |none=>rw[hd]at h;exact h
   |some y=>
    obtain⟨j,rfl⟩:=Ja hd
    rw[hd]at h
    simp only[m.ls,J7 h0 h1,Ib,iv]at h⊢
    exact h
noncomputable def yN (A:Ad):Sp:=λvs H Q E=>∃p dx v u,vs=[.ref p,v,u]/\H p=some (.ins A.eu dx [])/\Kn H v/\Kn H u/\
 if wi v 4 2000=true/\wi u 2 500=true then(∀m q o y s H',pe A.eu A.dP A.dU H' p m q o y s (List.replicate (iv v+2*iv u).toNat (-1)) ⟨0,iv v,0⟩ ⟨iv v,iv v+iv u,iv v⟩ ⟨iv v+iv u,iv v+2*iv u,iv v+iv u⟩->(∀b x,H b=some x->b≠p->H' b=some x)->(H m=none/\H q=none/\H o=none/\H y=none/\H s=none)->Q .gT H') else E (.ref A.fO) none H
theorem t_:dX ["self","old_words","young_words","middle","size"] ["self","old_words","young_words"] (dM vi):=fsc
theorem El(T:Txt K mg A):e_ P w K mg base (gY P w) true 5 A.jb A.lS ["self","old_words","young_words"] (yN A):=by
 refine T.yw.jD t_ (λvs H Q E h=> ?_) (λcdv A' outer s H vs Q E hr hx h=> ?_)
 ·obtain⟨_,_,_,_,rfl,_⟩:=h
  rfl
 ·obtain⟨p,dx,v,u,rfl,h⟩:=h
  obtain⟨h,hp,kv,ku⟩:=IC h
  refine⟨_,ix.run (dC (eX (gs (eW (dG ((fV T).mono (by decide)) hr rfl T.fL T.fH.kp T.fX hx (dB (dE 1) (dB (ia T.kW) (dB (ia T.mE) dA)))) (λ_=>rfl))) (dF (fu hx rfl T.jC T.jF rfl (dB eO dA))) eG)
   (dC (eX (gs (eW (dG ((fV T).mono (by decide)) hr rfl T.fL T.fH.kp T.fX hx (dB (dE 2) (dB (ia T.jM) (dB (ia T.kB) dA)))) (λ_=>rfl))) (dF (fu hx rfl T.jC T.jF rfl (dB eO dA))) eG)
   (dC (eK (i:=3) t_.nd rfl lo (dS fM (dE 1) (dE 2)))
   (dC (eK (i:=4) t_.nd rfl lo (dS fM (dE 3) (dE 2)))
   (dC (gr (dE 0) (lE T.yg ((DL T).mono (by decide)) hr rfl T.z5 T.yq hx (dB (dE 4) dA)) rfl)
   (dC (gr (dE 0) (lE T.uE ((tS T).mono (by decide)) hr rfl T.x9 T.qJ hx (dB dJ (dB (dE 1) dA))) rfl)
   (dC (gr (dE 0) (lE T.uE ((tS T).mono (by decide)) hr rfl T.x9 T.qJ hx (dB (dE 1) (dB (dE 3) dA))) rfl)
   (dF (gr (dE 0) (lE T.uE ((tS T).mono (by decide)) hr rfl T.x9 T.qJ hx (dB (dE 3) (dB (dE 4) dA))) rfl))))))))),?_⟩
  cases hv:wi v 4 2000 with
  |false=>
   rw[if_neg (by rw[hv];rintro⟨z,_⟩;cases z)]at h
   refine ib (λ_ _=>False) (λR _=> ?_) (λ_ _ z=>z.elim)
   simp only[gc,gO,nQ,dN,dZ,tC,dQ,dR,gi,jH,and_assoc,Int.reduceAdd,Int.reduceSub,↓reduceIte,aM,L2.start,aq,av,af,ak,List.replicate,aJ,aN,aa,ae,V.int.injEq,V.bl.injEq,V.str.injEq,V.ref.injEq,V.ty.injEq,ai,ah,and_true,true_and,exists_eq_left',exists_and_left,exists_eq_left,Nat.reduceSub,Nat.reduceAdd,uO,fg,hv]
   exact⟨kv,h⟩
  |true=>
   cases hu:wi u 2 500 with
   |false=>
    rw[if_neg (by rw[hu];rintro⟨_,z⟩;cases z)]at h
    refine eF (λσ' H'=>σ'=start ["self","old_words","young_words","middle","size"] [V.ref p,v,u]/\H=H') (λR hR=> ?_) ?_
    ·simp only[gc,gO,nQ,dN,dZ,tC,dQ,dR,gi,jH,and_assoc,Int.reduceAdd,Int.reduceSub,↓reduceIte,aM,bc,L2.start,aq,av,af,ak,List.replicate,aJ,aN,aa,ae,V.int.injEq,V.bl.injEq,V.str.injEq,V.ref.injEq,V.ty.injEq,ai,ah,and_true,true_and,exists_eq_left',exists_and_left,exists_eq_left,Nat.reduceSub,Nat.reduceAdd,uO,fg,hv]
     exact⟨kv,hR _ _ ⟨rfl,rfl⟩⟩
    rintro Gq hGq _ _ ⟨rfl,rfl⟩
    subst hGq
    refine ib (λ_ _=>False) (λR _=> ?_) (λ_ _ z=>z.elim)
    simp only[gc,gO,nQ,dN,dZ,tC,dQ,dR,gi,jH,and_assoc,Int.reduceAdd,Int.reduceSub,↓reduceIte,aM,L2.start,aq,av,af,ak,List.replicate,aJ,aN,aa,ae,V.int.injEq,V.bl.injEq,V.str.injEq,V.ref.injEq,V.ty.injEq,ai,ah,and_true,true_and,exists_eq_left',exists_and_left,exists_eq_left,Nat.reduceSub,Nat.reduceAdd,uO,fg,hu]
    exact⟨ku,h⟩
   |true=>
    rw[if_pos ⟨hv,hu⟩]at h
    obtain⟨i,rfl,i0,i1⟩:=gk hv
    obtain⟨j,rfl,j0,j1⟩:=gk hu
    have Hs:∀{G:Hp} {x dx:Addr} {o:HO},G x=none->G dx=none->dY G (upd (upd G dx (HO.own x)) x o):=λ{G x dx o} hx hdx b u eb=>by rw[dO (dD eb hx),dO (dD eb hdx)];exact eb
    show gj _ _ _ [some (V.ref p),some (V.int i),some (V.int j),none,none] H
    refine eF (λσ' H'=>σ'=[some (V.ref p),some (V.int i),some (V.int j),none,none]/\H=H') (λR hR=> ?_) ?_
    ·simp only[gc,gO,nQ,dN,dZ,tC,dQ,dR,gi,jH,and_assoc,Int.reduceAdd,↓reduceIte,aM,bc,af,ak,aa,ae,V.int.injEq,V.bl.injEq,V.str.injEq,V.ref.injEq,V.ty.injEq,ai,ah,and_true,true_and,exists_eq_left',exists_and_left,exists_eq_left,Nat.reduceAdd,uO,fg,hv]
     exact⟨au,hR _ _ ⟨rfl,rfl⟩⟩
    rintro Gq hGq _ _ ⟨rfl,rfl⟩
    subst hGq
    refine eF (λσ' H'=>σ'=[some (V.ref p),some (V.int i),some (V.int j),none,none]/\H=H') (λR hR=> ?_) ?_
    ·simp only[gc,gO,nQ,dN,dZ,tC,dQ,dR,gi,jH,and_assoc,Int.reduceAdd,↓reduceIte,aM,bc,af,ak,aa,ae,V.int.injEq,V.bl.injEq,V.str.injEq,V.ref.injEq,V.ty.injEq,ai,ah,and_true,true_and,exists_eq_left',exists_and_left,exists_eq_left,Nat.reduceAdd,uO,fg,hu]
     exact⟨au,hR _ _ ⟨rfl,rfl⟩⟩
    rintro Gq hGq _ _ ⟨rfl,rfl⟩
    subst hGq
    refine eF (λσ' H'=>σ'=[some (V.ref p),some (V.int i),some (V.int j),some (V.int (i+j)),none]/\H=H') (λR hR=> ?_) ?_
    ·simp only[gU,dQ,gh,eZ,oF,aa,ae,aE,aD]
     exact hR _ _ ⟨rfl,rfl⟩
    rintro Gq hGq _ _ ⟨rfl,rfl⟩
    subst hGq
    refine eF (λσ' H'=>σ'=[some (V.ref p),some (V.int i),some (V.int j),some (V.int (i+j)),some (V.int (i+j+j))]/\H=H') (λR hR=> ?_) ?_
    ·simp only[gU,dQ,gh,eZ,oF,aa,ae,aE,aD]
     exact hR _ _ ⟨rfl,rfl⟩
    rintro Gq hGq _ _ ⟨rfl,rfl⟩
    subst hGq
    refine eF (λσ' H'=>∃m q,H m=none/\H q=none/\gE A.dP H' m q (List.replicate (i+j+j).toNat (-1))/\H' p=some (.ins A.eu dx (gD "memory" (.ref m) []))/\(∀b o,H b=some o->b≠p->H' b=some o)/\σ'=[some (V.ref p),some (V.int i),some (V.int j),some (V.int (i+j)),some (V.int (i+j+j))]) (λR hR=> ?_) ?_
    ·simp only[dN,dZ,dQ,eA,and_assoc,Int.reduceNeg,dH,oH,mP,aa,ae,V.int.injEq,V.bl.injEq,V.str.injEq,V.ref.injEq,V.ty.injEq,ai,ah,and_true,true_and,exists_eq_left',exists_and_left,xM]
     intro x d1 hx hd1 _
     refine⟨d1,rfl,au,?_⟩
     rw[if_pos (by simp[wi];omega)]
     intro q H1 hq m1 f1
     obtain⟨_,hq1⟩:=gv hq
     obtain⟨_,hq2⟩:=gv hq1
     have npx:=dD hp hx
     have npq:=dD hp hq2
     rw[f1 _ _ (Hs hx hd1 _ _ hp) npx]
     refine⟨T.eQ,T.d_,by decide,hR _ _ ⟨x,q,hx,hq2,m1.keep λb o eb hb=> ?_,dH,λb o eb nb=> ?_,rfl⟩⟩
     ·rw[dO (by rcases hb with rfl|rfl;exact aj npx;exact aj npq)];exact eb
     ·rw[dO nb];exact f1 _ _ (Hs hx hd1 _ _ eb) (dD eb hx)
    rintro Gq hGq _ H1 ⟨m,q,hm,hq,m1,e1,f1,rfl⟩
    subst hGq
    have npm:=dD hp hm
    have npq:=dD hp hq
    refine eF (λσ' H'=>∃o,H1 o=none/\uP A.dU H' o ⟨0,i,0⟩/\H' p=some (.ins A.eu dx (gD "old" (.ref o) (gD "memory" (.ref m) [])))/\(∀b o,H1 b=some o->b≠p->H' b=some o)/\σ'=[some (V.ref p),some (V.int i),some (V.int j),some (V.int (i+j)),some (V.int (i+j+j))]) (λR hR=> ?_) ?_
    ·simp only[dN,dZ,tC,dQ,eA,and_assoc,dH,oH,mP,aa,ae,V.int.injEq,V.bl.injEq,V.str.injEq,V.ref.injEq,V.ty.injEq,ai,ah,and_true,true_and,exists_eq_left',exists_and_left,p9]
     intro x d1 hx hd1 _
     have npx:=dD e1 hx
     refine⟨d1,rfl,?_⟩
     rw[dO npx,Hs hx hd1 _ _ e1]
     refine⟨T.eQ,T.fN,(show(1:Nat)<1000 by decide),hR _ _ ⟨x,hx,⟨d1,?_⟩,dH,λb o eb nb=> ?_,rfl⟩⟩
     ·rw[dO (aj npx),dH]
     ·rw[dO nb,dO (dD eb hx)];exact Hs hx hd1 _ _ eb
    rintro Gq hGq _ H2 ⟨o,ho,so1,e2,f2,rfl⟩
    subst hGq
    have npo:=dD e1 ho
    refine eF (λσ' H'=>∃y,H2 y=none/\uP A.dU H' y ⟨i,i+j,i⟩/\H' p=some (.ins A.eu dx (gD "young" (.ref y) (gD "old" (.ref o) (gD "memory" (.ref m) []))))/\(∀b o,H2 b=some o->b≠p->H' b=some o)/\σ'=[some (V.ref p),some (V.int i),some (V.int j),some (V.int (i+j)),some (V.int (i+j+j))]) (λR hR=> ?_) ?_
    ·simp only[dN,dZ,dQ,eA,and_assoc,dH,oH,mP,aa,ae,V.int.injEq,V.bl.injEq,V.str.injEq,V.ref.injEq,V.ty.injEq,ai,ah,and_true,true_and,exists_eq_left',exists_and_left,p9]
     intro x d1 hx hd1 _
     have npx:=dD e2 hx
     refine⟨d1,rfl,?_⟩
     rw[dO npx,Hs hx hd1 _ _ e2]
     refine⟨T.eQ,T.fE,by simp[gD,P6],hR _ _ ⟨x,hx,⟨d1,?_⟩,dH,λb o eb nb=> ?_,rfl⟩⟩
     ·rw[dO (aj npx),dH]
     ·rw[dO nb,dO (dD eb hx)];exact Hs hx hd1 _ _ eb
    rintro Gq hGq _ H3 ⟨y,hy,sy1,e3,f3,rfl⟩
    subst hGq
    have npy:=dD e2 hy
    simp only[dN,dZ,dQ,eA,and_assoc,dH,oH,mP,aa,ae,V.int.injEq,V.bl.injEq,V.str.injEq,V.ref.injEq,V.ty.injEq,ai,ah,and_true,true_and,exists_eq_left',exists_and_left,p9]
    intro x d1 hx hd1 _
    have npx:=dD e3 hx
    refine⟨d1,rfl,?_⟩
    rw[dO npx,Hs hx hd1 _ _ e3]
    refine⟨T.eQ,T.oR,by simp[gD,P6,RK,RL],?_⟩
    rw[Pc]
    have sz:i+j+j=i+2*j:=by omega
    rw[sz]at m1⊢
    have f4:∀b u,H3 b=some u->b≠p->upd (upd (upd (upd H3 d1 (HO.own x)) x (HO.ins A.dU d1 [])) x (HO.ins A.dU d1 (uN (i+j) (i+2*j) (i+j)))) p (HO.ins A.eu dx (Ed m o y x)) b=some u:=λb u eb nb=>by
     rw[dO nb,dO (dD eb hx)];exact Hs hx hd1 _ _ eb
    have e4:upd (upd (upd (upd H3 d1 (HO.own x)) x (HO.ins A.dU d1 [])) x (HO.ins A.dU d1 (uN (i+j) (i+2*j) (i+j)))) p (HO.ins A.eu dx (Ed m o y x)) p=some (HO.ins A.eu dx (Ed m o y x)):=dH
    have e5:upd (upd (upd (upd H3 d1 (HO.own x)) x (HO.ins A.dU d1 [])) x (HO.ins A.dU d1 (uN (i+j) (i+2*j) (i+j)))) p (HO.ins A.eu dx (Ed m o y x)) x=some (HO.ins A.dU d1 (uN (i+j) (i+2*j) (i+j))):=by rw[dO (aj npx),dH]
    generalize upd (upd (upd (upd H3 d1 (HO.own x)) x (HO.ins A.dU d1 [])) x (HO.ins A.dU d1 (uN (i+j) (i+2*j) (i+j)))) p (HO.ins A.eu dx (Ed m o y x))=H4 at*
    obtain⟨dm,em⟩:=m1.ob
    obtain⟨do1,eo⟩:=so1
    obtain⟨dy1,ey⟩:=sy1
    have fresh:∀{G:Hp} {z:Addr},(∀b u,H b=some u->b≠p->G b=some u)->G z=none->p≠z->H z=none:=λ{G z} hG hz np=>by
     cases e:H z with
     |none=>rfl
     |some u=>rw[hG _ _ e (aj np)]at hz;cases hz
    have nmo:=dD em ho
    have em2:=f2 _ _ em (aj npm)
    have nmy:=dD em2 hy
    have em3:=f3 _ _ em2 (aj npm)
    have nmx:=dD em3 hx
    have noy:=dD eo hy
    have eo3:=f3 _ _ eo (aj npo)
    have nox:=dD eo3 hx
    have nyx:=dD ey hx
    refine h m q o y x H4 ⟨⟨dx,e4⟩,m1.keep λb u eb hb=> ?_,⟨do1,f4 _ _ eo3 (aj npo)⟩,⟨dy1,f4 _ _ ey (aj npy)⟩,⟨d1,e5⟩,noy,nox,nyx,⟨npm,npo,npy,npx⟩,⟨nmo,nmy,nmx⟩⟩ (λb u eb nb=>f4 _ _ (f3 _ _ (f2 _ _ (f1 _ _ eb nb) nb) nb) nb) ⟨hm,hq,fresh (λb u eb nb=>f1 _ _ eb nb) ho npo,fresh (λb u eb nb=>f2 _ _ (f1 _ _ eb nb) nb) hy npy,fresh (λb u eb nb=>f3 _ _ (f2 _ _ (f1 _ _ eb nb) nb) nb) hx npx⟩
    have nb:b≠p:=by rcases hb with rfl|rfl;exact aj npm;exact aj npq
    exact f4 _ _ (f3 _ _ (f2 _ _ eb nb) nb) nb
noncomputable def ua (A:Ad):Sp:=λvs H Q E=>∃p d ks v,vs=[.ref p,v]/\rz A.eV H p d ks/\Kn H v/\ks.length<1000/\
 if wi v 0 9999=true then Q .gT (upd H d (.dK (zK (J5 ks (iv v))))) else E (.ref A.fB) none H
theorem Ez:dX ["self","place"] ["self","place"] (dM vj):=fsc
theorem yJ(T:Txt K mg A):e_ P w K mg base (gY P w) true 5 A.jc A.lT ["self","place"] (ua A):=by
 refine T.yx.jD Ez (λvs H Q E h=> ?_) (λcdv A' outer s H vs Q E hr hx h=> ?_)
 ·obtain⟨_,_,_,_,rfl,_⟩:=h
  rfl
 ·obtain⟨p,d,ks,v,rfl,h⟩:=h
  obtain⟨h,m,hk,hl⟩:=IC h
  refine⟨_,ix.run (dC (dW (dG ((jE T).mono (by decide)) hr rfl T.g5 T.gZ.kp T.i9 hx (dB (dE 1) dA)))
   (dF (Aa (yI hr) (dI (dE 0) rfl) (dE 1) vb rfl))),?_⟩
  obtain⟨dx,e⟩:=m.ob
  cases hw:wi v 0 9999 with
  |false=>
   rw[hw]at h
   simp only[fj,gj,dN,dZ,tC,dQ,dR,eA,Int.reduceAdd,↓reduceIte,↓eJ,Dc,uB,L2.start,aq,av,af,ak,List.replicate,az,aa,ae,V.int.injEq,V.bl.injEq,V.str.injEq,V.ref.injEq,V.ty.injEq,ai,ah,and_true,exists_eq_left',aH,Nat.reduceAdd,aB,fU,kr,fJ,hw]
   exact⟨hk,h⟩
  |true=>
   obtain⟨i,rfl,i0,i1⟩:=gk hw
   rw[if_pos hw]at h
   simp only[fj,gj,dN,dZ,tC,dQ,dR,eA,Int.reduceAdd,↓reduceIte,↓eJ,Dc,uB,L2.start,aq,av,af,ak,List.replicate,az,aa,ae,V.int.injEq,V.bl.injEq,V.str.injEq,V.ref.injEq,V.ty.injEq,ai,ah,and_true,true_and,exists_eq_left',Nat.reduceAdd,aB,fU,kr,fJ,hw,e,T.jJ,T.gS,JD,m.dc,JJ,JK]
   exact⟨au,aQ hl (by decide),h⟩
noncomputable def tw (A:Ad):Sp:=λvs H Q E=>∃p d ks v,vs=[.ref p,v]/\rz A.eV H p d ks/\Kn H v/\
 if wi v 0 9999=true then Q (.bl (decide (iv v∈ks))) H else E (.ref A.fB) none H
theorem HV:dX ["self","place"] ["self","place"] (dM zh):=fsc
theorem Cd(T:Txt K mg A):e_ P w K mg base (gY P w) true 5 A.la A.pk ["self","place"] (tw A):=by
 refine T.BZ.jD HV (λvs H Q E h=> ?_) (λcdv A' outer s H vs Q E hr hx h=> ?_)
 ·obtain⟨_,_,_,_,rfl,_⟩:=h
  rfl
 ·obtain⟨p,d,ks,v,rfl,h⟩:=h
  obtain⟨h,m,hk⟩:=A6 h
  refine⟨_,ix.run (dC (dW (dG ((jE T).mono (by decide)) hr rfl T.g5 T.gZ.kp T.i9 hx (dB (dE 1) dA)))
   (dF (d9 (gW (J9 (yI hr)) (dE 1) (dI (dE 0) rfl) (by with_unfolding_all rfl))))),?_⟩
  obtain⟨dx,e⟩:=m.ob
  cases hw:wi v 0 9999 with
  |false=>
   rw[hw]at h
   simp only[fW,fj,gj,gU,dN,dZ,dQ,dR,eA,Int.reduceAdd,↓reduceIte,↓eJ,uB,L2.start,KI,aq,av,af,ak,List.replicate,az,aa,ae,V.int.injEq,V.bl.injEq,V.str.injEq,V.ref.injEq,V.ty.injEq,ai,ah,and_true,exists_eq_left',aH,Nat.reduceAdd,aB,fU,kr,fJ,hw]
   exact⟨hk,h⟩
  |true=>
   obtain⟨i,rfl,i0,i1⟩:=gk hw
   rw[if_pos hw]at h
   simp only[fW,fj,gj,gU,dN,dZ,dQ,dR,eA,Int.reduceAdd,↓reduceIte,↓eJ,uB,L2.start,KI,aq,av,af,ak,List.replicate,az,aa,ae,V.int.injEq,V.bl.injEq,V.str.injEq,V.ref.injEq,V.ty.injEq,ai,ah,and_true,true_and,exists_eq_left',Nat.reduceAdd,aB,fU,kr,fJ,hw,e,T.jJ,T.gS,JD,m.dc,CK]
   refine⟨au,?_⟩
   have e2:(if i∈ks then some (V.bl true) else none).isSome=decide (iv (V.int i)∈ks):=by
    show _=decide (i∈ks)
    by_cases z:i∈ks
    ·rw[if_pos z,decide_eq_true z];rfl
    ·rw[if_neg z,decide_eq_false z];rfl
   rw[e2]
   exact h
noncomputable def AM (A:Ad):Sp:=λvs H Q E=>∃p q ws v x,vs=[.ref p,v,x]/\A4 A.eN H p q ws/\Kn H v/\Kn H x/\
 if wi v 0 (ws.length-1)=true then(match kd x with
  |some _=>Q .gT (upd H q (.lst ((ws.set (iv v).toNat (iv x)).map V.int)))
  |none=>E (.ref A.iV) none H) else E (.ref A.g6) none H
theorem Gw:dX ["self","hand","word"] ["self","hand","word"] (dM xm):=fsc
theorem Au(T:Txt K mg A):e_ P w K mg base (gY P w) true 5 A.jY A.nU ["self","hand","word"] (AM A):=by
 refine T.zQ.jD Gw (λvs H Q E h=> ?_) (λcdv A' outer s H vs Q E hr hx h=> ?_)
 ·obtain⟨_,_,_,_,_,rfl,_⟩:=h
  rfl
 ·obtain⟨p,q,ws,v,x,rfl,h⟩:=h
  obtain⟨h,m,hk,hx'⟩:=IC h
  refine⟨_,ix.run (dC (dW (ej (dE 0) T.jO T.kT ((nN T).mono (by decide)) hr T.kP hx (dB (dE 1) dA)))
   (dC (dW (dG ((q_ T).mono (by decide)) hr rfl T.qB T.oJ.kp T.tI hx (dB (dE 2) dA)))
   (dF (DD (dE 2) (DC (dI (dE 0) rfl) (dE 1) F2))))),?_⟩
  obtain⟨dx,e⟩:=m.ob
  simp only[fj,gj,dN,dZ,dQ,gh,dR,eA,and_assoc,Int.reduceAdd,↓eJ,↓er,E3,Mi,L2.start,aq,av,af,ak,List.replicate,az,aa,ae,V.int.injEq,V.bl.injEq,V.str.injEq,V.ref.injEq,V.ty.injEq,ai,ah,and_true,true_and,exists_eq_left',exists_and_left,Nat.reduceAdd,aB,fU,kr,nu,kA,p_,e,T.jO,T.hE,J3,Dr]
  refine⟨q,ws,m,hk,?_⟩
  cases hw:wi v 0 (ws.length-1)
  ·simp[hw]at h⊢;exact h
  ·obtain⟨i,rfl,h0,h1⟩:=gk hw
   simp only[hw,if_true]at h⊢
   refine⟨hx',?_⟩
   cases hd:kd x with
   |none=>rw[hd]at h;exact h
   |some y=>
    obtain⟨j,rfl⟩:=Ja hd
    rw[hd]at h
    simp only[m.ls,J7 h0 h1,Ib,iv]at h⊢
    exact h
noncomputable def EN (A:Ad):Sp:=λvs H Q E=>∃p d q ws sp es v n,vs=[.ref p,v,n]/\jG A.fc H p d q ws sp es/\Kn H v/\Kn H n/\ws.length<64/\
 if wi v 0 9999=true then if wi n (-1000000000000) 1000000000000=true then∀H' es',jG A.fc H' p d q (ws++[some (iv v,iv n)]) sp es'->Out d q H H'->Q (.int ws.length) H' else E (.ref A.i_) none H else E (.ref A.fB) none H
theorem yK:dX ["self","at","number","ticket"] ["self","at","number"] (dM vm):=fsc
theorem En(T:Txt K mg A):e_ P w K mg base (gY P w) true 5 A.je A.lV ["self","at","number"] (EN A):=by
 refine T.yz.jD yK (λvs H Q E h=> ?_) (λcdv A' outer s H vs Q E hr hx h=> ?_)
 ·obtain⟨_,_,_,_,_,_,_,_,rfl,_⟩:=h
  rfl
 ·obtain⟨p,d,q,ws,sp,es,v,n,rfl,h⟩:=h
  obtain⟨h,m,hk,hn,hl⟩:=LK h
  refine⟨_,ix.run (dC (dW (dG ((jE T).mono (by decide)) hr rfl T.g5 T.gZ.kp T.i9 hx (dB (dE 1) dA)))
   (dC (dW (dG ((xh T).mono (by decide)) hr rfl T.mW T.oM.kp T.tK hx (dB (dE 2) dA)))
   (dC (eK (i:=3) yK.nd rfl lo (dS fM (fI Mr (by rfl) T.uF PyProof.Rows.Boot.«len» (dB (dI (dE 0) rfl) dA)) (fI sR (by rfl) T.uF PyProof.Rows.Boot.«len» (dB (dI (dE 0) rfl) dA))))
   (dC (Aa (yI hr) (dI (dE 0) rfl) (dE 3) (wY (dB (dE 1) (dB (dE 2) dA))) rfl)
   (dF (d9 (dE 3))))))),?_⟩
  obtain⟨dx,e⟩:=m.ob
  cases hw:wi v 0 9999 with
  |false=>
   rw[hw]at h
   refine ib (λ_ _=>False) (λR _=> ?_) (λ_ _ z=>z.elim)
   simp only[fj,dN,dZ,dQ,dR,Int.reduceAdd,Int.reduceSub,↓reduceIte,L2.start,aq,av,af,ak,List.replicate,aJ,aN,aa,ae,V.int.injEq,V.bl.injEq,V.str.injEq,V.ref.injEq,V.ty.injEq,ai,ah,and_true,exists_eq_left',aH,Nat.reduceSub,Nat.reduceAdd,fJ,hw]
   exact⟨hk,h⟩
  |true=>
   rw[if_pos hw]at h
   cases hw2:wi n (-1000000000000) 1000000000000 with
   |false=>
    rw[hw2]at h
    refine eF (λσ' H'=>H=H'/\σ'=start ["self","at","number","ticket"] [V.ref p,v,n]) (λR hR=> ?_) ?_
    ·simp only[fj,dN,dZ,dQ,dR,Int.reduceAdd,Int.reduceSub,↓reduceIte,L2.start,aq,av,af,ak,List.replicate,aJ,aN,aa,ae,V.int.injEq,V.bl.injEq,V.str.injEq,V.ref.injEq,V.ty.injEq,ai,ah,and_true,exists_eq_left',Nat.reduceSub,Nat.reduceAdd,fJ,hw]
     exact⟨hk,hR _ _ ⟨rfl,rfl⟩⟩
    rintro Gq hGq _ _ ⟨rfl,rfl⟩
    subst hGq
    refine ib (λ_ _=>False) (λR _=> ?_) (λ_ _ z=>z.elim)
    simp only[fj,dN,dZ,dQ,dR,Int.reduceNeg,Int.reduceAdd,Int.reduceSub,↓reduceIte,L2.start,aq,av,af,ak,List.replicate,aJ,aN,aa,ae,V.int.injEq,V.bl.injEq,V.str.injEq,V.ref.injEq,V.ty.injEq,ai,ah,and_true,exists_eq_left',aH,Nat.reduceSub,Nat.reduceAdd,oZ,hw2]
    exact⟨hn,h⟩
   |true=>
    rw[if_pos hw2]at h
    obtain⟨i,rfl,i0,i1⟩:=gk hw
    obtain⟨j,rfl,j0,j1⟩:=gk hw2
    have ll:=m.ln
    have el:(es.length:Int)+sp.length=ws.length:=by omega
    simp only[fW,fj,gj,gU,AV,dN,dZ,dQ,Jy,gh,eZ,dR,oF,Ct,eA,Int.reduceNeg,Int.reduceAdd,Int.reduceSub,↓reduceIte,↓eJ,Dc,uB,L2.start,JP,aq,av,af,ak,List.replicate,aJ,aN,aa,ae,aE,aD,V.int.injEq,V.bl.injEq,V.str.injEq,V.ref.injEq,V.ty.injEq,ai,ah,and_true,true_and,exists_eq_left',Nat.reduceSub,Nat.reduceAdd,R_,fU,kr,fJ,oZ,hw,hw2,e,T.ja,T.fQ,T.kC,DF,RF,m.dc,m.sq,GY,ax,el]
    refine⟨hk,hn,λb hb=> ?_⟩
    have s1:dY H (upd H b (.tup [.int i,.int j])):=dY.upd hb
    simp only[and_true,true_and,s1 _ _ e,T.ja,T.fQ,DF,s1 _ _ m.dc]
    have g:=m.give (x:=(i,j)) hb
    refine⟨by rw[GY];exact aQ (show es.length<64 by omega) (by decide),?_⟩
    rw[show putK (CH es) (Sum.inl (ws.length:Int)) (V.ref b)=_ from KA (x:=⟨ws.length,b,i,j⟩)]
    exact h _ _ g.1 g.2
noncomputable def EO (A:Ad):Sp:=λvs H Q E=>∃p d q ws sp es t v,vs=[.ref p,t,v]/\jG A.fc H p d q ws sp es/\Kn H t/\Kn H v/\ws.length<64/\match pd ws t with
 |none=>E (.ref A.k_) none H
 |some y=>if wi v 0 9999=true then∀H' es',jG A.fc H' p d q (ws.set (iv t).toNat (some (iv v,y.2))) sp es'->Out d q H H'->Q .gT H' else E (.ref A.fB) none H
theorem EC:dX ["self","ticket","at"] ["self","ticket","at"] (dM vo):=fsc
theorem Ep(T:Txt K mg A):e_ P w K mg base (gY P w) true 5 A.jg A.lX ["self","ticket","at"] (EO A):=by
 refine T.yB.jD EC (λvs H Q E h=> ?_) (λcdv A' outer s H vs Q E hr hx h=> ?_)
 ·obtain⟨_,_,_,_,_,_,_,_,rfl,_⟩:=h
  rfl
 ·obtain⟨p,d,q,ws,sp,es,t,v,rfl,h⟩:=h
  obtain⟨h,m,ht,hv,hl⟩:=LK h
  refine⟨_,ix.run (dC (dW (ej (dE 0) T.ja T.qp ((wa T).mono (by decide)) hr T.qe hx (dB (dE 1) dA)))
   (dC (dW (dG ((jE T).mono (by decide)) hr rfl T.g5 T.gZ.kp T.i9 hx (dB (dE 2) dA)))
   (dF (Aa (yI hr) (dI (dE 0) rfl) (dE 1) (wY (dB (dE 2) (dB (qT wW (Hr (by exact yI hr) (dI (dE 0) rfl) (dE 1) (λ_ _=>rfl)) dJ (λ_ _=>rfl)) dA))) rfl)))),?_⟩
  obtain⟨dx,e⟩:=m.ob
  have ll:=m.ln
  cases hp:pd ws t with
  |none=>
   rw[hp]at h
   refine ib (λ_ _=>False) (λR _=> ?_) (λ_ _ z=>z.elim)
   simp only[fj,dN,dZ,dQ,and_assoc,Int.reduceAdd,↓er,L2.start,aq,av,af,ak,List.replicate,az,aa,ae,V.int.injEq,V.bl.injEq,V.str.injEq,V.ref.injEq,V.ty.injEq,ai,ah,and_true,true_and,exists_eq_left',exists_and_left,Nat.reduceAdd,aB,nu,e,DG,iQ]
   refine⟨d,q,ws,sp,es,m,ht,?_⟩
   rw[hp]
   exact h
  |some y=>
   rw[hp]at h
   dsimp only at h
   cases hw:wi v 0 9999 with
   |false=>
    rw[hw]at h
    refine eF (λσ' H'=>H=H'/\σ'=start ["self","ticket","at"] [V.ref p,t,v]) (λR hR=> ?_) ?_
    ·simp only[fj,dN,dZ,dQ,and_assoc,Int.reduceAdd,↓er,L2.start,aq,av,af,ak,List.replicate,az,aa,ae,V.int.injEq,V.bl.injEq,V.str.injEq,V.ref.injEq,V.ty.injEq,ai,ah,and_true,true_and,exists_eq_left',exists_and_left,Nat.reduceAdd,aB,nu,e,DG,iQ]
     refine⟨d,q,ws,sp,es,m,ht,?_⟩
     rw[hp]
     exact hR _ _ ⟨rfl,rfl⟩
    rintro Gq hGq _ _ ⟨rfl,rfl⟩
    subst hGq
    refine ib (λ_ _=>False) (λR _=> ?_) (λ_ _ z=>z.elim)
    simp only[fj,dN,dZ,dQ,dR,Int.reduceAdd,↓reduceIte,L2.start,aq,av,af,ak,List.replicate,az,aa,ae,V.int.injEq,V.bl.injEq,V.str.injEq,V.ref.injEq,V.ty.injEq,ai,ah,and_true,exists_eq_left',aH,Nat.reduceAdd,aB,fJ,hw]
    exact⟨hv,h⟩
   |true=>
    rw[if_pos hw]at h
    obtain⟨k,rfl,k0,k1⟩:=gk hw
    have it:K4 t=true:=by cases z:K4 t with
     |true=>rfl
     |false=>rw[MH z]at hp;cases hp
    obtain⟨i,rfl⟩:=FX it
    obtain⟨r,hr,r1,r2,r3,r4⟩:=m.find hp
    have tr:=m.tp r hr
    simp only[fj,gj,gU,dN,dZ,tC,dQ,Jy,dR,LG,eA,and_assoc,Int.reduceAdd,↓reduceIte,↓eJ,↓er,JM,Dc,uB,Q1,L2.start,aq,av,af,ak,List.replicate,az,aa,ae,V.int.injEq,V.bl.injEq,V.str.injEq,V.ref.injEq,V.ty.injEq,ai,ah,and_true,true_and,exists_eq_left',exists_and_left,Nat.reduceAdd,aB,R_,fU,kr,nu,e,DG,iQ,fJ,hw,T.ja,T.fQ,DF,m.dc,r4,tr]
    refine⟨d,q,ws,sp,es,m,ht,?_⟩
    rw[hp,if_pos (show(some y).isSome=true from rfl)]
    refine⟨hv,λb hb=> ?_⟩
    have s1:dY H (upd H b (.tup [.int k,.int r.n])):=dY.upd hb
    simp only[and_true,true_and,s1 _ _ e,T.ja,T.fQ,DF,s1 _ _ m.dc]
    have g:=m.move (x:=(k,r.n)) hb hp
    refine⟨by rw[GY];exact aQ (show es.length<64 by omega) (by decide),?_⟩
    rw[show putK (CH es) (Sum.inl i) (V.ref b)=_ from KA (x:=⟨i,b,k,r.n⟩)]
    rw[←r3]at h
    exact h _ _ g.1 g.2
noncomputable def GP (A:Ad):Sp:=λvs H Q E=>∃p q os v,vs=[.ref p,v]/\uQ A.fw H p q os/\Kn H v/\os.length<1000/\
 if wi v 0 9999=true then Q (.int os.length) (upd H q (.lst ((os++[some (iv v)]).map tv))) else E (.ref A.fB) none H
theorem GG:dX ["self","at"] ["self","at"] (dM xA):=fsc
theorem Gg(T:Txt K mg A):e_ P w K mg base (gY P w) true 5 A.kb A.oh ["self","at"] (GP A):=by
 refine T.z3.jD GG (λvs H Q E h=> ?_) (λcdv A' outer s H vs Q E hr hx h=> ?_)
 ·obtain⟨_,_,_,_,rfl,_⟩:=h
  rfl
 ·obtain⟨p,q,os,v,rfl,h⟩:=h
  obtain⟨h,m,hk,hl⟩:=IC h
  refine⟨_,ix.run (dC (dW (dG ((jE T).mono (by decide)) hr rfl T.g5 T.gZ.kp T.i9 hx (dB (dE 1) dA)))
   (dC (dW (nM bz bA iI (dI (dE 0) rfl) (dB (dE 1) dA)))
   (dF (d9 (dS nj (fI sR (by rfl) T.uF PyProof.Rows.Boot.«len» (dB (dI (dE 0) rfl) dA)) dJ))))),?_⟩
  obtain⟨dx,e⟩:=m.ob
  cases hw:wi v 0 9999 with
  |false=>
   rw[hw]at h
   refine ib (λ_ _=>False) (λR _=> ?_) (λ_ _ z=>z.elim)
   simp only[fj,dN,dZ,dQ,dR,Int.reduceAdd,↓reduceIte,L2.start,aq,av,af,ak,List.replicate,az,aa,ae,V.int.injEq,V.bl.injEq,V.str.injEq,V.ref.injEq,V.ty.injEq,ai,ah,and_true,exists_eq_left',aH,Nat.reduceAdd,aB,fJ,hw]
   exact⟨hk,h⟩
  |true=>
   obtain⟨i,rfl,i0,i1⟩:=gk hw
   rw[if_pos hw]at h
   have e2:upd H q (.lst (os.map tv++[V.int i])) p=some (.ins A.fw dx (G2 q)):=by rw[dO m.ne];exact e
   simp only[fW,fj,gj,gU,AV,dN,dZ,tC,dQ,dR,yn,Ct,eA,Int.reduceAdd,↓reduceIte,dH,↓eJ,kQ,G8,L2.start,aq,av,af,ak,List.replicate,az,aa,ae,V.int.injEq,V.bl.injEq,V.str.injEq,V.ref.injEq,V.ty.injEq,ai,ah,and_true,true_and,exists_eq_left',Nat.reduceAdd,aB,fU,kr,fJ,hw,e,e2,T.m8,T.ig,Im,m.ls,BE]
   refine⟨au,aQ hl (by decide),?_⟩
   rw[aV]at h
   have el:(((os.map tv++[V.int i]).length:Nat):Int)-1=os.length:=by
    rw[aO,BE]
    show((os.length+1:Nat):Int)-1=os.length
    omega
   rw[el]
   exact h
noncomputable def GO (A:Ad):Sp:=λvs H Q E=>∃p q os v x,vs=[.ref p,v,x]/\uQ A.fw H p q os/\Kn H v/\Kn H x/\
 if stN os v=true then(if wi x 0 9999=true then Q .gT (upd H q (.lst ((os.set (iv v).toNat (some (iv x))).map tv))) else E (.ref A.fB) none H) else E (.ref A.k_) none H
theorem OJ{os:List (Option Int)}{v:V}(h:stN os v=true):∃i,v= .int i/\0<=i/\i<=os.length-1:=by
 rw[stN,aI]at h
 exact gk h.1
theorem GF:dX ["self","name","at"] ["self","name","at"] (dM xy):=fsc
theorem Gf(T:Txt K mg A):e_ P w K mg base (gY P w) true 5 A.ka A.og ["self","name","at"] (GO A):=by
 refine T.zZ.jD GF (λvs H Q E h=> ?_) (λcdv A' outer s H vs Q E hr hx h=> ?_)
 ·obtain⟨_,_,_,_,_,rfl,_⟩:=h
  rfl
 ·obtain⟨p,q,os,v,x,rfl,h⟩:=h
  obtain⟨h,m,hk,hkx⟩:=IC h
  refine⟨_,ix.run (dC (dW (ej (dE 0) T.m8 T.qr ((wb T).mono (by decide)) hr T.qf hx (dB (dE 1) dA)))
   (dC (dW (dG ((jE T).mono (by decide)) hr rfl T.g5 T.gZ.kp T.i9 hx (dB (dE 2) dA)))
   (dF (DD (dE 2) (DC (dI (dE 0) rfl) (dE 1) F2))))),?_⟩
  obtain⟨dx,e⟩:=m.ob
  cases hs:stN os v with
  |false=>
   rw[hs]at h
   refine ib (λ_ _=>False) (λR _=> ?_) (λ_ _ z=>z.elim)
   simp only[fj,dN,dZ,dQ,and_assoc,Int.reduceAdd,↓er,L2.start,aq,av,af,ak,List.replicate,az,aa,ae,V.int.injEq,V.bl.injEq,V.str.injEq,V.ref.injEq,V.ty.injEq,ai,ah,and_true,true_and,exists_eq_left',exists_and_left,Nat.reduceAdd,aB,nu,iR,e,Ec]
   exact⟨q,os,m,hk,by rw[hs];exact h⟩
  |true=>
   obtain⟨i,rfl,h0,h1⟩:=OJ hs
   rw[if_pos hs]at h
   cases hw:wi x 0 9999 with
   |false=>
    rw[hw]at h
    refine eF (λσ' H'=>H=H'/\σ'=start ["self","name","at"] [V.ref p,V.int i,x]) (λR hR=> ?_) ?_
    ·simp only[fj,dN,dZ,dQ,and_assoc,Int.reduceAdd,↓er,L2.start,aq,av,af,ak,List.replicate,az,aa,ae,V.int.injEq,V.bl.injEq,V.str.injEq,V.ref.injEq,V.ty.injEq,ai,ah,and_true,true_and,exists_eq_left',exists_and_left,Nat.reduceAdd,aB,nu,iR,e,Ec]
     refine⟨q,os,m,au,?_⟩
     rw[if_pos hs]
     exact hR _ _ ⟨rfl,rfl⟩
    rintro Gq hGq _ _ ⟨rfl,rfl⟩
    subst hGq
    refine ib (λ_ _=>False) (λR _=> ?_) (λ_ _ z=>z.elim)
    simp only[fj,dN,dZ,dQ,dR,Int.reduceAdd,↓reduceIte,L2.start,aq,av,af,ak,List.replicate,az,aa,ae,V.int.injEq,V.bl.injEq,V.str.injEq,V.ref.injEq,V.ty.injEq,ai,ah,and_true,exists_eq_left',aH,Nat.reduceAdd,aB,fJ,hw]
    exact⟨hkx,h⟩
   |true=>
    obtain⟨j,rfl,j0,j1⟩:=gk hw
    rw[if_pos hw]at h
    simp only[fj,gj,dN,dZ,dQ,gh,dR,eA,and_assoc,Int.reduceAdd,↓reduceIte,↓eJ,↓er,E3,Mi,L2.start,aq,av,af,ak,List.replicate,az,aa,ae,V.int.injEq,V.bl.injEq,V.str.injEq,V.ref.injEq,V.ty.injEq,ai,ah,and_true,true_and,exists_eq_left',exists_and_left,Nat.reduceAdd,aB,fU,kr,nu,iR,fJ,e,Ec,hw,T.m8,T.ig,Im,m.ls,Se h0 h1]
    refine⟨q,os,m,au,?_⟩
    rw[if_pos hs]
    refine⟨au,?_⟩
    rw[show V.int j=tv (some j) from rfl,QK]
    exact h
noncomputable def yQ (A:Ad):Sp:=λvs H Q E=>∃r dx v,vs=[.ref r,v]/\H r=some (.ins A.eB dx [])/\Kn H v/\
 if wi v 1 6=true then(∀h q b d W H',H h=none->H q=none->H b=none->H d=none->IB A.eB A.eN A.eV H' r h q b d (List.replicate (iv v).toNat (-1)) []->A5 A.eB A.fw A.fc H' r h b W [] [] []->(q≠W.wq/\q≠W.lq/\d≠W.ld)->(H W.wq=none/\H W.lq=none/\H W.ld=none)->(∀y o,H y=some o->y≠r->H' y=some o)->Q .gT H')
 else∀H',dY H H'->E (.ref A.fO) none H'
theorem ED:dX ["self","many"] ["self","many"] (dM vp):=fsc
theorem Er(T:Txt K mg A):e_ P w K mg base (gY P w) true 5 A.jh A.lY ["self","many"] (yQ A):=by
 refine T.yC.jD ED (λvs H Q E h=> ?_) (λcdv A' outer s H vs Q E hr hx h=> ?_)
 ·obtain⟨_,_,_,rfl,_⟩:=h
  rfl
 ·obtain⟨r,dx,v,rfl,h⟩:=h
  obtain⟨k,e,hk⟩:=A6 h
  refine⟨_,ix.run (dC (gr (dE 0) (lE T.Ap ((Em T).mono (by decide)) hr rfl T.CP T.zy hx (dB (dE 1) dA)) rfl)
   (dC (gr (dE 0) (wX T.CV ((F7 T).mono (by decide)) hr rfl T.FP T.BJ hx) rfl)
   (dC (gr (dE 0) (wX T.CZ ((Ge T).mono (by decide)) hr rfl T.FR T.BP hx) rfl)
   (dF (gr (dE 0) (wX T.Aq ((Eo T).mono (by decide)) hr rfl T.CQ T.zB hx) rfl))))),?_⟩
  have Hs:∀{G:Hp} {x dx:Addr} {o:HO},G x=none->G dx=none->dY G (upd (upd G dx (HO.own x)) x o):=λ{G x dx o} hx hdx b u eb=>by rw[dO (dD eb hx),dO (dD eb hdx)];exact eb
  show gj _ _ _ [some (V.ref r),some v] H
  refine eF (λσ' H'=>wi v 1 6=true/\∃h q,H h=none/\H q=none/\A4 A.eN H' h q (List.replicate (iv v).toNat (-1))/\H' r=some (.ins A.eB dx (gD "hands" (.ref h) []))/\(∀b o,H b=some o->b≠r->H' b=some o)/\σ'=[some (V.ref r),some v]) (λR hR=> ?_) ?_
  ·simp only[dN,dZ,dQ,eA,and_assoc,Int.reduceNeg,dH,oH,mP,aa,ae,V.int.injEq,V.bl.injEq,V.str.injEq,V.ref.injEq,V.ty.injEq,ai,ah,and_true,true_and,exists_eq_left',exists_and_left,yO]
   intro x d1 hx hd1 _
   refine⟨d1,rfl,hk.same (Hs hx hd1),?_⟩
   cases hv:wi v 1 6 with
   |false=>
    rw[hv]at k
    exact k _ (Hs hx hd1)
   |true=>
    rw[if_pos rfl]
    intro q H1 hq m1 f1
    obtain⟨_,hq1⟩:=gv hq
    obtain⟨_,hq2⟩:=gv hq1
    have npx:=dD e hx
    have npq:=dD e hq2
    rw[f1 _ _ (Hs hx hd1 _ _ e) npx]
    refine⟨T.f_,T.gJ,by decide,hR _ _ ⟨hv,x,q,hx,hq2,m1.keep λb o eb hb=> ?_,dH,λb o eb nb=> ?_,rfl⟩⟩
    ·rw[dO (by rcases hb with rfl|rfl;exact aj npx;exact aj npq)];exact eb
    ·rw[dO nb];exact f1 _ _ (Hs hx hd1 _ _ eb) (dD eb hx)
  rintro Gq hGq _ H1 ⟨hv,h,q,hh,hq,m1,e1,f1,rfl⟩
  subst hGq
  rw[if_pos hv]at k
  have nrh:=dD e hh
  have nrq:=dD e hq
  have fresh:∀{G:Hp} {z:Addr},(∀b u,H b=some u->b≠r->G b=some u)->G z=none->r≠z->H z=none:=λ{G z} hG hz np=>by
   cases ez:H z with
   |none=>rfl
   |some u=>rw[hG _ _ ez (aj np)]at hz;cases hz
  refine eF (λσ' H'=>∃b d,H1 b=none/\H1 d=none/\rz A.eV H' b d []/\H' r=some (.ins A.eB dx (gD "book" (.ref b) (gD "hands" (.ref h) [])))/\(∀b o,H1 b=some o->b≠r->H' b=some o)/\σ'=[some (V.ref r),some v]) (λR hR=> ?_) ?_
  ·simp only[dZ,dQ,eA,dH,oH,mP,aa,V.int.injEq,V.bl.injEq,V.str.injEq,V.ref.injEq,V.ty.injEq,ai,ah,and_true,true_and,exists_eq_left',exists_and_left,AK]
   intro x d1 hx hd1 _
   refine⟨d1,rfl,λd H2 hd m2 f2=> ?_⟩
   obtain⟨_,hq1⟩:=gv hd
   obtain⟨_,hq2⟩:=gv hq1
   have npx:=dD e1 hx
   have npq:=dD e1 hq2
   rw[f2 _ _ npx (Hs hx hd1 _ _ e1)]
   refine⟨T.f_,T.gu,(show(1:Nat)<1000 by decide),hR _ _ ⟨x,d,hx,hq2,m2.keep λb o eb hb=> ?_,dH,λb o eb nb=> ?_,rfl⟩⟩
   ·rw[dO (by rcases hb with rfl|rfl;exact aj npx;exact aj npq)];exact eb
   ·rw[dO nb];exact f2 _ _ (dD eb hx) (Hs hx hd1 _ _ eb)
  rintro Gq hGq _ H2 ⟨b,d,hb,hd,m2,e2,f2,rfl⟩
  subst hGq
  have nrb:=dD e1 hb
  have nrd:=dD e1 hd
  refine eF (λσ' H'=>∃w wq,H2 w=none/\H2 wq=none/\uQ A.fw H' w wq []/\H' r=some (.ins A.eB dx (gD "weaks" (.ref w) (gD "book" (.ref b) (gD "hands" (.ref h) []))))/\(∀b o,H2 b=some o->b≠r->H' b=some o)/\σ'=[some (V.ref r),some v]) (λR hR=> ?_) ?_
  ·simp only[dZ,dQ,eA,dH,oH,mP,aa,V.int.injEq,V.bl.injEq,V.str.injEq,V.ref.injEq,V.ty.injEq,ai,ah,and_true,true_and,exists_eq_left',exists_and_left,AS]
   intro x d1 hx hd1 _
   refine⟨d1,rfl,λe5 he5=> ?_⟩
   obtain⟨n5,h5⟩:=gv he5
   obtain⟨_,h52⟩:=gv h5
   have npx:=dD e2 hx
   have np5:=dD e2 h52
   have f3:∀y o,y≠x->upd (upd H2 d1 (HO.own x)) x (HO.ins A.fw d1 []) y=some o->upd (upd (upd (upd H2 d1 (HO.own x)) x (HO.ins A.fw d1 [])) e5 (.lst [])) x (.ins A.fw d1 (G2 e5)) y=some o:=λy o hy ey=>by rw[dO hy,dO (dD ey he5)];exact ey
   have m3:uQ A.fw (upd (upd (upd (upd H2 d1 (HO.own x)) x (HO.ins A.fw d1 [])) e5 (.lst [])) x (.ins A.fw d1 (G2 e5))) x e5 []:=⟨⟨d1,dH⟩,by rw[dO n5,dH];rfl⟩
   generalize upd (upd (upd (upd H2 d1 (HO.own x)) x (HO.ins A.fw d1 [])) e5 (.lst [])) x (.ins A.fw d1 (G2 e5))=H3 at*
   rw[f3 _ _ npx (Hs hx hd1 _ _ e2)]
   refine⟨T.f_,T.iN,by simp[gD,P5],hR _ _ ⟨x,e5,hx,h52,m3.keep λb o eb hb=> ?_,dH,λb o eb nb=> ?_,rfl⟩⟩
   ·rw[dO (by rcases hb with rfl|rfl;exact aj npx;exact aj np5)];exact eb
   ·rw[dO nb];exact f3 _ _ (dD eb hx) (Hs hx hd1 _ _ eb)
  rintro Gq hGq _ H3 ⟨w,wq,hw2,hwq2,m3,e3,f3,rfl⟩
  subst hGq
  have nrw:=dD e2 hw2
  have nrwq:=dD e2 hwq2
  simp only[dZ,dQ,eA,dH,oH,mP,aa,V.int.injEq,V.bl.injEq,V.str.injEq,V.ref.injEq,V.ty.injEq,ai,ah,and_true,true_and,exists_eq_left',exists_and_left,yP]
  intro x d1 hx hd1 _
  refine⟨d1,rfl,λld lq H4 hld hlq f4 m4=> ?_⟩
  have un:∀{z:Addr},upd (upd H3 d1 (HO.own x)) x (HO.ins A.fc d1 []) z=none->H3 z=none:=λhz=>(gv (gv hz).2).2
  have npx:=dD e3 hx
  have npd:=dD e3 (un hld)
  have npq:=dD e3 (un hlq)
  rw[f4 _ _ npx (Hs hx hd1 _ _ e3)]
  refine⟨T.f_,T.iM,by simp[gD,P5,RJ,RI],?_⟩
  rw[OB]
  have g:∀y o,H3 y=some o->y≠r->upd H4 r (.ins A.eB dx (yp h b w x)) y=some o:=λy o ey ny=>by
   rw[dO ny];exact f4 _ _ (dD ey hx) (Hs hx hd1 _ _ ey)
  have bk:∀{z:Addr},H3 z=none->r≠z->H z=none:=λ{z} hz np=>by
   cases ez:H z with
   |none=>rfl
   |some u=>rw[f3 _ _ (f2 _ _ (f1 _ _ ez (aj np)) (aj np)) (aj np)]at hz;cases hz
  have bk2:∀{z:Addr},H2 z=none->r≠z->H z=none:=λ{z} hz np=>by
   cases ez:H z with
   |none=>rfl
   |some u=>rw[f2 _ _ (f1 _ _ ez (aj np)) (aj np)]at hz;cases hz
  have hd3:=f3 _ _ m2.dc (aj nrd)
  have hq2:=f2 _ _ m1.ls (aj nrq)
  have hq3:=f3 _ _ hq2 (aj nrq)
  refine k h q b d ⟨w,wq,x,ld,lq⟩ _ hh hq (fresh f1 hb nrb) (fresh f1 hd nrd) ⟨⟨dx,w,x,dH⟩,m1.keep λy o ey hy=> ?_,m2.keep λy o ey hy=> ?_⟩ ⟨⟨dx,dH⟩,m3.keep λy o ey hy=> ?_,⟨[],?_⟩,dD m3.ls (un hlq)⟩ ⟨dD hq2 hwq2,dD hq3 (un hlq),dD hd3 (un hld)⟩ ⟨bk2 hwq2 nrwq,bk (un hlq) npq,bk (un hld) npd⟩ λy o ey ny=>g _ _ (f3 _ _ (f2 _ _ (f1 _ _ ey ny) ny) ny) ny
  ·have ny:y≠r:=by rcases hy with rfl|rfl;exact aj nrh;exact aj nrq
   exact g _ _ (f3 _ _ (f2 _ _ ey ny) ny) ny
  ·have ny:y≠r:=by rcases hy with rfl|rfl;exact aj nrb;exact aj nrd
   exact g _ _ (f3 _ _ ey ny) ny
  ·have ny:y≠r:=by rcases hy with rfl|rfl;exact aj nrw;exact aj nrwq
   exact g _ _ ey ny
  ·obtain⟨dl,el⟩:=m4.ob
   exact⟨⟨dl,by rw[dO (aj npx)];exact el⟩,by rw[dO (aj npd)];exact m4.dc,by rw[dO (aj npq)];exact m4.sq,m4.xs,(λe he=>by cases he),m4.ln⟩
noncomputable def vD (A:Ad):Sp:=λvs H Q E=>∃X S v,vs=[.ref X.p,v]/\i8 A.eR A.eB A.eN A.eV A.eu A.dP A.dU H X S/\Kn H v/\if wi v 0 (S.hw.length-1)=true then Q (.int (S.w (iv v))) H else E (.ref A.g6) none H
theorem Gy:dX ["self","hand"] ["self","hand"] (dM xp):=fsc
theorem q9(T:Txt K mg A):e_ P w K mg base (gY P w) true 5 A.j4 A.nW ["self","hand"] (vD A):=by
 refine T.zS.jD Gy (λvs H Q E h=> ?_) (λcdv A' outer s H vs Q E hr hx h=> ?_)
 ·obtain⟨_,_,_,rfl,_⟩:=h
  rfl
 ·obtain⟨X,S,v,rfl,h⟩:=h
  obtain⟨q,g,hk⟩:=A6 h
  refine⟨_,ix.run (dF (d9 (ej (dI (dI (dE 0) rfl) rfl) T.jO T.B7 ((F8 T).mono (by decide)) hr T.BK hx (dB (dE 1) dA)))),?_⟩
  obtain⟨d0,e0⟩:=g.ob
  obtain⟨d1,w1,l1,e1⟩:=g.rt.ob
  obtain⟨d2,e2⟩:=g.rt.hd.ob
  simp only[fW,dN,dZ,dQ,eA,and_assoc,Int.reduceAdd,↓eJ,↓er,L2.start,aq,av,af,ak,List.replicate,az,aa,ae,V.int.injEq,V.bl.injEq,V.str.injEq,V.ref.injEq,V.ty.injEq,ai,ah,and_true,true_and,exists_eq_left',exists_and_left,Nat.reduceAdd,aB,fU,kr,nu,e0,T.eU,T.eP,mX,e1,T.f_,T.gJ,DQ,e2,NS,AL]
  refine⟨X.qh,S.hw,g.rt.hd,hk,?_⟩
  cases hw:wi v 0 (S.hw.length-1)<;>rw[hw]at q<;>exact q
noncomputable def kU (A:Ad):Sp:=λvs H Q E=>∃X S v u,vs=[.ref X.p,v,u]/\i8 A.eR A.eB A.eN A.eV A.eu A.dP A.dU H X S/\Kn H v/\Kn H u/\if wi v 0 (S.hw.length-1)=true then(if wi u 0 8=true then Q .gT H else E (.ref A.fO) none H) else E (.ref A.g6) none H
theorem AH:dX ["self","hand","slots"] ["self","hand","slots"] (dM pO):=fsc
theorem Ax(T:Txt K mg A):e_ P w K mg base (gY P w) true 5 A.gB A.iA ["self","hand","slots"] (kU A):=by
 refine T.sG.jD AH (λvs H Q E h=> ?_) (λcdv A' outer s H vs Q E hr hx h=> ?_)
 ·obtain⟨_,_,_,_,rfl,_⟩:=h
  rfl
 ·obtain⟨X,S,v,u,rfl,h⟩:=h
  obtain⟨q,g,hk,hu'⟩:=IC h
  refine⟨_,ix.run (dC (dW (ej (dE 0) T.eU T.uC ((Aw T).mono (by decide)) hr T.ue hx (dB (dE 1) dA)))
   (dF (dW (dG ((tT T).mono (by decide)) hr rfl T.mr T.mT.kp T.qK hx (dB (dE 2) dA))))),?_⟩
  obtain⟨d0,e0⟩:=g.ob
  simp only[fj,gj,dN,dZ,dQ,dR,and_assoc,Int.reduceAdd,↓er,L2.start,aq,av,af,ak,List.replicate,az,aa,ae,V.int.injEq,V.bl.injEq,V.str.injEq,V.ref.injEq,V.ty.injEq,ai,ah,and_true,true_and,exists_eq_left',exists_and_left,Nat.reduceAdd,aB,nu,e0,Ek,tD,kN]
  refine⟨X,rfl,S,g,hk,?_⟩
  cases hw:wi v 0 (S.hw.length-1)<;>rw[hw]at q
  ·exact q
  ·refine⟨hu',?_⟩
   cases hw2:wi u 0 8<;>rw[hw2]at q<;>exact q
noncomputable def vG:Sp:=λvs H Q _=>∃s a,vs=[.int s,.int a]/\0<=s/\s<=8/\0<=a/\a<=2/\Q (.int (2*(4*s+a))) H
theorem GJ:dX ["slots","age"] ["slots","age"] (dM xD):=fsc
theorem Az(T:Txt K mg A):e_ P w K mg base (gY P w) true 6 A.lx A.oq ["slots","age"] vG:=by
 refine T.qN.jD GJ (λvs H Q E h=> ?_) (λcdv A' outer s H vs Q E hr hx h=> ?_)
 ·obtain⟨_,_,rfl,_⟩:=h
  rfl
 ·obtain⟨s',a,rfl,h⟩:=h
  obtain⟨q,s0,s1,a0,a1⟩:=LK h
  refine⟨_,ix.run (dF (d9 (dG ((DO T).mono (by decide)) hr rfl T.pZ T.rO.kp T.yu hx (dB (dS fM (dS sS dJ (dE 0)) (dE 1)) dA)))),?_⟩
  simp only[fW,gU,dN,dZ,tC,dQ,dR,oF,Df,Cp,true_or,Int.reduceLT,Nat.reduceLT,Int.reduceNeg,Int.reducePow,Int.reduceAdd,L2.start,aq,av,af,ak,List.replicate,az,aa,ae,V.int.injEq,V.bl.injEq,V.str.injEq,V.ref.injEq,V.ty.injEq,ai,ah,and_true,true_and,exists_eq_left',Nat.reduceAdd,aB,xP,Kn]
  rw[if_pos (zv (by omega) (by omega))]
  exact q
noncomputable def sk (A:Ad):Sp:=λvs H Q E=>∃p q ws v,vs=[.ref p,v]/\gE A.dP H p q ws/\Kn H v/\fv ws/\
 if wi v 0 (ws.length-1)=true then(match eY ws (iv v).toNat with
  |some n=>Q (.int n) H
  |none=>E (.ref A.gH) none H) else E (.ref A.fB) none H
theorem sg:dX ["memory","at","word","number"] ["memory","at"] (dM t5):=fsc
theorem xf(T:Txt K mg A):e_ P w K mg base (gY P w) true 6 A.jx A.kI ["memory","at"] (sk A):=by
 refine T.oI.jD sg (λvs H Q E h=> ?_) (λcdv A' outer s H vs Q E hr hx h=> ?_)
 ·obtain⟨_,_,_,_,rfl,_⟩:=h
  rfl
 ·obtain⟨p,q,ws,v,rfl,h⟩:=h
  obtain⟨h,m,hk,wo'⟩:=IC h
  refine⟨_,ix.run (dC (eK (i:=2) sg.nd rfl lo (ej (dE 0) T.gf T.p8 ((rX T).mono (by decide)) hr T.pV hx (dB (dE 1) dA)))
   (dC (eX (kS (qU (eC IW (dG ((q_ T).mono (by decide)) hr rfl T.qB T.oJ.kp T.tI hx (dB (dE 2) dA)) eO (fk _)) (rT (gs (eW (dG ((Jk T).mono (by decide)) hr rfl T.x_ T.y9.kp T.EV hx (dB (dG ((rY T).mono (by decide)) hr rfl T.p5 T.oN.kp T.sC hx (dB (dE 2) dA)) dA)) (λ_=>rfl)))))) (dF (fu hx rfl T.uw T.xV rfl (dB eO dA))) eG)
   (dC (eK (i:=3) sg.nd rfl lo (dG ((rY T).mono (by decide)) hr rfl T.p5 T.oN.kp T.sC hx (dB (dE 2) dA)))
   (dC (eX (gs (eW (dG ((Kh T).mono (by decide)) hr rfl T.Dp T.CN.kp T.IF hx (dB (dE 0) (dB (dE 1) (dB (dS iJ (dE 3) dJ) dA)))) (λ_=>rfl))) (dF (fu hx rfl T.uw T.xV rfl (dB eO dA))) eG)
   (dF (d9 (dE 3))))))),?_⟩
  obtain⟨dx,e⟩:=m.ob
  simp only[fW,gc,gj,gO,gp,gU,Kw,nQ,dN,dZ,tC,dQ,gh,eZ,dR,gi,o8,Ph,eqv,jH,and_assoc,wg,Int.reduceAdd,Int.reduceSub,↓reduceIte,aM,↓er,decide_eq_false_iff_not,L2.start,aq,av,af,ak,List.replicate,aJ,aN,aa,ae,aE,aD,V.int.injEq,V.bl.injEq,V.str.injEq,V.ref.injEq,V.ty.injEq,ai,ah,and_true,true_and,exists_eq_left',exists_and_left,exists_eq_left,Nat.reduceSub,Nat.reduceAdd,uO,↓gb,nu,si,p_,sm,D4,C2,e,Ji]
  refine⟨q,ws,m,hk,?_⟩
  cases hw:wi v 0 (ws.length-1)<;>simp only[hw,if_true,if_false,aH]at h⊢
  ·exact h
  ·obtain⟨i,rfl,h0,h1⟩:=gk hw
   obtain⟨x,hx'⟩:=N0 wo' (show(iv (.int i)).toNat<ws.length by show i.toNat<_;omega)
   have ei:(((iv (V.int i)).toNat:Nat):Int)=i:=bZ h0
   rw[mS,ei]at h
   generalize ws.getD (iv (V.int i)).toNat 0=W at*
   refine⟨au,?_⟩
   rw[hx']
   dsimp only
   rcases Ae hx' with ⟨rfl,c⟩|⟨rfl,c⟩|⟨rfl,c⟩
   ·rw[if_neg (by omega)]at h
    rw[if_pos SX];exact h
   ·rw[if_neg (λz=>z rfl),BG (by omega)]
    refine⟨au,_,rfl,?_⟩
    by_cases d:0<=W/2/\W/2<=34/\W/2%4<=2
    ·rw[if_neg (λz=>z d)]
     refine⟨au,by decide,by decide,q,ws,m,au,?_⟩
     by_cases f:i+W/2/4<=ws.length-1
     ·rw[if_pos ⟨c.1,by omega,by omega,by omega,f⟩]at h
      rw[if_neg (by simp only[wi];simp;omega)];exact h
     ·rw[if_neg (by omega)]at h
      rw[if_pos (by simp only[wi];simp;omega)];exact h
    ·rw[if_pos d]
     rw[if_neg (by omega)]at h
     exact h
   ·rw[if_neg (by omega)]at h
    rw[if_pos S0];exact h
noncomputable def AU (A:Ad):Sp:=λvs H Q _=>∃(m q:Addr) (ws:List Int) (z:Int) (d:Addr) (ks:List Int),vs=[.ref m,.int z,.ref d]/\gE A.dP H m q ws/\fv ws/\0<=z/\z<ws.length/\H d=some (.dK (zK ks))/\Q (.bl (jI (ws.getD z.toNat 0)&&decide (ws.getD z.toNat 0/2∈ks))) H
theorem AI:dX ["memory","place","cells","word"] ["memory","place","cells"] (dM xG):=fsc
theorem Gj(T:Txt K mg A):e_ P w K mg base (gY P w) true 6 A.lB A.ox ["memory","place","cells"] (AU A):=by
 refine T.uY.jD AI (λvs H Q E h=> ?_) (λcdv A' outer s H vs Q E hr hx h=> ?_)
 ·obtain⟨_,_,_,_,_,_,rfl,_⟩:=h
  rfl
 ·obtain⟨m,q,ws,z,d,ks,rfl,h⟩:=h
  obtain⟨h,hm,wo',z0,z1,ed⟩:=Q0 h
  refine⟨_,ix.run (dC (eK (i:=3) AI.nd rfl lo (ej (dE 0) T.gf T.p8 ((rX T).mono (by decide)) hr T.pV hx (dB (dE 1) dA)))
   (dF (d9 (uA (gW qC (dG ((q_ T).mono (by decide)) hr rfl T.qB T.oJ.kp T.tI hx (dB (dE 3) dA)) eO (fk _)) (rR (gW (J9 (yI hr)) (dG ((rY T).mono (by decide)) hr rfl T.p5 T.oN.kp T.sC hx (dB (dE 3) dA)) (dE 2) (by with_unfolding_all rfl))))))),?_⟩
  obtain⟨dx,e⟩:=hm.ob
  simp only[fW,gj,gU,Cn,dN,dZ,tC,dQ,gh,eZ,dR,IH,eqv,and_assoc,Int.reduceAdd,Int.reduceSub,↓er,uB,L2.start,KI,aq,av,af,ak,List.replicate,aJ,aN,aa,ae,aE,aD,V.int.injEq,V.bl.injEq,V.str.injEq,V.ref.injEq,V.ty.injEq,ai,ah,and_true,true_and,exists_eq_left',exists_and_left,decide_eq_true_eq,Nat.reduceSub,Nat.reduceAdd,↓gb,nu,si,p_,sm,e,Ji,ed]
  refine⟨q,ws,hm,au,?_⟩
  rw[if_pos (zv (by omega) (by omega))]
  obtain⟨x,hx'⟩:=Option.isSome_iff_exists.mp (wo' _ (show ws.getD z.toNat 0∈ws by rw[aL,aG (show z.toNat<ws.length by omega)];exact bf _))
  rw[show(iv (V.int z)).toNat=z.toNat from rfl]
  refine⟨au,?_⟩
  rcases Kk (show(kd (.int (ws.getD z.toNat 0))).isSome=true by rw[hx'];rfl) with ⟨c,k,c1,c2,c3⟩|⟨c,y,k,ny⟩
  ·rw[k]
   dsimp only
   rw[if_pos rfl,BG (by omega)]
   rw[c,Bool.true_and,←JF]at h
   exact⟨au,h⟩
  ·rw[k]
   dsimp only
   rw[if_neg ny]
   rw[c,Bool.false_and]at h
   exact h
noncomputable def tB (A:Ad):Sp:=λvs H Q E=>∃p d ks v,vs=[.ref p,v]/\rz A.eV H p d ks/\Kn H v/\
 if wi v 0 9999=true then(∀H',rz A.eV H' p d (Bp ks (iv v))->(∀b o,H b=some o->b≠d->H' b=some o)->Q .gT H') else E (.ref A.fB) none H
theorem Kq{ks:List Int}{k:Int}(h:¬k∈ks):Bp ks k=ks:=List.filter_eq_self.mpr λx hx=>decide_eq_true λz=>h (z▸hx)
theorem HW:dX ["self","place"] ["self","place"] (dM zi):=fsc
theorem tj(T:Txt K mg A):e_ P w K mg base (gY P w) true 6 A.lb A.pv ["self","place"] (tB A):=by
 refine T.B0.jD HW (λvs H Q E h=> ?_) (λcdv A' outer s H vs Q E hr hx h=> ?_)
 ·obtain⟨_,_,_,_,rfl,_⟩:=h
  rfl
 ·obtain⟨p,d,ks,v,rfl,h⟩:=h
  obtain⟨h,m,hk⟩:=A6 h
  refine⟨_,ix.run (dF (eX (eW (ej (dE 0) T.jJ T.zd ((Cd T).mono (by decide)) hr T.yW hx (dB (dE 1) dA)) (λ_=>rfl)) (dF (dW (Mq (dI (dE 0) rfl) (dE 1) ⟨rfl,rfl,rfl,rfl⟩))) eG)),?_⟩
  obtain⟨dx,e⟩:=m.ob
  cases hw:wi v 0 9999 with
  |false=>
   rw[hw]at h
   simp only[gc,fj,gO,dN,dZ,dQ,eA,jH,and_assoc,Int.reduceAdd,↓eJ,↓er,uB,L2.start,JN,aq,av,af,ak,List.replicate,az,aa,ae,V.int.injEq,V.bl.injEq,V.str.injEq,V.ref.injEq,V.ty.injEq,ai,ah,and_true,true_and,exists_eq_left',exists_and_left,exists_eq_left,decide_eq_true_eq,Nat.reduceAdd,aB,fU,kr,nu,tw,e,FF]
   exact⟨d,ks,m,hk,by rw[hw];exact h⟩
  |true=>
   obtain⟨i,rfl,i0,i1⟩:=gk hw
   rw[if_pos hw]at h
   simp only[gc,fj,gO,dN,dZ,dQ,eA,jH,and_assoc,Int.reduceAdd,↓eJ,↓er,uB,L2.start,JN,aq,av,af,ak,List.replicate,az,aa,ae,V.int.injEq,V.bl.injEq,V.str.injEq,V.ref.injEq,V.ty.injEq,ai,ah,and_true,true_and,exists_eq_left',exists_and_left,exists_eq_left,decide_eq_true_eq,Nat.reduceAdd,aB,fU,kr,nu,tw,e,FF,T.jJ,T.gS,JD]
   refine⟨d,ks,m,au,?_⟩
   rw[if_pos hw]
   by_cases z:i∈ks
   ·rw[if_pos (show iv (V.int i)∈ks from z)]
    have e2:qx (zK ks) (Sum.inl i)=some (.bl true):=by rw[CK,if_pos z]
    simp only[m.dc,e2,LS]
    exact h _ m.put λb o eb nb=>by rw[dO nb];exact eb
   ·rw[if_neg (show¬iv (V.int i)∈ks from z)]
    refine h H ?_ λb o eb _=>eb
    rw[show Bp ks (iv (V.int i))=ks from Kq z]
    exact m
noncomputable def vZ (A:Ad):Sp:=λvs H Q E=>∃r h q b d ws ks,vs=[.ref r]/\IB A.eB A.eN A.eV H r h q b d ws ks/\fv ws/\ws.length<=6/\∀f H',H f=none->dY H H'->H' f=some (.lst ((G1 ws).map V.int))->Q (.ref f) H'
theorem CA:dX ["self"] ["self"] (dM oV):=fsc
theorem Cw(T:Txt K mg A):e_ P w K mg base (gY P w) true 6 A.g9 A.jR ["self"] (vZ A):=by
 refine T.vR.jD CA (λvs H Q E h=> ?_) (λcdv A' outer s H vs Q E hr hx h=> ?_)
 ·obtain⟨_,_,_,_,_,_,_,rfl,_⟩:=h
  rfl
 ·obtain⟨r,h,q,b,d,ws,ks,rfl,h⟩:=h
  obtain⟨k,m,wo,hl⟩:=IC h
  refine⟨_,ix.run (dF (d9 (mw (fsc:=dM oV) (N2:=[]) (js:=[]) ⟨rfl,rfl,by decide+kernel,by decide+kernel,by decide+kernel,by decide+kernel,by decide+kernel,by decide+kernel,by decide+kernel⟩ rfl rfl (by rfl) (gg (h_ (dI (dE 0) rfl) T.jO T.B8 ((F9 T).mono (by decide)) hr T.BL hx)) (λ_ _ _ _=>(pJ (eC qC (dG ((q_ T).mono (by decide)) hr rfl T.qB T.oJ.kp T.tI qM (dB (dE 0) dA)) eO (fk _)))) (λ_ _ _ _=>(dG ((rY T).mono (by decide)) hr rfl T.p5 T.oN.kp T.sC qM (dB (dE 0) dA)))))),?_⟩
  obtain⟨dx,w,l,e⟩:=m.ob
  obtain⟨dh,eh⟩:=m.hd.ob
  simp only[fW,dZ,dQ,eA,Int.reduceAdd,qv,pj,mH,↓eJ,↓er,L2.start,aq,av,af,ak,List.replicate,az,aa,V.int.injEq,V.bl.injEq,V.str.injEq,V.ref.injEq,V.ty.injEq,ai,ah,and_true,true_and,exists_eq_left',exists_and_left,Nat.reduceAdd,aB,fU,kr,nu,e,T.f_,T.gJ,DQ,eh,NT,AN]
  refine⟨q,ws,m.hd,λl0 hl0=>⟨⟨_,iC.of dH⟩,?_⟩⟩
  have hsl:upd H l0 (.lst (ws.map V.int)) l0=some (.lst (ws.map V.int)):=dH
  have s0:dY H (upd H l0 (.lst (ws.map V.int))):=dY.upd hl0
  refine mQ.E6 (λx=>jI (iv x)) (λx=> .int (iv x/2)) (iC.of hsl) (by rw[ax];exact aA hl (by decide)) (λx hx' K' hK=> ?_) (λx hx' hp K' hK=> ?_) λl2 hl2=> ?_
  ·obtain⟨w,hw',rfl⟩:=List.mem_map.mp hx'
   obtain⟨y,hy⟩:=Option.isSome_iff_exists.mp (wo w hw')
   simp only[gp,gU,dN,dZ,tC,dQ,dR,IH,eqv,aa,V.int.injEq,V.bl.injEq,V.str.injEq,V.ref.injEq,V.ty.injEq,ai,ah,and_true,exists_eq_left',↓gb,p_,hy]
   refine⟨au,?_⟩
   have hd':decide (y=Str.ofString "place")=jI w:=by
    rcases Ae hy with ⟨rfl,c⟩|⟨rfl,c⟩|⟨rfl,c⟩
    ·rw[decide_eq_false P9];exact(decide_eq_false (by omega)).symm
    ·rw[decide_eq_false P7];exact(decide_eq_false (by omega)).symm
    ·rw[decide_eq_true rfl];exact(decide_eq_true (by omega)).symm
   rw[hd'];exact hK
  ·obtain⟨w,hw',rfl⟩:=List.mem_map.mp hx'
   obtain⟨y,hy⟩:=Option.isSome_iff_exists.mp (wo w hw')
   simp only[dN,dZ,dQ,dR,aa,V.int.injEq,V.bl.injEq,V.str.injEq,V.ref.injEq,V.ty.injEq,ai,ah,and_true,exists_eq_left',sm,hy]
   have hp':jI w=true:=hp
   simp only[jI,decide_eq_true_eq]at hp'
   refine⟨au,?_⟩
   rw[BG (by omega)]
   exact hK
  ·obtain⟨_,hl3⟩:=gv hl2
   refine k _ _ hl3 (s0.trans (dY.upd hl2)) ?_
   rw[dH]
   simp only[G1,bS,aW]
   rfl
noncomputable def xN (A:Ad):Sp:=λvs H Q _=>∃p m q o y s ws so sy ss w,vs=[.ref p,.int w]/\pe A.eu A.dP A.dU H p m q o y s ws so sy ss/\(kd (.int w)).isSome=true/\Q (.bl (jI w&&wi (.int (w/2)) sy.b (sy.t-1))) H
theorem DX:dX ["areas","word"] ["areas","word"] (dM t6):=fsc
theorem DN(T:Txt K mg A):e_ P w K mg base (gY P w) true 6 A.jy A.kJ ["areas","word"] (xN A):=by
 refine T.rN.jD DX (λvs H Q E h=> ?_) (λcdv A' outer s H vs Q E hr hx h=> ?_)
 ·obtain⟨_,_,_,_,_,_,_,_,_,_,_,rfl,_⟩:=h
  rfl
 ·obtain⟨p,m,q,o,y,s',ws,so,sy,ss,w,rfl,h⟩:=h
  obtain⟨k,a,hm⟩:=A6 h
  refine⟨_,ix.run (dF (d9 (uA (gW qC (dG ((q_ T).mono (by decide)) hr rfl T.qB T.oJ.kp T.tI hx (dB (dE 1) dA)) eO (fk _)) (rR (ej (dI (dE 0) rfl) T.fG T.w_ ((Ay T).mono (by decide)) hr T.wB hx (dB (dG ((rY T).mono (by decide)) hr rfl T.p5 T.oN.kp T.sC hx (dB (dE 1) dA)) dA)))))),?_⟩
  obtain⟨d1,e1⟩:=a.ob
  obtain⟨d2,e2⟩:=a.BH
  simp only[fW,gU,Cn,dN,dZ,tC,dQ,dR,IH,eqv,eA,and_assoc,Int.reduceAdd,↓eJ,↓er,L2.start,aq,av,af,ak,List.replicate,az,aa,ae,V.int.injEq,V.bl.injEq,V.str.injEq,V.ref.injEq,V.ty.injEq,ai,ah,and_true,true_and,exists_eq_left',exists_and_left,decide_eq_true_eq,Nat.reduceAdd,aB,↓gb,fU,kr,nu,e1,T.eQ,T.fE,wt,e2,Kv,vF,p_,sm]
  refine⟨au,?_⟩
  rcases Kk hm with ⟨c,kk,c1,c2,c3⟩|⟨c,x,kk,nx⟩
  ·rw[c,Bool.true_and]at k
   rw[kk]
   dsimp only
   rw[if_pos rfl]
   refine⟨au,d2,_,_,_,rfl,?_⟩
   rw[BG (by omega)]
   exact⟨au,k⟩
  ·rw[kk]
   rw[c]at k
   dsimp only
   rw[if_neg nx]
   exact k
noncomputable def vE (A:Ad):Sp:=λvs H Q E=>∃X S v x,vs=[.ref X.p,v,x]/\i8 A.eR A.eB A.eN A.eV A.eu A.dP A.dU H X S/\Kn H v/\Kn H x/\
 if wi v 0 (S.hw.length-1)=true then(match kd x with
  |some _=>∀H',i8 A.eR A.eB A.eN A.eV A.eu A.dP A.dU H' X {S with hw:=S.hw.set (iv v).toNat (iv x)}->(∀b o,H b=some o->b≠X.qh->H' b=some o)->Q .gT H'
  |none=>E (.ref A.iV) none H) else E (.ref A.g6) none H
theorem Gz:dX ["self","hand","word"] ["self","hand","word"] (dM xq):=fsc
theorem F_(T:Txt K mg A):e_ P w K mg base (gY P w) true 6 A.j5 A.nX ["self","hand","word"] (vE A):=by
 refine T.zT.jD Gz (λvs H Q E h=> ?_) (λcdv A' outer s H vs Q E hr hx h=> ?_)
 ·obtain⟨_,_,_,_,rfl,_⟩:=h
  rfl
 ·obtain⟨X,S,v,x,rfl,h⟩:=h
  obtain⟨q,g,hk,hx'⟩:=IC h
  refine⟨_,ix.run (dF (dW (ej (dI (dI (dE 0) rfl) rfl) T.jO T.w4 ((Au T).mono (by decide)) hr T.wu hx (dB (dE 1) (dB (dE 2) dA))))),?_⟩
  obtain⟨d0,e0⟩:=g.ob
  obtain⟨d1,w1,l1,e1⟩:=g.rt.ob
  obtain⟨d2,e2⟩:=g.rt.hd.ob
  simp only[fj,dN,dZ,dQ,eA,and_assoc,Int.reduceAdd,↓eJ,↓er,L2.start,aq,av,af,ak,List.replicate,az,aa,ae,V.int.injEq,V.bl.injEq,V.str.injEq,V.ref.injEq,V.ty.injEq,ai,ah,and_true,true_and,exists_eq_left',exists_and_left,Nat.reduceAdd,aB,fU,kr,nu,e0,T.eU,T.eP,mX,e1,T.f_,T.gJ,DQ,e2,J2,AM]
  refine⟨X.qh,S.hw,g.rt.hd,hk,hx',?_⟩
  cases hw:wi v 0 (S.hw.length-1)<;>rw[hw]at q
  ·exact q
  ·rw[if_pos rfl]at q⊢
   cases hd:kd x with
   |none=>rw[hd]at q;exact q
   |some y=>
    rw[hd]at q
    exact q _ (g.OZ dH λb o eb nb=>by rw[dO nb];exact eb) λb o eb nb=>by rw[dO nb];exact eb
noncomputable def qF (A:Ad):Sp:=λvs H Q E=>∃X S v,vs=[.ref X.p,v]/\i8 A.eR A.eB A.eN A.eV A.eu A.dP A.dU H X S/\Kn H v/\fv S.hw/\
 if wi v 0 (S.hw.length-1)=true then(if jI (S.w (iv v))=true then Q (.int (S.w (iv v)/2)) H else E (.ref A.gF) none H) else E (.ref A.g6) none H
theorem vY:dX ["self","hand","word"] ["self","hand"] (dM rZ):=fsc
theorem nv(T:Txt K mg A):e_ P w K mg base (gY P w) true 6 A.g7 A.jP ["self","hand"] (qF A):=by
 refine T.vP.jD vY (λvs H Q E h=> ?_) (λcdv A' outer s H vs Q E hr hx h=> ?_)
 ·obtain⟨_,_,_,rfl,_⟩:=h
  rfl
 ·obtain⟨X,S,v,rfl,h⟩:=h
  obtain⟨q,g,hk,wo'⟩:=IC h
  refine⟨_,ix.run (dC (eK (i:=2) vY.nd rfl lo (ej (dE 0) T.eU T.qo ((q9 T).mono (by decide)) hr T.qc hx (dB (dE 1) dA)))
   (dC (eX (eC IW (dG ((q_ T).mono (by decide)) hr rfl T.qB T.oJ.kp T.tI hx (dB (dE 2) dA)) eO (fk _)) (dF (fu hx rfl T.pW T.qa rfl (dB eO dA))) eG)
   (dF (d9 (dG ((rY T).mono (by decide)) hr rfl T.p5 T.oN.kp T.sC hx (dB (dE 2) dA)))))),?_⟩
  obtain⟨d0,e0⟩:=g.ob
  simp only[fW,gc,gj,gO,gp,gU,dN,dZ,tC,dQ,gh,eZ,dR,gi,Ph,eqv,and_assoc,Int.reduceAdd,Int.reduceSub,aM,↓er,decide_eq_false_iff_not,L2.start,aq,av,af,ak,List.replicate,aJ,aN,aa,ae,aE,aD,V.int.injEq,V.bl.injEq,V.str.injEq,V.ref.injEq,V.ty.injEq,ai,ah,and_true,true_and,exists_eq_left',exists_and_left,Nat.reduceSub,Nat.reduceAdd,uO,↓gb,nu,e0,z_,vD,p_,sm]
  refine⟨X,rfl,S,g,hk,?_⟩
  cases hw:wi v 0 (S.hw.length-1)<;>rw[hw]at q
  ·exact q
  ·rw[if_pos rfl]at q⊢
   obtain⟨i,rfl,i0,i1⟩:=gk hw
   have hm:=wo' _ (FW i0 i1)
   refine⟨au,?_⟩
   have hiv:iv (V.int i)=i:=rfl
   rw[hiv]at q⊢
   generalize S.w i=W at*
   rcases Kk hm with ⟨c,k,c1,c2,c3⟩|⟨c,x,k,nx⟩
   ·rw[if_pos c]at q
    rw[k]
    dsimp only
    rw[if_neg (λz=>z rfl),BG (by omega)]
    exact⟨au,q⟩
   ·rw[c]at q
    rw[k]
    dsimp only
    rw[if_pos nx]
    exact q
noncomputable def ES (A:Ad):Sp:=λvs H Q _=>∃(X:HA) (W:WA) (S:HS) (nm tk k p w:Int),vs=[.ref X.p,.int k,.int p,.int w]/\Wd A H X W S [some nm] [some (tk,5)]/\S.hw.length=3/\0<=w/\w<=9999/\
 ((k=1/\∀H',Wd A H' X W {S with hw:=S.hw.set 0 (2*w+1)} [some nm] [some (tk,5)]->wj X W H H'->Q .gT H')
 ∨(k=2/\0<=p/\p+1<S.ws.length/\∀H',Wd A H' X W {S with ws:=S.ws.set (p+1).toNat (2*w+1)} [some nm] [some (tk,5)]->wj X W H H'->Q .gT H')
 ∨(k=3/\∀H',Wd A H' X W S [some w] [some (tk,5)]->wj X W H H'->Q .gT H')
 ∨(k=4/\∀H',Wd A H' X W S [some nm] [some (w,5)]->wj X W H H'->Q .gT H'))
theorem EI:dX ["_law_heap","_law_way","_law_at","_law_nowhere_here"] ["_law_heap","_law_way","_law_at","_law_nowhere_here"] (dM vx):=fsc
theorem Ew(T:Txt K mg A):e_ P w K mg base (gY P w) true 6 A.kh A.mf ["_law_heap","_law_way","_law_at","_law_nowhere_here"] (ES A):=by
 refine T.tM.jD EI (λvs H Q E h=> ?_) (λcdv A' outer s H vs Q E hr hx h=> ?_)
 ·obtain⟨_,_,_,_,_,_,_,_,rfl,_⟩:=h
  rfl
 ·obtain⟨X,W,S,nm,tk,k,p,w',rfl,h⟩:=h
  obtain⟨q,m,hl,w0,w9⟩:=LK h
  refine⟨_,ix.run (dF (eX (eC qC (dE 1) dJ (fk _)) (dF (dW (ej (dI (dI (dE 0) rfl) rfl) T.jO T.w4 ((Au T).mono (by decide)) hr T.wu hx (dB dJ (dB (dS fM (dS sS dJ (dE 3)) dJ) dA))))) (dF (eX (eC qC (dE 1) dJ (fk _)) (dF (dW (ej (dI (dI (dE 0) rfl) rfl) T.gf T.iK ((i6 T).mono (by decide)) hr T.iD hx (dB (dS fM (dE 2) dJ) (dB (dS fM (dS sS dJ (dE 3)) dJ) dA))))) (dF (eX (eC qC (dE 1) dJ (fk _)) (dF (dW (ej (dI (dI (dE 0) rfl) rfl) T.m8 T.Ca ((Gf T).mono (by decide)) hr T.BQ hx (dB dJ (dB (dE 3) dA))))) (dF (dW (ej (dI (dI (dE 0) rfl) rfl) T.ja T.Ai ((Ep T).mono (by decide)) hr T.zC hx (dB dJ (dB (dE 3) dA))))))))))),?_⟩
  obtain⟨d0,e0⟩:=m.g.ob
  obtain⟨d1,e1⟩:=m.wl.ob
  have hk:kd (.int (2*w'+1))=some (Str.ofString "place"):=by rw[oQ,if_neg (by omega),if_neg (by omega),if_pos (by omega)]
  rcases q with ⟨rfl,q⟩|⟨rfl,p0,p1,q⟩|⟨rfl,q⟩|⟨rfl,q⟩
  ·obtain⟨d2,e2⟩:=m.g.rt.hd.ob
   simp only[fj,gO,gp,gU,dN,dZ,tC,dQ,oF,Df,IH,eqv,eA,Cp,true_or,Int.reduceLT,Nat.reduceLT,Int.reduceNeg,Int.reducePow,Int.reduceAdd,↓reduceIte,decide_true,↓A9,↓uh,L2.start,aq,av,af,ak,List.replicate,az,aa,ae,and_true,true_and,Nat.reduceAdd,aB,↓gb,↓Cu e0 T.eU T.eP mX,↓Cu e1 T.f_ T.gJ DQ,↓Cc e2 J2]
   refine⟨_,X.qh,S.hw,_,_,rfl,m.g.rt.hd,au,au,?_⟩
   rw[if_pos (zv (by omega) (by omega)),hk]
   dsimp only
   have kf:∀b o,H b=some o->b≠X.qh->upd H X.qh (HO.lst ((S.hw.set (iv (V.int 0)).toNat (iv (V.int (2*w'+1)))).map V.int)) b=some o:=λb o eb nb=>by rw[dO nb];exact eb
   have r:=m.heap (m.g.OZ (w:=S.hw.set (iv (V.int 0)).toNat (iv (V.int (2*w'+1)))) dH kf) λb o eb _ n _ _ _=>kf b o eb n
   exact q _ r.1 r.2
  ·obtain⟨d2,e2⟩:=m.g.ar.ob
   obtain⟨d3,e3⟩:=m.g.ar.mem.ob
   simp only[fj,gO,gp,gU,dN,dZ,tC,dQ,oF,Df,IH,eqv,eA,Cp,true_or,Int.reduceLT,Int.reduceEq,Nat.reduceLT,Int.reduceNeg,Int.reducePow,Int.reduceAdd,String.reduceEq,↓reduceIte,decide_true,decide_false,↓A9,↓uh,L2.start,aq,av,af,ak,List.replicate,az,aa,ae,and_true,true_and,aH,Nat.reduceAdd,aB,↓gb,↓Cu e0 T.eU T.eT oC,↓Cu e2 T.eQ T.d_ jV,↓Cc e3 Bi]
   refine⟨_,X.q,S.ws,_,_,rfl,m.g.ar.mem,au,au,?_⟩
   rw[if_pos (zv (by omega) (by omega)),hk]
   dsimp only
   have kf:∀b o,H b=some o->b≠X.q->upd H X.q (HO.lst ((S.ws.set (iv (V.int (p+1))).toNat (iv (V.int (2*w'+1)))).map V.int)) b=some o:=λb o eb nb=>by rw[dO nb];exact eb
   have r:=m.heap (m.g.ET (m.g.ar.N8 (m.g.ar.mem.put (iv (V.int (p+1))).toNat (iv (V.int (2*w'+1)))) kf) λb o eb n _ _=>kf b o eb n) λb o eb n _ _ _ _=>kf b o eb n
   exact q _ r.1 r.2
  ·obtain⟨d2,e2⟩:=m.wl.wk.ob
   simp only[fj,gO,gp,gU,dN,dZ,tC,dQ,IH,eqv,eA,Int.reduceEq,Int.reduceAdd,String.reduceEq,↓reduceIte,decide_true,decide_false,↓A9,↓uh,L2.start,aq,av,af,ak,List.replicate,az,aa,ae,aH,Nat.reduceAdd,aB,↓gb,↓Cu e0 T.eU T.eP mX,↓Cu e1 T.f_ T.iN Jp,↓Cc e2 Nj]
   refine⟨_,W.wq,[some nm],_,_,rfl,m.wl.wk,au,au,?_⟩
   rw[if_pos (show stN [some nm] (.int 0)=true from rfl),if_pos (by simp only[wi,aI,decide_eq_true_eq];omega)]
   have r:=m.weak (os':=[some w'])
   exact q _ r.1 r.2
  ·obtain⟨es,ml⟩:=m.wl.ls
   obtain⟨d2,e2⟩:=ml.ob
   simp only[fj,gO,gp,gU,dN,dZ,tC,dQ,IH,eqv,eA,Int.reduceEq,Int.reduceAdd,String.reduceEq,↓reduceIte,decide_false,↓A9,↓uh,L2.start,aq,av,af,ak,List.replicate,az,aa,ae,aH,Nat.reduceAdd,aB,↓gb,↓Cu e0 T.eU T.eP mX,↓Cu e1 T.f_ T.iM Jo,↓Cc e2 MA]
   refine⟨_,W.ld,W.lq,[some (tk,5)],[],es,_,_,rfl,ml,au,au,(show(1:Nat)<64 by decide),?_⟩
   rw[show pd [some (tk,5)] (.int 0)=some (tk,5) from rfl]
   dsimp only
   rw[if_pos (zv (by omega) (by omega))]
   intro H' es' ml' ko
   have r:=m.last ml' ko
   exact q _ r.1 r.2
noncomputable def Nf (A:Ad):Sp:=λvs H Q E=>∃p q ws v g,vs=[.ref p,v,g]/\gE A.dP H p q ws/\Kn H v/\Kn H g/\ws.length<=4000/\
 if wi g 0 8=true then(if wi v 0 (ws.length-1-iv g)=true then
   (∀H',gE A.dP H' p q (laid ws (iv v).toNat (iv g).toNat)->(∀b o,H b=some o->b≠q->H' b=some o)->Q .gT H')
  else E (.ref A.fB) none H) else E (.ref A.fO) none H
theorem Nb:dX ["memory","at","slots","place"] ["memory","at","slots"] (dM Na):=fsc
theorem Qb(T:Txt K mg A):e_ P w K mg base (gY P w) true 7 A.Dk A.E4 ["memory","at","slots"] (Nf A):=by
 refine T.IQ.jD Nb (λvs H Q E h=> ?_) (λcdv A' outer s H vs Q E hr hx h=> ?_)
 ·obtain⟨_,_,_,_,_,rfl,_⟩:=h
  rfl
 ·obtain⟨p,q,ws,v,g,rfl,h⟩:=h
  obtain⟨h,m,hk,hg,hl⟩:=LK h
  refine⟨_,ix.run (dC (dW (dG ((tT T).mono (by decide)) hr rfl T.mr T.mT.kp T.qK hx (dB (dE 2) dA)))
   (dC (eX (gs (eW (dG ((Kh T).mono (by decide)) hr rfl T.Dp T.CN.kp T.IF hx (dB (dE 0) (dB (dE 1) (dB (dE 2) dA)))) (λ_=>rfl))) (dF (fu hx rfl T.rl T.rq rfl (dB eO dA))) eG)
   (dC (dW (ej (dE 0) T.gf T.iK ((i6 T).mono (by decide)) hr T.iD hx (dB (dE 1) (dB (dG ((Az T).mono (by decide)) hr rfl T.qj T.qN.kp T.wD hx (dB (dE 2) (dB dJ dA))) dA))))
   (dF (rS hx.own rfl (Hx rfl T.yh (dB (dS fM (dE 1) dJ) (dB (dS fM (dS fM (dE 1) dJ) (dE 2)) dA))) (pI (i:=3) Nb.nd rfl lo)
    (dF (dW (ej (dE 0) T.gf T.iK ((i6 T).mono (by decide)) hr T.iD hx (dB (dE 3) (dB (ia T.pT) dA)))))))))),?_⟩
  obtain⟨dx,e⟩:=m.ob
  cases hg2:wi g 0 8 with
  |false=>
   refine ib (λ_ _=>False) (λR _=> ?_) (λ_ _ z=>z.elim)
   simp only[fj,dN,dZ,dQ,dR,Int.reduceAdd,Int.reduceSub,↓reduceIte,L2.start,aq,av,af,ak,List.replicate,aJ,aN,aa,ae,V.int.injEq,V.bl.injEq,V.str.injEq,V.ref.injEq,V.ty.injEq,ai,ah,and_true,exists_eq_left',aH,Nat.reduceSub,Nat.reduceAdd,kN,hg2]
   rw[hg2]at h
   exact⟨hg,h⟩
  |true=>
   obtain⟨j,rfl,j0,j1⟩:=gk hg2
   rw[if_pos hg2]at h
   refine eF (λσ' H'=>H=H'/\σ'=[some (V.ref p),some v,some (V.int j),none]) (λR hR=> ?_) ?_
   ·simp only[fj,dN,dZ,dQ,dR,Int.reduceAdd,Int.reduceSub,↓reduceIte,L2.start,aq,av,af,ak,List.replicate,aJ,aN,aa,ae,V.int.injEq,V.bl.injEq,V.str.injEq,V.ref.injEq,V.ty.injEq,ai,ah,and_true,exists_eq_left',Nat.reduceSub,Nat.reduceAdd,kN,hg2]
    exact⟨au,hR _ _ ⟨rfl,rfl⟩⟩
   rintro Gq hGq _ _ ⟨rfl,rfl⟩
   subst hGq
   cases hw:wi v 0 (ws.length-1-j) with
   |false=>
    refine ib (λ_ _=>False) (λR _=> ?_) (λ_ _ z=>z.elim)
    simp only[gc,gO,nQ,dN,dZ,tC,dQ,dR,gi,jH,and_assoc,Int.reduceAdd,aM,af,ak,aa,ae,V.int.injEq,V.bl.injEq,V.str.injEq,V.ref.injEq,V.ty.injEq,ai,ah,and_true,true_and,exists_eq_left',exists_and_left,exists_eq_left,Nat.reduceAdd,uO,C2]
    rw[if_neg (by show¬(wi v 0 (ws.length-1-j)=true);rw[hw];intro z;cases z)]at h
    refine⟨q,ws,m,hk,?_⟩
    rw[hw];exact h
   |true=>
    obtain⟨i,rfl,i0,i1⟩:=gk hw
    rw[if_pos (show wi (V.int i) 0 (ws.length-1-iv (V.int j))=true from hw)]at h
    refine eF (λσ' H'=>H=H'/\σ'=[some (V.ref p),some (V.int i),some (V.int j),none]) (λR hR=> ?_) ?_
    ·simp only[gc,gO,nQ,dN,dZ,tC,dQ,dR,gi,jH,and_assoc,Int.reduceAdd,aM,af,ak,aa,ae,V.int.injEq,V.bl.injEq,V.str.injEq,V.ref.injEq,V.ty.injEq,ai,ah,and_true,true_and,exists_eq_left',exists_and_left,exists_eq_left,Nat.reduceAdd,uO,C2]
     refine⟨q,ws,m,au,?_⟩
     rw[if_neg (by rw[hw];intro z;cases z)]
     exact hR _ _ ⟨rfl,rfl⟩
    rintro Gq hGq _ _ ⟨rfl,rfl⟩
    subst hGq
    simp only[fj,gj,gU,dN,dZ,tC,dQ,dR,oF,and_assoc,Int.reduceLE,Int.reduceNeg,Int.reducePow,tE,Mo,↓er,aa,ae,V.int.injEq,V.bl.injEq,V.str.injEq,V.ref.injEq,V.ty.injEq,ai,ah,and_true,true_and,exists_eq_left',exists_and_left,nu,vG,e,Bi]
    refine⟨j0,j1,p,q,ws,_,_,rfl,m,au,au,?_⟩
    rw[if_pos (by simp[wi];omega),oQ,if_neg (by omega),if_pos (by omega)]
    dsimp only
    refine⟨by omega,by omega,by omega,by omega,?_⟩
    rw[show(i+1+j-(i+1)).toNat=j.toNat by omega,show(iv (V.int i)).toNat=i.toNat from rfl,show iv (V.int (2*(4*j+0)))=8*(j.toNat:Int) by show 2*(4*j+0)=_;omega]
    refine oG.range (λt σ H'=>∃v3,σ=[some (.ref p),some (.int i),some (.int j),v3]/\gE A.dP H' p q (blank (ws.set i.toNat (8*(j.toNat:Int))) (i.toNat+1) t)/\(∀b o,H b=some o->b≠q->H' b=some o))
     ⟨_,rfl,m.put _ _,λb o eb nb=>by rw[dO nb];exact eb⟩ ?_ ?_
    ·rintro t σ H1 ht ⟨v3,rfl,m1,b1⟩
     obtain⟨dy,e1⟩:=m1.ob
     simp only[fj,dN,dZ,tC,dQ,eZ,Int.reduceNeg,↓er,aa,ae,aE,aD,V.int.injEq,V.bl.injEq,V.str.injEq,V.ref.injEq,V.ty.injEq,ai,ah,and_true,true_and,exists_eq_left',nu,e1,Bi]
     refine⟨p,q,_,_,_,rfl,m1,au,au,?_⟩
     rw[if_pos (by rw[rh,aK];simp[wi];omega),oQ,if_pos rfl]
     dsimp only
     rw[show(iv (V.int (i+1+(t:Int)))).toNat=i.toNat+1+t by show(i+1+(t:Int)).toNat=_;omega]
     exact⟨m1.put _ _,λb o eb nb=>by rw[dO nb];exact b1 b o eb nb⟩
    ·rintro σ H1 ⟨v3,rfl,m1,b1⟩
     rw[N3]at m1
     exact h _ m1 b1
noncomputable def hU (A:Ad):Sp:=λvs H Q E=>∃p q ws v,vs=[.ref p,v]/\gE A.dP H p q ws/\Kn H v/\fv ws/\
 if wi v 0 (ws.length-1)=true then(match eY ws (iv v).toNat with
  |some n=>Q (.int (n/4)) H
  |none=>E (.ref A.gH) none H) else E (.ref A.fB) none H
theorem HZ:dX ["memory","at"] ["memory","at"] (dM zm):=fsc
theorem kc(T:Txt K mg A):e_ P w K mg base (gY P w) true 7 A.nJ A.pC ["memory","at"] (hU A):=by
 refine T.ir.jD HZ (λvs H Q E h=> ?_) (λcdv A' outer s H vs Q E hr hx h=> ?_)
 ·obtain⟨_,_,_,_,rfl,_⟩:=h
  rfl
 ·obtain⟨p,q,ws,v,rfl,h⟩:=h
  obtain⟨h,m,hk,wo'⟩:=IC h
  refine⟨_,ix.run (dF (d9 (dS iJ (dG ((xf T).mono (by decide)) hr rfl T.mU T.oI.kp T.tH hx (dB (dE 0) (dB (dE 1) dA))) dJ))),?_⟩
  simp only[fW,gU,dN,dZ,tC,dQ,dR,o8,and_assoc,wg,Int.reduceLT,Nat.reduceLT,Int.reduceAdd,L2.start,aq,av,af,ak,List.replicate,az,aa,ae,V.int.injEq,V.bl.injEq,V.str.injEq,V.ref.injEq,V.ty.injEq,ai,ah,and_true,true_and,exists_eq_left',exists_and_left,Nat.reduceAdd,aB,sk]
  refine⟨q,ws,m,hk,wo',?_⟩
  cases hw:wi v 0 (ws.length-1)<;>simp only[hw,if_true,if_false,aH]at h⊢
  ·exact h
  ·cases hc:eY ws (iv v).toNat<;>rw[hc]at h<;>exact h
noncomputable def Ft (A:Ad):Sp:=λvs H Q E=>∃p q ws v,vs=[.ref p,v]/\gE A.dP H p q ws/\Kn H v/\fv ws/\
 if wi v 0 (ws.length-1)=true then(match eY ws (iv v).toNat with
  |some n=>Q (.int (n%4)) H
  |none=>E (.ref A.gH) none H) else E (.ref A.fB) none H
theorem Lo:dX ["memory","at"] ["memory","at"] (dM DR):=fsc
theorem Fn(T:Txt K mg A):e_ P w K mg base (gY P w) true 7 A.rG A.uk ["memory","at"] (Ft A):=by
 refine T.x5.jD Lo (λvs H Q E h=> ?_) (λcdv A' outer s H vs Q E hr hx h=> ?_)
 ·obtain⟨_,_,_,_,rfl,_⟩:=h
  rfl
 ·obtain⟨p,q,ws,v,rfl,h⟩:=h
  obtain⟨h,m,hk,wo'⟩:=IC h
  refine⟨_,ix.run (dF (d9 (dS iP (dG ((xf T).mono (by decide)) hr rfl T.mU T.oI.kp T.tH hx (dB (dE 0) (dB (dE 1) dA))) dJ))),?_⟩
  simp only[fW,gU,dN,dZ,tC,dQ,dR,ui,and_assoc,Int.reduceLT,Nat.reduceLT,Int.reduceAdd,L2.start,aq,av,af,ak,List.replicate,az,aa,ae,V.int.injEq,V.bl.injEq,V.str.injEq,V.ref.injEq,V.ty.injEq,ai,ah,and_true,true_and,exists_eq_left',exists_and_left,Nat.reduceAdd,aB,sk]
  refine⟨q,ws,m,hk,wo',?_⟩
  cases hw:wi v 0 (ws.length-1)<;>simp only[hw,if_true,if_false,aH]at h⊢
  ·exact h
  ·cases hc:eY ws (iv v).toNat<;>rw[hc]at h<;>exact h
noncomputable def HS.new (n o y:Int):HS:=⟨List.replicate n.toNat (-1),[],List.replicate (o+2*y).toNat (-1),⟨0,o,0⟩,⟨o,o+y,o⟩,⟨o+y,o+2*y,o+y⟩⟩
noncomputable def AO (A:Ad):Sp:=λvs H Q E=>∃p dx v u x,vs=[.ref p,v,u,x]/\H p=some (.ins A.eR dx [])/\Kn H v/\Kn H u/\Kn H x/\
 if wi v 1 6=true/\wi u 4 2000=true/\wi x 2 500=true then(∀X W H',X.p=p->i8 A.eR A.eB A.eN A.eV A.eu A.dP A.dU H' X (HS.new (iv v) (iv u) (iv x))->A5 A.eB A.fw A.fc H' X.r X.h X.b W [] [] []->So X W->(H W.wq=none/\H W.lq=none/\H W.ld=none)->(∀b o,H b=some o->b≠p->H' b=some o)->(H X.qh=none/\H X.d=none/\H X.q=none/\H X.o=none/\H X.y=none)->Q .gT H')
 else∀H',(∀b o,H b=some o->b≠p->H' b=some o)->E (.ref A.fO) none H'
theorem GA:dX ["self","hands","old_words","young_words"] ["self","hands","old_words","young_words"] (dM xr):=fsc
theorem Ga(T:Txt K mg A):e_ P w K mg base (gY P w) true 7 A.j6 A.nY ["self","hands","old_words","young_words"] (AO A):=by
 refine T.zU.jD GA (λvs H Q E h=> ?_) (λcdv A' outer s H vs Q E hr hx h=> ?_)
 ·obtain⟨_,_,_,_,_,rfl,_⟩:=h
  rfl
 ·obtain⟨p,dx,v,u,x,rfl,h⟩:=h
  obtain⟨k,e,kv,ku,kx⟩:=LK h
  refine⟨_,ix.run (dC (gr (dE 0) (lE T.Ar ((Er T).mono (by decide)) hr rfl T.CS T.zD hx (dB (dE 1) dA)) rfl)
   (dF (gr (dE 0) (lE T.Ao ((El T).mono (by decide)) hr rfl T.CO T.zx hx (dB (dE 2) (dB (dE 3) dA))) rfl))),?_⟩
  have Hs:∀{G:Hp} {x dx:Addr} {o:HO},G x=none->G dx=none->dY G (upd (upd G dx (HO.own x)) x o):=λ{G x dx o} hx hdx b u eb=>by rw[dO (dD eb hx),dO (dD eb hdx)];exact eb
  show gj _ _ _ [some (V.ref p),some v,some u,some x] H
  refine eF (λσ' H'=>wi v 1 6=true/\∃r h q b d W,H r=none/\H h=none/\H q=none/\H b=none/\H d=none/\IB A.eB A.eN A.eV H' r h q b d (List.replicate (iv v).toNat (-1)) []/\A5 A.eB A.fw A.fc H' r h b W [] [] []/\(q≠W.wq/\q≠W.lq/\d≠W.ld)/\(H W.wq=none/\H W.lq=none/\H W.ld=none)/\H' p=some (.ins A.eR dx (gD "roots" (.ref r) []))/\(∀b o,H b=some o->b≠p->H' b=some o)/\σ'=[some (V.ref p),some v,some u,some x]) (λR hR=> ?_) ?_
  ·simp only[dN,dZ,dQ,eA,and_assoc,Int.reduceNeg,dH,oH,mP,aa,ae,V.int.injEq,V.bl.injEq,V.str.injEq,V.ref.injEq,V.ty.injEq,ai,ah,and_true,true_and,exists_eq_left',exists_and_left,yQ]
   intro y d1 hy hd1 _
   refine⟨d1,rfl,kv.same (Hs hy hd1),?_⟩
   cases hv:wi v 1 6 with
   |false=>
    rw[if_neg (by rw[hv];rintro⟨z,_⟩;cases z)]at k
    exact λH' s'=>k _ λb o eb _=>s' _ _ (Hs hy hd1 _ _ eb)
   |true=>
    rw[if_pos rfl]
    intro h q b d W H1 hh hq hb hd m1 wl1 aw nw f1
    have un:∀{z:Addr},upd (upd H d1 (HO.own y)) y (HO.ins A.eB d1 []) z=none->H z=none:=λhz=>(gv (gv hz).2).2
    have hh2:=un hh
    have hq2:=un hq
    have hb2:=un hb
    have hd2:=un hd
    have npy:=dD e hy
    rw[f1 _ _ (Hs hy hd1 _ _ e) npy]
    refine⟨T.eU,T.eP,by decide,hR _ _ ⟨hv,y,h,q,b,d,W,hy,hh2,hq2,hb2,hd2,?_,?_,aw,⟨un nw.1,un nw.2.1,un nw.2.2⟩,dH,λb o eb nb=> ?_,rfl⟩⟩
    ·obtain⟨d3,w3,l3,e3⟩:=m1.ob
     refine⟨⟨d3,w3,l3,by rw[dO (aj npy)];exact e3⟩,m1.hd.keep λb o eb hb=> ?_,m1.bk.keep λb o eb hb=> ?_⟩
     ·rw[dO (by rcases hb with rfl|rfl;exact aj (dD e hh2);exact aj (dD e hq2))];exact eb
     ·rw[dO (by rcases hb with rfl|rfl;exact aj (dD e hb2);exact aj (dD e hd2))];exact eb
    ·obtain⟨d3,e3⟩:=wl1.ob
     have ep:=f1 _ _ (Hs hy hd1 _ _ e) npy
     obtain⟨d4,e4⟩:=wl1.wk.ob
     obtain⟨es,ml⟩:=wl1.ls
     obtain⟨d5,e5⟩:=ml.ob
     have cs:∀{z:Addr} {c dz:Addr} {f:List (Str×V)},H1 z=some (.ins c dz f)->f≠ []->p≠z:=λ{z c dz f} ez hf zz=>by rw[zz,ez]at ep;cases ep;exact hf rfl
     refine⟨⟨d3,by rw[dO (aj npy)];exact e3⟩,wl1.wk.keep λb o eb hb=> ?_,⟨es,⟨⟨d5,by rw[dO (aj (cs e5 (by simp[Jd])))];exact e5⟩,by rw[dO (aj (iH ep ml.dc))];exact ml.dc,by rw[dO (aj (fD ep ml.sq))];exact ml.sq,ml.xs,λe' he'=> ?_,ml.ln⟩⟩,wl1.ne⟩
     ·rw[dO (by rcases hb with rfl|rfl;exact aj (cs e4 (by simp[G2]));exact aj (fD ep wl1.wk.ls))];exact eb
     ·have t:=ml.tp e' he'
      rw[dO (λz=>by rw[z,ep]at t;cases t)];exact t
    ·rw[dO nb];exact f1 _ _ (Hs hy hd1 _ _ eb) (dD eb hy)
  rintro Gq hGq _ H1 ⟨hv,r,h,q,b,d,W,hr',hh,hq,hb,hd,m1,wl1,aw,nw,e1,f1,rfl⟩
  subst hGq
  have ku1:Kn H1 u:=ku.frame e f1
  have kx1:Kn H1 x:=kx.frame e f1
  simp only[dN,dZ,dQ,eA,and_assoc,Int.reduceNeg,dH,oH,mP,aa,ae,V.int.injEq,V.bl.injEq,V.str.injEq,V.ref.injEq,V.ty.injEq,ai,ah,and_true,true_and,exists_eq_left',exists_and_left,yN]
  intro a d1 ha hd1 _
  refine⟨d1,rfl,ku1.same (Hs ha hd1),kx1.same (Hs ha hd1),?_⟩
  by_cases c:wi u 4 2000=true/\wi x 2 500=true
  ·rw[if_pos ⟨hv,c⟩]at k
   rw[if_pos c]
   rintro m q2 o y s2 H2 a2 f2 ⟨fm,fq,fo,fy,fs⟩
   have un:∀{z:Addr},upd (upd H1 d1 (HO.own a)) a (HO.ins A.eu d1 []) z=none->H1 z=none:=λhz=>(gv (gv hz).2).2
   have npa:=dD e1 ha
   rw[f2 _ _ (Hs ha hd1 _ _ e1) npa]
   dsimp only
   refine⟨T.eU,T.eT,(show(1:Nat)<1000 by decide),?_⟩
   rw[PF]
   have g2:∀z w,H1 z=some w->z≠p->upd H2 p (.ins A.eR dx (Ej r a)) z=some w:=λz w ez nz=>by
    rw[dO nz];exact f2 _ _ (Hs ha hd1 _ _ ez) (dD ez ha)
   have fr:∀{z:Addr},H1 z=none->H z=none:=λ{z} hz=>by
    cases ez:H z with
    |none=>rfl
    |some w=>rw[f1 _ _ ez (aj (dD e1 hz))]at hz;cases hz
   obtain⟨d3,w3,l3,e3⟩:=m1.ob
   obtain⟨d4,e4⟩:=m1.hd.ob
   obtain⟨d5,e5⟩:=m1.bk.ob
   have nr:=aj (dD e hr')
   have nh:=aj (dD e hh)
   have nq:=aj (dD e hq)
   have nb:=aj (dD e hb)
   have nd:=aj (dD e hd)
   obtain⟨d6,e6⟩:=wl1.ob
   obtain⟨d7,e7⟩:=wl1.wk.ob
   obtain⟨es,ml⟩:=wl1.ls
   obtain⟨d8,e8⟩:=ml.ob
   have cs:∀{z:Addr} {c dz:Addr} {f:List (Str×V)},H1 z=some (.ins c dz f)->f.lookup ("roots":Str)=none->z≠p:=λ{z c dz f} ez hf zz=>by
    rw[zz,e1]at ez;cases ez;simp[gD,List.lookup]at hf
   have wl2:A5 A.eB A.fw A.fc (upd H2 p (.ins A.eR dx (Ej r a))) r h b W [] [] []:=by
    refine⟨⟨d6,g2 _ _ e6 nr⟩,⟨⟨d7,g2 _ _ e7 (cs e7 (by simp[G2,List.lookup,show(("roots":Str)=="told")=false by decide+kernel]))⟩,g2 _ _ wl1.wk.ls (aj (fD e1 wl1.wk.ls))⟩,⟨es,⟨⟨d8,g2 _ _ e8 (cs e8 (by simp[Jd,List.lookup,show(("roots":Str)=="waiting")=false by decide+kernel,show(("roots":Str)=="spoken")=false by decide+kernel]))⟩,g2 _ _ ml.dc (aj (iH e1 ml.dc)),g2 _ _ ml.sq (aj (fD e1 ml.sq)),ml.xs,λe' he'=> ?_,ml.ln⟩⟩,wl1.ne⟩
    have t:=ml.tp e' he'
    exact g2 _ _ t (λz=>by rw[z,e1]at t;cases t)
   refine k ⟨p,r,a,h,q,b,d,m,q2,o,y,s2⟩ W _ rfl ⟨⟨dx,dH⟩,⟨⟨d3,w3,l3,g2 _ _ e3 nr⟩,m1.hd.keep λz w ez hz=>g2 _ _ ez (by rcases hz with rfl|rfl;exact nh;exact nq),m1.bk.keep λz w ez hz=>g2 _ _ ez (by rcases hz with rfl|rfl;exact nb;exact nd)⟩,a2.keep λz w ez hz=> ?_,dD m1.hd.ls (un fq),⟨dD e1 (un fo),dD e1 (un fy)⟩,⟨dD e3 (un fo),dD e3 (un fy)⟩,⟨dD e4 (un fo),dD e4 (un fy)⟩,⟨dD e5 (un fo),dD e5 (un fy)⟩⟩ wl2 ⟨⟨dD wl1.wk.ls (un fq),aj aw.1⟩,⟨dD ml.sq (un fq),aj aw.2.1⟩,aj aw.2.2,⟨dD e7 (un fo),dD e7 (un fy)⟩,⟨dD e8 (un fo),dD e8 (un fy)⟩⟩ nw (λz w ez nz=>g2 _ _ (f1 _ _ ez nz) nz) ⟨hq,hd,fr (un fq),fr (un fo),fr (un fy)⟩
   rw[dO ?_]
   ·exact ez
   ·rcases hz with rfl|rfl|rfl|rfl|rfl|rfl
    ·exact aj npa
    ·exact aj (dD e1 (un fm))
    ·exact aj (dD e1 (un fq))
    ·exact aj (dD e1 (un fo))
    ·exact aj (dD e1 (un fy))
    ·exact aj (dD e1 (un fs))
  ·rw[if_neg (λz=>c z.2)]at k
   rw[if_neg c]
   exact k _ λz w ez nz=>Hs ha hd1 _ _ (f1 _ _ ez nz)
noncomputable def AR (A:Ad):Sp:=λvs H Q _=>∃X S i w,vs=[.ref X.p,.int i,.int w]/\i8 A.eR A.eB A.eN A.eV A.eu A.dP A.dU H X S/\0<=i/\i<=9999/\(kd (.int w)).isSome=true/\S.ks.length<1000/\
 ∀H',i8 A.eR A.eB A.eN A.eV A.eu A.dP A.dU H' X {S with ks:=if wi (.int i) S.so.b (S.so.t-1)=true/\S.PN w=true then J5 S.ks i else Bp S.ks i}->(∀b o,H b=some o->b≠X.d->H' b=some o)->Q .gT H'
theorem GB:dX ["self","place","word"] ["self","place","word"] (dM xu):=fsc
theorem Gb(T:Txt K mg A):e_ P w K mg base (gY P w) true 7 A.j8 A.n6 ["self","place","word"] (AR A):=by
 refine T.zW.jD GB (λvs H Q E h=> ?_) (λcdv A' outer s H vs Q E hr hx h=> ?_)
 ·obtain⟨_,_,_,_,rfl,_⟩:=h
  rfl
 ·obtain⟨X,S,i,w,rfl,h⟩:=h
  obtain⟨k,g,i0,i1,hm,hl⟩:=Q0 h
  refine⟨_,ix.run (dF (eX (kS (ql (eW (ej (dI (dI (dE 0) rfl) rfl) T.fG T.w_ ((Ay T).mono (by decide)) hr T.wB hx (dB (dE 1) dA)) (λ_=>rfl)) (pK (eW (dG ((DN T).mono (by decide)) hr rfl T.pY T.rN.kp T.yt hx (dB (dI (dE 0) rfl) (dB (dE 2) dA))) (λ_=>rfl))))) (dF (dW (ej (dI (dI (dE 0) rfl) rfl) T.jJ T.vf ((yJ T).mono (by decide)) hr T.uR hx (dB (dE 1) dA)))) (dF (dW (ej (dI (dI (dE 0) rfl) rfl) T.jJ T.rV ((tj T).mono (by decide)) hr T.rA hx (dB (dE 1) dA)))))),?_⟩
  obtain⟨d0,e0⟩:=g.ob
  obtain⟨d1,e1⟩:=g.ar.ob
  obtain⟨d2,e2⟩:=g.ar.old
  obtain⟨d3,w3,l3,e3⟩:=g.rt.ob
  obtain⟨d4,e4⟩:=g.rt.bk.ob
  have hw:wi (.int i) 0 9999=true:=by simp[wi,i0,i1]
  simp only[fj,gO,Ij,dN,dZ,dQ,dR,eA,jH,and_assoc,Int.reduceAdd,↓reduceIte,↓eJ,↓er,L2.start,aq,av,af,ak,List.replicate,az,aa,ae,V.int.injEq,V.bl.injEq,V.str.injEq,V.ref.injEq,V.ty.injEq,ai,ah,and_true,true_and,exists_eq_left',exists_and_left,exists_eq_left,aH,Nat.reduceAdd,aB,fU,kr,nu,e0,T.eU,T.eT,T.eP,oC,mX,e1,T.eQ,T.fN,vJ,e2,Kv,vF,xN,e3,T.f_,T.gu,zg,e4,EW,CJ,ua,tB]
  refine⟨d2,_,_,_,rfl,au,?_⟩
  have rub:∀{Q':Prop},(∀H',i8 A.eR A.eB A.eN A.eV A.eu A.dP A.dU H' X {S with ks:=Bp S.ks i}->(∀b o,H b=some o->b≠X.d->H' b=some o)->Q .gT H')->∃x x_1,rz A.eV H X.b x x_1/\Kn H (V.int i)/\if wi (V.int i) 0 9999=true then∀(H':Hp),rz A.eV H' X.b x (Bp x_1 (iv (V.int i)))->(∀(b:Addr) (o:HO),H b=some o->b≠x->H' b=some o)->Q V.gT H' else Q':=λ{Q'} k=>by
   refine⟨X.d,S.ks,g.rt.bk,au,?_⟩
   rw[if_pos hw]
   exact λH' m' f'=>k _ (g.book m' f') f'
  by_cases c:wi (.int i) S.so.b (S.so.t-1)=true
  ·rw[if_pos c]
   refine⟨X.m,X.q,X.o,X.y,X.s,S.ws,S.so,S.sy,S.ss,g.ar,hm,?_⟩
   by_cases c2:S.PN w=true
   ·rw[if_pos (show(jI w&&wi (V.int (w/2)) S.sy.b (S.sy.t-1))=true from c2)]
    rw[if_pos ⟨c,c2⟩]at k
    refine⟨X.d,S.ks,g.rt.bk,au,hl,?_⟩
    rw[if_pos hw]
    exact k _ (g.book g.rt.bk.put λb o eb nb=>by rw[dO nb];exact eb) λb o eb nb=>by rw[dO nb];exact eb
   ·rw[if_neg (show¬(jI w&&wi (V.int (w/2)) S.sy.b (S.sy.t-1))=true from c2)]
    rw[if_neg (λz=>c2 z.2)]at k
    exact rub k
  ·rw[if_neg c]
   rw[if_neg (λz=>c z.1)]at k
   exact rub k
noncomputable def Ig (A:Ad):Sp:=λvs H Q E=>∃p q ws v,vs=[.ref p,v]/\gE A.dP H p q ws/\Kn H v/\fv ws/\
 if wi v 0 (ws.length-1)=true then(match eY ws (iv v).toNat with
  |some n=>Q (.int (n/4+1)) H
  |none=>E (.ref A.gH) none H) else E (.ref A.fB) none H
theorem H_:dX ["memory","at"] ["memory","at"] (dM zo):=fsc
theorem Cf(T:Txt K mg A):e_ P w K mg base (gY P w) true 8 A.nK A.pE ["memory","at"] (Ig A):=by
 refine T.sI.jD H_ (λvs H Q E h=> ?_) (λcdv A' outer s H vs Q E hr hx h=> ?_)
 ·obtain⟨_,_,_,_,rfl,_⟩:=h
  rfl
 ·obtain⟨p,q,ws,v,rfl,h⟩:=h
  obtain⟨h,m,hk,wo'⟩:=IC h
  refine⟨_,ix.run (dF (d9 (dS fM (dG ((kc T).mono (by decide)) hr rfl T.iG T.ir.kp T.kg hx (dB (dE 0) (dB (dE 1) dA))) dJ))),?_⟩
  simp only[fW,gU,dN,dZ,tC,dQ,dR,oF,and_assoc,Int.reduceAdd,L2.start,aq,av,af,ak,List.replicate,az,aa,ae,V.int.injEq,V.bl.injEq,V.str.injEq,V.ref.injEq,V.ty.injEq,ai,ah,and_true,exists_eq_left',exists_and_left,Nat.reduceAdd,aB,hU]
  refine⟨q,ws,m,hk,wo',?_⟩
  cases hw:wi v 0 (ws.length-1)<;>simp only[hw,if_true,if_false,aH]at h⊢
  ·exact h
  ·cases hc:eY ws (iv v).toNat<;>rw[hc]at h<;>exact h
noncomputable def GR (A:Ad):Sp:=λvs H Q E=>∃p q ws v g,vs=[.ref p,v,g]/\gE A.dP H p q ws/\Kn H v/\Kn H g/\fv ws/\
 if wi v 0 (ws.length-1)=true then(match eY ws (iv v).toNat with
  |some n=>if wi g 0 2=true then Q .gT (upd H q (.lst ((ws.set (iv v).toNat (2*(4*(n/4)+iv g))).map V.int))) else E (.ref A.fO) none H
  |none=>E (.ref A.gH) none H) else E (.ref A.fB) none H
theorem Kr:dX ["memory","at","age","slots"] ["memory","at","age"] (dM Jq):=fsc
theorem Kg(T:Txt K mg A):e_ P w K mg base (gY P w) true 8 A.y6 A.Ba ["memory","at","age"] (GR A):=by
 refine T.CM.jD Kr (λvs H Q E h=> ?_) (λcdv A' outer s H vs Q E hr hx h=> ?_)
 ·obtain⟨_,_,_,_,_,rfl,_⟩:=h
  rfl
 ·obtain⟨p,q,ws,v,g,rfl,h⟩:=h
  obtain⟨h,m,hk,hg,wo'⟩:=LK h
  refine⟨_,ix.run (dC (eK (i:=3) Kr.nd rfl lo (dG ((kc T).mono (by decide)) hr rfl T.iG T.ir.kp T.kg hx (dB (dE 0) (dB (dE 1) dA))))
   (dC (eX (gs (eW (dG ((fV T).mono (by decide)) hr rfl T.fL T.fH.kp T.fX hx (dB (dE 2) (dB dJ (dB (ia T.lN) dA)))) (λ_=>rfl))) (dF (fu hx rfl T.jC T.jF rfl (dB eO dA))) eG)
   (dF (dW (ej (dE 0) T.gf T.iK ((i6 T).mono (by decide)) hr T.iD hx (dB (dE 1) (dB (dG ((Az T).mono (by decide)) hr rfl T.qj T.qN.kp T.wD hx (dB (dE 3) (dB (dE 2) dA))) dA))))))),?_⟩
  obtain⟨dx,e⟩:=m.ob
  simp only[gc,fj,gj,gO,nQ,dN,dZ,tC,dQ,gh,eZ,dR,gi,jH,and_assoc,Int.reduceAdd,Int.reduceSub,aM,↓er,L2.start,aq,av,af,ak,List.replicate,aJ,aN,aa,ae,aE,aD,V.int.injEq,V.bl.injEq,V.str.injEq,V.ref.injEq,V.ty.injEq,ai,ah,and_true,true_and,exists_eq_left',exists_and_left,exists_eq_left,Nat.reduceSub,Nat.reduceAdd,uO,nu,hU,fg,vG,e,Bi]
  refine⟨q,ws,m,hk,wo',?_⟩
  cases hw:wi v 0 (ws.length-1)<;>simp only[hw,if_true,if_false,aH]at h⊢
  ·exact h
  ·cases hc:eY ws (iv v).toNat<;>rw[hc]at h<;>simp only at h⊢
   ·exact h
   ·refine⟨hg,?_⟩
    cases hg2:wi g 0 2<;>simp only[hg2,if_true,if_false,aH,bc]at h⊢
    ·exact h
    ·obtain⟨j,rfl,j0,j1⟩:=gk hg2
     obtain⟨c1,c2,c3,c4,c5⟩:=fP hc
     refine⟨j,rfl,by omega,by omega,j0,j1,p,q,ws,v,_,rfl,m,hk,au,?_⟩
     rw[if_pos hw,oQ,if_neg (by omega),if_pos (by omega)]
     exact h
noncomputable def yT (A:Ad):Sp:=λvs H Q E=>∃p q ws v g,vs=[.ref p,v,g]/\gE A.dP H p q ws/\Kn H v/\Kn H g/\fv ws/\
 if wi v 0 (ws.length-1)=true then(match eY ws (iv v).toNat with
  |some n=>if wi g 0 (n/4-1)=true then Q (.int (iv v+1+iv g)) H else E (.ref A.mR) none H
  |none=>E (.ref A.gH) none H) else E (.ref A.fB) none H
theorem yM:dX ["memory","at","slot","slots"] ["memory","at","slot"] (dM vz):=fsc
theorem Ey(T:Txt K mg A):e_ P w K mg base (gY P w) true 8 A.km A.mj ["memory","at","slot"] (yT A):=by
 refine T.tO.jD yM (λvs H Q E h=> ?_) (λcdv A' outer s H vs Q E hr hx h=> ?_)
 ·obtain⟨_,_,_,_,_,rfl,_⟩:=h
  rfl
 ·obtain⟨p,q,ws,v,g,rfl,h⟩:=h
  obtain⟨h,m,hk,hg,wo'⟩:=LK h
  refine⟨_,ix.run (dC (eK (i:=3) yM.nd rfl lo (dG ((kc T).mono (by decide)) hr rfl T.iG T.ir.kp T.kg hx (dB (dE 0) (dB (dE 1) dA))))
   (dC (eX (gs (eW (dG ((fV T).mono (by decide)) hr rfl T.fL T.fH.kp T.fX hx (dB (dE 2) (dB dJ (dB (dS nj (dE 3) dJ) dA)))) (λ_=>rfl))) (dF (fu hx rfl T.z8 T.A0 rfl (dB eO dA))) eG)
   (dF (d9 (dS fM (dS fM (dE 1) dJ) (dE 2)))))),?_⟩
  cases hw:wi v 0 (ws.length-1) with
  |false=>
   refine ib (λ_ _=>False) (λR _=> ?_) (λ_ _ z=>z.elim)
   simp only[dN,dZ,dQ,gh,eZ,dR,and_assoc,Int.reduceAdd,Int.reduceSub,L2.start,aq,av,af,ak,List.replicate,aJ,aN,aa,ae,aE,aD,V.int.injEq,V.bl.injEq,V.str.injEq,V.ref.injEq,V.ty.injEq,ai,ah,and_true,exists_eq_left',exists_and_left,Nat.reduceSub,Nat.reduceAdd,hU]
   rw[hw]at h
   exact⟨q,ws,m,hk,wo',by rw[hw];exact h⟩
  |true=>
   obtain⟨i,rfl,i0,i1⟩:=gk hw
   rw[if_pos hw]at h
   cases hc:eY ws (iv (V.int i)).toNat with
   |none=>
    rw[hc]at h
    refine ib (λ_ _=>False) (λR _=> ?_) (λ_ _ z=>z.elim)
    simp only[dN,dZ,dQ,gh,eZ,dR,and_assoc,Int.reduceAdd,Int.reduceSub,L2.start,aq,av,af,ak,List.replicate,aJ,aN,aa,ae,aE,aD,V.int.injEq,V.bl.injEq,V.str.injEq,V.ref.injEq,V.ty.injEq,ai,ah,and_true,exists_eq_left',exists_and_left,Nat.reduceSub,Nat.reduceAdd,hU]
    exact⟨q,ws,m,au,wo',by rw[if_pos hw,hc];exact h⟩
   |some n=>
    rw[hc]at h
    dsimp only at h
    refine eF (λσ' H'=>H=H'/\σ'=[some (V.ref p),some (V.int i),some g,some (V.int (n/4))]) (λR hR=> ?_) ?_
    ·simp only[dN,dZ,dQ,gh,eZ,dR,and_assoc,Int.reduceAdd,Int.reduceSub,L2.start,aq,av,af,ak,List.replicate,aJ,aN,aa,ae,aE,aD,V.int.injEq,V.bl.injEq,V.str.injEq,V.ref.injEq,V.ty.injEq,ai,ah,and_true,exists_eq_left',exists_and_left,Nat.reduceSub,Nat.reduceAdd,hU]
     refine⟨q,ws,m,au,wo',?_⟩
     rw[if_pos hw,hc]
     exact hR _ _ ⟨rfl,rfl⟩
    rintro Gq hGq _ _ ⟨rfl,rfl⟩
    subst hGq
    cases hg2:wi g 0 (n/4-1) with
    |false=>
     refine ib (λ_ _=>False) (λR _=> ?_) (λ_ _ z=>z.elim)
     simp only[gc,gO,gU,nQ,dN,dZ,tC,dQ,dR,gi,yn,jH,and_assoc,Int.reduceAdd,aM,af,ak,aa,ae,V.int.injEq,V.bl.injEq,V.str.injEq,V.ref.injEq,V.ty.injEq,ai,ah,and_true,true_and,exists_eq_left',exists_and_left,exists_eq_left,Nat.reduceAdd,uO,fg]
     rw[hg2]at h
     exact⟨hg,by rw[hg2];exact h⟩
    |true=>
     obtain⟨j,rfl,j0,j1⟩:=gk hg2
     simp only[fW,gc,gj,gO,gU,nQ,dN,dZ,tC,dQ,dR,gi,oF,yn,jH,and_assoc,Int.reduceAdd,aM,af,ak,aa,ae,V.int.injEq,V.bl.injEq,V.str.injEq,V.ref.injEq,V.ty.injEq,ai,ah,and_true,true_and,exists_eq_left',exists_and_left,exists_eq_left,Nat.reduceAdd,uO,fg]
     rw[if_pos hg2]at h
     refine⟨hg,?_⟩
     rw[if_neg (by rw[hg2];intro z;cases z)]
     exact h
noncomputable def zr (i n:Int):List Int:=(List.range (n/4).toNat).map λt:Nat=>i+1+(t:Int)
noncomputable def lL (A:Ad):Sp:=λvs H Q E=>∃p q ws v,vs=[.ref p,v]/\gE A.dP H p q ws/\Kn H v/\fv ws/\ws.length<=4000/\
 if wi v 0 (ws.length-1)=true then(match eY ws (iv v).toNat with
  |some n=>∀l,H l=none->Q (.ref l) (upd H l (.lst ((zr (iv v) n).map V.int)))
  |none=>E (.ref A.gH) none H) else E (.ref A.fB) none H
theorem xJ:dX ["memory","at","slots"] ["memory","at"] (dM t8):=fsc
theorem xg(T:Txt K mg A):e_ P w K mg base (gY P w) true 8 A.jA A.kL ["memory","at"] (lL A):=by
 refine T.oK.jD xJ (λvs H Q E h=> ?_) (λcdv A' outer s H vs Q E hr hx h=> ?_)
 ·obtain⟨_,_,_,_,rfl,_⟩:=h
  rfl
 ·obtain⟨p,q,ws,v,rfl,h⟩:=h
  obtain⟨h,m,hk,wo',hl⟩:=LK h
  refine⟨_,ix.run (dC (eK (i:=2) xJ.nd rfl lo (dG ((kc T).mono (by decide)) hr rfl T.iG T.ir.kp T.kg hx (dB (dE 0) (dB (dE 1) dA))))
   (dF (d9 (IZ (by rfl) rfl T.ze rfl T.yh (dB (dS fM (dE 1) dJ) (dB (dS fM (dS fM (dE 1) dJ) (dE 2)) dA)))))),?_⟩
  cases hw:wi v 0 (ws.length-1) with
  |false=>
   simp only[fW,gj,gU,dN,dZ,tC,dQ,gh,eZ,dR,oF,and_assoc,Int.reduceNeg,Int.reducePow,Int.reduceAdd,Int.reduceSub,L2.start,De,aq,av,af,ak,List.replicate,aJ,aN,aa,ae,aE,aD,V.int.injEq,V.bl.injEq,V.str.injEq,V.ref.injEq,V.ty.injEq,ai,ah,and_true,exists_eq_left',exists_and_left,and_false,Nat.reduceSub,Nat.reduceAdd,hU]
   rw[hw]at h
   exact⟨q,ws,m,hk,wo',by rw[hw];exact h⟩
  |true=>
   obtain⟨i,rfl,i0,i1⟩:=gk hw
   rw[if_pos hw]at h
   cases hc:eY ws (iv (V.int i)).toNat with
   |none=>
    rw[hc]at h
    simp only[fW,gj,gU,dN,dZ,tC,dQ,gh,eZ,dR,oF,and_assoc,Int.reduceNeg,Int.reducePow,Int.reduceAdd,Int.reduceSub,L2.start,De,aq,av,af,ak,List.replicate,aJ,aN,aa,ae,aE,aD,V.int.injEq,V.bl.injEq,V.str.injEq,V.ref.injEq,V.ty.injEq,ai,ah,and_true,exists_eq_left',exists_and_left,Nat.reduceSub,Nat.reduceAdd,hU]
    exact⟨q,ws,m,au,wo',by rw[if_pos hw,hc];exact h⟩
   |some n=>
    rw[hc]at h
    dsimp only at h
    simp only[fW,gj,gU,dN,dZ,tC,dQ,gh,eZ,dR,oF,and_assoc,Int.reduceNeg,Int.reducePow,Int.reduceAdd,Int.reduceSub,L2.start,De,aq,av,af,ak,List.replicate,aJ,aN,aa,ae,aE,aD,V.int.injEq,V.bl.injEq,V.str.injEq,V.ref.injEq,V.ty.injEq,ai,ah,and_true,exists_eq_left',exists_and_left,Nat.reduceSub,Nat.reduceAdd,hU]
    refine⟨q,ws,m,au,wo',?_⟩
    rw[if_pos hw,hc]
    dsimp only
    obtain⟨c1,c2,c3,c4,c5⟩:=fP hc
    rw[show(((iv (V.int i)).toNat:Nat):Int)=i from bZ i0]at c5
    refine⟨by omega,by omega,by omega,by omega,?_,λl hl0=> ?_⟩
    ·exact aA (show(i+1+n/4-(i+1)).toNat<=4000 by omega) (by decide)
    ·rw[show(i+1+n/4-(i+1)).toNat=(n/4).toNat by omega]
     have:=h l hl0
     simp only[zr,aW]at this
     exact this
noncomputable def CD (A:Ad):Sp:=λvs H Q _=>∃(X:HA) (W:WA) (S:HS) (os:List (Option Int)) (ts:List (Option (Int×Int))) (szo szy C:List Int) (lc:Addr) (d:Int),vs=[.ref X.p,.ref lc,.int d]/\Wd A H X W S os ts/\Fz S szo szy/\H lc=some (.lst (C.map V.int))/\C.length<=20/\(∀p∈C,p∈fK S szo szy)/\
 ∀(z:Int) (H':Hp),dY H H'->0<=z->z<S.ws.length->z∉fK S szo szy->Q (.int z) H'
theorem nD:dX ["_law_heap","_law_cells","_law_draw_here","_law_areas","_law_some","_law_at"] ["_law_heap","_law_cells","_law_draw_here"] (dM r_):=fsc
theorem Cy(T:Txt K mg A):e_ P w K mg base (gY P w) true 8 A.iE A.jT ["_law_heap","_law_cells","_law_draw_here"] (CD A):=by
 refine T.qA.jD nD (λvs H Q E h=> ?_) (λcdv A' outer s H vs Q E hr hx h=> ?_)
 ·obtain⟨_,_,_,_,_,_,_,_,_,_,rfl,_⟩:=h
  rfl
 ·obtain⟨X,W,S,os,ts,szo,szy,C,lc,d,rfl,h⟩:=h
  obtain⟨q,m,z,ec,cl,hC⟩:=Q0 h
  refine⟨_,ix.run (dC (eK (i:=3) nD.nd rfl lo (dI (dE 0) rfl))
   (dC (eK (i:=4) nD.nd rfl lo (gC (dB (dS nj (dI (dI (dE 3) rfl) rfl) dJ) (dB (dI (dI (dE 3) rfl) rfl) dA))))
   (dC (eX (eC va (dI (dI (dE 3) rfl) rfl) (dI (dI (dE 3) rfl) rfl) (fk _)) (dF (dW (nM bz bA iI (dE 4) (dB (dI (dI (dE 3) rfl) rfl) dA)))) eG)
   (dC (rS hx.own rfl (gg (dE 1)) (pI (i:=5) nD.nd rfl lo)
    (dF (eX (eC Bf (dG ((kc T).mono (by decide)) hr rfl T.iG T.ir.kp T.kg hx (dB (dI (dE 3) rfl) (dB (dE 5) dA))) dJ (fk _)) (dF (dW (nM bz bA iI (dE 4) (dB (dS fM (dE 5) (dG ((kc T).mono (by decide)) hr rfl T.iG T.ir.kp T.kg hx (dB (dI (dE 3) rfl) (dB (dE 5) dA)))) dA)))) eG)))
   (dF (d9 (qT wW (dE 4) (dS iP (dE 2) (fI sR (by rfl) T.uF PyProof.Rows.Boot.«len» (dB (dE 4) dA))) (λ_ _=>rfl)))))))),?_⟩
  have b0:=z.b0;have b1:=z.b1;have b2:=z.b2;have b3:=z.b3;have b4:=z.b4;have b5:=z.b5;have b6:=z.b6
  have no:∀x:Int,(∀p∈fK S szo szy,p≠x)->x∉fK S szo szy:=λx h hx=>h x hx rfl
  have lim:∀p∈fK S szo szy,(0<=p/\p<S.so.t)∨(S.sy.b<=p/\p<S.sy.t):=λp hp=>by
   obtain⟨_,_,n,hn⟩:=z.A1 hp
   obtain⟨_,c0,_⟩:=fP hn
   rcases z.Ko hp hn with ⟨_,h1,h2⟩|⟨_,h1,h2⟩
   ·exact .inl ⟨h1,by omega⟩
   ·exact .inr ⟨h1,by omega⟩
  let Gd:List Int->Prop:=λM=>M≠ []/\∀x∈M,0<=x/\x<S.ws.length/\x∉fK S szo szy
  have snoc:∀{M:List Int} {x:Int},Gd M->0<=x->x<S.ws.length->x∉fK S szo szy->Gd (M++[x]):=λ{M x} h h0 h1 h2=>⟨by simp,λy hy=>by
   rcases List.mem_append.mp hy with hy|hy
   ·exact h.2 y hy
   ·rw[aU]at hy;subst hy;exact⟨h0,h1,h2⟩⟩
  have mapS:∀{M:List Int} {x:Int},M.map V.int++[V.int x]=(M++[x]).map V.int:=λ{M x}=>by rw[aV];rfl
  show gj _ _ _ [some (V.ref X.p),some (V.ref lc),some (V.int d),none,none,none] H
  dsimp only[eA]
  refine eF (λσ' H'=>H=H'/\σ'=[some (V.ref X.p),some (V.ref lc),some (V.int d),some (V.ref X.a),none,none]) (λR hR=> ?_) ?_
  ·obtain⟨d0,e0⟩:=m.g.ob
   simp only[dQ,gh,eZ,↓eJ,aa,aE,aD,and_true,true_and,fU,kr,e0,T.eU,T.eT,oC]
   exact hR _ _ ⟨rfl,rfl⟩
  rintro Gq hGq _ _ ⟨rfl,rfl⟩
  subst hGq
  refine eF (λσ' H'=>∃ls M,H ls=none/\H' ls=some (.lst (M.map V.int))/\Gd M/\M.length<=2/\dY H H'/\σ'=[some (V.ref X.p),some (V.ref lc),some (V.int d),some (V.ref X.a),some (V.ref ls),none]) (λR hR=> ?_) ?_
  ·obtain⟨d1,e1⟩:=m.g.ar.ob
   obtain⟨d2,e2⟩:=m.g.ar.mem.ob
   obtain⟨d3,e3⟩:=m.g.ar.BH
   simp only[gU,dN,dZ,tC,dQ,qw,gh,eZ,yn,Int.reduceAdd,↓eJ,af,ak,aa,ae,aE,aD,and_true,true_and,Nat.reduceAdd,R_,fU,kr,e1,T.eQ,T.d_,T.fE,jV,wt,e2,T.gf,T.iL,DK,e3,T.fG,T.gK,D0]
   intro ls hls
   refine hR _ _ ⟨ls,[(S.ws.length:Int)-1,S.sy.t],hls,dH,⟨by simp,λx hx'=> ?_⟩,aF _,dY.upd hls,rfl⟩
   rcases List.mem_cons.mp hx' with rfl|hx'
   ·exact⟨by omega,by omega,no _ λp hp=>by have:=lim p hp;omega⟩
   ·rw[aU]at hx'
    subst hx'
    exact⟨by omega,by omega,no _ λp hp=>by have:=lim p hp;omega⟩
  rintro Gq hGq _ H1 ⟨ls,M,hls,el,gM,lM,s1,rfl⟩
  subst hGq
  refine eF (λσ' H'=>∃M,H' ls=some (.lst (M.map V.int))/\Gd M/\M.length<=3/\dY H H'/\σ'=[some (V.ref X.p),some (V.ref lc),some (V.int d),some (V.ref X.a),some (V.ref ls),none]) (λR hR=> ?_) ?_
  ·obtain⟨d1,e1⟩:=(m.g.ar.same s1).ob
   obtain⟨d3,e3⟩:=(m.g.ar.same s1).old
   simp only[gc,fj,gO,gp,gU,dN,dZ,dQ,LH,qz,↓eJ,kQ,G8,aa,ae,and_true,true_and,decide_eq_true_eq,↓gb,fU,kr,e1,T.eQ,T.fN,vJ,e3,T.fG,T.gK,T.jr,D0,Kt,el]
   by_cases c:S.so.t<S.so.e
   ·rw[if_pos c]
    refine⟨by rw[ax];exact bI lM (by decide),hR _ _ ⟨M++[S.so.t],by rw[dH,mapS],snoc gM b1 (by omega) (no _ λp hp=>by have:=lim p hp;omega),by rw[aO];exact cu lM,s1.put hls,rfl⟩⟩
   ·rw[if_neg c]
    exact hR _ _ ⟨M,el,gM,by omega,s1,rfl⟩
  rintro Gq hGq _ H2 ⟨M2,sv,gM2,lM2,s2,rfl⟩
  subst hGq
  refine eF (λσ' H'=>∃M v,H' ls=some (.lst (M.map V.int))/\Gd M/\M.length<=23/\dY H H'/\σ'=[some (V.ref X.p),some (V.ref lc),some (V.int d),some (V.ref X.a),some (V.ref ls),v]) (λR hR=> ?_) ?_
  ·simp only[dQ,NB,tE,mH,aa,ae,V.int.injEq,V.bl.injEq,V.str.injEq,V.ref.injEq,V.ty.injEq,ai,ah,exists_eq_left']
   refine⟨⟨_,iC.of (s2 _ _ ec)⟩,oG.HC (xs:=C.map V.int) (λi σ H'=>∃M v,H' ls=some (.lst (M.map V.int))/\Gd M/\M.length<=3+i/\dY H H'/\σ=[some (V.ref X.p),some (V.ref lc),some (V.int d),some (V.ref X.a),some (V.ref ls),v]) ⟨M2,_,sv,gM2,lM2,s2,rfl⟩ (λi σ H' _ ⟨_,_,_,_,_,s',_⟩=>iC.of (s' _ _ ec)) ?_ ?_⟩
   ·rintro i x σ H3 hx' ⟨M3,v,y4,gM3,lM3,s3,rfl⟩ R2 hR2
    obtain⟨hi,rfl,tk⟩:=ints_get hx'
    have hp:=hC _ (bf hi)
    obtain⟨p0,p1,n,hn⟩:=z.A1 hp
    obtain⟨_,c0,c1,_,c5⟩:=fP hn
    obtain⟨d1,e1⟩:=(m.g.ar.same s3).ob
    have so:∀{Q':VK} {E':XK},Q' (.int (n/4)) H3->hU A [.ref X.m,.int C[i]] H3 Q' E':=λ{Q' E'} k=>by
     refine⟨X.m,X.q,S.ws,.int C[i],rfl,(m.g.ar.same s3).mem,au,z.AX,?_⟩
     rw[if_pos (zv (by omega) (by omega)),show eY S.ws (iv (V.int C[i])).toNat=some n from hn]
     exact k
    simp only[gc,fj,gO,gp,gU,dN,dZ,tC,dQ,eZ,dR,oF,qz,↓eJ,kQ,G8,aa,ae,aE,aD,and_true,true_and,decide_eq_true_eq,↓gb,fU,kr,e1,T.eQ,T.d_,jV]
    refine so ?_
    simp only[and_true,true_and,e1,T.eQ,T.d_,jV,y4]
    by_cases c:0<n/4
    ·rw[if_pos c]
     refine so ?_
     simp only[y4]
     refine⟨by rw[ax];exact bI (show M3.length<=23 by omega) (by decide),hR2 _ _ ⟨M3++[C[i]+n/4],_,by rw[dH,mapS],snoc gM3 (by omega) (by omega) (z.slot hp (gX.mpr ⟨n,hn,by omega,br _⟩)).1,by rw[aO];exact cu lM3,s3.put hls,rfl⟩⟩
    ·rw[if_neg c]
     exact hR2 _ _ ⟨M3,_,y4,gM3,by omega,s3,rfl⟩
   ·rintro σ H3 ⟨M3,v,y4,gM3,lM3,s3,rfl⟩
    rw[ax]at lM3
    exact hR _ _ ⟨M3,v,y4,gM3,by omega,s3,rfl⟩
  rintro Gq hGq _ H3 ⟨M3,v,y4,gM3,lM3,s3,rfl⟩
  subst hGq
  simp only[fW,gU,AV,dN,dZ,dQ,ui,LG,Ct,aa,ae,y4,ax]
  have hp:0<M3.length:=List.length_pos_iff.mpr gM3.1
  have h0:=bG d (show(M3.length:Int)≠0 by omega)
  have h1:=bF d (show(0:Int)<M3.length by omega)
  refine⟨by omega,?_⟩
  rw[zw h0 (by omega)]
  obtain⟨g0,g1,g2⟩:=gM3.2 _ (getD_mem' (show(d%(M3.length:Int)).toNat<M3.length by omega))
  exact q _ _ s3 g0 g1 g2
noncomputable def Cm (A:Ad):Sp:=λvs H Q E=>∃p q ws v,vs=[.ref p,v]/\gE A.dP H p q ws/\Kn H v/\fv ws/\ws.length<=4000/\
 if wi v 0 (ws.length-1)=true then(match eY ws (iv v).toNat with
  |some n=>∀l H',dY H H'->H l=none->H' l=some (.lst ((kids ws (iv v).toNat n).map V.int))->Q (.ref l) H'
  |none=>E (.ref A.gH) none H) else E (.ref A.fB) none H
theorem Cj:dX ["memory","at","words"] ["memory","at"] (dM sf):=fsc
theorem HK(T:Txt K mg A):e_ P w K mg base (gY P w) true 9 A.nG A.pz ["memory","at"] (Cm A):=by
 refine T.wR.jD Cj (λvs H Q E h=> ?_) (λcdv A' outer s H vs Q E hr hx h=> ?_)
 ·obtain⟨_,_,_,_,rfl,_⟩:=h
  rfl
 ·obtain⟨p,q,ws,v,rfl,h⟩:=h
  obtain⟨h,m,hk,wo',hl⟩:=LK h
  refine⟨_,ix.run (dC (vc (i:=2) (fsc:=dM sf) (N2:=["memory"]) (js:=[0]) Cj.nd rfl lo ⟨rfl,rfl,by decide+kernel,by decide+kernel,by decide+kernel,by decide+kernel,by decide+kernel,by decide+kernel,by decide+kernel⟩ rfl rfl (by rfl) (gg (dG ((xg T).mono (by decide)) hr rfl T.mV T.oK.kp T.tJ hx (dB (dE 0) (dB (dE 1) dA)))) (λ_ _ _ _=>ky) (λ_ _ _ _=>(ej (dE 1) T.gf T.p8 ((rX T).mono (by decide)) hr T.pV qM (dB (dE 0) dA))))
   (dF (d9 (mw (fsc:=dM sf) (N2:=[]) (js:=[]) ⟨rfl,rfl,by decide+kernel,by decide+kernel,by decide+kernel,by decide+kernel,by decide+kernel,by decide+kernel,by decide+kernel⟩ rfl rfl (by rfl) (gg (dE 2)) (λ_ _ _ _=>(pJ (eC qC (dG ((q_ T).mono (by decide)) hr rfl T.qB T.oJ.kp T.tI qM (dB (dE 0) dA)) eO (fk _)))) (λ_ _ _ _=>(dG ((rY T).mono (by decide)) hr rfl T.p5 T.oN.kp T.sC qM (dB (dE 0) dA))))))),?_⟩
  cases hw:wi v 0 (ws.length-1) with
  |false=>
   simp only[fW,gj,dN,dZ,dQ,gh,eZ,dR,eA,and_assoc,Int.reduceAdd,Int.reduceSub,qv,pj,mH,L2.start,aq,av,af,ak,List.replicate,aJ,aN,aa,ae,aE,aD,V.int.injEq,V.bl.injEq,V.str.injEq,V.ref.injEq,V.ty.injEq,ai,ah,and_true,exists_eq_left',exists_and_left,Nat.reduceSub,Nat.reduceAdd,lL]
   rw[hw]at h
   exact⟨q,ws,m,hk,wo',hl,by rw[hw];exact h⟩
  |true=>
   obtain⟨i,rfl,i0,i1⟩:=gk hw
   rw[if_pos hw]at h
   cases hc:eY ws (iv (V.int i)).toNat with
   |none=>
    rw[hc]at h
    simp only[fW,gj,dN,dZ,dQ,gh,eZ,dR,eA,and_assoc,Int.reduceAdd,Int.reduceSub,qv,pj,mH,L2.start,aq,av,af,ak,List.replicate,aJ,aN,aa,ae,aE,aD,V.int.injEq,V.bl.injEq,V.str.injEq,V.ref.injEq,V.ty.injEq,ai,ah,and_true,exists_eq_left',exists_and_left,Nat.reduceSub,Nat.reduceAdd,lL]
    exact⟨q,ws,m,au,wo',hl,by rw[if_pos hw,hc];exact h⟩
   |some n=>
    rw[hc]at h
    dsimp only at h
    simp only[fW,gj,dN,dZ,dQ,gh,eZ,dR,eA,and_assoc,Int.reduceAdd,Int.reduceSub,qv,pj,mH,L2.start,aq,av,af,ak,List.replicate,aJ,aN,aa,ae,aE,aD,V.int.injEq,V.bl.injEq,V.str.injEq,V.ref.injEq,V.ty.injEq,ai,ah,and_true,exists_eq_left',exists_and_left,Nat.reduceSub,Nat.reduceAdd,lL]
    refine⟨q,ws,m,au,wo',hl,?_⟩
    rw[if_pos hw,hc]
    dsimp only
    obtain⟨c1,c2,c3,c4,c5⟩:=fP hc
    rw[show(((iv (V.int i)).toNat:Nat):Int)=i from bZ i0]at c5
    intro l0 hl00
    refine⟨⟨_,iC.of dH⟩,?_⟩
    have hsz:(n/4).toNat<=8:=by omega
    obtain⟨L,eL⟩:∃L,L=zr i n:=⟨_,rfl⟩
    rw[show zr (iv (V.int i)) n=L from eL.symm]
    have m0:=m.same (dY.upd (o:= .lst (L.map V.int)) hl00)
    obtain⟨dx,e⟩:=m0.ob
    have s0:dY H (upd H l0 (.lst (L.map V.int))):=dY.upd hl00
    have hsl:upd H l0 (.lst (L.map V.int)) l0=some (.lst (L.map V.int)):=dH
    have e8:(L.map V.int).length=(n/4).toNat:=by rw[eL];simp[zr]
    refine mQ.E6 (λ_=>true) (λx=> .int (ws.getD (iv x).toNat 0)) (iC.of hsl) (by rw[e8];exact aA hsz (by decide)) (λx hx' K' hK=>hK) (λx hx' _ K' hK=> ?_) λl hl0=> ?_
    ·obtain⟨y,hy,rfl⟩:=List.mem_map.mp hx'
     rw[eL]at hy
     obtain⟨t,ht,rfl⟩:=List.mem_map.mp hy
     rw[cO]at ht
     simp only[dN,dZ,dQ,↓er,aa,ae,and_true,true_and,nu,e,Ji,bJ]
     refine⟨p,q,ws,_,rfl,m0,au,?_⟩
     rw[if_pos (by simp[wi];omega)]
     exact hK
    ·have e2:(((L.map V.int).filter λ_=>true).map λx=>V.int (ws.getD (iv x).toNat 0))=((ws.drop (i.toNat+1)).take (n/4).toNat).map V.int:=by
      rw[←N7 (by omega),List.filter_eq_self.mpr (λ_ _=>rfl),eL]
      simp only[zr,aW]
      refine cj λt ht=> ?_
      show V.int (ws.getD (i+1+(t:Int)).toNat 0)=V.int (ws.getD (i.toNat+1+t) 0)
      rw[show(i+1+(t:Int)).toNat=i.toNat+1+t by omega]
     have wk:∀w∈(ws.drop (i.toNat+1)).take (n/4).toNat,(kd (.int w)).isSome=true:=λw hw'=>wo' w (List.mem_of_mem_drop (List.mem_of_mem_take hw'))
     have hn8:((ws.drop (i.toNat+1)).take (n/4).toNat).length<=8:=aA (List.length_take_le _ _) hsz
     have hq:∀(l:Addr) (H':Hp),dY H H'->H l=none->H' l=some (HO.lst (((((ws.drop (i.toNat+1)).take (n/4).toNat).filter jI).map (· /2)).map V.int))->Q (V.ref l) H':=h
     rw[e2]
     generalize (ws.drop (i.toNat+1)).take (n/4).toNat=ks at*
     refine⟨l,rfl,⟨_,iC.of dH⟩,?_⟩
     refine mQ.E6 (λx=>jI (iv x)) (λx=> .int (iv x/2)) (iC.of dH) (by rw[ax];exact aA hn8 (by decide)) (λx hx' K' hK=> ?_) (λx hx' hp K' hK=> ?_) λl2 hl2=> ?_
     ·obtain⟨w,hw',rfl⟩:=List.mem_map.mp hx'
      obtain⟨y,hy⟩:=Option.isSome_iff_exists.mp (wk w hw')
      simp only[gp,gU,dN,dZ,tC,dQ,dR,IH,eqv,aa,V.int.injEq,V.bl.injEq,V.str.injEq,V.ref.injEq,V.ty.injEq,ai,ah,and_true,exists_eq_left',↓gb,p_,hy]
      refine⟨au,?_⟩
      have hd':decide (y=Str.ofString "place")=jI w:=by
       rcases Ae hy with ⟨rfl,c⟩|⟨rfl,c⟩|⟨rfl,c⟩
       ·rw[decide_eq_false P9];exact(decide_eq_false (by omega)).symm
       ·rw[decide_eq_false P7];exact(decide_eq_false (by omega)).symm
       ·rw[decide_eq_true rfl];exact(decide_eq_true (by omega)).symm
      rw[hd'];exact hK
     ·obtain⟨w,hw',rfl⟩:=List.mem_map.mp hx'
      obtain⟨y,hy⟩:=Option.isSome_iff_exists.mp (wk w hw')
      simp only[dN,dZ,dQ,dR,aa,V.int.injEq,V.bl.injEq,V.str.injEq,V.ref.injEq,V.ty.injEq,ai,ah,and_true,exists_eq_left',sm,hy]
      have hp':jI w=true:=hp
      simp only[jI,decide_eq_true_eq]at hp'
      refine⟨au,?_⟩
      rw[BG (by omega)]
      exact hK
     ·obtain⟨_,hl3⟩:=gv hl2
      obtain⟨_,hl4⟩:=gv hl3
      refine hq _ _ (s0.trans ((dY.upd hl0).trans (dY.upd hl2))) hl4 ?_
      rw[dH]
      simp only[bS,aW]
      rfl
noncomputable def sj (A:Ad):Sp:=λvs H Q E=>∃(p dx:Addr) (b e t:Int) (m q:Addr) (ws sz:List Int) (a:Int),vs=[.ref p,.ref m]/\H p=some (.ins A.dU dx (uN b e t))/\gE A.dP H m q ws/\fv ws/\walks ws b sz a/\sz.length<=5000/\(∀dn s rr,sz=dn++s::rr->b+dn.sum<t)/\
 ((t<=a/\∀l H',dY H H'->H l=none->H' l=some (.lst ((fF b sz).map V.int))->Q (.ref l) H')∨(0<=a/\a<t/\t<=ws.length/\eY ws a.toNat=none/\∀H',dY H H'->E (.ref A.gH) none H'))
theorem oW:dX ["self","memory","found","at"] ["self","memory"] (dM tY):=fsc
theorem iO(T:Txt K mg A):e_ P w K mg base (gY P w) true 9 A.iq A.kG ["self","memory"] (sj A):=by
 refine T.wQ.jD oW (λvs H Q E h=> ?_) (λcdv A' outer s H vs Q E hr hx h=> ?_)
 ·obtain⟨_,_,_,_,_,_,_,_,_,_,rfl,_⟩:=h
  rfl
 ·obtain⟨p,dx,b,e,t,m,q,ws,sz,a,rfl,h⟩:=h
  obtain⟨h,hp,hm,wo',hw,hz,hb⟩:=Sx h
  refine⟨_,ix.run (dC (eK (i:=2) oW.nd rfl lo (gC dA))
   (dC (eK (i:=3) oW.nd rfl lo (dI (dE 0) rfl))
   (dC (I_ hx.own (eC va (dE 3) (dI (dE 0) rfl) (fk _))
    (dC (dW (nM bz bA iI (dE 2) (dB (dE 3) dA)))
   (dF (eK (i:=3) oW.nd rfl lo (dS fM (dE 3) (dG ((Cf T).mono (by decide)) hr rfl T.rQ T.sI.kp T.yY hx (dB (dE 1) (dB (dE 3) dA))))))))
   (dF (d9 (dE 2)))))),?_⟩
  simp only[gj,dZ,dQ,qw,gh,eZ,LH,eA,Int.reduceAdd,Int.reduceSub,↓eJ,L2.start,aq,av,af,ak,List.replicate,aJ,aN,aa,aE,aD,true_and,Nat.reduceSub,Nat.reduceAdd,Ng,fU,kr]
  intro l0 hl0
  have hp0:=dY.upd (o:= .lst []) hl0 _ _ hp
  simp only[and_true,true_and,hp0,T.fG,T.hJ,Ks]
  refine⟨λk σ H'=>∃dn rs,sz=dn++rs/\k=rs.length/\walks ws (b+dn.sum) rs a/\σ=[some (.ref p),some (.ref m),some (.ref l0),some (.int (b+dn.sum))]/\dY H H'/\H' l0=some (.lst ((fF b dn).map V.int)),
   ⟨_,[],sz,rfl,rfl,by simpa using hw,by simp,dY.upd hl0,dH⟩,?_⟩
  rintro k σ H1 ⟨dn,rs,es,ek,hw1,rfl,s1,e1⟩
  have hp1:=s1 _ _ hp
  have m1:=hm.same s1
  have nk:∀{x:Addr} {o:HO},H1 x=some o->(x=m∨x=q)->x≠l0:=λ{x o} ex hx y=>by
   subst y;rcases hx with rfl|rfl
   ·exact absurd hm.ob (by rintro⟨_,y⟩;rw[hl0]at y;cases y)
   ·exact absurd hm.ls (by rw[hl0];intro y;cases y)
  have m2:∀u,gE A.dP (upd H1 l0 (.lst u)) m q ws:=λu=>m1.keep λx o ex hx=>by rw[dO (nk ex hx)];exact ex
  have hdl:dn.length<=5000:=by rw[es,aO]at hz;omega
  have hdl2:((fF b dn).map V.int).length<sizeLine:=by rw[ax,ju];exact bI hdl (by decide)
  simp only[fW,fj,gj,gp,gU,dN,dZ,dQ,gh,eZ,dR,oF,qz,↓eJ,kQ,G8,aa,ae,aE,aD,and_true,true_and,decide_eq_true_eq,↓gb,fU,kr,hp1,T.fG,T.gK,D0]
  cases rs with
  |nil=>
   have z:b+dn.sum=a:=hw1
   rw[az]at es
   subst es
   rcases h with ⟨ta,h⟩|⟨a0,at',tl,hc,h⟩
   ·rw[if_neg (by omega)]
    exact h l0 H1 s1 hl0 e1
   ·rw[if_pos (by omega)]
    refine⟨λ_ _=>False,λ_ _ z=>z.elim,?_⟩
    simp only[and_false,e1]
    refine⟨hdl2,m,q,ws,.int (b+sz.sum),rfl,m2 _,au,wo',?_⟩
    rw[if_pos (zv (by omega) (by omega)),show(iv (V.int (b+sz.sum))).toNat=a.toNat by rw[z];rfl,hc]
    exact h _ (s1.put hl0)
  |cons s' rr=>
   obtain⟨⟨a0,a1,n,hc,hn⟩,hw2⟩:=hw1
   rw[if_pos (hb dn s' rr es)]
   refine⟨λσ' H'=>∃dn rs,sz=dn++rs/\rr.length=rs.length/\walks ws (b+dn.sum) rs a/\σ'=[some (.ref p),some (.ref m),some (.ref l0),some (.int (b+dn.sum))]/\dY H H'/\H' l0=some (.lst ((fF b dn).map V.int)),
    λσ' H' hh=>⟨rr.length,by rw[ek,af];omega,hh⟩,?_⟩
   simp only[V.int.injEq,V.bl.injEq,V.str.injEq,V.ref.injEq,V.ty.injEq,ai,ah,and_true,true_and,exists_const,reduceCtorEq,false_and,and_false,e1]
   refine⟨hdl2,?_⟩
   refine⟨m,q,ws,.int (b+dn.sum),rfl,m2 _,au,wo',?_⟩
   rw[if_pos (zv (by omega) (by omega)),show(iv (V.int (b+dn.sum))).toNat=(b+dn.sum).toNat from rfl,hc]
   refine⟨dn++[s'],rr,by rw[es];simp,rfl,?_,?_,?_,?_⟩
   ·rw[cm,show b+(dn.sum+[s'].sum)=b+dn.sum+s' by simp;omega];exact hw2
   ·rw[cm,show b+(dn.sum+[s'].sum)=b+dn.sum+(n/4+1) by simp;omega]
   ·exact s1.put hl0
   ·rw[dH,yi,aV];rfl
noncomputable def oY (A:Ad):Sp:=λvs H Q E=>∃(p dx m q o y s:Addr) (ws:List Int) (x dz:Addr) (z:S3) (v:V) (g:Int),vs=[.ref p,.ref x,v,.int g]/\H p=some (.ins A.eu dx (Ed m o y s))/\gE A.dP H m q ws/\fv ws/\ws.length<=4000/\H x=some (.ins A.dU dz (uN z.b z.e z.t))/\p≠x/\m≠x/\0<=z.t/\z.e<=ws.length/\0<=g/\g<=2/\Kn H v/\
 if wi v 0 8=true then(if iv v+1<=z.e-z.t then
   (∀H',gE A.dP H' m q (gI ws z.t.toNat (iv v).toNat g)->H' x=some (.ins A.dU dz (uN z.b z.e (z.t+(iv v+1))))->(∀b u,H b=some u->b≠q->b≠x->H' b=some u)->Q (.int z.t) H')
  else E (.ref A.jN) none H) else E (.ref A.fO) none H
theorem tu:dX ["self","space","slots","age","at"] ["self","space","slots","age"] (dM pM):=fsc
theorem tf(T:Txt K mg A):e_ P w K mg base (gY P w) true 9 A.gz A.iy ["self","space","slots","age"] (oY A):=by
 refine T.sE.jD tu (λvs H Q E h=> ?_) (λcdv A' outer s H vs Q E hr hx h=> ?_)
 ·obtain⟨_,_,_,_,_,_,_,_,_,_,_,_,_,rfl,_⟩:=h
  rfl
 ·obtain⟨p,dx,m,q,o,y,s',ws,x,dz,z,v,g,rfl,h⟩:=h
  obtain⟨h,hp,hm,wo',hl,hx',npx,nmx,t0,el,g0,g2,hk⟩:=Sw h
  refine⟨_,ix.run (dC (dW (dG ((tT T).mono (by decide)) hr rfl T.mr T.mT.kp T.qK hx (dB (dE 2) dA)))
   (dC (eK (i:=4) tu.nd rfl lo (ej (dE 1) T.fG T.Ak ((Et T).mono (by decide)) hr T.zF hx (dB (dS fM (dE 2) dJ) dA)))
   (dC (dW (dG ((Qb T).mono (by decide)) hr rfl T.J1 T.IQ.kp T.OU hx (dB (dI (dE 0) rfl) (dB (dE 4) (dB (dE 2) dA)))))
   (dC (dW (dG ((Kg T).mono (by decide)) hr rfl T.Dm T.CM.kp T.IE hx (dB (dI (dE 0) rfl) (dB (dE 4) (dB (dE 3) dA)))))
   (dF (d9 (dE 4))))))),?_⟩
  cases hv:wi v 0 8 with
  |false=>
   rw[hv]at h
   simp only[fW,fj,gj,gU,dN,dZ,tC,dQ,gh,eZ,dR,oF,eA,Int.reduceAdd,Int.reduceSub,↓reduceIte,Eh,tL,L2.start,aq,av,af,ak,List.replicate,aJ,aN,aa,ae,aE,aD,V.int.injEq,V.bl.injEq,V.str.injEq,V.ref.injEq,V.ty.injEq,ai,ah,and_true,exists_eq_left',aH,Nat.reduceSub,Nat.reduceAdd,kN,hv]
   exact⟨hk,h⟩
  |true=>
   obtain⟨n,rfl,n0,n8⟩:=gk hv
   rw[if_pos hv]at h
   simp only[fW,fj,gj,gU,dN,dZ,tC,dQ,gh,eZ,dR,oF,eA,and_assoc,Int.reduceAdd,Int.reduceSub,↓reduceIte,Eh,tL,L2.start,aq,av,af,ak,List.replicate,aJ,aN,aa,ae,aE,aD,V.int.injEq,V.bl.injEq,V.str.injEq,V.ref.injEq,V.ty.injEq,ai,ah,and_true,true_and,exists_eq_left',exists_and_left,Nat.reduceSub,Nat.reduceAdd,kN,hv,hx',Nd,yR,NU]
   refine⟨au,dz,z.b,z.e,z.t,rfl,au,?_⟩
   rw[if_pos (show(1:Int)<=iv (V.int (n+1)) by show(1:Int)<=n+1;omega)]
   by_cases hr':n+1<=z.e-z.t
   ·rw[if_pos (show iv (V.int (n+1))<=z.e-z.t from hr')]
    rw[if_pos (show iv (V.int n)+1<=z.e-z.t from hr')]at h
    have nqx:q≠x:=λw=>by have:=hm.ls;rw[w,hx']at this;cases this
    have npq:p≠q:=λw=>by have:=hm.ls;rw[←w,hp]at this;cases this
    have hp1:upd H x (HO.ins A.dU dz (uN z.b z.e (z.t+iv (V.int (n+1))))) p=some (.ins A.eu dx (Ed m o y s')):=by rw[dO npx];exact hp
    have hx1:upd H x (HO.ins A.dU dz (uN z.b z.e (z.t+iv (V.int (n+1))))) x=some (.ins A.dU dz (uN z.b z.e (z.t+(iv (V.int n)+1)))):=dH
    have f1:∀b u,H b=some u->b≠x->upd H x (HO.ins A.dU dz (uN z.b z.e (z.t+iv (V.int (n+1))))) b=some u:=λb u eb nb=>by rw[dO nb];exact eb
    generalize upd H x (HO.ins A.dU dz (uN z.b z.e (z.t+iv (V.int (n+1)))))=H1 at*
    have m1:gE A.dP H1 m q ws:=hm.keep λb u eb hb=>f1 b u eb (by rcases hb with rfl|rfl;exact nmx;exact nqx)
    rw[hp1]
    dsimp only
    refine⟨T.eQ,T.d_,?_⟩
    rw[jV]
    dsimp only
    unfold Nf
    refine⟨m,q,ws,V.int z.t,V.int n,rfl,m1,au,au,hl,?_⟩
    rw[if_pos hv,if_pos (show wi (V.int z.t) 0 (ws.length-1-iv (V.int n))=true by show wi (V.int z.t) 0 (ws.length-1-n)=true;simp only[wi,aI,decide_eq_true_eq];omega)]
    intro H2 m2 f2
    rw[f2 _ _ hp1 npq]
    dsimp only
    refine⟨T.eQ,T.d_,?_⟩
    rw[jV]
    dsimp only
    have et:(iv (V.int z.t)).toNat=z.t.toNat:=rfl
    have en:(iv (V.int n)).toNat=n.toNat:=rfl
    rw[et,en]at m2
    have hn8:n.toNat<=8:=by omega
    have hc:eY (laid ws z.t.toNat n.toNat) z.t.toNat=some (4*(n.toNat:Int)):=IJ hn8 (by omega)
    unfold GR
    refine⟨m,q,_,V.int z.t,V.int g,rfl,m2,au,au,wo'.laid hn8,?_⟩
    rw[if_pos (by rw[Ag];simp only[wi,aI,decide_eq_true_eq];omega),et,hc]
    dsimp only
    rw[if_pos (show wi (V.int g) 0 2=true by simp only[wi,aI,decide_eq_true_eq];omega)]
    have eg:2*(4*(4*(n.toNat:Int)/4)+iv (V.int g))=2*(4*(n.toNat:Int)+g):=by show 2*(4*(4*(n.toNat:Int)/4)+g)=_;omega
    rw[eg]
    refine h _ (m2.put _ _) ?_ λb u eb nb nx=> ?_
    ·rw[dO (aj nqx)];exact f2 _ _ hx1 (aj nqx)
    ·rw[dO nb];exact f2 _ _ (f1 _ _ eb nx) nb
   ·rw[if_neg (show¬iv (V.int (n+1))<=z.e-z.t from hr')]
    rw[if_neg (show¬iv (V.int n)+1<=z.e-z.t from hr')]at h
    exact h
noncomputable def uG (A:Ad):Sp:=λvs H Q E=>∃X S v u,vs=[.ref X.p,v,u]/\i8 A.eR A.eB A.eN A.eV A.eu A.dP A.dU H X S/\Kn H v/\Kn H u/\S.Ok/\
 if wi v 0 (S.hw.length-1)=true then(if jI (S.w (iv v))=true then(∀n,eY S.ws (S.w (iv v)/2).toNat=some n->if wi u 0 (n/4-1)=true then Q (.int (S.w (iv v)/2+1+iv u)) H else E (.ref A.mR) none H) else E (.ref A.gF) none H) else E (.ref A.g6) none H
theorem Bt:dX ["self","hand","slot"] ["self","hand","slot"] (dM qE):=fsc
theorem Bl(T:Txt K mg A):e_ P w K mg base (gY P w) true 9 A.gQ A.iX ["self","hand","slot"] (uG A):=by
 refine T.ur.jD Bt (λvs H Q E h=> ?_) (λcdv A' outer s H vs Q E hr hx h=> ?_)
 ·obtain⟨_,_,_,_,rfl,_⟩:=h
  rfl
 ·obtain⟨X,S,v,u,rfl,h⟩:=h
  obtain⟨q,g,hk,hu',ok⟩:=LK h
  refine⟨_,ix.run (dF (d9 (dG ((Ey T).mono (by decide)) hr rfl T.qR T.tO.kp T.zJ hx (dB (dI (dI (dE 0) rfl) rfl) (dB (ej (dE 0) T.eU T.lF ((nv T).mono (by decide)) hr T.kY hx (dB (dE 1) dA)) (dB (dE 2) dA)))))),?_⟩
  obtain⟨d0,e0⟩:=g.ob
  obtain⟨d1,e1⟩:=g.ar.ob
  simp only[fW,dN,dZ,dQ,dR,eA,and_assoc,Int.reduceAdd,↓eJ,↓er,L2.start,aq,av,af,ak,List.replicate,az,aa,ae,V.int.injEq,V.bl.injEq,V.str.injEq,V.ref.injEq,V.ty.injEq,ai,ah,and_true,true_and,exists_eq_left',exists_and_left,Nat.reduceAdd,aB,fU,kr,nu,e0,T.eU,T.eT,oC,e1,T.eQ,T.d_,jV,sQ,qF,yT]
  refine⟨X,rfl,S,g,hk,ok.1,?_⟩
  cases hw:wi v 0 (S.hw.length-1)<;>rw[hw]at q
  ·exact q
  ·rw[if_pos rfl]at q⊢
   obtain⟨i,rfl,i0,i1⟩:=gk hw
   have hm:=FW i0 i1
   have hm2:=ok.1 _ hm
   have hiv:iv (V.int i)=i:=rfl
   rw[hiv]at q⊢
   have q':if jI (S.w i)=true then(∀n,eY S.ws (S.w i/2).toNat=some n->if wi u 0 (n/4-1)=true then Q (.int (S.w i/2+1+iv u)) H else E (.ref A.mR) none H) else E (.ref A.gF) none H:=q
   have hc:=ok.2.2.2.2 _ hm
   generalize S.w i=W at*
   rcases Kk hm2 with ⟨c,k,c1,c2,c3⟩|⟨c,x,k,nx⟩
   ·rw[if_pos c]at q'⊢
    obtain⟨wl,n,hn⟩:=hc c
    refine⟨X.q,S.ws,g.ar.mem,au,hu',ok.2.1,?_⟩
    rw[if_pos (zv (by omega) (by omega)),show(iv (V.int (W/2))).toNat=(W/2).toNat from rfl,hn]
    have:=q' n hn
    dsimp only
    cases hw2:wi u 0 (n/4-1)<;>rw[hw2]at this<;>exact this
   ·rw[c]at q'⊢
    exact q'
noncomputable def CF (A:Ad):Sp:=λvs H Q _=>∃(X:HA) (W:WA) (S:HS) (szo szy C:List Int) (nm tk k p d:Int) (fs:Bool) (lc:Addr),vs=[.ref X.p,.ref lc,.int k,.int p,.int d]/\Wd A H X W S [some nm] [some (tk,5)]/\Pd S szo szy nm tk fs false false/\S.ks.length<=61/\H lc=some (.lst (C.map V.int))/\C.length<=20/\(∀p∈C,p∈fK S szo szy)/\p∈fK S szo szy/\0<=k/\k<=7/\(k<=4->fs=false)/\
 (if k=7 then∀l H',dY H H'->H l=none->H' l=some (.lst (f7 ["walk"]))->Q (.ref l) H'
 else∀(l:Addr) (H':Hp) (S':HS) (nm' tk':Int) (fs' fb' fa':Bool) (L:List String),Wd A H' X W S' [some nm'] [some (tk',5)]->Pd S' szo szy nm' tk' fs' fb' fa'->wj X W H H'->H l=none->H' l=some (.lst (f7 L))->BY fs false false false++L=BY fs' fb' false fa'->S'.so=S.so/\S'.sy=S.sy/\S'.ws.length=S.ws.length->(k<=4->fb'=false/\fa'=false/\S'.ks.length<=61)->Q (.ref l) H')
theorem nE:dX ["_law_heap","_law_cells","_law_way","_law_at","_law_draw_here","_law_old_words","_law_slots","_law_there"] ["_law_heap","_law_cells","_law_way","_law_at","_law_draw_here"] (dM se):=fsc
theorem vX(T:Txt K mg A):e_ P w K mg base (gY P w) true 9 A.iF A.jU ["_law_heap","_law_cells","_law_way","_law_at","_law_draw_here"] (CF A):=by
 refine T.m_.jD nE (λvs H Q E h=> ?_) (λcdv A' outer s H vs Q E hr hx h=> ?_)
 ·obtain⟨_,_,_,_,_,_,_,_,_,_,_,_,_,rfl,_⟩:=h
  rfl
 ·obtain⟨X,W,S,szo,szy,C,nm,tk,k,p,d,fs,lc,rfl,h⟩:=h
  obtain⟨q,m,P,kl,ec,cl,hC,hp,k0,k7,hfs⟩:=Sv h
  refine⟨_,ix.run (dC (eK (i:=5) nE.nd rfl lo (dI (dI (dI (dE 0) rfl) rfl) rfl))
   (dC (eK (i:=6) nE.nd rfl lo (dG ((kc T).mono (by decide)) hr rfl T.iG T.ir.kp T.kg hx (dB (dI (dI (dE 0) rfl) rfl) (dB (dE 3) dA))))
   (dC (eX (kS (qU (eC (p6 (G0 hr)) (dE 2) dJ (fk _)) (rT (kS (ql (eC Ac (dE 2) (wY (dB dJ (dB dJ dA))) (by with_unfolding_all rfl)) (pK (eC (p6 (G0 hr)) (dE 6) dJ (fk _)))))))) (dF (d9 (gC dA))) eG)
   (dC (eX (eC va (dE 2) dJ (fk _)) (dC (dW (dG ((Ew T).mono (by decide)) hr rfl T.qP T.tM.kp T.zH hx (dB (dE 0) (dB (dE 2) (dB (dE 3) (dB (dG ((Cy T).mono (by decide)) hr rfl T.oO T.qA.kp T.wC hx (dB (dE 0) (dB (dE 1) (dB (dE 4) dA)))) dA))))))
   (dC (eX (kS (ql (eC (p6 (G0 hr)) (dE 2) dJ (fk _)) (pK (eW (ej (dI (dI (dE 0) rfl) rfl) T.jJ T.zd ((Cd T).mono (by decide)) hr T.yW hx (dB (dS fM (dE 3) dJ) dA)) (λ_=>rfl))))) (dF (dW (ej (dI (dI (dE 0) rfl) rfl) T.jJ T.rV ((tj T).mono (by decide)) hr T.rA hx (dB (dS fM (dE 3) dJ) dA)))) eG)
   (dF (d9 (gC (dB eO dA)))))) eG)
   (dC (eX (eC (p6 (G0 hr)) (dE 2) dJ (fk _)) (dC (eK (i:=7) nE.nd rfl lo (h_ (dI (dI (dE 0) rfl) rfl) T.jJ T.tR ((xb T).mono (by decide)) hr T.tG hx))
   (dC (eX (eC Ac (dS fM (dE 3) dJ) (dE 7) (by with_unfolding_all rfl)) (dF (dW (ej (dI (dI (dE 0) rfl) rfl) T.jJ T.rV ((tj T).mono (by decide)) hr T.rA hx (dB (dS fM (dE 3) dJ) dA)))) (dC (dW (ej (dI (dI (dE 0) rfl) rfl) T.jJ T.vf ((yJ T).mono (by decide)) hr T.uR hx (dB (dS fM (dE 3) dJ) dA)))
   (dF (eX (kS (ql (eC (sT (G0 hr)) (dE 7) (gC dA) (fk _)) (pK (eC (p6 (G0 hr)) (dS iP (dE 4) dJ) dJ (fk _))))) (dF (dW (ej (dI (dI (dE 0) rfl) rfl) T.jJ T.rV ((tj T).mono (by decide)) hr T.rA hx (dB (qT wW (dE 7) (dS iP (dS iJ (dE 4) dJ) (fI sR (by rfl) T.uF PyProof.Rows.Boot.«len» (dB (dE 7) dA))) (λ_ _=>rfl)) dA)))) eG))))
   (dF (d9 (gC (dB eO dA)))))) eG)
   (dC (eX (eC (p6 (G0 hr)) (dE 2) dJ (fk _)) (dC (dW (dG ((Kg T).mono (by decide)) hr rfl T.Dm T.CM.kp T.IE hx (dB (dI (dI (dE 0) rfl) rfl) (dB (dE 3) (dB (zc (eC va (dE 3) (dE 5) (fk _)) dJ dJ) dA)))))
   (dF (d9 (gC (dB eO dA))))) eG)
   (dF (d9 (gC (dB eO dA)))))))))),?_⟩
  have z:=P.z
  obtain⟨p0,p1,n,hn⟩:=z.A1 hp
  obtain⟨_,c0,c1,_,c5⟩:=fP hn
  have b7:=z.b7
  obtain⟨d0,e0⟩:=m.g.ob
  obtain⟨d1,e1⟩:=m.g.ar.ob
  obtain⟨d2,e2⟩:=m.g.ar.old
  show gj _ _ _ [some (V.ref X.p),some (V.ref lc),some (V.int k),some (V.int p),some (V.int d),none,none,none] H
  dsimp only[eA]
  refine eF (λσ' H'=>H=H'/\σ'=[some (V.ref X.p),some (V.ref lc),some (V.int k),some (V.int p),some (V.int d),some (V.int S.so.e),none,none]) (λR hR=> ?_) ?_
  ·simp only[dQ,gh,eZ,↓eJ,aa,aE,aD,and_true,true_and,fU,kr,e0,T.eU,T.eT,oC,e1,T.eQ,T.fN,vJ,e2,T.fG,T.jr,Kt]
   exact hR _ _ ⟨rfl,rfl⟩
  rintro Gq hGq _ _ ⟨rfl,rfl⟩
  subst hGq
  refine eF (λσ' H'=>H=H'/\σ'=[some (V.ref X.p),some (V.ref lc),some (V.int k),some (V.int p),some (V.int d),some (V.int S.so.e),some (V.int (n/4)),none]) (λR hR=> ?_) ?_
  ·simp only[dN,dZ,dQ,gh,eZ,dR,and_assoc,↓eJ,aa,ae,aE,aD,V.int.injEq,V.bl.injEq,V.str.injEq,V.ref.injEq,V.ty.injEq,ai,ah,and_true,true_and,exists_eq_left',exists_and_left,fU,kr,e0,T.eU,T.eT,oC,e1,T.eQ,T.d_,jV,hU]
   refine⟨X.q,S.ws,m.g.ar.mem,au,z.AX,?_⟩
   rw[if_pos (zv (by omega) (by omega)),show eY S.ws (iv (V.int p)).toNat=some n from hn]
   exact hR _ _ ⟨rfl,rfl⟩
  rintro Gq hGq _ _ ⟨rfl,rfl⟩
  subst hGq
  have q0:∀{H1:Hp} {l:Addr},dY H H1->H1 l=none->k≠7->Q (.ref l) (upd H1 l (.lst [])):=λ{H1 l} s1 hl hk=>by
   rw[if_neg hk]at q
   refine q l _ S nm tk fs false false [] (m.same (s1.trans (dY.upd hl))) P (.same (s1.trans (dY.upd hl))) (s1.free hl) dH (by simp) ⟨rfl,rfl,rfl⟩ λ_=>⟨rfl,rfl,kl⟩
  refine eF (λσ' H'=>dY H H'/\¬(k=0)/\((k=2∨k=5)->0<n/4)/\σ'=[some (V.ref X.p),some (V.ref lc),some (V.int k),some (V.int p),some (V.int d),some (V.int S.so.e),some (V.int (n/4)),none]) (λR hR=> ?_) ?_
  ·by_cases h0:k=0
   ·subst h0
    simp only[fW,gO,gp,gU,Kw,dZ,tC,dQ,qw,eqv,↓reduceIte,decide_true,A8,ak,aa,ae,true_and,Ng,↓gb]
    exact λl hl=>q0 (dY.refl _) hl (by decide)
   ·have inV2:K2 (V.int k) [V.int 2,V.int 5]=decide (k=2∨k=5):=by
     have:=Ds (x:=k) (l:=[2,5])
     simpa using this
    simp only[fW,gc,gO,gp,gU,Ij,Kw,dN,dZ,tC,dQ,qw,Jy,eqv,Int.reduceAdd,↓reduceIte,dH,decide_false,A8,af,ak,aa,ae,true_and,aH,decide_eq_true_eq,Nat.reduceAdd,Ng,R_,FH,↓gb,h0,inV2]
    refine λl hl=>⟨rfl,rfl,?_⟩
    by_cases c:k=2∨k=5
    ·rw[if_pos c]
     by_cases c2:n/4=0
     ·rw[if_pos c2]
      exact λl2 hl2=>q0 (dY.upd hl) hl2 (by omega)
     ·rw[if_neg c2]
      exact hR _ _ ⟨dY.upd hl,h0,λ_=>by omega,rfl⟩
    ·rw[if_neg c]
     exact hR _ _ ⟨dY.upd hl,h0,λy=>absurd y c,rfl⟩
  rintro Gq hGq _ H1 ⟨s1,k1,hn4,rfl⟩
  subst hGq
  have m1:=m.same s1
  have fin:k≠7->∀{H3:Hp} {S':HS} {nm' tk':Int} {fs' fb' fa':Bool} {L:List String},Wd A H3 X W S' [some nm'] [some (tk',5)]->Pd S' szo szy nm' tk' fs' fb' fa'->wj X W H H3->BY fs false false false++L=BY fs' fb' false fa'->S'.so=S.so/\S'.sy=S.sy/\S'.ws.length=S.ws.length->(k<=4->fb'=false/\fa'=false/\S'.ks.length<=61)->∀l,H3 l=none->Q (.ref l) (upd H3 l (.lst (f7 L))):=λhk {H3 S' nm' tk' fs' fb' fa' L} m3 P3 f3 e3 h3 h4 l hl=>by
   rw[if_neg hk]at q
   exact q l _ S' nm' tk' fs' fb' fa' L (m3.same (dY.upd hl)) P3 (f3.trans (.same (dY.upd hl))) (m.free m3 f3 hl) dH e3 h3 h4
  have bks:∀{H3:Hp} {S3:HS} {nm' tk':Int} {ks':List Int} {H':Hp},Wd A H3 X W S3 [some nm'] [some (tk',5)]->rz A.eV H' X.b X.d ks'->(∀b o,H3 b=some o->b≠X.d->H' b=some o)->Wd A H' X W {S3 with ks:=ks'} [some nm'] [some (tk',5)]/\wj X W H3 H':=λ{H3 S3 nm' tk' ks' H'} m3 b3 f3=>m3.heap (m3.g.book b3 f3) λb o e _ _ _ _ n=>f3 b o e n
  have hp9:n/4≠0->wi (.int (p+1)) 0 9999=true:=λh=>by simp only[wi,aI,decide_eq_true_eq];omega
  refine eF (λσ' H'=>dY H H'/\5<=k/\σ'=[some (V.ref X.p),some (V.ref lc),some (V.int k),some (V.int p),some (V.int d),some (V.int S.so.e),some (V.int (n/4)),none]) (λR hR=> ?_) ?_
  ·by_cases c:k<5
   ·have fs0:=hfs (by omega)
    subst fs0
    have e01:=s1 _ _ e0
    simp only[fW,gc,fj,gj,gO,gp,gU,Ij,dN,dZ,tC,dQ,qw,dR,oF,LH,qz,eqv,jH,Int.reduceAdd,↓reduceIte,decide_true,A8,↓eJ,↓er,af,ak,aa,ae,true_and,aH,decide_eq_true_eq,Nat.reduceAdd,uO,↓gb,fU,kr,nu,c]
    refine⟨X,W,S,_,_,szo,szy,C,lc,d,rfl,m1,z,s1 _ _ ec,cl,hC,λw' H2 s2 w0 w1 wc=> ?_⟩
    have m2:=m1.same s2
    have s12:=s1.trans s2
    have k1234:k=1∨k=2∨k=3∨k=4:=by omega
    rcases k1234 with rfl|rfl|rfl|rfl
    ·refine⟨X,W,S,nm,tk,1,p,w',rfl,m2,P.hl,w0,by omega,.inl ⟨rfl,λH3 m3 f3=> ?_⟩⟩
     simp only[Int.reduceEq,String.reduceEq,↓reduceIte]
     exact fin (by decide) m3 (P.hand w0 (by omega) wc) ((wj.same s12).trans f3) rfl ⟨rfl,rfl,rfl⟩ λ_=>⟨rfl,rfl,kl⟩
    ·have h4:=hn4 (.inl rfl)
     have hq:p+1∈fR S.ws p:=gX.mpr ⟨n,hn,by omega,by omega⟩
     refine⟨X,W,S,nm,tk,2,p,w',rfl,m2,P.hl,w0,by omega,.inr (.inl ⟨rfl,p0,by omega,λH3 m3 f3=> ?_⟩)⟩
     obtain⟨d3,e3⟩:=m3.g.ob
     obtain⟨d4,e4⟩:=m3.wl.ob
     obtain⟨d5,e5⟩:=m3.g.rt.bk.ob
     have P':=P.slot w0 (by omega) wc hp hq _ rfl
     have last:∀{H4:Hp},Wd A H4 X W {S with ws:=S.ws.set (p+1).toNat (2*w'+1),ks:=Bp S.ks (p+1)} [some nm] [some (tk,5)]->wj X W H H4->∀l,H4 l=none->Q (.ref l) (upd H4 l (.lst (f7 ["stray"]))):=λ{H4} m4 f4=>fin (by decide) m4 P' f4 rfl ⟨rfl,rfl,by show(S.ws.set _ _).length=_;rw[aK]⟩ λ_=>⟨rfl,rfl,aA (bC _ _) kl⟩
     simp only[and_assoc,↓reduceIte,V.int.injEq,V.bl.injEq,V.str.injEq,V.ref.injEq,V.ty.injEq,ai,ah,and_true,true_and,exists_eq_left',exists_and_left,exists_eq_left,decide_eq_true_eq,e3,T.eU,T.eP,mX,e4,T.f_,T.gu,zg,e5,FF,CJ,tw,tB]
     have hiv:iv (V.int (p+1))=p+1:=rfl
     refine⟨X.d,S.ks,m3.g.rt.bk,au,?_⟩
     rw[if_pos (hp9 (by omega)),hiv]
     by_cases h:p+1∈S.ks
     ·rw[if_pos h]
      refine⟨X.d,S.ks,m3.g.rt.bk,au,?_⟩
      rw[if_pos (hp9 (by omega))]
      intro H4 b4 f4
      have r:=bks m3 b4 f4
      exact last r.1 (((wj.same s12).trans f3).trans r.2)
     ·rw[if_neg h]
      exact last (by rw[Kq h];exact m3) ((wj.same s12).trans f3)
    ·refine⟨X,W,S,nm,tk,3,p,w',rfl,m2,P.hl,w0,by omega,.inr (.inr (.inl ⟨rfl,λH3 m3 f3=> ?_⟩))⟩
     simp only[Int.reduceEq,String.reduceEq,↓reduceIte]
     exact fin (by decide) m3 (P.name wc) ((wj.same s12).trans f3) rfl ⟨rfl,rfl,rfl⟩ λ_=>⟨rfl,rfl,kl⟩
    ·refine⟨X,W,S,nm,tk,4,p,w',rfl,m2,P.hl,w0,by omega,.inr (.inr (.inr ⟨rfl,λH3 m3 f3=> ?_⟩))⟩
     simp only[Int.reduceEq,String.reduceEq,↓reduceIte]
     exact fin (by decide) m3 (P.tick wc) ((wj.same s12).trans f3) rfl ⟨rfl,rfl,rfl⟩ λ_=>⟨rfl,rfl,kl⟩
   ·simp only[gc,gO,gp,gU,tC,dQ,LH,qz,↓reduceIte,decide_false,aa,ae,aH,↓gb,c]
    exact hR _ _ ⟨s1,by omega,rfl⟩
  clear m1
  rintro Gq hGq _ H2 ⟨s2,k5,rfl⟩
  subst hGq
  have m2:=m.same s2
  obtain⟨d3,e3⟩:=m2.g.ob
  obtain⟨d4,e4⟩:=m2.wl.ob
  obtain⟨d5,e5⟩:=m2.g.rt.bk.ob
  refine eF (λσ' H'=>dY H H'/\6<=k/\σ'=[some (V.ref X.p),some (V.ref lc),some (V.int k),some (V.int p),some (V.int d),some (V.int S.so.e),some (V.int (n/4)),none]) (λR hR=> ?_) ?_
  ·by_cases c:k=5
   ·subst c
    have h4:=hn4 (.inr rfl)
    simp only[fW,gc,fj,gj,gO,gp,gU,Ij,AV,dN,dZ,tC,dQ,qw,gh,eZ,oF,o8,ui,eqv,LG,Ct,wg,Int.reduceLT,Nat.reduceLT,Int.reduceAdd,↓reduceIte,aM,dH,decide_true,A8,G_,II,↓eJ,↓er,af,ak,aa,ae,aE,aD,V.int.injEq,V.bl.injEq,V.str.injEq,V.ref.injEq,V.ty.injEq,ai,ah,and_true,true_and,exists_eq_left',exists_and_left,aH,decide_eq_true_eq,Nat.reduceAdd,Ng,uO,FH,↓gb,fU,kr,nu,e3,T.eU,T.eP,mX,e4,T.f_,T.gu,zg,e5,C_,xK]
    refine⟨X.d,S.ks,m2.g.rt.bk,by omega,λlt hlt=> ?_⟩
    have s3:=dY.upd (o:= .lst ((kR S.ks).map V.int)) hlt
    have et:upd H2 lt (.lst ((kR S.ks).map V.int)) lt=some (.lst ((kR S.ks).map V.int)):=dH
    have ol:=m2.own hlt
    generalize upd H2 lt (.lst ((kR S.ks).map V.int))=H3 at*
    have m3:=m2.same s3
    have s13:=s2.trans s3
    have e33:=s3 _ _ e3
    have e43:=s3 _ _ e4
    have e53:=s3 _ _ e5
    have hiv:iv (V.int (p+1))=p+1:=rfl
    have mi:∀x,x∈kR S.ks↔x∈S.ks:=λx=>(y_ S.ks).mem_iff
    rw[Ds,show decide (p+1∈kR S.ks)=decide (p+1∈S.ks) from decide_eq_decide.mpr (mi _)]
    refine⟨rfl,E8,?_⟩
    have last:∀{H4:Hp} {ks':List Int},Wd A H4 X W {S with ks:=ks'} [some nm] [some (tk,5)]->wj X W H H4->ks'.Nodup->ks'.length<=62->¬(p+1∈ks'↔p+1∈S.ks)->∀l,H4 l=none->Q (.ref l) (upd H4 l (.lst (f7 ["book"]))):=λ{H4 ks'} m4 f4 h1 h2 h3=>fin (by decide) m4 (P.book h1 h2 _ h3) f4 (by cases fs<;>rfl) ⟨rfl,rfl,rfl⟩ λh=>absurd h (by decide)
    by_cases h:p+1∈S.ks
    ·rw[decide_eq_true h,if_pos rfl]
     simp only[and_assoc,V.int.injEq,V.bl.injEq,V.str.injEq,V.ref.injEq,V.ty.injEq,ai,ah,and_true,true_and,exists_eq_left',exists_and_left,e33,T.eU,T.eP,mX,e43,T.f_,T.gu,zg,e53,CJ,tB]
     refine⟨X.d,S.ks,m3.g.rt.bk,au,?_⟩
     rw[if_pos (hp9 (by omega)),hiv]
     intro H4 b4 f4
     have r:=bks m3 b4 f4
     exact last r.1 ((wj.same s13).trans r.2) (C0 z.nd) (aA (bC _ _) (by omega)) λy=>(An.mp (y.mpr h)).2 rfl
    ·rw[decide_eq_false h,if_neg (by intro y;cases y)]
     simp only[and_assoc,V.int.injEq,V.bl.injEq,V.str.injEq,V.ref.injEq,V.ty.injEq,ai,ah,and_true,true_and,exists_eq_left',exists_and_left,e33,T.eU,T.eP,mX,e43,T.f_,T.gu,zg,e53,EW,ua]
     refine⟨X.d,S.ks,m3.g.rt.bk,au,by omega,?_⟩
     rw[if_pos (hp9 (by omega)),hiv]
     have r:=bks m3 (m3.g.rt.bk.put (ks':=J5 S.ks (p+1))) λb o e n=>by rw[dO n];exact e
     have f4:=(wj.same s13).trans r.2
     have m4:=r.1
     have et4:=m3.lst r.2 et ol
     generalize upd H3 X.d (.dK (zK (J5 S.ks (p+1))))=H4 at*
     have ndi:=ME (k:=p+1) z.nd
     have kli:(J5 S.ks (p+1)).length<=62:=by unfold J5;rw[if_neg h,aO];show S.ks.length+1<=62;omega
     have lasts:=last m4 f4 ndi kli λy=>h (y.mp (Am.mpr (.inr rfl)))
     intro e8 he8
     have s5:=dY.upd (o:= .lst []) he8
     have m5:=m4.same s5
     have et5:=s5 _ _ et4
     have f5:=f4.trans (.same s5)
     have e80:upd H4 e8 (.lst []) e8=some (.lst []):=dH
     generalize upd H4 e8 (.lst [])=H5 at*
     have lasts5:=last m5 f5 ndi kli λy=>h (y.mp (Am.mpr (.inr rfl)))
     obtain⟨d6,e6⟩:=m5.g.ob
     obtain⟨d7,e7⟩:=m5.wl.ob
     obtain⟨d8,e8'⟩:=m5.g.rt.bk.ob
     simp only[ak,et5,ax]
     by_cases hk:(kR S.ks).length=0
     ·rw[if_pos hk,List.length_eq_zero_iff.mp hk]
      exact lasts5
     ·rw[if_neg hk]
      by_cases hd:d%2=1
      ·rw[if_pos hd]
       simp only[and_true,true_and,e6,T.eU,T.eP,mX,e7,T.f_,T.gu,zg,e8',CJ]
       have h0:=bG (d/2) (show((kR S.ks).length:Int)≠0 by omega)
       have h1:=bF (d/2) (show(0:Int)<(kR S.ks).length by omega)
       refine⟨by omega,?_⟩
       rw[zw h0 (by omega)]
       dsimp only
       have hx':=getD_mem' (show(d/2%((kR S.ks).length:Int)).toNat<(kR S.ks).length by omega)
       generalize (kR S.ks).getD (d/2%((kR S.ks).length:Int)).toNat 0=x at*
       have hxk:=(mi x).mp hx'
       have hxw:=((ug z.wo z.nd).mp P.bk x).mp hxk
       obtain⟨⟨c,hc,hs⟩,_⟩:=yf.mp hxw
       obtain⟨_,x0,x1,_⟩:=z.slot (aX _ hc) hs
       refine⟨X.b,X.d,_,.int x,rfl,m5.g.rt.bk,au,?_⟩
       rw[if_pos (zv (by omega) (by omega))]
       intro H6 b6 f6
       have r6:=bks m5 b6 f6
       exact last r6.1 (f5.trans r6.2) (C0 ndi) (aA (bC _ _) kli) λy=>h (y.mp (An.mpr ⟨Am.mpr (.inr rfl),λe=>h (e▸hxk)⟩))
      ·rw[if_neg hd]
       exact lasts5
   ·simp only[gc,gO,gp,gU,tC,dQ,eqv,↓reduceIte,decide_false,A8,aa,ae,aH,↓gb,c]
    exact hR _ _ ⟨s2,by omega,rfl⟩
  rintro Gq hGq _ H3 ⟨s3,k6,rfl⟩
  subst hGq
  have m3:=m.same s3
  obtain⟨d6,e6⟩:=m3.g.ob
  obtain⟨d7,e7⟩:=m3.g.ar.ob
  by_cases c:k=6
  ·subst c
   simp only[fW,fj,gj,gO,gp,gU,Sa,dN,dZ,tC,dQ,qw,dR,LH,qz,eqv,Int.reduceAdd,↓reduceIte,decide_true,A8,↓eJ,af,ak,aa,ae,and_true,true_and,decide_eq_true_eq,Nat.reduceAdd,uO,↓gb,fU,kr,e6,T.eU,T.eT,oC,e7,T.eQ,T.d_,jV]
   have eo:p<S.so.e↔p∈fF 0 szo:=by
    have b2:=z.b2;have b3:=z.b3
    constructor
    ·intro h
     rcases List.mem_append.mp hp with y|y
     ·exact y
     ·have:=(gd z.wy p y).1;omega
    ·intro h
     obtain⟨_,_,_,n',hn',h'⟩:=gd z.wo p h
     obtain⟨_,c0,_⟩:=fP hn'
     omega
   have go:∀g:Int,0<=g->g<=2->(if p∈fF 0 szo then g≠2 else g=2)->∀{E':XK},GR A [.ref X.m,.int p,.int g] H3 (λ_ H4=>∀l,H4 l=none->Q (.ref l) (upd H4 l (.lst (f7 ["age"])))) E':=λg g0 g2 hg E'=>by
    refine⟨X.m,X.q,S.ws,.int p,.int g,rfl,m3.g.ar.mem,au,au,z.AX,?_⟩
    rw[if_pos (zv (by omega) (by omega)),show eY S.ws (iv (V.int p)).toNat=some n from hn]
    dsimp only
    rw[if_pos (zv (by omega) (by omega))]
    have kf:∀b o,H3 b=some o->b≠X.q->upd H3 X.q (HO.lst ((S.ws.set p.toNat (2*(4*(n/4)+g))).map V.int)) b=some o:=λb o eb nb=>by rw[dO nb];exact eb
    have r:=m3.heap (m3.g.ET (m3.g.ar.N8 (m3.g.ar.mem.put p.toNat (2*(4*(n/4)+g))) kf) λb o eb n _ _=>kf b o eb n) λb o eb n _ _ _ _=>kf b o eb n
    exact fin (by decide) r.1 (P.TU hp hn g0 g2 hg _ rfl) ((wj.same s3).trans r.2) (by cases fs<;>rfl) ⟨rfl,rfl,by show(S.ws.set _ _).length=_;rw[aK]⟩ λh=>absurd h (by decide)
   by_cases c:p<S.so.e
   ·rw[if_pos c]
    exact go 1 (by decide) (by decide) (by rw[if_pos (eo.mp c)];decide)
   ·rw[if_neg c]
    exact go 2 (by decide) (by decide) (by rw[if_neg λy=>c (eo.mpr y)])
  ·have:k=7:=by omega
   subst this
   simp only[fW,gc,gj,gO,gp,gU,dN,dZ,tC,dQ,qw,eqv,Int.reduceEq,Int.reduceAdd,String.reduceEq,↓reduceIte,decide_false,A8,af,ak,aa,ae,true_and,aH,Nat.reduceAdd,uO,↓gb]
   rw[if_pos rfl]at q
   exact λl hl=>q l _ (s3.trans (dY.upd hl)) (s3.free hl) dH
theorem Fv{ws:List Int}:∀{sz:List Int} {b a:Int},walks ws b sz a->((fF b sz).map λp=>(match eY ws p.toNat with|some n=>n/4+1|none=>0))=sz
 | [],_,_,_=>rfl
 |s::r,b,a,h=>by
  obtain⟨⟨_,_,n,hc,hn⟩,h2⟩:=h
  simp only[fF,aq,Fv h2,hc,hn]
noncomputable def Ie (A:Ad):Sp:=λvs H Q _=>∃(p dx:Addr) (b e t:Int) (m q:Addr) (ws:List Int),vs=[.ref m,.ref p]/\H p=some (.ins A.dU dx (uN b e t))/\gE A.dP H m q ws/\fv ws/\
 (((∃sz,walks ws b sz t/\sz.length<=5000)/\∀H',dY H H'->Q (.bl true) H')∨(KC ws b t/\∀H',dY H H'->Q (.bl false) H'))
theorem H0:dX ["memory","space","cells"] ["memory","space"] (dM C1):=fsc
theorem HL(T:Txt K mg A):e_ P w K mg base (gY P w) true 10 A.uU A.xZ ["memory","space"] (Ie A):=by
 refine T.z4.jD H0 (λvs H Q E h=> ?_) (λcdv A' outer s H vs Q E hr hx h=> ?_)
 ·obtain⟨_,_,_,_,_,_,_,_,rfl,_⟩:=h
  rfl
 ·obtain⟨p,dx,b,e,t,m,q,ws,rfl,h⟩:=h
  obtain⟨h,hp,hm,wo'⟩:=IC h
  refine⟨_,ix.run (dC (Hy rfl rfl (λE1 W1 pins1 hx1=>(dF (eK (i:=2) H0.nd rfl lo (ej (dE 1) T.fG T.iw ((iO T).mono (by decide)) hr T.ij hx1 (dB (dE 0) dA))))) (Kc rfl rfl T.uw (λa=>(dF (d9 vb))) Hv))
   (dF (d9 (gW qC (fI (NY (by rfl)) (by rfl) T.Kf PyProof.Rows.Boot.«sum» (dB (mw (fsc:=dM C1) (N2:=["memory"]) (js:=[0]) ⟨rfl,rfl,by decide+kernel,by decide+kernel,by decide+kernel,by decide+kernel,by decide+kernel,by decide+kernel,by decide+kernel⟩ rfl rfl (by rfl) (gg (dE 2)) (λ_ _ _ _=>ky) (λ_ _ _ _=>(dG ((Cf T).mono (by decide)) hr rfl T.rQ T.sI.kp T.yY qM (dB (dE 1) (dB (dE 0) dA))))) dA)) (h_ (dE 1) T.fG T.mz ((mZ T).mono (by decide)) hr T.lQ hx) (fk _))))),?_⟩
  show gj _ _ _ [some (V.ref m),some (V.ref p),none] H
  refine eF (λσ' H'=>∃sz a l,walks ws b sz a/\sz.length<=5000/\H' l=some (.lst ((fF b sz).map V.int))/\dY H H'/\σ'=[some (V.ref m),some (V.ref p),some (V.ref l)]/\∀H',dY H H'->Q (.bl (decide (a=t))) H') (λR hR=> ?_) ?_
  ·simp only[fW,dN,dZ,tC,dQ,gh,eZ,OL,eA,and_assoc,↓er,aa,ae,aE,aD,V.int.injEq,V.bl.injEq,V.str.injEq,V.ref.injEq,V.ty.injEq,ai,ah,and_true,true_and,exists_eq_left',exists_and_left,nu,hp,pQ,sj,Nn,T.mq]
   rcases h with ⟨⟨sz,hw,hz⟩,h⟩|⟨⟨sz,a,hw,hz,hb,c⟩,h⟩
   ·exact⟨dx,b,e,t,rfl,q,ws,hm,wo',sz,t,hw,hz,λdn s rr es=>uJ (es▸hw),.inl ⟨br _,λl H' s' _ el=>hR _ _ ⟨sz,t,l,hw,hz,el,s',rfl,by rw[decide_eq_true rfl];exact h⟩⟩⟩
   ·refine⟨dx,b,e,t,rfl,q,ws,hm,wo',sz,a,hw,hz,hb,?_⟩
    rcases c with c|c
    ·exact .inl ⟨Int.le_of_lt c,λl H' s' _ el=>hR _ _ ⟨sz,a,l,hw,hz,el,s',rfl,by rw[decide_eq_false (by omega)];exact h⟩⟩
    ·exact .inr ⟨c.1,c.2.1,c.2.2.1,c.2.2.2,h⟩
  rintro Gq hGq _ H1 ⟨sz,a,l,hw,hz,el,s1,rfl,h⟩
  subst hGq
  have m1:=hm.same s1
  have hp1:=s1 _ _ hp
  simp only[fW,gU,AV,dN,dZ,dQ,IH,eqv,eA,qv,pj,mH,↓er,NG,aq,av,aa,ae,V.int.injEq,V.bl.injEq,V.str.injEq,V.ref.injEq,V.ty.injEq,ai,ah,and_true,exists_eq_left',exists_and_left,nu,ub]
  refine⟨⟨_,iC.of el⟩,mQ.MC (λx=> .int (match eY ws (iv x).toNat with|some n=>n/4+1|none=>0)) (iC.of el) (by rw[ax,ju];exact aA hz (by decide)) (λx hx' K' hK=> ?_) λl2 hl2=> ?_⟩
  ·obtain⟨y,hy,rfl⟩:=List.mem_map.mp hx'
   obtain⟨_,y0,y1,n,hc,_⟩:=gd hw y hy
   have hc':eY ws (iv (V.int y)).toNat=some n:=hc
   simp only[dN,dZ,dQ,dR,aa,ae,bJ]
   refine⟨m,q,ws,.int y,rfl,m1,au,wo',?_⟩
   rw[if_pos (zv (by omega) (by omega)),hc']
   rw[hc']at hK
   exact hK
  ·have e2:(((fF b sz).map V.int).map λx=>V.int (match eY ws (iv x).toNat with|some n=>n/4+1|none=>0))=sz.map V.int:=by
    rw[aW,←congrArg (List.map V.int) (Fv hw),aW];rfl
   have hp2:=dY.upd (o:= .lst (sz.map V.int)) hl2 _ _ hp1
   have s2:dY H (upd H1 l2 (.lst (sz.map V.int))):=s1.trans (dY.upd hl2)
   rw[e2]
   generalize hG:upd H1 l2 (.lst (sz.map V.int))=H2 at*
   have sv:H2 l2=some (.lst (sz.map V.int)):=by rw[←hG,dH]
   simp only[Be,V.int.injEq,V.bl.injEq,V.str.injEq,V.ref.injEq,V.ty.injEq,ai,ah,and_true,true_and,sv,hp2,AJ]
   have hs:=Co hw
   refine⟨λn hn=> ?_,aA hz (by decide),dx,b,e,t,rfl,?_⟩
   ·have:=hs n hn;omega
   ·have:=uI hw
    rw[show decide (sz.sum=t-b)=decide (a=t) by rw[this];exact decide_eq_decide.mpr (by omega)]
    exact h _ s2
theorem v8.get{H:Hp}:∀{as:List V} {xs:List (Int×Int)} {i:Nat} {x:V},v8 H as xs->as[i]? =some x->∃t y,x= .ref t/\xs[i]? =some y/\H t=some (.tup [.int y.1,.int y.2])
 | .ref a::as,y::ys,0,x,h,e=>by cases e;exact⟨a,y,rfl,rfl,h.1⟩
 | .ref a::as,y::ys,i+1,x,h,e=>v8.get (i:=i) h.2 e
 | [],_,_,_,_,e=>by cases e
 | .gT::_,_,_,_,h,_=>by cases h
 | .bl _::_,_,_,_,h,_=>by cases h
 | .int _::_,_,_,_,h,_=>by cases h
 | .str _::_,_,_,_,h,_=>by cases h
 | .byt _::_,_,_,_,h,_=>by cases h
 | .KU _::_,_,_,_,h,_=>by cases h
 | .ty _::_,_,_,_,h,_=>by cases h
 | .ref _::_,[],_,_,h,_=>h.elim
theorem yU.get{H:Hp}{as:List V}{xs:List (Int×Int×Int)}{i:Nat}{x:V}(h:yU H as xs)(e:as[i]? =some x):∃t y,x= .ref t/\xs[i]? =some y/\H t=some (.tup [.int y.1,.int y.2.1,.int y.2.2]):=by
 induction h generalizing i with
 |nil=>cases e
 |cons e' _ ih=>
  cases i with
  |zero=>cases e;exact⟨_,_,rfl,rfl,e'⟩
  |succ i=>exact ih e
theorem A7:∀bs:List Bool,bools (bs.map V.bl)=some bs
 | []=>rfl
 |b::r=>by rw[aq,bools,A7 r];rfl
theorem uj{A:Ad}{H:Hp}{Q:VK}{E:XK}{p m q:Addr}{x:S3}{ws sz:List Int}(hp:uP A.dU H p x)(hm:gE A.dP H m q ws)(wo:fv ws)(hw:walks ws x.b sz x.t)(hz:sz.length<=5000)(h:∀l H',dY H H'->H l=none->H' l=some (.lst ((fF x.b sz).map V.int))->Q (.ref l) H'):sj A [.ref p,.ref m] H Q E:=
 let ⟨dx,e⟩:=hp
 ⟨p,dx,x.b,x.e,x.t,m,q,ws,sz,x.t,rfl,e,hm,wo,hw,hz,λdn s rr es=>uJ (es▸hw),.inl ⟨br _,h⟩⟩
noncomputable def GS (A:Ad):Sp:=λvs H Q _=>∃(X:HA) (S:HS) (W:WA) (os:List (Option Int)) (ts:List (Option (Int×Int))) (sd szo szy:List Int),vs=[.ref X.a,.ref X.r]/\i8 A.eR A.eB A.eN A.eV A.eu A.dP A.dU H X S/\A5 A.eB A.fw A.fc H X.r X.h X.b W os ts sd/\Fz S szo szy/\os.length<=60/\ts.length<64/\∀H',dY H H'->Q (.bl (nP S szo szy (names os) (AW ts))) H'
theorem oX:dX ["areas","roots","cells","told","at","standing"] ["areas","roots"] (dM oE):=fsc
theorem Gi(T:Txt K mg A):e_ P w K mg base (gY P w) true 10 A.lu A.oo ["areas","roots"] (GS A):=by
 refine T.uX.jD oX (λvs H Q E h=> ?_) (λcdv A' outer s H vs Q E hr hx h=> ?_)
 ·obtain⟨_,_,_,_,_,_,_,_,rfl,_⟩:=h
  rfl
 ·obtain⟨X,S,W,os,ts,sd,szo,szy,rfl,h⟩:=h
  obtain⟨h,g,wl,z,ol,tl⟩:=Q0 h
  refine⟨_,ix.run (dC (eK (i:=2) oX.nd rfl lo (dS CU (ej (dI (dE 0) rfl) T.fG T.iw ((iO T).mono (by decide)) hr T.ij hx (dB (dI (dE 0) rfl) dA)) (ej (dI (dE 0) rfl) T.fG T.iw ((iO T).mono (by decide)) hr T.ij hx (dB (dI (dE 0) rfl) dA))))
   (dC (eK (i:=3) oX.nd rfl lo (h_ (dE 1) T.f_ T.w6 ((Cw T).mono (by decide)) hr T.wA hx))
   (dC (rS hx.own rfl (gg (dE 2)) (pI (i:=4) oX.nd rfl lo)
    (dF (dW (nM cU cV u_ (dE 3) (dB (dG ((HK T).mono (by decide)) hr rfl T.uZ T.wR.kp T.C7 hx (dB (dI (dE 0) rfl) (dB (dE 4) dA))) dA)))))
   (dC (dW (nM cU cV u_ (dE 3) (dB (DA (fsc:=dM oE) (N2:=[]) (js:=[]) ⟨rfl,rfl,by decide+kernel,by decide+kernel,by decide+kernel,by decide+kernel,by decide+kernel,by decide+kernel,by decide+kernel⟩ rfl rfl (by rfl) (gg (h_ (dI (dE 1) rfl) T.m8 T.Al ((Eu T).mono (by decide)) hr T.zG hx)) (λ_ _ _ _=>ky) (λ_ _ _ _=>(dE 1))) dA)))
   (dC (dW (nM cU cV u_ (dE 3) (dB (IY (fsc:=dM oE) (N2:=[]) (js:=[]) ⟨rfl,rfl,by decide+kernel,by decide+kernel,by decide+kernel,by decide+kernel,by decide+kernel,by decide+kernel,by decide+kernel⟩ rfl rfl (by rfl) (gg (h_ (dI (dE 1) rfl) T.ja T.vV ((Bm T).mono (by decide)) hr T.vM hx)) (λ_ _ _ _=>ky) (λ_ _ _ _=>(dE 1))) dA)))
   (dC (eK (i:=5) oX.nd rfl lo (dG ((Fo T).mono (by decide)) hr rfl T.wV T.x8.kp T.C6 hx (dB (dE 2) dA)))
   (dF (d9 (fI (J8 (by rfl)) (by rfl) T.HG PyProof.Rows.Boot.«any» (dB (mw (fsc:=dM oE) (N2:=["standing"]) (js:=[5]) ⟨rfl,rfl,by decide+kernel,by decide+kernel,by decide+kernel,by decide+kernel,by decide+kernel,by decide+kernel,by decide+kernel⟩ rfl rfl (by rfl) (gg (dE 3)) (λ_ _ _ _=>ky) (λ_ _ _ _=>(gW (Dz (yI hr)) (dE 0) (dE 1) (by with_unfolding_all rfl)))) dA)))))))))),?_⟩
  show gj _ _ _ [some (V.ref X.a),some (V.ref X.r),none,none,none,none] H
  dsimp only[eA]
  refine eF (λσ' H'=>∃lc,H lc=none/\H' lc=some (.lst ((fK S szo szy).map V.int))/\dY H H'/\σ'=[some (V.ref X.a),some (V.ref X.r),some (V.ref lc),none,none,none]) (λR hR=> ?_) ?_
  ·obtain⟨d1,e1⟩:=g.ar.ob
   obtain⟨d2,e2⟩:=g.ar.old
   simp only[gU,dN,dZ,dQ,gh,eZ,↓eJ,↓er,IG,aa,aE,aD,and_true,true_and,fU,kr,nu,e1,T.eQ,T.fN,T.d_,vJ,jV,e2,pQ]
   refine uj g.ar.old g.ar.mem z.AX (by rw[z.b0];exact z.wo) (aA z.lo (by decide)) λl1 H1 s1 h1 uM=> ?_
   have e1':=s1 _ _ e1
   obtain⟨d3,e3⟩:=(g.ar.same s1).BH
   simp only[and_true,true_and,e1',T.eQ,T.fE,T.d_,wt,jV,e3,pQ]
   refine uj (g.ar.same s1).BH (g.ar.same s1).mem z.AX z.wy (aA z.ly (by decide)) λl2 H2 s2 h2 sv=> ?_
   simp only[s2 _ _ uM,sv]
   refine⟨by rw[ax,ax,ju,ju];exact aA (bN z.lo z.ly) (by decide),λlc hc=>hR _ _ ⟨lc,(s1.trans s2).free hc,?_,(s1.trans s2).trans (dY.upd hc),rfl⟩⟩
   rw[dH,z.b0,fK,aV]
  rintro Gq hGq _ H1 ⟨lc,hc,ec,s1,rfl⟩
  subst hGq
  refine eF (λσ' H'=>∃lt,H lt=none/\lc≠lt/\H' lc=some (.lst ((fK S szo szy).map V.int))/\H' lt=some (.lst ((G1 S.hw).map V.int))/\dY H H'/\σ'=[some (V.ref X.a),some (V.ref X.r),some (V.ref lc),some (V.ref lt),none,none]) (λR hR=> ?_) ?_
  ·obtain⟨d1,w1,l1,e1⟩:=(g.rt.same s1).ob
   simp only[dZ,dQ,gh,eZ,↓er,aa,ae,aE,aD,V.int.injEq,V.bl.injEq,V.str.injEq,V.ref.injEq,V.ty.injEq,ai,ah,and_true,true_and,exists_eq_left',exists_and_left,nu,e1,HU,vZ]
   exact⟨X.h,X.qh,X.b,X.d,S.hw,S.ks,g.rt.same s1,z.Hn,z.hl,λlt H2 ht s2 et=>hR _ _ ⟨lt,s1.free ht,dD ec ht,s2 _ _ ec,et,s1.trans s2,rfl⟩⟩
  rintro Gq hGq _ H2 ⟨lt,ht,nct,ec2,et2,s2,rfl⟩
  subst hGq
  have step:∀{H':Hp} {xs:List V},dY H H'->H' lc=some (.lst ((fK S szo szy).map V.int))->dY H (upd H' lt (.lst xs))/\upd H' lt (.lst xs) lc=some (.lst ((fK S szo szy).map V.int)):=λs' e'=>⟨s'.put ht,by rw[dO nct];exact e'⟩
  refine eF (λσ' H'=>∃v,H' lc=some (.lst ((fK S szo szy).map V.int))/\H' lt=some (.lst ((G1 S.hw++(fK S szo szy).flatMap (mY S.ws)).map V.int))/\dY H H'/\σ'=[some (V.ref X.a),some (V.ref X.r),some (V.ref lc),some (V.ref lt),v,none]) (λR hR=> ?_) ?_
  ·simp only[dQ,tE,mH,aa,ae,V.int.injEq,V.bl.injEq,V.str.injEq,V.ref.injEq,V.ty.injEq,ai,ah,exists_eq_left']
   refine⟨⟨_,iC.of ec2⟩,oG.HC (xs:=(fK S szo szy).map V.int) (λi σ H'=>∃v,H' lc=some (.lst ((fK S szo szy).map V.int))/\H' lt=some (.lst ((G1 S.hw++((fK S szo szy).take i).flatMap (mY S.ws)).map V.int))/\dY H H'/\σ=[some (V.ref X.a),some (V.ref X.r),some (V.ref lc),some (V.ref lt),v,none]) ⟨_,ec2,by simpa using et2,s2,rfl⟩ (λi σ H' _ ⟨_,e',_⟩=>iC.of e') ?_ ?_⟩
   ·rintro i x σ H3 hx' ⟨v,ec3,et3,s3,rfl⟩ R2 hR2
    obtain⟨hi,rfl,tk⟩:=ints_get hx'
    obtain⟨p0,p1,n,hn⟩:=z.A1 (bf hi)
    obtain⟨d1,e1⟩:=(g.ar.same s3).ob
    have hcl:=z.cl
    have ek:mY S.ws (fK S szo szy)[i]=kids S.ws (iv (V.int (fK S szo szy)[i])).toNat n:=by unfold mY;rw[hn];rfl
    have ft:=E_ (f:=mY S.ws) hi
    have fl:=wL (f:=mY S.ws) (λ_=>Bh) ((fK S szo szy).take i)
    have pl:=Km (ws:=S.hw)
    have k8:=Bh (ws:=S.ws) (p:=(fK S szo szy)[i])
    have hl6:=z.hl
    rw[bp]at fl
    simp only[fj,dN,dZ,dQ,eZ,dR,and_assoc,↓eJ,G8,uS,aa,ae,aE,aD,V.int.injEq,V.bl.injEq,V.str.injEq,V.ref.injEq,V.ty.injEq,ai,ah,and_true,true_and,exists_eq_left',exists_and_left,fU,kr,e1,T.eQ,T.d_,jV,Cm,et3]
    refine⟨X.q,S.ws,(g.ar.same s3).mem,au,z.AX,z.b7,?_⟩
    rw[if_pos (zv (by omega) (by omega)),show eY S.ws (iv (V.int (fK S szo szy)[i])).toNat=some n from hn]
    dsimp only
    intro l H4 s4 hl4 el
    rw[←ek]at el
    simp only[s4 _ _ et3,el]
    have st:=step (xs:=(G1 S.hw++((fK S szo szy).take i).flatMap (mY S.ws)).map V.int++(mY S.ws (fK S szo szy)[i]).map V.int) (s3.trans s4) (s4 _ _ ec3)
    refine⟨dD et3 hl4,?_,hR2 _ _ ⟨_,st.2,?_,st.1,rfl⟩⟩
    ·rw[ax,ax,aO]
     exact aA (show _<=4000 by omega) (by decide)
    ·rw[dH,ft,←cy,←aV]
   ·rintro σ H3 ⟨v,ec3,et3,s3,rfl⟩
    rw[ax,bE]at et3
    exact hR _ _ ⟨v,ec3,et3,s3,rfl⟩
  rintro Gq hGq _ H3 ⟨v,ec3,et3,s3,rfl⟩
  subst hGq
  have ol2:(HP 0 os).length<=60:=aA Gm ol
  have tl2:(jv 0 ts).length<=64:=aA D7 (bW tl)
  have bl:(G1 S.hw++(fK S szo szy).flatMap (mY S.ws)).length<=2500:=by
   have hcl:=z.cl
   have fl:=wL (f:=mY S.ws) (λ_=>Bh) (fK S szo szy)
   have pl:=Km (ws:=S.hw)
   have hl6:=z.hl
   rw[aO];omega
  refine eF (λσ' H'=>H' lc=some (.lst ((fK S szo szy).map V.int))/\H' lt=some (.lst ((G1 S.hw++(fK S szo szy).flatMap (mY S.ws)++names os).map V.int))/\dY H H'/\σ'=[some (V.ref X.a),some (V.ref X.r),some (V.ref lc),some (V.ref lt),v,none]) (λR hR=> ?_) ?_
  ·obtain⟨d1,e1⟩:=(wl.same s3).ob
   obtain⟨d2,e2⟩:=(wl.same s3).wk.ob
   simp only[fj,dN,dZ,dQ,pj,mH,↓eJ,↓er,G8,GV,uS,av,aa,ae,V.int.injEq,V.bl.injEq,V.str.injEq,V.ref.injEq,V.ty.injEq,ai,ah,and_true,true_and,exists_eq_left',exists_and_left,fU,kr,nu,et3,e1,T.f_,T.iN,Jp,e2,Lx,yS]
   refine⟨W.wq,os,(wl.same s3).wk,aA ol (by decide),λl as H4 s4 hl4 el pa=>⟨⟨_,iC.of el⟩,?_⟩⟩
   have hal:=pa.len
   refine FK (xs:=as) (λi ys H'=>H'=H4/\ys=(((HP 0 os).take i).map (·.2)).map V.int) ⟨rfl,by simp⟩ (λi ys H' hP=>by rw[hP.1];exact iC.of el) (by rw[hal];exact aA ol2 (by decide)) (λi ys H' hP=>by rw[hP.2,ax,ax,bp];omega) (λi x ys H' hx' hP=> ?_) λys H' hP l5 hl5=> ?_
   ·obtain⟨eH,rfl⟩:=hP
    subst eH
    obtain⟨t,y,rfl,hy,ht⟩:=pa.get hx'
    refine⟨t,_,_,rfl,Ef.of ht,λK1 hK=> ?_⟩
    simp only[dQ,↓reduceIte,Lr,aa,ae]
    refine hK _ _ ⟨rfl,?_⟩
    rw[bM,hy];simp
   ·obtain⟨eH,rfl⟩:=hP
    subst eH
    rw[hal,bE]
    have et5:=(s4.trans (dY.upd (o:= .lst (((HP 0 os).map (·.2)).map V.int)) hl5)) _ _ et3
    have st:=step (xs:=(G1 S.hw++(fK S szo szy).flatMap (mY S.ws)).map V.int++((HP 0 os).map (·.2)).map V.int) ((s3.trans s4).trans (dY.upd (o:= .lst (((HP 0 os).map (·.2)).map V.int)) hl5)) ((s4.trans (dY.upd hl5)) _ _ ec3)
    simp only[dH,et5]
    refine⟨dD (s4 _ _ et3) hl5,?_,hR _ _ ⟨st.2,?_,st.1,rfl⟩⟩
    ·rw[ax,ax,ax]
     exact aA (bN bl ol2) (by decide)
    ·rw[dH,names,←aV]
  rintro Gq hGq _ H4 ⟨ec4,et4,s4,rfl⟩
  subst hGq
  refine eF (λσ' H'=>H' lc=some (.lst ((fK S szo szy).map V.int))/\H' lt=some (.lst ((told S szo szy (names os) (AW ts)).map V.int))/\dY H H'/\σ'=[some (V.ref X.a),some (V.ref X.r),some (V.ref lc),some (V.ref lt),v,none]) (λR hR=> ?_) ?_
  ·obtain⟨d1,e1⟩:=(wl.same s4).ob
   obtain⟨es,ml⟩:=(wl.same s4).ls
   obtain⟨d2,e2⟩:=ml.ob
   simp only[fj,dN,dZ,dQ,pj,mH,↓eJ,↓er,G8,uS,av,aa,ae,V.int.injEq,V.bl.injEq,V.str.injEq,V.ref.injEq,V.ty.injEq,ai,ah,and_true,true_and,exists_eq_left',exists_and_left,Jx,fU,kr,nu,et4,e1,T.f_,T.iM,Jo,e2,HB,uH]
   refine⟨W.ld,W.lq,ts,sd,es,ml,tl,λl as H5 s5 hl5 el ta=>⟨⟨_,iC.of el⟩,?_⟩⟩
   have hal:=ta.len
   refine FL (xs:=as) (λi ys H'=>H'=H5/\ys=(((jv 0 ts).take i).map λx=>x.2.1).map V.int) ⟨rfl,by simp⟩ (λi ys H' hP=>by rw[hP.1];exact iC.of el) (by rw[hal];exact aA tl2 (by decide)) (λi ys H' hP=>by rw[hP.2,ax,ax,bp];omega) (λi x ys H' hx' hP=> ?_) λys H' hP l6 hl6=> ?_
   ·obtain⟨eH,rfl⟩:=hP
    subst eH
    obtain⟨t,y,rfl,hy,ht⟩:=ta.get hx'
    refine⟨t,_,_,_,rfl,Ef.of ht,λK1 hK=> ?_⟩
    simp only[dQ,↓reduceIte,Lr,aa,ae]
    refine hK _ _ ⟨rfl,?_⟩
    rw[bM,hy];simp
   ·obtain⟨eH,rfl⟩:=hP
    subst eH
    rw[hal,bE]
    have et5:=(s5.trans (dY.upd (o:= .lst (((jv 0 ts).map λx=>x.2.1).map V.int)) hl6)) _ _ et4
    have st:=step (xs:=(G1 S.hw++(fK S szo szy).flatMap (mY S.ws)++names os).map V.int++((jv 0 ts).map λx=>x.2.1).map V.int) ((s4.trans s5).trans (dY.upd (o:= .lst (((jv 0 ts).map λx=>x.2.1).map V.int)) hl6)) ((s5.trans (dY.upd hl6)) _ _ ec4)
    simp only[dH,et5]
    refine⟨dD (s5 _ _ et4) hl6,?_,hR _ _ ⟨st.2,?_,st.1,rfl⟩⟩
    ·rw[ax,ax,ax,aO,names,ax]
     exact aA (bN (bN bl ol2) tl2) (by decide)
    ·rw[dH,told,AW,←aV]
  rintro Gq hGq _ H5 ⟨ec5,et5,s5,rfl⟩
  subst hGq
  have tlen:(told S szo szy (names os) (AW ts)).length<=3000:=by
   unfold told names AW
   rw[aO,aO,ax,ax];omega
  refine eF (λσ' H'=>∃d ks,(∀z,z∈ks↔z∈fK S szo szy)/\H' d=some (.dK (zK ks))/\H' lt=some (.lst ((told S szo szy (names os) (AW ts)).map V.int))/\dY H H'/\σ'=[some (V.ref X.a),some (V.ref X.r),some (V.ref lc),some (V.ref lt),v,some (V.ref d)]) (λR hR=> ?_) ?_
  ·simp only[dN,dZ,dQ,gh,eZ,dR,aa,ae,aE,aD,V.int.injEq,V.bl.injEq,V.str.injEq,V.ref.injEq,V.ty.injEq,ai,ah,and_true,exists_eq_left',exists_and_left,Bx]
   exact⟨_,ec5,aA z.cl (by decide),λd H6 ks s6 hd hk e6=>hR _ _ ⟨d,ks,hk,e6,s6 _ _ et5,s5.trans s6,rfl⟩⟩
  rintro Gq hGq _ H6 ⟨d,ks,hk,e6,et6,s6,rfl⟩
  subst hGq
  simp only[fW,AV,dN,dZ,dQ,qv,pj,mH,aq,av,aa,ae,V.int.injEq,V.bl.injEq,V.str.injEq,V.ref.injEq,V.ty.injEq,ai,ah,exists_eq_left',LV]
  refine⟨⟨_,iC.of et6⟩,mQ.MC (λx=> .bl (!decide (iv x∈fK S szo szy))) (iC.of et6) (by rw[ax];exact aA tlen (by decide)) (λx hx' K' hK=> ?_) λl2 hl2=> ?_⟩
  ·obtain⟨y,hy,rfl⟩:=List.mem_map.mp hx'
   simp only[gU,dQ,uB,xX,aa,ae,bJ,e6,JF,hk]
   exact hK
  ·simp only[dH,aW]
   rw[show((λx=>V.bl (!decide (iv x∈fK S szo szy)))∘V.int)=V.bl∘(λy:Int=> !decide (y∈fK S szo szy)) from rfl,←aW,A7]
   dsimp only
   rw[b_]
   exact h _ (s6.trans (dY.upd hl2))
noncomputable def BA (A:Ad):Sp:=λvs H Q _=>∃(X:HA) (S:HS) (szo szy:List Int),vs=[.ref X.a]/\i8 A.eR A.eB A.eN A.eV A.eu A.dP A.dU H X S/\Fz S szo szy/\∀l H',dY H H'->H l=none->H' l=some (.lst ((su S szo szy).map V.int))->Q (.ref l) H'
theorem mD:dX ["areas","young","slots","at"] ["areas"] (dM nB):=fsc
theorem Bo(T:Txt K mg A):e_ P w K mg base (gY P w) true 10 A.ie A.i4 ["areas"] (BA A):=by
 refine T.pH.jD mD (λvs H Q E h=> ?_) (λcdv A' outer s H vs Q E hr hx h=> ?_)
 ·obtain⟨_,_,_,_,rfl,_⟩:=h
  rfl
 ·obtain⟨X,S,szo,szy,rfl,h⟩:=h
  obtain⟨h,g,z⟩:=A6 h
  refine⟨_,ix.run (dC (eK (i:=1) mD.nd rfl lo (dG ((Fo T).mono (by decide)) hr rfl T.wV T.x8.kp T.C6 hx (dB (ej (dI (dE 0) rfl) T.fG T.iw ((iO T).mono (by decide)) hr T.ij hx (dB (dI (dE 0) rfl) dA)) dA)))
   (dC (eK (i:=2) mD.nd rfl lo (gC dA))
   (dC (rS hx.own rfl (gg (ej (dI (dE 0) rfl) T.fG T.iw ((iO T).mono (by decide)) hr T.ij hx (dB (dI (dE 0) rfl) dA))) (pI (i:=3) mD.nd rfl lo)
    (dF (dW (nM cU cV u_ (dE 2) (dB (dG ((xg T).mono (by decide)) hr rfl T.mV T.oK.kp T.tJ hx (dB (dI (dE 0) rfl) (dB (dE 3) dA))) dA)))))
   (dF (d9 (mw (fsc:=dM nB) (N2:=["areas","young"]) (js:=[0,1]) ⟨rfl,rfl,by decide+kernel,by decide+kernel,by decide+kernel,by decide+kernel,by decide+kernel,by decide+kernel,by decide+kernel⟩ rfl rfl (by rfl) (gg (dE 2)) (λ_ _ _ _=>(pJ (Mv (dG ((Gj T).mono (by decide)) hr rfl T.sO T.uY.kp T.BV qM (dB (Ab (K:=K) rfl (dE 1) rfl) (dB (dE 0) (dB (dE 2) dA)))) (λ_=>rfl)))) (λ_ _ _ _=>(dE 0)))))))),?_⟩
  show gj _ _ _ [some (V.ref X.a),none,none,none] H
  dsimp only[eA]
  refine eF (λσ' H'=>∃d ks,(∀z,z∈ks↔z∈fF S.sy.b szy)/\H' d=some (.dK (zK ks))/\dY H H'/\σ'=[some (V.ref X.a),some (V.ref d),none,none]) (λR hR=> ?_) ?_
  ·obtain⟨d1,e1⟩:=g.ar.ob
   obtain⟨d2,e2⟩:=g.ar.BH
   simp only[dN,dZ,dQ,gh,eZ,dR,↓eJ,↓er,aa,aE,aD,and_true,true_and,fU,kr,nu,e1,T.eQ,T.fE,T.d_,wt,jV,e2,pQ]
   refine uj g.ar.BH g.ar.mem z.AX z.wy (aA z.ly (by decide)) λl1 H1 s1 h1 uM=> ?_
   simp only[V.int.injEq,V.bl.injEq,V.str.injEq,V.ref.injEq,V.ty.injEq,ai,ah,and_true,exists_eq_left',exists_and_left,Bx]
   exact⟨_,uM,by rw[ju];exact aA z.ly (by decide),λd H6 ks s6 hd hk e6=>hR _ _ ⟨d,ks,hk,e6,s1.trans s6,rfl⟩⟩
  rintro Gq hGq _ H1 ⟨d,ks,hk,ed,s1,rfl⟩
  subst hGq
  refine eF (λσ' H'=>∃ls,H ls=none/\d≠ls/\H' d=some (.dK (zK ks))/\H' ls=some (.lst [])/\dY H H'/\σ'=[some (V.ref X.a),some (V.ref d),some (V.ref ls),none]) (λR hR=> ?_) ?_
  ·simp only[dZ,qw,gh,eZ,ak,aE,aD,true_and,Ng]
   exact λls hl=>hR _ _ ⟨ls,s1.free hl,dD ed hl,dY.upd hl _ _ ed,dH,s1.trans (dY.upd hl),rfl⟩
  rintro Gq hGq _ H2 ⟨ls,hls,nd,ed2,sv,s2,rfl⟩
  subst hGq
  refine eF (λσ' H'=>∃v,H' d=some (.dK (zK ks))/\H' ls=some (.lst (((fF 0 szo).flatMap (fR S.ws)).map V.int))/\dY H H'/\σ'=[some (V.ref X.a),some (V.ref d),some (V.ref ls),v]) (λR hR=> ?_) ?_
  ·obtain⟨d1,e1⟩:=(g.ar.same s2).ob
   obtain⟨d3,e3⟩:=(g.ar.same s2).old
   simp only[dN,dZ,dQ,tE,mH,↓eJ,↓er,aa,and_true,true_and,fU,kr,nu,e1,T.eQ,T.fN,T.d_,vJ,jV,e3,pQ]
   refine uj (g.ar.same s2).old (g.ar.same s2).mem z.AX (by rw[z.b0];exact z.wo) (aA z.lo (by decide)) λl1 H3 s3 h1 uM=> ?_
   rw[z.b0]at uM
   refine⟨l1,rfl,⟨_,iC.of uM⟩,oG.HC (xs:=(fF 0 szo).map V.int) (λi σ H'=>∃v,H' l1=some (.lst ((fF 0 szo).map V.int))/\H' d=some (.dK (zK ks))/\H' ls=some (.lst ((((fF 0 szo).take i).flatMap (fR S.ws)).map V.int))/\dY H H'/\σ=[some (V.ref X.a),some (V.ref d),some (V.ref ls),v]) ⟨_,uM,s3 _ _ ed2,by simpa using s3 _ _ sv,s2.trans s3,rfl⟩ (λi σ H' _ ⟨_,e',_⟩=>iC.of e') ?_ ?_⟩
   ·rintro i x σ H4 hx' ⟨v,ec4,ed4,et4,s4,rfl⟩ R2 hR2
    obtain⟨hi,rfl,tk⟩:=ints_get hx'
    obtain⟨_,p0,p1,n,hn,_⟩:=gd z.wo _ (bf hi)
    obtain⟨d1,e1⟩:=(g.ar.same s4).ob
    have hlo:=z.lo
    have ek:(fR S.ws (fF 0 szo)[i])=zr (iv (V.int (fF 0 szo)[i])) n:=by unfold fR;rw[hn];rfl
    have ft:=E_ (f:=fR S.ws) hi
    have fl:=wL (f:=fR S.ws) (λ_=>zt) ((fF 0 szo).take i)
    have k8:=zt (ws:=S.ws) (p:=(fF 0 szo)[i])
    rw[bp,ju]at fl
    rw[ju]at hi
    simp only[fj,dN,dZ,dQ,eZ,dR,and_assoc,dH,↓eJ,G8,uS,aa,ae,aE,aD,V.int.injEq,V.bl.injEq,V.str.injEq,V.ref.injEq,V.ty.injEq,ai,ah,and_true,true_and,exists_eq_left',exists_and_left,fU,kr,et4,e1,T.eQ,T.d_,jV,lL]
    refine⟨X.q,S.ws,(g.ar.same s4).mem,au,z.AX,z.b7,?_⟩
    rw[if_pos (zv (by omega) (by omega)),show eY S.ws (iv (V.int (fF 0 szo)[i])).toNat=some n from hn]
    dsimp only
    intro l hl5
    rw[←ek]
    have s5:=dY.upd (o:= .lst ((fR S.ws (fF 0 szo)[i]).map V.int)) hl5
    simp only[s5 _ _ et4]
    have n1:l1≠ls:=λy=>by rw[y,sv]at h1;cases h1
    refine⟨dD et4 hl5,?_,hR2 _ _ ⟨_,by rw[dO n1];exact s5 _ _ ec4,by rw[dO nd];exact s5 _ _ ed4,?_,(s4.trans s5).put hls,rfl⟩⟩
    ·rw[ax,ax]
     exact aA (show _<=4000 by omega) (by decide)
    ·rw[dH,ft,←aV]
   ·rintro σ H4 ⟨v,ec4,ed4,et4,s4,rfl⟩
    rw[ax,bE]at et4
    exact hR _ _ ⟨v,ed4,et4,s4,rfl⟩
  rintro Gq hGq _ H3 ⟨v,ed3,y4,s3,rfl⟩
  subst hGq
  have fl:=wL (f:=fR S.ws) (λ_=>zt) (fF 0 szo)
  have hlo:=z.lo
  rw[ju]at fl
  simp only[fW,dN,dZ,dQ,dR,jH,qv,pj,mH,↓eJ,aq,av,aa,ae,V.int.injEq,V.bl.injEq,V.str.injEq,V.ref.injEq,V.ty.injEq,ai,ah,exists_eq_left',fU,kr]
  refine⟨⟨_,iC.of y4⟩,mQ.E6 (λx=>PM S szy (iv x)) (λx=>x) (iC.of y4) (by rw[ax];exact aA (show _<=4000 by omega) (by decide)) (λx hx' K' hK=> ?_) (λx hx' _ K' hK=> ?_) λl hl=> ?_⟩
  ·obtain⟨y,hy,rfl⟩:=List.mem_map.mp hx'
   obtain⟨p,hp,hy⟩:=List.mem_flatMap.mp hy
   obtain⟨n,hn,y0,y1⟩:=gX.mp hy
   obtain⟨_,p0,p1,n',hn',_⟩:=gd z.wo _ hp
   obtain⟨_,_,_,_,c5⟩:=fP hn
   obtain⟨d1,e1⟩:=(g.ar.same s3).ob
   simp only[and_assoc,aa,ae,V.int.injEq,V.bl.injEq,V.str.injEq,V.ref.injEq,V.ty.injEq,ai,ah,and_true,true_and,exists_eq_left',exists_and_left,exists_eq_left,bJ,e1,T.eQ,T.d_,jV,AU]
   refine⟨X.q,S.ws,(g.ar.same s3).mem,z.AX,by omega,by omega,ks,ed3,?_⟩
   rw[show(jI (S.ws.getD y.toNat 0)&&decide (S.ws.getD y.toNat 0/2∈ks))=PM S szy y by unfold PM;rw[show decide (S.ws.getD y.toNat 0/2∈ks)=decide (S.ws.getD y.toNat 0/2∈fF S.sy.b szy) from decide_eq_decide.mpr (hk _)]]
   exact hK
  ·simp only[dQ,aa]
   exact hK
  ·refine h l _ (s3.trans (dY.upd hl)) (s3.free hl) ?_
   rw[dH,de,su,bS]
   ·rfl
   ·intro x;rfl
noncomputable def Bz (A:Ad):Sp:=λvs H Q _=>∃(X:HA) (S:HS) (szo szy:List Int),vs=[.ref X.a]/\i8 A.eR A.eB A.eN A.eV A.eu A.dP A.dU H X S/\Fz S szo szy/\∀H',dY H H'->Q (.bl (G3 S szo szy)) H'
theorem pP:dX ["areas","old","young"] ["areas"] (dM i7):=fsc
theorem Bn(T:Txt K mg A):e_ P w K mg base (gY P w) true 10 A.ic A.iZ ["areas"] (Bz A):=by
 refine T.pG.jD pP (λvs H Q E h=> ?_) (λcdv A' outer s H vs Q E hr hx h=> ?_)
 ·obtain⟨_,_,_,_,rfl,_⟩:=h
  rfl
 ·obtain⟨X,S,szo,szy,rfl,h⟩:=h
  obtain⟨h,g,z⟩:=A6 h
  refine⟨_,ix.run (dC (vc (i:=1) (fsc:=dM i7) (N2:=["areas"]) (js:=[0]) pP.nd rfl lo ⟨rfl,rfl,by decide+kernel,by decide+kernel,by decide+kernel,by decide+kernel,by decide+kernel,by decide+kernel,by decide+kernel⟩ rfl rfl (by rfl) (gg (ej (dI (dE 0) rfl) T.fG T.iw ((iO T).mono (by decide)) hr T.ij hx (dB (dI (dE 0) rfl) dA))) (λ_ _ _ _=>ky) (λ_ _ _ _=>(dG ((Fn T).mono (by decide)) hr rfl T.wU T.x5.kp T.C5 qM (dB (Ab (K:=K) rfl (dE 1) rfl) (dB (dE 0) dA)))))
   (dC (vc (i:=2) (fsc:=dM i7) (N2:=["areas"]) (js:=[0]) pP.nd rfl lo ⟨rfl,rfl,by decide+kernel,by decide+kernel,by decide+kernel,by decide+kernel,by decide+kernel,by decide+kernel,by decide+kernel⟩ rfl rfl (by rfl) (gg (ej (dI (dE 0) rfl) T.fG T.iw ((iO T).mono (by decide)) hr T.ij hx (dB (dI (dE 0) rfl) dA))) (λ_ _ _ _=>ky) (λ_ _ _ _=>(dG ((Fn T).mono (by decide)) hr rfl T.wU T.x5.kp T.C5 qM (dB (Ab (K:=K) rfl (dE 1) rfl) (dB (dE 0) dA)))))
   (dF (d9 (NZ (fI (J8 (by rfl)) (by rfl) T.HG PyProof.Rows.Boot.«any» (dB (mw (fsc:=dM i7) (N2:=[]) (js:=[]) ⟨rfl,rfl,by decide+kernel,by decide+kernel,by decide+kernel,by decide+kernel,by decide+kernel,by decide+kernel,by decide+kernel⟩ rfl rfl (by rfl) (gg (dE 1)) (λ_ _ _ _=>ky) (λ_ _ _ _=>(gW IW (dE 0) (ia T.lN) (fk _)))) dA)) (rR (gW Ac (ia T.lN) (dE 2) (by with_unfolding_all rfl)))))))),?_⟩
  have ag:∀{H':Hp} {p:Int} {K':VK} {E':XK},dY H H'->p∈fK S szo szy->K' (.int (mI S.ws p)) H'->Ft A [.ref X.m,.int p] H' K' E':=λ{H' p K' E'} s' hp k=>by
   obtain⟨p0,p1,n,hn⟩:=z.A1 hp
   refine⟨X.m,X.q,S.ws,.int p,rfl,(g.ar.same s').mem,au,z.AX,?_⟩
   rw[if_pos (zv (by omega) (by omega)),show eY S.ws (iv (V.int p)).toNat=some n from hn]
   unfold mI at k
   rw[hn]at k
   exact k
  show gj _ _ _ [some (V.ref X.a),none,none] H
  dsimp only[eA]
  refine eF (λσ' H'=>∃l,H' l=some (.lst (((fF 0 szo).map (mI S.ws)).map V.int))/\dY H H'/\σ'=[some (V.ref X.a),some (V.ref l),none]) (λR hR=> ?_) ?_
  ·obtain⟨d1,e1⟩:=g.ar.ob
   obtain⟨d2,e2⟩:=g.ar.old
   simp only[dN,dZ,dQ,gh,eZ,qv,pj,mH,↓eJ,↓er,aq,av,aa,aE,aD,and_true,true_and,fU,kr,nu,e1,T.eQ,T.fN,T.d_,vJ,jV,e2,pQ]
   refine uj g.ar.old g.ar.mem z.AX (by rw[z.b0];exact z.wo) (aA z.lo (by decide)) λl1 H1 s1 h1 uM=> ?_
   rw[z.b0]at uM
   refine⟨l1,rfl,⟨_,iC.of uM⟩,mQ.MC (λx=> .int (mI S.ws (iv x))) (iC.of uM) (by rw[ax,ju];exact aA z.lo (by decide)) (λx hx' K' hK=> ?_) λl2 hl2=> ?_⟩
   ·obtain⟨y,hy,rfl⟩:=List.mem_map.mp hx'
    have e1':=s1 _ _ e1
    simp only[dN,dZ,dQ,dR,↓eJ,aa,ae,and_true,true_and,fU,kr,bJ,e1',T.eQ,T.d_,jV]
    exact ag s1 (aX _ hy) hK
   ·refine hR _ _ ⟨l2,?_,s1.trans (dY.upd hl2),rfl⟩
    rw[dH,aW,aW];rfl
  rintro Gq hGq _ H1 ⟨lo,eo,s1,rfl⟩
  subst hGq
  refine eF (λσ' H'=>∃l,H' lo=some (.lst (((fF 0 szo).map (mI S.ws)).map V.int))/\H' l=some (.lst (((fF S.sy.b szy).map (mI S.ws)).map V.int))/\dY H H'/\σ'=[some (V.ref X.a),some (V.ref lo),some (V.ref l)]) (λR hR=> ?_) ?_
  ·obtain⟨d1,e1⟩:=(g.ar.same s1).ob
   obtain⟨d2,e2⟩:=(g.ar.same s1).BH
   simp only[dN,dZ,dQ,gh,eZ,qv,pj,mH,↓eJ,↓er,aq,av,aa,aE,aD,and_true,true_and,fU,kr,nu,e1,T.eQ,T.fE,T.d_,wt,jV,e2,pQ]
   refine uj (g.ar.same s1).BH (g.ar.same s1).mem z.AX z.wy (aA z.ly (by decide)) λl1 H2 s2 h1 uM=> ?_
   refine⟨l1,rfl,⟨_,iC.of uM⟩,mQ.MC (λx=> .int (mI S.ws (iv x))) (iC.of uM) (by rw[ax,ju];exact aA z.ly (by decide)) (λx hx' K' hK=> ?_) λl2 hl2=> ?_⟩
   ·obtain⟨y,hy,rfl⟩:=List.mem_map.mp hx'
    have e1':=s2 _ _ e1
    simp only[dN,dZ,dQ,dR,↓eJ,aa,ae,and_true,true_and,fU,kr,bJ,e1',T.eQ,T.d_,jV]
    exact ag (s1.trans s2) (aY _ hy) hK
   ·refine hR _ _ ⟨l2,(s2.trans (dY.upd hl2)) _ _ eo,?_,(s1.trans s2).trans (dY.upd hl2),rfl⟩
    rw[dH,aW,aW];rfl
  rintro Gq hGq _ H2 ⟨ly,eo2,ey,s2,rfl⟩
  subst hGq
  simp only[fW,gU,QI,AV,dN,dZ,tC,dQ,↓reduceIte,qv,pj,mH,av,aa,ae,V.int.injEq,V.bl.injEq,V.str.injEq,V.ref.injEq,V.ty.injEq,ai,ah,exists_eq_left',aH,LV,FH,↓gb]
  refine⟨⟨_,iC.of eo2⟩,mQ.MC (λx=> .bl (!decide (iv x=2))) (iC.of eo2) (by rw[ax,ax,ju];exact aA z.lo (by decide)) (λx hx' K' hK=> ?_) λl2 hl2=> ?_⟩
  ·obtain⟨y,hy,rfl⟩:=List.mem_map.mp hx'
   simp only[gU,tC,dQ,Ph,eqv,aa]
   exact hK
  ·have ey3:=dY.upd (o:= .lst (((((fF 0 szo).map (mI S.ws)).map V.int)).map (λx=>V.bl (!decide (iv x=2))))) hl2 _ _ ey
   have s3:=s2.trans (dY.upd (o:= .lst (((((fF 0 szo).map (mI S.ws)).map V.int)).map (λx=>V.bl (!decide (iv x=2))))) hl2)
   have eb:bools ((((fF 0 szo).map (mI S.ws)).map V.int).map λx=>V.bl (!decide (iv x=2)))=some ((fF 0 szo).map λp=> !decide (mI S.ws p=2)):=by
    rw[aW,aW,←A7,aW];rfl
   simp only[dH,eb,ey3]
   rw[b_]
   unfold G3 at h
   have ea:(fF 0 szo).any (id∘λp=> !decide (mI S.ws p=2))=(fF 0 szo).any λp=> !decide (mI S.ws p=2):=rfl
   rw[ea]
   cases ha:(fF 0 szo).any λp=> !decide (mI S.ws p=2) with
   |true=>
    rw[ha]at h
    rw[if_pos rfl]
    exact h _ s3
   |false=>
    rw[ha]at h
    rw[if_neg (by intro y;cases y),Ds]
    refine⟨rfl,E8,?_⟩
    rw[Bool.false_or]at h
    rw[show decide ((2:Int)∈(fF S.sy.b szy).map (mI S.ws))=(fF S.sy.b szy).any λp=>decide (mI S.ws p=2) by
     rw[bY,decide_eq_true_eq,cx,cK]
     simp only[decide_eq_true_eq]]
    exact h _ s3
noncomputable def nO (A:Ad):Sp:=λvs H Q E=>∃p m q o y s ws so sy ss v,vs=[.ref p,v]/\pe A.eu A.dP A.dU H p m q o y s ws so sy ss/\fv ws/\ws.length<=4000/\0<=sy.t/\sy.e<=ws.length/\Kn H v/\
 if wi v 0 8=true then(if iv v+1<=sy.e-sy.t then
   (∀H',pe A.eu A.dP A.dU H' p m q o y s (gI ws sy.t.toNat (iv v).toNat 0) so ⟨sy.b,sy.e,sy.t+(iv v+1)⟩ ss->(∀b u,H b=some u->b≠q->b≠y->H' b=some u)->Q (.int sy.t) H')
  else E (.ref A.jN) none H) else E (.ref A.fO) none H
theorem zp:dX ["self","slots"] ["self","slots"] (dM oS):=fsc
theorem zf(T:Txt K mg A):e_ P w K mg base (gY P w) true 10 A.gm A.hV ["self","slots"] (nO A):=by
 refine T.rK.jD zp (λvs H Q E h=> ?_) (λcdv A' outer s H vs Q E hr hx h=> ?_)
 ·obtain⟨_,_,_,_,_,_,_,_,_,_,_,rfl,_⟩:=h
  rfl
 ·obtain⟨p,m,q,o,y,s',ws,so,sy,ss,v,rfl,h⟩:=h
  obtain⟨h,a,wo',hl,t0,el,hk⟩:=Sx h
  refine⟨_,ix.run (dF (d9 (ej (dE 0) T.eQ T.pL ((tf T).mono (by decide)) hr T.pf hx (dB (dI (dE 0) rfl) (dB (dE 1) (dB dJ dA)))))),?_⟩
  obtain⟨dx,hp⟩:=a.ob
  obtain⟨dy,hy⟩:=a.BH
  simp only[fW,dN,dZ,tC,dQ,eA,and_assoc,Int.reduceLE,Int.reduceAdd,↓eJ,↓er,L2.start,aq,av,af,ak,List.replicate,az,aa,ae,V.int.injEq,V.bl.injEq,V.str.injEq,V.ref.injEq,V.ty.injEq,ai,ah,and_true,true_and,exists_eq_left',exists_and_left,Nat.reduceAdd,aB,fU,kr,nu,hp,T.eQ,T.fE,wt,LL,oY]
  refine⟨dx,m,q,o,y,s',rfl,ws,a.mem,wo',hl,dy,sy,hy,a.pd.2.2.1,a.md.2.1,t0,el,hk,?_⟩
  cases hv:wi v 0 8 with
  |false=>simp only[hv,aH,if_false]at h⊢;exact h
  |true=>
   simp only[hv,if_true]at h⊢
   by_cases z:iv v+1<=sy.e-sy.t
   ·rw[if_pos z]at h⊢
    exact λH' m' e' f'=>h H' (a.Tp m' ⟨dy,e'⟩ f') f'
   ·rw[if_neg z]at h⊢;exact h
noncomputable def pR (A:Ad):Sp:=λvs H Q E=>∃p m q o y s ws so sy ss v,vs=[.ref p,v]/\pe A.eu A.dP A.dU H p m q o y s ws so sy ss/\fv ws/\ws.length<=4000/\0<=so.t/\so.e<=ws.length/\Kn H v/\
 if wi v 0 8=true then(if iv v+1<=so.e-so.t then
   (∀H',pe A.eu A.dP A.dU H' p m q o y s (gI ws so.t.toNat (iv v).toNat 2) ⟨so.b,so.e,so.t+(iv v+1)⟩ sy ss->(∀b u,H b=some u->b≠q->b≠o->H' b=some u)->Q (.int so.t) H')
  else E (.ref A.jN) none H) else E (.ref A.fO) none H
theorem Bs:dX ["self","slots"] ["self","slots"] (dM qD):=fsc
theorem Bk(T:Txt K mg A):e_ P w K mg base (gY P w) true 10 A.gP A.iW ["self","slots"] (pR A):=by
 refine T.uq.jD Bs (λvs H Q E h=> ?_) (λcdv A' outer s H vs Q E hr hx h=> ?_)
 ·obtain⟨_,_,_,_,_,_,_,_,_,_,_,rfl,_⟩:=h
  rfl
 ·obtain⟨p,m,q,o,y,s',ws,so,sy,ss,v,rfl,h⟩:=h
  obtain⟨h,a,wo',hl,t0,el,hk⟩:=Sx h
  refine⟨_,ix.run (dF (d9 (ej (dE 0) T.eQ T.pL ((tf T).mono (by decide)) hr T.pf hx (dB (dI (dE 0) rfl) (dB (dE 1) (dB (ia T.lN) dA)))))),?_⟩
  obtain⟨dx,hp⟩:=a.ob
  obtain⟨dy,hy⟩:=a.old
  simp only[fW,dN,dZ,tC,dQ,eA,and_assoc,Int.reduceLE,Int.reduceAdd,↓eJ,↓er,L2.start,aq,av,af,ak,List.replicate,az,aa,ae,V.int.injEq,V.bl.injEq,V.str.injEq,V.ref.injEq,V.ty.injEq,ai,ah,and_true,true_and,exists_eq_left',exists_and_left,Nat.reduceAdd,aB,fU,kr,nu,hp,T.eQ,T.fN,vJ,LL,oY]
  refine⟨dx,m,q,o,y,s',rfl,ws,a.mem,wo',hl,dy,so,hy,a.pd.2.1,a.md.1,t0,el,hk,?_⟩
  cases hv:wi v 0 8 with
  |false=>simp only[hv,aH,if_false]at h⊢;exact h
  |true=>
   simp only[hv,if_true]at h⊢
   by_cases z:iv v+1<=so.e-so.t
   ·rw[if_pos z]at h⊢
    exact λH' m' e' f'=>h H' (a.RO m' ⟨dy,e'⟩ f') f'
   ·rw[if_neg z]at h⊢;exact h
noncomputable def Ck (A:Ad):Sp:=λvs H Q E=>∃X S v u x,vs=[.ref X.p,v,u,x]/\i8 A.eR A.eB A.eN A.eV A.eu A.dP A.dU H X S/\Kn H v/\Kn H u/\Kn H x/\S.Ok/\
 if wi v 0 (S.hw.length-1)=true then(if jI (S.w (iv v))=true then(∀n,eY S.ws (S.w (iv v)/2).toNat=some n->if wi u 0 (n/4-1)=true then(match kd x with
   |some _=>∀H',i8 A.eR A.eB A.eN A.eV A.eu A.dP A.dU H' X (S.put (S.w (iv v)/2+1+iv u) (iv x))->(∀b o,H b=some o->b≠X.q->b≠X.d->H' b=some o)->Q .gT H'
   |none=>E (.ref A.iV) none H)
  else E (.ref A.mR) none H) else E (.ref A.gF) none H) else E (.ref A.g6) none H
theorem Ci:dX ["self","hand","slot","word","place"] ["self","hand","slot","word"] (dM zj):=fsc
theorem HJ(T:Txt K mg A):e_ P w K mg base (gY P w) true 10 A.lh A.pw ["self","hand","slot","word"] (Ck A):=by
 refine T.B1.jD Ci (λvs H Q E h=> ?_) (λcdv A' outer s H vs Q E hr hx h=> ?_)
 ·obtain⟨_,_,_,_,_,rfl,_⟩:=h
  rfl
 ·obtain⟨X,S,v,u,x,rfl,h⟩:=h
  obtain⟨q,g,hk,hu',hx',ok⟩:=Q0 h
  refine⟨_,ix.run (dC (eK (i:=4) Ci.nd rfl lo (ej (dE 0) T.eU T.vU ((Bl T).mono (by decide)) hr T.vL hx (dB (dE 1) (dB (dE 2) dA))))
   (dC (dW (ej (dI (dI (dE 0) rfl) rfl) T.gf T.iK ((i6 T).mono (by decide)) hr T.iD hx (dB (dE 4) (dB (dE 3) dA))))
   (dF (dW (ej (dE 0) T.eU T.B_ ((Gb T).mono (by decide)) hr T.BO hx (dB (dE 4) (dB (dE 3) dA))))))),?_⟩
  obtain⟨d0,e0⟩:=g.ob
  obtain⟨d1,e1⟩:=g.ar.ob
  obtain⟨d2,e2⟩:=g.ar.mem.ob
  simp only[fj,gj,dN,dZ,dQ,gh,eZ,eA,and_assoc,Int.reduceAdd,Int.reduceSub,Eh,tL,L2.start,aq,av,af,ak,List.replicate,aJ,aN,aa,ae,aE,aD,V.int.injEq,V.bl.injEq,V.str.injEq,V.ref.injEq,V.ty.injEq,ai,ah,and_true,true_and,exists_eq_left',exists_and_left,Nat.reduceSub,Nat.reduceAdd,e0,T.eU,T.eT,oC,e1,T.eQ,T.d_,jV,FT,uG,e2,Bi,qG]
  refine⟨X,rfl,S,g,hk,hu',ok,?_⟩
  cases hw:wi v 0 (S.hw.length-1)<;>rw[hw]at q
  ·exact q
  ·rw[if_pos rfl]at q⊢
   obtain⟨i,rfl,i0,i1⟩:=gk hw
   have hm:=FW i0 i1
   cases c:jI (S.w (iv (V.int i)))<;>rw[c]at q
   ·exact q
   ·rw[if_pos rfl]at q⊢
    have hc:=ok.2.2.2.2 _ hm c
    intro n hn
    have q2:=q n hn
    cases hw2:wi u 0 (n/4-1)<;>rw[hw2]at q2
    ·exact q2
    ·rw[if_pos rfl]at q2⊢
     obtain⟨j,rfl,j0,j1⟩:=gk hw2
     obtain⟨c1,c2,c3,c4,c5⟩:=fP hn
     have cp:S.w i%2=1/\0<S.w i:=of_decide_eq_true c
     refine⟨X.q,S.ws,g.ar.mem,au,hx',?_⟩
     have hiv:iv (V.int i)=i:=rfl
     have hjv:iv (V.int j)=j:=rfl
     rw[hiv]at c5 q2⊢
     rw[hjv]at q2⊢
     rw[if_pos (zv (by omega) (by omega))]
     cases hd:kd x with
     |none=>rw[hd]at q2;exact q2
     |some z=>
      obtain⟨y,rfl⟩:=Ja hd
      rw[hd]at q2
      dsimp only at q2⊢
      have hl:=ok.2.2.1
      have hpv:iv (V.int (S.w i/2+1+j))=S.w i/2+1+j:=rfl
      have hyv:iv (V.int y)=y:=rfl
      rw[hyv]at q2⊢
      rw[hpv]
      have fr:∀b o,H b=some o->b≠X.q->upd H X.q (HO.lst ((S.ws.set (S.w i/2+1+j).toNat y).map V.int)) b=some o:=λb o eb nb=>by rw[dO nb];exact eb
      have ar1:=g.ar.N8 (g.ar.mem.put (S.w i/2+1+j).toNat y) fr
      have g1:=g.ET ar1 λb o eb nb _ _=>fr b o eb nb
      rw[fr _ _ e0 (fD e0 g.ar.mem.ls)]
      dsimp only
      refine⟨rfl,Ml,?_⟩
      unfold AR
      exact⟨X,_,_,y,rfl,g1,by omega,by omega,by rw[hd];rfl,ok.2.2.2.1,λH' g2 f2=>q2 H' g2 λb o eb n1 n2=>f2 _ _ (fr _ _ eb n1) n2⟩
noncomputable def By (A:Ad):Sp:=λvs H Q _=>∃(X:HA) (S:HS),vs=[.ref X.a,.ref X.r]/\i8 A.eR A.eB A.eN A.eV A.eu A.dP A.dU H X S/\
 ((∃W os ts sd szo szy,A5 A.eB A.fw A.fc H X.r X.h X.b W os ts sd/\Fz S szo szy/\os.length<=60/\ts.length<64/\∀l H',dY H H'->H l=none->H' l=some (.lst (f7 (BY (nP S szo szy (names os) (AW ts)) (BW S szo szy) (tq S) (G3 S szo szy))))->Q (.ref l) H')
 ∨(fv S.ws/\(KC S.ws S.so.b S.so.t∨((∃sz,walks S.ws S.so.b sz S.so.t/\sz.length<=5000)/\KC S.ws S.sy.b S.sy.t))/\∀l H',dY H H'->H l=none->H' l=some (.lst (f7 ["walk"]))->Q (.ref l) H'))
theorem Fq:dX ["areas","roots","found"] ["areas","roots"] (dM DT):=fsc
theorem rn(T:Txt K mg A):e_ P w K mg base (gY P w) true 11 A.rJ A.uo ["areas","roots"] (By A):=by
 refine T.oA.jD Fq (λvs H Q E h=> ?_) (λcdv A' outer s H vs Q E hr hx h=> ?_)
 ·obtain⟨_,_,rfl,_⟩:=h
  rfl
 ·obtain⟨X,S,rfl,g,h⟩:=h
  refine⟨_,ix.run (dC (eX (kS (qU (gs (eW (dG ((HL T).mono (by decide)) hr rfl T.z9 T.z4.kp T.FE hx (dB (dI (dE 0) rfl) (dB (dI (dE 0) rfl) dA))) (λ_=>rfl))) (rT (gs (eW (dG ((HL T).mono (by decide)) hr rfl T.z9 T.z4.kp T.FE hx (dB (dI (dE 0) rfl) (dB (dI (dE 0) rfl) dA))) (λ_=>rfl)))))) (dF (d9 (gC (dB eO dA)))) eG)
   (dC (eK (i:=2) Fq.nd rfl lo (gC dA))
   (dC (eX (eW (dG ((Gi T).mono (by decide)) hr rfl T.sN T.uX.kp T.BU hx (dB (dE 0) (dB (dE 1) dA))) (λ_=>rfl)) (dF (dW (nM bz bA iI (dE 2) (dB eO dA)))) eG)
   (dC (eX (eC (sT (G0 hr)) (h_ (dI (dE 1) rfl) T.jJ T.tR ((xb T).mono (by decide)) hr T.tG hx) (dG ((Bo T).mono (by decide)) hr rfl T.ni T.pH.kp T.vO hx (dB (dE 0) dA)) (fk _)) (dF (dW (nM bz bA iI (dE 2) (dB eO dA)))) eG)
   (dC (eX (eC Bf (dS fM (h_ (dI (dE 0) rfl) T.fG T.mz ((mZ T).mono (by decide)) hr T.lQ hx) (h_ (dI (dE 0) rfl) T.fG T.mz ((mZ T).mono (by decide)) hr T.lQ hx)) (h_ (dI (dE 0) rfl) T.fG T.rW ((vW T).mono (by decide)) hr T.rB hx) (fk _)) (dF (dW (nM bz bA iI (dE 2) (dB eO dA)))) eG)
   (dC (eX (eW (dG ((Bn T).mono (by decide)) hr rfl T.ng T.pG.kp T.vN hx (dB (dE 0) dA)) (λ_=>rfl)) (dF (dW (nM bz bA iI (dE 2) (dB eO dA)))) eG)
   (dF (d9 (dE 2))))))))),?_⟩
  have wk:∀{H':Hp} {Q':VK} {E':XK} {p:Addr} {x:S3},dY H H'->uP A.dU H p x->fv S.ws->(((∃sz,walks S.ws x.b sz x.t/\sz.length<=5000)/\∀H2,dY H' H2->Q' (.bl true) H2)∨(KC S.ws x.b x.t/\∀H2,dY H' H2->Q' (.bl false) H2))->Ie A [.ref X.m,.ref p] H' Q' E':=λ{H' Q' E' p x} s' hp wo k=>
   let ⟨dx,e⟩:=hp
   ⟨p,dx,x.b,x.e,x.t,X.m,X.q,S.ws,rfl,s' _ _ e,(g.ar.same s').mem,wo,k⟩
  have fld:∀{H':Hp},dY H H'->∃d,H' X.a=some (.ins A.eu d (Ed X.m X.o X.y X.s)):=λs'=>(g.ar.same s').ob
  show gj _ _ _ [some (V.ref X.a),some (V.ref X.r),none] H
  dsimp only[eA]
  rcases h with ⟨W,os,ts,sd,szo,szy,wl,z,ol,tl,h⟩|⟨wo,bad,h⟩
  ·refine eF (λσ' H'=>dY H H'/\σ'=[some (V.ref X.a),some (V.ref X.r),none]) (λR hR=> ?_) ?_
   ·obtain⟨d1,e1⟩:=g.ar.ob
    simp only[fW,gc,gO,Kw,nQ,dN,dZ,tC,dQ,qw,dR,jH,Int.reduceAdd,↓reduceIte,aM,↓eJ,af,ak,aa,and_true,true_and,Nat.reduceAdd,uO,fU,kr,e1,T.eQ,T.d_,T.fN,jV,vJ]
    refine wk (dY.refl _) g.ar.old z.AX (.inl ⟨⟨szo,by rw[z.b0];exact z.wo,aA z.lo (by decide)⟩,λH2 s2=> ?_⟩)
    have e2:=s2 _ _ e1
    simp only[↓reduceIte,bc,and_true,true_and,exists_eq_left,e2,T.eQ,T.d_,T.fE,jV,wt]
    refine wk s2 g.ar.BH z.AX (.inl ⟨⟨szy,z.wy,aA z.ly (by decide)⟩,λH3 s3=> ?_⟩)
    simp only[↓reduceIte,bc,exists_eq_left]
    exact hR _ _ ⟨s2.trans s3,rfl⟩
   rintro Gq hGq _ H1 ⟨s1,rfl⟩
   subst hGq
   have sV:∀{l:List String} {x:String},f7 l++[V.str (Str.ofString x)]=f7 (l++[x]):=λ{l x}=>by unfold f7;rw[aV];rfl
   generalize hu:nP S szo szy (names os) (AW ts)=u1 at h
   generalize hu2:BW S szo szy=u2 at h
   generalize hu3:tq S=u3 at h
   generalize hu4:G3 S szo szy=u4 at h
   have ln:∀{a b c d:Bool},(f7 (BY a b c d)).length<sizeLine:=λ{a b c d}=>by rw[qu];cases a<;>cases b<;>cases c<;>cases d<;>decide
   refine eF (λσ' H'=>∃f,H f=none/\H' f=some (.lst (f7 (BY false false false false)))/\dY H H'/\σ'=[some (V.ref X.a),some (V.ref X.r),some (V.ref f)]) (λR hR=> ?_) ?_
   ·simp only[dZ,qw,gh,eZ,ak,aE,aD,true_and,Ng]
    exact λf hf=>hR _ _ ⟨f,s1.free hf,dH,s1.trans (dY.upd hf),rfl⟩
   rintro Gq hGq _ H2 ⟨f,hf,ef2,s2,rfl⟩
   subst hGq
   refine eF (λσ' H'=>H' f=some (.lst (f7 (BY u1 false false false)))/\dY H H'/\σ'=[some (V.ref X.a),some (V.ref X.r),some (V.ref f)]) (λR hR=> ?_) ?_
   ·refine ya (λk H'=>k=u1/\H' f=some (.lst (f7 (BY false false false false)))/\dY H H') (λK1 hK=> ?_) ?_ ?_
    ·simp only[dN,dZ,dQ,dR,jH,aa,ae]
     exact⟨X,S,W,os,ts,sd,szo,szy,rfl,g.same s2,wl.same s2,z,ol,tl,λH3 s3=>⟨_,rfl,hK _ _ ⟨hu,s3 _ _ ef2,s2.trans s3⟩⟩⟩
    ·rintro H3 ⟨rfl,ef3,s3⟩
     simp only[fj,dN,dZ,tC,dQ,kQ,G8,aa,ae,ef3]
     exact⟨ln,hR _ _ ⟨by rw[dH,sV];rfl,s3.put hf,rfl⟩⟩
    ·rintro H3 ⟨rfl,ef3,s3⟩
     exact hR _ _ ⟨ef3,s3,rfl⟩
   rintro Gq hGq _ H3 ⟨ef3,s3,rfl⟩
   subst hGq
   refine eF (λσ' H'=>H' f=some (.lst (f7 (BY u1 u2 false false)))/\dY H H'/\σ'=[some (V.ref X.a),some (V.ref X.r),some (V.ref f)]) (λR hR=> ?_) ?_
   ·refine ya (λk H'=>k=u2/\H' f=some (.lst (f7 (BY u1 false false false)))/\dY H H') (λK1 hK=> ?_) ?_ ?_
    ·obtain⟨d1,w1,l1,e1⟩:=(g.rt.same s3).ob
     obtain⟨d2,e2⟩:=(g.rt.same s3).bk.ob
     simp only[gp,gU,dN,dZ,dQ,dR,eqv,G_,II,↓A9,↓uh,aa,ae,↓gb,↓Cu e1 T.f_ T.gu zg,↓Cc e2 C_]
     refine⟨_,X.d,S.ks,rfl,(g.rt.same s3).bk,z.kl,λl4 hl4=>⟨X,S,szo,szy,rfl,g.same (s3.trans (dY.upd hl4)),z,λl5 H5 s5 hl5 SK=> ?_⟩⟩
     have s35:dY H3 H5:=(dY.upd hl4).trans s5
     have QT:H5 l4=some (.lst ((kR S.ks).map V.int)):=s5 _ _ dH
     have ef5:=s35 _ _ ef3
     simp only[QT,SK]
     unfold BW at hu2
     by_cases hb:kR S.ks=su S szo szy
     ·rw[decide_eq_true hb,Bool.not_true]at hu2
      rw[hb,if_pos rfl,Bd rfl,decide_eq_true rfl]
      exact hK _ _ ⟨hu2,ef5,s3.trans s35⟩
     ·rw[decide_eq_false hb,Bool.not_false]at hu2
      by_cases hl:(kR S.ks).length=(su S szo szy).length
      ·rw[if_pos (by rw[ax,ax];exact hl),Bd hl,decide_eq_false hb]
       exact hK _ _ ⟨hu2,ef5,s3.trans s35⟩
      ·rw[if_neg (by rw[ax,ax];exact hl)]
       exact hK _ _ ⟨hu2,ef5,s3.trans s35⟩
    ·rintro H5 ⟨rfl,ef5,s5⟩
     simp only[fj,dN,dZ,tC,dQ,kQ,G8,aa,ae,ef5]
     exact⟨ln,hR _ _ ⟨by rw[dH,sV];cases u1<;>rfl,s5.put hf,rfl⟩⟩
    ·rintro H5 ⟨rfl,ef5,s5⟩
     exact hR _ _ ⟨ef5,s5,rfl⟩
   rintro Gq hGq _ H4 ⟨ef4,s4,rfl⟩
   subst hGq
   refine eF (λσ' H'=>H' f=some (.lst (f7 (BY u1 u2 u3 false)))/\dY H H'/\σ'=[some (V.ref X.a),some (V.ref X.r),some (V.ref f)]) (λR hR=> ?_) ?_
   ·refine ya (λk H'=>k=u3/\H4=H') (λK1 hK=> ?_) ?_ ?_
    ·obtain⟨d1,e1⟩:=(g.ar.same s4).ob
     obtain⟨d2,e2⟩:=(g.ar.same s4).old
     obtain⟨d3,e3⟩:=(g.ar.same s4).BH
     simp only[gp,gU,dZ,dQ,oF,NB,qz,↓A9,↓uh,aa,↓gb,↓Cu e1 T.eQ T.fN vJ,↓Cc e2 AJ]
     refine⟨_,d2,_,_,_,rfl,e2,?_⟩
     simp only[↓Cu e1 T.eQ T.fE wt,↓Cc e3 AJ]
     refine⟨_,d3,_,_,_,rfl,e3,?_⟩
     simp only[↓Cu e1 T.eQ T.fN vJ,↓Cc e2 Ku]
     exact⟨_,d2,_,_,_,rfl,e2,hK _ _ ⟨hu3,rfl⟩⟩
    ·rintro _ ⟨rfl,rfl⟩
     simp only[fj,dN,dZ,tC,dQ,kQ,G8,aa,ae,ef4]
     exact⟨ln,hR _ _ ⟨by rw[dH,sV];cases u1<;>cases u2<;>rfl,s4.put hf,rfl⟩⟩
    ·rintro _ ⟨rfl,rfl⟩
     exact hR _ _ ⟨ef4,s4,rfl⟩
   rintro Gq hGq _ H5 ⟨ef5,s5,rfl⟩
   subst hGq
   refine eF (λσ' H'=>H' f=some (.lst (f7 (BY u1 u2 u3 u4)))/\dY H H'/\σ'=[some (V.ref X.a),some (V.ref X.r),some (V.ref f)]) (λR hR=> ?_) ?_
   ·refine ya (λk H'=>k=u4/\H' f=some (.lst (f7 (BY u1 u2 u3 false)))/\dY H H') (λK1 hK=> ?_) ?_ ?_
    ·simp only[dN,dZ,dQ,dR,jH,aa]
     exact⟨X,S,szo,szy,rfl,g.same s5,z,λH6 s6=>⟨_,rfl,hK _ _ ⟨hu4,s6 _ _ ef5,s5.trans s6⟩⟩⟩
    ·rintro H6 ⟨rfl,ef6,s6⟩
     simp only[fj,dN,dZ,tC,dQ,kQ,G8,aa,ae,ef6]
     exact⟨ln,hR _ _ ⟨by rw[dH,sV];cases u1<;>cases u2<;>cases u3<;>rfl,s6.put hf,rfl⟩⟩
    ·rintro H6 ⟨rfl,ef6,s6⟩
     exact hR _ _ ⟨ef6,s6,rfl⟩
   rintro Gq hGq _ H6 ⟨ef6,s6,rfl⟩
   subst hGq
   simp only[fW,dQ,aa,ae]
   exact h f H6 s6 hf ef6
  ·obtain⟨d1,e1⟩:=g.ar.ob
   refine ib (λ_ _=>False) (λR _=> ?_) (λ_ _ z=>z.elim)
   simp only[fW,gc,gO,Kw,nQ,dN,dZ,tC,dQ,qw,dR,jH,Int.reduceAdd,↓reduceIte,aM,↓eJ,af,ak,aa,and_true,true_and,Nat.reduceAdd,uO,fU,kr,e1,T.eQ,T.d_,T.fN,jV,vJ]
   rcases bad with bad|⟨good,bad⟩
   ·refine wk (dY.refl _) g.ar.old wo (.inr ⟨bad,λH2 s2=> ?_⟩)
    simp only[↓reduceIte,exists_eq_left]
    exact λl hl=>h l _ (s2.trans (dY.upd hl)) (s2.free hl) dH
   ·refine wk (dY.refl _) g.ar.old wo (.inl ⟨good,λH2 s2=> ?_⟩)
    have e2:=s2 _ _ e1
    simp only[↓reduceIte,bc,and_true,true_and,exists_eq_left,e2,T.eQ,T.d_,T.fE,jV,wt]
    refine wk s2 g.ar.BH wo (.inr ⟨bad,λH3 s3=> ?_⟩)
    simp only[↓reduceIte,exists_eq_left]
    exact λl hl=>h l _ ((s2.trans s3).trans (dY.upd hl)) ((s2.trans s3).free hl) dH
noncomputable def AQ (A:Ad):Sp:=λvs H Q E=>∃X S v u,vs=[.ref X.p,v,u]/\i8 A.eR A.eB A.eN A.eV A.eu A.dP A.dU H X S/\Kn H v/\Kn H u/\S.Ok/\0<=S.so.t/\S.so.e<=S.ws.length/\0<=S.sy.t/\S.sy.e<=S.ws.length/\
 if wi v 0 (S.hw.length-1)=true then(if wi u 0 8=true then(if S.fits (iv u)=true then
   (∀H',i8 A.eR A.eB A.eN A.eV A.eu A.dP A.dU H' X (S.made (iv v) (iv u))->(∀b o,H b=some o->b≠X.q->b≠X.qh->b≠X.o->b≠X.y->H' b=some o)->Q (.int (S.at (iv u))) H')
  else E (.ref A.jN) none H) else E (.ref A.fO) none H) else E (.ref A.g6) none H
theorem vC:dX ["self","hand","slots","at"] ["self","hand","slots"] (dM xt):=fsc
theorem Av(T:Txt K mg A):e_ P w K mg base (gY P w) true 11 A.j7 A.nZ ["self","hand","slots"] (AQ A):=by
 refine T.zV.jD vC (λvs H Q E h=> ?_) (λcdv A' outer s H vs Q E hr hx h=> ?_)
 ·obtain⟨_,_,_,_,rfl,_⟩:=h
  rfl
 ·obtain⟨X,S,v,u,rfl,h⟩:=h
  obtain⟨q,g,hk,hu',ok,to0,toe,ty0,tye⟩:=TR h
  refine⟨_,ix.run (dC (dW (ej (dE 0) T.eU T.uD ((Ax T).mono (by decide)) hr T.uf hx (dB (dE 1) (dB (dE 2) dA))))
   (dC (eX (eW (ej (dE 0) T.eU T.qI ((xc T).mono (by decide)) hr T.qH hx (dB (dE 2) dA)) (λ_=>rfl)) (dF (eK (i:=3) vC.nd rfl lo (ej (dI (dE 0) rfl) T.eQ T.s9 ((zf T).mono (by decide)) hr T.sA hx (dB (dE 2) dA)))) (dF (eK (i:=3) vC.nd rfl lo (ej (dI (dE 0) rfl) T.eQ T.vT ((Bk T).mono (by decide)) hr T.vK hx (dB (dE 2) dA)))))
   (dC (dW (ej (dE 0) T.eU T.B9 ((F_ T).mono (by decide)) hr T.BM hx (dB (dE 1) (dB (dG ((Ex T).mono (by decide)) hr rfl T.qQ T.tN.kp T.zI hx (dB (dE 3) dA)) dA))))
   (dF (d9 (dE 3)))))),?_⟩
  obtain⟨d0,e0⟩:=g.ob
  cases hw:wi v 0 (S.hw.length-1) with
  |false=>
   refine ib (λ_ _=>False) (λR _=> ?_) (λ_ _ z=>z.elim)
   simp only[fj,dN,dZ,dQ,and_assoc,Int.reduceAdd,Int.reduceSub,↓er,L2.start,aq,av,af,ak,List.replicate,aJ,aN,aa,ae,V.int.injEq,V.bl.injEq,V.str.injEq,V.ref.injEq,V.ty.injEq,ai,ah,and_true,true_and,exists_eq_left',exists_and_left,Nat.reduceSub,Nat.reduceAdd,nu,e0,tQ,kU]
   rw[hw]at q
   exact⟨X,rfl,S,g,hk,hu',by rw[hw];exact q⟩
  |true=>
   rw[if_pos hw]at q
   cases hw2:wi u 0 8 with
   |false=>
    refine ib (λ_ _=>False) (λR _=> ?_) (λ_ _ z=>z.elim)
    simp only[fj,dN,dZ,dQ,and_assoc,Int.reduceAdd,Int.reduceSub,↓er,L2.start,aq,av,af,ak,List.replicate,aJ,aN,aa,ae,V.int.injEq,V.bl.injEq,V.str.injEq,V.ref.injEq,V.ty.injEq,ai,ah,and_true,true_and,exists_eq_left',exists_and_left,Nat.reduceSub,Nat.reduceAdd,nu,e0,tQ,kU]
    rw[hw2]at q
    exact⟨X,rfl,S,g,hk,hu',by rw[if_pos hw,hw2];exact q⟩
   |true=>
    rw[if_pos hw2]at q
    obtain⟨i,rfl,i0,i1⟩:=gk hw
    obtain⟨n,rfl,n0,n8⟩:=gk hw2
    obtain⟨d1,e1⟩:=g.ar.ob
    have hiv:iv (V.int i)=i:=rfl
    have hnv:iv (V.int n)=n:=rfl
    simp only[hiv,hnv]at q
    unfold HS.fits HS.made HS.at at q
    show gj _ _ _ [some (V.ref X.p),some (V.int i),some (V.int n),none] H
    refine eF (λσ' H'=>σ'=[some (V.ref X.p),some (V.int i),some (V.int n),none]/\H=H') (λR hR=> ?_) ?_
    ·simp only[fj,dN,dZ,dQ,and_assoc,↓er,aa,ae,V.int.injEq,V.bl.injEq,V.str.injEq,V.ref.injEq,V.ty.injEq,ai,ah,and_true,true_and,exists_eq_left',exists_and_left,nu,e0,tQ,kU]
     exact⟨X,rfl,S,g,hk,hu',by rw[if_pos hw,if_pos hw2];exact hR _ _ ⟨rfl,rfl⟩⟩
    rintro Gq hGq _ _ ⟨rfl,rfl⟩
    subst hGq
    cases hY:S.Ei n with
    |true=>
     rw[hY]at q
     simp only[if_true,aH,if_false]at q
     refine eF (λσ' H'=>n+1<=S.sy.e-S.sy.t/\i8 A.eR A.eB A.eN A.eV A.eu A.dP A.dU H' X {S with ws:=gI S.ws S.sy.t.toNat n.toNat 0,sy:=⟨S.sy.b,S.sy.e,S.sy.t+(n+1)⟩}/\(∀b o,H b=some o->b≠X.q->b≠X.y->H' b=some o)/\σ'=[some (V.ref X.p),some (V.int i),some (V.int n),some (V.int S.sy.t)]) (λR hR=> ?_) ?_
     ·simp only[gO,dN,dZ,dQ,gh,eZ,eA,jH,and_assoc,↓eJ,↓er,aa,ae,aE,aD,V.int.injEq,V.bl.injEq,V.str.injEq,V.ref.injEq,V.ty.injEq,ai,ah,and_true,true_and,exists_eq_left',exists_and_left,exists_eq_left,fU,kr,nu,e0,T.eU,T.eT,uy,oC,e1,lJ,nO,pR,LN,LM]
      refine⟨X,rfl,S,g,?_⟩
      rw[hY]
      simp only[if_true,aH,if_false]
      refine⟨X.m,X.q,X.o,X.y,X.s,S.ws,S.so,S.sy,S.ss,g.ar,ok.2.1,ok.2.2.1,ty0,tye,au,?_⟩
      rw[if_pos hw2]
      simp only[hnv]
      by_cases c:n+1<=S.sy.e-S.sy.t
      ·rw[if_pos c]
       exact λH' a' f'=>hR _ _ ⟨c,g.ET a' (λb o eb n1 n2 n3=>f' b o eb n1 n3),f',rfl⟩
      ·rw[if_neg c]
       rw[if_neg (by simpa using c)]at q
       exact q
     rintro Gq hGq _ H1 ⟨c,g1,f1,rfl⟩
     subst hGq
     rw[if_pos (decide_eq_true c)]at q
     obtain⟨d3,e3⟩:=g1.ob
     simp only[fW,fj,gj,dN,dZ,dQ,dR,and_assoc,↓er,aa,ae,V.int.injEq,V.bl.injEq,V.str.injEq,V.ref.injEq,V.ty.injEq,ai,ah,and_true,true_and,exists_eq_left',exists_and_left,nu,e3,Hl,vE,uc]
     have hl:=ok.2.2.1
     refine⟨au,?_⟩
     rw[if_pos (zv (by omega) (by omega))]
     refine⟨X,rfl,_,g1,au,au,?_⟩
     rw[if_pos hw,oQ,if_neg (by show¬(2*S.sy.t+1= -1);omega),if_neg (by show¬((2*S.sy.t+1)%2=0/\_);omega),if_pos (by show(2*S.sy.t+1)%2=1/\1<=2*S.sy.t+1/\2*S.sy.t+1<=19999;omega)]
     exact λH2 g2 f2=>q H2 g2 λb o eb n1 n2 n3 n4=>f2 _ _ (f1 _ _ eb n1 n4) n2
    |false=>
     rw[hY]at q
     simp only[if_true,aH,if_false]at q
     refine eF (λσ' H'=>n+1<=S.so.e-S.so.t/\i8 A.eR A.eB A.eN A.eV A.eu A.dP A.dU H' X {S with ws:=gI S.ws S.so.t.toNat n.toNat 2,so:=⟨S.so.b,S.so.e,S.so.t+(n+1)⟩}/\(∀b o,H b=some o->b≠X.q->b≠X.o->H' b=some o)/\σ'=[some (V.ref X.p),some (V.int i),some (V.int n),some (V.int S.so.t)]) (λR hR=> ?_) ?_
     ·simp only[gO,dN,dZ,dQ,gh,eZ,eA,jH,and_assoc,↓eJ,↓er,aa,ae,aE,aD,V.int.injEq,V.bl.injEq,V.str.injEq,V.ref.injEq,V.ty.injEq,ai,ah,and_true,true_and,exists_eq_left',exists_and_left,exists_eq_left,fU,kr,nu,e0,T.eU,T.eT,uy,oC,e1,lJ,nO,pR,LN,LM]
      refine⟨X,rfl,S,g,?_⟩
      rw[hY]
      simp only[if_true,aH,if_false]
      refine⟨X.m,X.q,X.o,X.y,X.s,S.ws,S.so,S.sy,S.ss,g.ar,ok.2.1,ok.2.2.1,to0,toe,au,?_⟩
      rw[if_pos hw2]
      simp only[hnv]
      by_cases c:n+1<=S.so.e-S.so.t
      ·rw[if_pos c]
       exact λH' a' f'=>hR _ _ ⟨c,g.ET a' (λb o eb n1 n2 n3=>f' b o eb n1 n2),f',rfl⟩
      ·rw[if_neg c]
       rw[if_neg (by simpa using c)]at q
       exact q
     rintro Gq hGq _ H1 ⟨c,g1,f1,rfl⟩
     subst hGq
     rw[if_pos (decide_eq_true c)]at q
     obtain⟨d3,e3⟩:=g1.ob
     simp only[fW,fj,gj,dN,dZ,dQ,dR,and_assoc,↓er,aa,ae,V.int.injEq,V.bl.injEq,V.str.injEq,V.ref.injEq,V.ty.injEq,ai,ah,and_true,true_and,exists_eq_left',exists_and_left,nu,e3,Hl,vE,uc]
     have hl:=ok.2.2.1
     refine⟨au,?_⟩
     rw[if_pos (zv (by omega) (by omega))]
     refine⟨X,rfl,_,g1,au,au,?_⟩
     rw[if_pos hw,oQ,if_neg (by show¬(2*S.so.t+1= -1);omega),if_neg (by show¬((2*S.so.t+1)%2=0/\_);omega),if_pos (by show(2*S.so.t+1)%2=1/\1<=2*S.so.t+1/\2*S.so.t+1<=19999;omega)]
     exact λH2 g2 f2=>q H2 g2 λb o eb n1 n2 n3 n4=>f2 _ _ (f1 _ _ eb n1 n3) n2
noncomputable def GQ (A:Ad):Sp:=λvs H Q _=>∃(X:HA) (W:WA) (S:HS) (os:List (Option Int)) (ts:List (Option (Int×Int))) (i n:Int),vs=[.ref X.p,.int i,.int n]/\Wd A H X W S os ts/\S.Ok/\(0<=S.so.t/\S.so.e<=S.ws.length/\0<=S.sy.t/\S.sy.e<=S.ws.length)/\0<=i/\i<=S.hw.length-1/\0<=n/\n<=8/\
 (if S.fits n=true then∀H',Wd A H' X W (S.made i n) os ts->wj X W H H'->Q (.bl true) H' else∀H',dY H H'->Q (.bl false) H')
theorem GI:dX ["_law_heap","_law_hand","_law_slots"] ["_law_heap","_law_hand","_law_slots"] (dM xC):=fsc
theorem Gh(T:Txt K mg A):e_ P w K mg base (gY P w) true 12 A.lr A.om ["_law_heap","_law_hand","_law_slots"] (GQ A):=by
 refine T.uW.jD GI (λvs H Q E h=> ?_) (λcdv A' outer s H vs Q E hr hx h=> ?_)
 ·obtain⟨_,_,_,_,_,_,_,rfl,_⟩:=h
  rfl
 ·obtain⟨X,W,S,os,ts,i,n,rfl,h⟩:=h
  obtain⟨q,m,ok,⟨t0,t1,t2,t3⟩,i0,i1,n0,n8⟩:=TQ h
  refine⟨_,ix.run (dC (Hy rfl rfl (λE1 W1 pins1 hx1=>(dF (dW (ej (dE 0) T.eU T.w5 ((Av T).mono (by decide)) hr T.wz hx1 (dB (dE 1) (dB (dE 2) dA)))))) (Kc rfl rfl T.sL (λa=>(dF (d9 vb))) Hv))
   (dF (d9 vb))),?_⟩
  obtain⟨d0,e0⟩:=m.g.ob
  have hw:wi (.int i) 0 (S.hw.length-1)=true:=by simp only[wi,aI,decide_eq_true_eq];omega
  have hiv:iv (V.int i)=i:=rfl
  have hnv:iv (V.int n)=n:=rfl
  simp only[fW,fj,gj,dN,dZ,tC,dQ,OL,eA,and_assoc,Int.reduceAdd,↓er,L2.start,aq,av,af,ak,List.replicate,az,aa,ae,V.int.injEq,V.bl.injEq,V.str.injEq,V.ref.injEq,V.ty.injEq,ai,ah,and_true,true_and,exists_eq_left',exists_and_left,Nat.reduceAdd,aB,nu,e0,Hm,AQ]
  refine⟨X,rfl,S,m.g,au,au,ok,t0,t1,t2,t3,?_⟩
  rw[if_pos hw,if_pos (show wi (.int n) 0 8=true by simp only[wi,aI,decide_eq_true_eq];omega),hiv,hnv]
  cases hf:S.fits n with
  |true=>
   rw[if_pos hf]at q;rw[if_pos rfl]
   intro H' g' f'
   have r:=m.heap g' λb o e h1 h2 h3 h4 _=>f' b o e h1 h2 h3 h4
   exact q H' r.1 r.2
  |false=>
   rw[if_neg (by rw[hf];intro z;cases z)]at q
   rw[if_neg (by intro z;cases z)]
   simp only[fW,tC,Nn,T.jK]
   exact q _ (dY.refl _)
noncomputable def D3 (A:Ad):Sp:=λvs H Q _=>∃(X:HA) (W:WA) (S:HS) (os:List (Option Int)) (ts:List (Option (Int×Int))) (o:Int) (rs:List Rw) (szo szy:List Int) (c:Int),vs=[.ref X.p,.int c]/\Wd A H X W S os ts/\Clean o rs szo szy S/\
 ∀(l:Addr) (H':Hp) (S':HS) (rs':List Rw) (szo' szy' C:List Int),Wd A H' X W S' os ts->Clean o rs' szo' szy' S'->(∀p,p∈tU rs'↔p∈tU rs∨p∈C)->C.length<=1->wj X W H H'->H l=none->H' l=some (.lst (C.map V.int))->Q (.ref l) H'
theorem lI:dX ["_law_heap","_law_cell","_law_hand","_law_made_here","_law_at","_law_slot"] ["_law_heap","_law_cell"] (dM tZ):=fsc
theorem DM(T:Txt K mg A):e_ P w K mg base (gY P w) true 13 A.jw A.kH ["_law_heap","_law_cell"] (D3 A):=by
 refine T.rM.jD lI (λvs H Q E h=> ?_) (λcdv A' outer s H vs Q E hr hx h=> ?_)
 ·obtain⟨_,_,_,_,_,_,_,_,_,_,rfl,_⟩:=h
  rfl
 ·obtain⟨X,W,S,os,ts,o,rs,szo,szy,c,rfl,h⟩:=h
  obtain⟨q,m,cn⟩:=A6 h
  refine⟨_,ix.run (dC (eK (i:=2) lI.nd rfl lo (dS iP (dE 1) dJ))
   (dC (eK (i:=3) lI.nd rfl lo (dG ((Gh T).mono (by decide)) hr rfl T.sM T.uW.kp T.BS hx (dB (dE 0) (dB (dE 2) (dB (dS iP (dS iJ (dE 1) dJ) dJ) dA)))))
   (dC (eK (i:=4) lI.nd rfl lo (ej (dE 0) T.eU T.qo ((q9 T).mono (by decide)) hr T.qc hx (dB (dS iP (dS iJ (dE 1) dJ) dJ) dA)))
   (dC (rS hx.own rfl (Hw rfl T.yh (dB (dS sS (dS iP (dS iJ (dE 1) dJ) dJ) (qS J_ (by rfl) T.Fm PyProof.Rows.Boot.«int» (dB (dE 3) dA))) dA)) (pI (i:=5) lI.nd rfl lo)
    (dF (dW (ej (dE 0) T.eU T.DI ((HJ T).mono (by decide)) hr T.C4 hx (dB (dE 2) (dB (dE 5) (dB (K7 (dB (Kb Ka dJ) (dB dJ (dB (ej (dE 0) T.eU T.qo ((q9 T).mono (by decide)) hr T.qc hx (dB (dE 2) dA)) (dB (dE 4) dA)))) (dS iP (dS fM (dS iJ (dE 1) dJ) (dE 5)) dJ) (λ_ _=>rfl)) dA)))))))
   (dF (d9 (dS F1 (gC (dB (dS iJ (ej (dE 0) T.eU T.qo ((q9 T).mono (by decide)) hr T.qc hx (dB (dE 2) dA)) dJ) dA)) (qS J_ (by rfl) T.Fm PyProof.Rows.Boot.«int» (dB (dE 3) dA))))))))),?_⟩
  have h3:=cn.hl
  have i0:0<=c%3:=bG _ (by decide)
  have i3:c%3<3:=bF _ (by decide)
  have n0:0<=c/3%9:=bG _ (by decide)
  have n9:c/3%9<9:=bF _ (by decide)
  have j0:0<=c/27%3:=bG _ (by decide)
  have j3:c/27%3<3:=bF _ (by decide)
  generalize hi:c%3=i at*
  generalize hn:c/3%9=n at*
  generalize hj:c/27%3=j at*
  show gj _ _ _ [some (V.ref X.p),some (V.int c),none,none,none,none] H
  refine eF (λσ' H'=>H=H'/\σ'=[some (V.ref X.p),some (V.int c),some (V.int i),none,none,none]) (λR hR=> ?_) ?_
  ·simp only[gU,tC,dQ,gh,eZ,ui,Int.reduceLT,Nat.reduceLT,aa,ae,aE,aD,true_and,hi]
   exact hR _ _ ⟨rfl,rfl⟩
  rintro Gq hGq _ _ ⟨rfl,rfl⟩
  subst hGq
  have kl:=cn.Mx
  have b0:=cn.ro.b0;have b1:=cn.ro.b1;have b2:=cn.ro.b2;have b3:=cn.ro.b3;have b4:=cn.ro.b4;have b5:=cn.ro.b5;have b6:=cn.ro.b6;have b7:=cn.ro.b7
  refine eF (λσ' H'=>∃(b:Bool) (S1:HS) (rs1:List Rw) (szo1 szy1:List Int),Wd A H' X W S1 os ts/\Clean o rs1 szo1 szy1 S1/\wj X W H H'/\(if b=true then rs1=rs++[⟨S.at n,0,List.replicate n.toNat (-1)⟩]/\S1.w i=2*S.at n+1 else rs1=rs)/\σ'=[some (V.ref X.p),some (V.int c),some (V.int i),some (V.bl b),none,none]) (λR hR=> ?_) ?_
  ·simp only[gU,dN,dZ,tC,dQ,gh,eZ,dR,o8,ui,wg,Int.reduceLT,Nat.reduceLT,aa,ae,aE,aD,and_true,true_and,hn]
   refine⟨X,W,S,os,ts,i,n,rfl,m,cn.ro.Ok (by omega),⟨b1,by omega,by omega,b6⟩,i0,by omega,n0,by omega,?_⟩
   cases hf:S.fits n with
   |true=>
    rw[if_pos rfl]
    intro H1 m1 f1
    obtain⟨szo1,szy1,c1⟩:=cn.made (i:=i) n0 (by omega) hf
    refine hR _ _ ⟨true,_,_,szo1,szy1,m1,c1,f1,?_,rfl⟩
    rw[if_pos rfl]
    refine⟨rfl,?_⟩
    unfold HS.w HS.made HS.at
    split
    ·exact Hk (by omega)
    ·exact Hk (by omega)
   |false=>
    rw[if_neg (by intro y;cases y)]
    intro H1 s1
    exact hR _ _ ⟨false,S,rs,szo,szy,m.same s1,cn,.same s1,by rw[if_neg (by intro y;cases y)],rfl⟩
  rintro Gq hGq _ H1 ⟨b,S1,rs1,szo1,szy1,m1,c1,f1,hb,rfl⟩
  subst hGq
  have h31:=c1.hl
  have hd:∀{H':Hp} {S':HS} {x:Int} {Q':VK} {E':XK},Wd A H' X W S' os ts->S'.hw.length=3->0<=x->x<3->Q' (.int (S'.w x)) H'->vD A [.ref X.p,.int x] H' Q' E':=λ{H' S' x Q' E'} m' h' x0 x3 k=>by
   refine⟨X,S',.int x,rfl,m'.g,au,?_⟩
   rw[if_pos (zv (by omega) (by omega))]
   exact k
  refine eF (λσ' H'=>H1=H'/\σ'=[some (V.ref X.p),some (V.int c),some (V.int i),some (V.bl b),some (V.int (S1.w j)),none]) (λR hR=> ?_) ?_
  ·obtain⟨d0,e0⟩:=m1.g.ob
   simp only[gU,dN,dZ,tC,dQ,gh,eZ,o8,ui,wg,Int.reduceLT,Nat.reduceLT,↓er,aa,ae,aE,aD,and_true,true_and,nu,hj,e0,z_]
   exact hd m1 h31 j0 j3 (hR _ _ ⟨rfl,rfl⟩)
  rintro Gq hGq _ _ ⟨rfl,rfl⟩
  subst hGq
  have aw:=FW (S:=S1) j0 (by omega)
  have awo:=c1.ro.Hn _ aw
  have aw1:=c1.ho _ aw
  generalize S1.w j=a at*
  refine eF (λσ' H'=>∃(S2:HS) (rs2:List Rw) (v:Option V),Wd A H' X W S2 os ts/\Clean o rs2 szo1 szy1 S2/\tU rs2=tU rs1/\S2.hw=S1.hw/\wj X W H1 H'/\σ'=[some (V.ref X.p),some (V.int c),some (V.int i),some (V.bl b),some (V.int a),v]) (λR hR=> ?_) ?_
  ·cases b with
   |false=>
    simp only[gU,AV,dN,dZ,tC,dQ,Df,o8,ui,cInt,wg,Cp,or_true,Int.reduceLT,Nat.reduceLT,Int.reduceNeg,Int.reducePow,↓reduceIte,tE,J4,aa,ae,V.int.injEq,V.bl.injEq,V.str.injEq,V.ref.injEq,V.ty.injEq,ai,ah,and_true,true_and,exists_eq_left',aH]
    refine⟨by omega,by omega,?_⟩
    rw[show(c/3%9*0).toNat=0 by omega]
    exact oG.M9 (λ_ σ H'=>H1=H'/\σ=[some (V.ref X.p),some (V.int c),some (V.int i),some (V.bl false),some (V.int a),none]) ⟨rfl,rfl⟩ (λt _ _ ht=>absurd ht (by omega)) λσ H' ⟨e1,e2⟩=>by subst e1;exact hR _ _ ⟨S1,rs1,none,m1,c1,rfl,rfl,.same (dY.refl _),e2⟩
   |true=>
    rw[if_pos rfl]at hb
    obtain⟨rfl,hw1⟩:=hb
    simp only[gU,AV,dN,dZ,tC,dQ,Df,o8,ui,cInt,wg,Cp,or_true,Int.reduceLT,Nat.reduceLT,Int.reduceNeg,Int.reducePow,↓reduceIte,tE,J4,aa,ae,V.int.injEq,V.bl.injEq,V.str.injEq,V.ref.injEq,V.ty.injEq,ai,ah,and_true,true_and,exists_eq_left']
    refine⟨by omega,by omega,?_⟩
    rw[show(c/3%9*1).toNat=n.toNat by omega]
    refine oG.M9 (λt σ H'=>∃(S2:HS) (r:List Int) (v:Option V),Wd A H' X W S2 os ts/\Clean o (rs++[⟨S.at n,0,r⟩]) szo1 szy1 S2/\r.length=n.toNat/\S2.hw=S1.hw/\wj X W H1 H'/\σ=[some (V.ref X.p),some (V.int c),some (V.int i),some (V.bl true),some (V.int a),v]) ⟨S1,_,_,m1,c1,bg ..,rfl,.same (dY.refl _),rfl⟩ ?_ ?_
    ·rintro t σ H2 ht ⟨S2,r,v,m2,c2,hr',hh,f2,rfl⟩ R2 hR2
     obtain⟨d0,e0⟩:=m2.g.ob
     have hw2:S2.w i=2*S.at n+1:=by rw[←hw1];unfold HS.w;rw[hh]
     have hxr:(⟨S.at n,0,r⟩:Rw)∈rs++[⟨S.at n,0,r⟩]:=aY _ (List.mem_singleton.mpr rfl)
     have hat:=(c2.ro.bd hxr).1
     obtain⟨n',hn',en'⟩:=c2.ro.cell hxr
     have hat0:0<=S.at n:=hat
     have pn:S.at n∈tU (rs++[⟨S.at n,0,r⟩]):=bL (f:=Rw.p) hxr
     have epl:tU (rs++[⟨S.at n,0,r⟩])=tU (rs++[⟨S.at n,0,List.replicate n.toNat (-1)⟩]):=by simp[tU]
     have b72:=c2.ro.b7
     have kl2:=c2.Mx
     have hl2:=c2.hl
     simp only[fj,gU,Sm,dN,dZ,tC,dQ,qw,eZ,oF,o8,ui,LX,M8,wg,Int.reduceLT,Nat.reduceLT,Int.reduceNeg,Int.reduceAdd,dH,↓er,af,ak,aa,ae,aE,aD,and_true,true_and,Nat.reduceAdd,TL,nu,e0,NQ,z_]
     refine hd m2 hl2 i0 i3 ?_
     rw[hw2]
     have h0:=bG (c/81+(t:Int)) (show(4:Int)≠0 by decide)
     have h4:=bF (c/81+(t:Int)) (show(0:Int)<4 by decide)
     have go:∀x:Int,Eg (tU (rs++[⟨S.at n,0,r⟩])) x->(x%2=1∨x=6)->Ck A [.ref X.p,.int i,.int (0+(t:Int)),.int x] H2 (λ_ H3=>R2 [some (V.ref X.p),some (V.int c),some (V.int i),some (V.bl true),some (V.int a),some (V.int (0+(t:Int)))] H3) E:=λx wx x6=>by
      refine⟨X,S2,.int i,.int (0+(t:Int)),.int x,rfl,m2.g,au,au,au,c2.ro.Ok (by omega),?_⟩
      have hiv:iv (V.int i)=i:=rfl
      have htv:iv (V.int (0+(t:Int)))=(t:Int):=by show 0+(t:Int)=t;omega
      have hxv:iv (V.int x)=x:=rfl
      rw[if_pos (zv (by omega) (by omega)),hiv,hw2,if_pos (show jI (2*S.at n+1)=true from decide_eq_true (by omega)),show(2*S.at n+1)/2=S.at n by omega]
      intro n2 hn2
      have:n2=n':=by have:=hn2.symm.trans hn';exact aT this
      subst this
      obtain⟨y,hy⟩:=Option.isSome_iff_exists.mp wx.1
      have en2:n2/4=(r.length:Int):=en'
      rw[if_pos (zv (by omega) (by omega)),hy,htv,hxv]
      dsimp only
      intro H3 g3 f3
      have r3:=m2.heap g3 λb o eb n1 _ _ _ n2=>f3 b o eb n1 n2
      exact hR2 _ _ ⟨_,r.set t x,_,r3.1,c2.put (r2:=[]) (x:=⟨S.at n,0,r⟩) (j:=t) (by show t<r.length;omega) wx x6,by rw[aK];exact hr',hh,f2.trans r3.2,rfl⟩
     have w1:Eg (tU (rs++[⟨S.at n,0,r⟩])) (2*S.at n+1):=Eg.pl pn hat0 (by have h1:=(c2.ro.bd hxr).2;have h2:S.at n+(r.length:Int)<S2.ws.length:=h1;omega)
     rcases (show(c/81+(t:Int))%4=0∨(c/81+(t:Int))%4=1∨(c/81+(t:Int))%4=2∨(c/81+(t:Int))%4=3 by omega) with y|y|y|y
     ·intro e9 he9
      rw[show(c/81+(0+(t:Int)))%4=0 by omega,Gn he9]
      exact go _ Eg.neg (.inl (by decide))
     ·intro e9 he9
      rw[show(c/81+(0+(t:Int)))%4=1 by omega,Gn he9]
      exact go 6 (Eg.num (n:=3) (by decide) (by decide)) (.inr rfl)
     ·intro e9 he9
      rw[show(c/81+(0+(t:Int)))%4=2 by omega,Gn he9]
      exact go _ w1 (.inl (by omega))
     ·intro e9 he9
      rw[show(c/81+(0+(t:Int)))%4=3 by omega,Gn he9]
      exact go a (by rw[epl];exact awo) (.inl aw1)
    ·rintro σ H2 ⟨S2,r,v,m2,c2,hr',hh,f2,rfl⟩
     exact hR _ _ ⟨S2,_,v,m2,c2,by simp[tU],hh,f2,rfl⟩
  rintro Gq hGq _ H2 ⟨S2,rs2,v,m2,c2,hp2,hh,f2,rfl⟩
  subst hGq
  obtain⟨d0,e0⟩:=m2.g.ob
  simp only[fW,gU,AV,dN,dZ,tC,dQ,qw,o8,cInt,and_assoc,wg,Int.reduceNeg,Int.reducePow,Int.reduceAdd,dH,↓er,KJ,af,ak,aa,ae,and_true,true_and,Nat.reduceAdd,uO,nu,e0,z_]
  refine hd m2 c2.hl i0 i3 ?_
  have hw2:S2.w i=S1.w i:=by unfold HS.w;rw[hh]
  simp only[Int.reduceLT,Nat.reduceLT,Int.reduceNeg,true_and]
  intro e1 he1
  have fr:∀{H3:Hp} {l:Addr} {C:List Int},dY H2 H3->H3 l=none->(∀p,p∈tU rs1↔p∈tU rs∨p∈C)->C.length<=1->Q (.ref l) (upd H3 l (.lst (C.map V.int))):=λ{H3 l C} s3 hl hC c1'=>q l _ S2 rs2 szo1 szy1 C (m2.same (s3.trans (dY.upd hl))) c2 (by rw[hp2];exact hC) c1' ((f1.trans f2).trans (.same (s3.trans (dY.upd hl)))) (m.free (m2.same s3) ((f1.trans f2).trans (.same s3)) hl) dH
  cases b with
  |false=>
   rw[if_neg (by intro y;cases y)]at hb
   simp only[Int.reduceLT,Nat.reduceMul,Nat.reduceLT,Int.reduceLE,Int.reduceNeg,Int.reduceToNat,Int.reduceMul,↓reduceIte,List.replicate,true_and,aH,Ng]
   intro l hl
   exact fr (C:=[]) (dY.upd he1) hl (λp=>by rw[hb];simp) (bw _)
  |true=>
   rw[if_pos rfl]at hb
   obtain⟨rfl,hw1⟩:=hb
   simp only[Int.reduceLT,Nat.reduceMul,Nat.reduceLT,Int.reduceLE,Int.reduceNeg,Int.reduceToNat,Int.reduceMul,↓reduceIte,List.replicate,true_and,uO]
   intro l hl
   rw[hw2,hw1,show(2*S.at n+1)/2=S.at n by omega]at hl⊢
   exact fr (C:=[S.at n]) (dY.upd he1) hl (λp=>by simp[tU]) (aF _)
theorem Pz{ns:List Int}:∃is:List Int,IL (ns.map V.int) (some 3) (some 13)=is.map V.int/\is.length<=10:=by
 unfold IL
 refine⟨_,by rw[←List.map_drop,←List.map_take],?_⟩
 rw[bp,cI]
 unfold HT.Ir
 simp only[ax]
 rw[if_neg (by decide),if_neg (by decide),show Int.toNat 13=13 from rfl,show Int.toNat 3=3 from rfl]
 omega
theorem Clean.new{o y:Int}(o1:30<=o)(o2:o<=69)(y1:4<=y)(y2:y<=9):Clean o [] [] [] (HS.new 3 o y):=by
 have el:(List.replicate (o+2*y).toNat (-1:Int)).length=(o+2*y).toNat:=bg
 refine⟨⟨rfl,br 0,by show(0:Int)<=o;omega,rfl,br o,by show o<=o+y;omega,?_,?_,λw hw=> ?_,by simp,by simp,cZ,λw hw=> ?_,by simp⟩,rfl,o2,⟨?_,by show o+y<=200;omega⟩,rfl,rfl,λp=>by simp[tU,fK,fF],(λp hp=>by cases hp),(λp hp=>by cases hp),List.nodup_nil,(λz=>⟨(λh=>by cases h),(λ⟨x,hx,_⟩=>by cases hx)⟩),rfl,λw hw=> ?_,(λx hx=>by cases hx)⟩
 ·show o+y<=((List.replicate (o+2*y).toNat (-1:Int)).length:Int);rw[el];omega
 ·show(List.replicate (o+2*y).toNat (-1:Int)).length<=4000;rw[el];omega
 ·rw[cb hw];rw[oQ,if_pos rfl];rfl
 ·rw[cb hw];exact Eg.neg
 ·show o+y<((List.replicate (o+2*y).toNat (-1:Int)).length:Int);rw[el];omega
 ·rw[cb hw];decide
theorem Wd.lay{A:Ad}{H:Hp}{X:HA}{W:WA}{S:HS}{os:List (Option Int)}{ts:List (Option (Int×Int))}{l:Addr}{zs zs':List V}(m:Wd A H X W S os ts)(e:H l=some (.lst zs))(n:l≠X.q/\l≠X.qh/\l≠W.wq/\l≠W.lq):Wd A (upd H l (.lst zs')) X W S os ts:=by
 have k:∀b o,H b=some o->b≠l->upd H l (.lst zs') b=some o:=λb o e n=>by rw[dO n];exact e
 obtain⟨d0,e0⟩:=m.wl.ob
 obtain⟨d1,e1⟩:=m.wl.wk.ob
 obtain⟨es,ml⟩:=m.wl.ls
 obtain⟨d2,e2⟩:=ml.ob
 refine⟨m.g.O0 e n.2.1 n.1 k,⟨⟨d0,k _ _ e0 (fD e0 e)⟩,⟨⟨d1,k _ _ e1 (fD e1 e)⟩,k _ _ m.wl.wk.ls (aj n.2.2.1)⟩,⟨es,⟨⟨d2,k _ _ e2 (fD e2 e)⟩,k _ _ ml.dc (aj (mK e ml.dc)),k _ _ ml.sq (aj n.2.2.2),ml.xs,λe' he'=> ?_,ml.ln⟩⟩,m.wl.ne⟩,m.ap⟩
 have t:=ml.tp e' he'
 exact k _ _ t λz=>by rw[z,e]at t;cases t
theorem KS{M N:List String}:((f7 M).filter λx=>K2 x (f7 N)).map (λx=>x)=f7 (M.filter λx=>decide (x∈N)):=by
 rw[de]
 ·unfold f7
  rw[bS]
  congr 1
  exact c6 λx _=>Ho
 ·intro x;rfl
structure Fh(H:Hp)(X:HA)(W:WA):Prop where
 q:H X.q=none
 qh:H X.qh=none
 o:H X.o=none
 y:H X.y=none
 d:H X.d=none
 wq:H W.wq=none
 ld:H W.ld=none
 lq:H W.lq=none
theorem Fh.RA{H H1 H2:Hp}{X:HA}{W:WA}(f:Fh H X W)(s:dY H H1)(k:wj X W H1 H2):dY H H2:=λb o e=>k b o (s b o e) (dD e f.q) (dD e f.qh) (dD e f.o) (dD e f.y) (dD e f.d) (dD e f.wq) (dD e f.ld) (dD e f.lq)
structure Lw(A:Ad)(H H':Hp)(X:HA)(W:WA)(S:HS)(o nm:Int)(rs:List Rw)(szo szy C:List Int)(lc:Addr):Prop where
 m:Wd A H' X W S [some nm] [some (nm,5)]
 c:Clean o rs szo szy S
 nm:nm∈tU rs
 ec:H' lc=some (.lst (C.map V.int))
 ow:lc≠X.q/\lc≠X.qh/\lc≠W.wq/\lc≠W.lq
 hC:∀p,p∈C↔p∈tU rs
 fh:Fh H X W
 s:dY H H'
theorem Lw.same{A:Ad}{H H' H'':Hp}{X:HA}{W:WA}{S:HS}{o nm:Int}{rs:List Rw}{szo szy C:List Int}{lc:Addr}(w:Lw A H H' X W S o nm rs szo szy C lc)(s:dY H' H''):Lw A H H'' X W S o nm rs szo szy C lc:=⟨w.m.same s,w.c,w.nm,s _ _ w.ec,w.ow,w.hC,w.fh,w.s.trans s⟩
noncomputable def Ow (X:HA) (W:WA) (l:Addr):Prop:=l≠X.q/\l≠X.qh/\l≠W.wq/\l≠W.lq
structure Lp(A:Ad)(H H':Hp)(X:HA)(W:WA)(o:Int)(S:HS)(szo szy:List Int)(nm tk:Int)(fs fb fa:Bool)(C:List Int)(D:List String)(lc ld ls lk:Addr):Prop where
 m:Wd A H' X W S [some nm] [some (tk,5)]
 p:Pd S szo szy nm tk fs fb fa
 ec:H' lc=some (.lst (C.map V.int))
 ed:H' ld=some (.lst (f7 D))
 es:H' ls=some (.lst (f7 D))
 ek:H' lk=some (.lst (f7 D))
 oc:Ow X W lc
 od:Ow X W ld
 os:Ow X W ls
 ok:Ow X W lk
 hC:∀x,x∈C↔x∈fK S szo szy
 hD:D=BY false false (tq S) false
 oe:S.so.e=o
 fh:Fh H X W
 s:dY H H'
section
variable{A:Ad}{H H' H'':Hp}{X:HA}{W:WA}{o:Int}{S S':HS}{szo szy C:List Int}{nm tk nm' tk':Int}{fs fb fa fs' fb' fa':Bool}{D:List String}{lc ld ls lk:Addr}
theorem Lp.same(w:Lp A H H' X W o S szo szy nm tk fs fb fa C D lc ld ls lk)(s:dY H' H''):Lp A H H'' X W o S szo szy nm tk fs fb fa C D lc ld ls lk:=⟨w.m.same s,w.p,s _ _ w.ec,s _ _ w.ed,s _ _ w.es,s _ _ w.ek,w.oc,w.od,w.os,w.ok,w.hC,w.hD,w.oe,w.fh,w.s.trans s⟩
theorem Lp.next(w:Lp A H H' X W o S szo szy nm tk fs fb fa C D lc ld ls lk)(m:Wd A H'' X W S' [some nm'] [some (tk',5)])(P:Pd S' szo szy nm' tk' fs' fb' fa')(f:wj X W H' H'')(e:S'.so=S.so/\S'.sy=S.sy):Lp A H H'' X W o S' szo szy nm' tk' fs' fb' fa' C D lc ld ls lk:=
 ⟨m,P,w.m.lst f w.ec w.oc,w.m.lst f w.ed w.od,w.m.lst f w.es w.os,w.m.lst f w.ek w.ok,w.oc,w.od,w.os,w.ok,by unfold fK;rw[e.2];exact w.hC,by unfold tq;rw[e.1,e.2];exact w.hD,by rw[e.1];exact w.oe,w.fh,w.fh.RA w.s f⟩
end
theorem wK{A:Ad}{H:Hp}{Q:VK}{E:XK}{X:HA}{W:WA}{S:HS}{nm tk:Int}{szo szy:List Int}{fs fb fa:Bool}(m:Wd A H X W S [some nm] [some (tk,5)])(P:Pd S szo szy nm tk fs fb fa)(k:∀l H',dY H H'->H l=none->H' l=some (.lst (f7 (BY fs fb (tq S) fa)))->Q (.ref l) H'):By A [.ref X.a,.ref X.r] H Q E:=
 ⟨X,S,rfl,m.g,.inl ⟨W,[some nm],[some (tk,5)],[],szo,szy,m.wl,P.z,(show(1:Nat)<=60 by decide),(show(1:Nat)<64 by decide),by
  have e1:nP S szo szy (names [some nm]) (AW [some (tk,5)])=fs:=P.st
  rw[e1,P.bk,P.ag]
  exact k⟩⟩
noncomputable def Z0 (u0:Addr):St:=[some (V.ref u0),none,none,none,none,none,none,none,none,none,none,none,none,none,none,none]
noncomputable def Z1 (u0:Addr) (u1:Int):St:=[some (V.ref u0),some (V.int u1),none,none,none,none,none,none,none,none,none,none,none,none,none,none]
noncomputable def Z2 (u0:Addr) (u1:Int) (u2:Addr):St:=[some (V.ref u0),some (V.int u1),some (V.ref u2),none,none,none,none,none,none,none,none,none,none,none,none,none]
noncomputable def Z3 (u0:Addr) (u1:Int) (u2:Addr) (u3:Addr):St:=[some (V.ref u0),some (V.int u1),some (V.ref u2),some (V.ref u3),none,none,none,none,none,none,none,none,none,none,none,none]
noncomputable def Z4 (u0:Addr) (u1:Int) (u2:Addr) (u3:Addr) (u4:Option V):St:=[some (V.ref u0),some (V.int u1),some (V.ref u2),some (V.ref u3),u4,none,none,none,none,none,none,none,none,none,none,none]
noncomputable def Z5 (u0:Addr) (u1:Int) (u2:Addr) (u3:Addr) (u4:Option V) (u5:Addr):St:=[some (V.ref u0),some (V.int u1),some (V.ref u2),some (V.ref u3),u4,some (V.ref u5),none,none,none,none,none,none,none,none,none,none]
noncomputable def Z6 (u0:Addr) (u1:Int) (u2:Addr) (u3:Addr) (u4:Option V) (u5:Addr) (u6:Addr):St:=[some (V.ref u0),some (V.int u1),some (V.ref u2),some (V.ref u3),u4,some (V.ref u5),some (V.ref u6),none,none,none,none,none,none,none,none,none]
noncomputable def Z7 (u0:Addr) (u1:Int) (u2:Addr) (u3:Addr) (u4:Option V) (u5:Addr) (u6:Addr) (u7:Addr):St:=[some (V.ref u0),some (V.int u1),some (V.ref u2),some (V.ref u3),u4,some (V.ref u5),some (V.ref u6),some (V.ref u7),none,none,none,none,none,none,none,none]
noncomputable def Z8 (u0:Addr) (u1:Int) (u2:Addr) (u3:Addr) (u4:Option V) (u5:Addr) (u6:Addr) (u7:Addr) (u8:Int):St:=[some (V.ref u0),some (V.int u1),some (V.ref u2),some (V.ref u3),u4,some (V.ref u5),some (V.ref u6),some (V.ref u7),some (V.int u8),none,none,none,none,none,none,none]
noncomputable def Z9 (u0:Addr) (u1:Int) (u2:Addr) (u3:Addr) (u4:Option V) (u5:Addr) (u6:Addr) (u7:Addr) (u8:Int) (u9:Int):St:=[some (V.ref u0),some (V.int u1),some (V.ref u2),some (V.ref u3),u4,some (V.ref u5),some (V.ref u6),some (V.ref u7),some (V.int u8),some (V.int u9),none,none,none,none,none,none]
noncomputable def Tv (u0:Addr) (u1:Int) (u2:Addr) (u3:Addr) (u4:Option V) (u5:Addr) (u6:Addr) (u7:Addr) (u8:Int) (u9:Int) (u10:Int):St:=[some (V.ref u0),some (V.int u1),some (V.ref u2),some (V.ref u3),u4,some (V.ref u5),some (V.ref u6),some (V.ref u7),some (V.int u8),some (V.int u9),some (V.int u10),none,none,none,none,none]
noncomputable def Tw (u0:Addr) (u1:Int) (u2:Addr) (u3:Addr) (u4:Option V) (u5:Addr) (u6:Addr) (u7:Addr) (u8:Int) (u9:Int) (u10:Int) (u11:Addr):St:=[some (V.ref u0),some (V.int u1),some (V.ref u2),some (V.ref u3),u4,some (V.ref u5),some (V.ref u6),some (V.ref u7),some (V.int u8),some (V.int u9),some (V.int u10),some (V.ref u11),none,none,none,none]
noncomputable def LJ (u0:Addr) (u1:Int) (u2:Addr) (u3:Addr) (u4:Option V) (u5:Addr) (u6:Addr) (u7:Addr) (u8:Int) (u9:Int) (u10:Int) (u11:Addr) (u12:Int):St:=[some (V.ref u0),some (V.int u1),some (V.ref u2),some (V.ref u3),u4,some (V.ref u5),some (V.ref u6),some (V.ref u7),some (V.int u8),some (V.int u9),some (V.int u10),some (V.ref u11),some (V.int u12),none,none,none]
noncomputable def Tx (u0:Addr) (u1:Int) (u2:Addr) (u3:Addr) (u4:Option V) (u5:Addr) (u6:Addr) (u7:Addr) (u8:Int) (u9:Int) (u10:Int) (u11:Addr) (u12:Int):St:=[some (V.ref u0),some (V.int u1),some (V.ref u2),some (V.ref u3),u4,some (V.ref u5),some (V.ref u6),some (V.ref u7),some (V.int u8),some (V.int u9),some (V.int u10),some (V.ref u11),some (V.int u12),none,none,none]
noncomputable def Tz (u0:Addr) (u1:Int) (u2:Addr) (u3:Addr) (u4:Option V) (u5:Addr) (u6:Addr) (u7:Addr) (u8:Int) (u9:Int) (u10:Int) (u11:Addr) (u12:Int) (u14:Addr):St:=[some (V.ref u0),some (V.int u1),some (V.ref u2),some (V.ref u3),u4,some (V.ref u5),some (V.ref u6),some (V.ref u7),some (V.int u8),some (V.int u9),some (V.int u10),some (V.ref u11),some (V.int u12),none,some (V.ref u14),none]
noncomputable def QS (u0:Addr) (u1:Int) (u2:Addr) (u3:Addr) (u4:Option V) (u5:Addr) (u6:Addr) (u7:Addr) (u8:Int) (u9:Int) (u10:Int) (u11:Addr) (u12:Int) (u14:Addr) (u15:Addr):St:=[some (V.ref u0),some (V.int u1),some (V.ref u2),some (V.ref u3),u4,some (V.ref u5),some (V.ref u6),some (V.ref u7),some (V.int u8),some (V.int u9),some (V.int u10),some (V.ref u11),some (V.int u12),none,some (V.ref u14),some (V.ref u15)]
noncomputable def GU (K:PySem.W.Frag):Sp:=λvs H Q _=>∃(a:Addr) (ns:List Int),vs=[.ref a]/\iC K H a (ns.map V.int)/\ns.length<=63/\∀H',Q (.bl true) H'
theorem kz:dX ["_law_script","_law_old_words","_law_heap","_law_cells","_law_cell","_law_due","_law_sound","_law_kept","_law_way","_law_at","_law_draw_here","_law_planted_here","_law_more","_law_last","_law_found","_law_again"] ["_law_script"] (dM Cg):=fsc
theorem Qa(T:Txt K mg A):e_ P w K mg base (gY P w) true 14 A.Hi A.JV ["_law_script"] (GU K):=by
 refine T.Mf.jD kz (λvs H Q E h=> ?_) (λcdv A' outer s H vs Q E hr hx h=> ?_)
 ·obtain⟨_,_,rfl,_⟩:=h
  rfl
 ·obtain⟨a,ns,rfl,h⟩:=h
  obtain⟨q,hS,hl⟩:=A6 h
  refine⟨_,ix.run (dC (eK (i:=1) kz.nd rfl lo (dS fM dJ (dS iP (dG ((mC T).mono (by decide)) hr rfl T.jo T.jn.kp T.kZ hx (dB (dE 0) (dB dJ dA))) dJ)))
   (dC (eK (i:=2) kz.nd rfl lo (lE T.CY ((Ga T).mono (by decide)) hr rfl T.FQ T.BN hx (dB dJ (dB (dE 1) (dB (dS fM dJ (dS iP (dS iJ (dG ((mC T).mono (by decide)) hr rfl T.jo T.jn.kp T.kZ hx (dB (dE 0) (dB dJ dA))) dJ) dJ)) dA)))))
   (dC (eK (i:=3) kz.nd rfl lo (gC dA))
   (dC (dW (ej (dE 2) T.eU T.w5 ((Av T).mono (by decide)) hr T.wz hx (dB dJ (dB dJ dA))))
   (dC (dW (ej (dI (dI (dE 2) rfl) rfl) T.m8 T.Cb ((Gg T).mono (by decide)) hr T.BR hx (dB (ej (dE 2) T.eU T.lF ((nv T).mono (by decide)) hr T.kY hx (dB dJ dA)) dA)))
   (dC (dW (ej (dI (dI (dE 2) rfl) rfl) T.ja T.Ah ((En T).mono (by decide)) hr T.zA hx (dB (ej (dE 2) T.eU T.lF ((nv T).mono (by decide)) hr T.kY hx (dB dJ dA)) (dB dJ dA))))
   (dC (dW (nM bz bA iI (dE 3) (dB (ej (dE 2) T.eU T.lF ((nv T).mono (by decide)) hr T.kY hx (dB dJ dA)) dA)))
   (dC (rS hx.own rfl (gg (I0 NX (dE 0) (Hu dJ) (Hu dJ))) (pI (i:=4) kz.nd rfl lo)
    (dF (eK (i:=3) kz.nd rfl lo (dS CU (dE 3) (dG ((DM T).mono (by decide)) hr rfl T.pX T.rM.kp T.yr hx (dB (dE 2) (dB (dE 4) dA)))))))
   (dC (eK (i:=5) kz.nd rfl lo (gC dA))
   (dC (eX (eC Bf (dS fM (h_ (dI (dI (dE 2) rfl) rfl) T.fG T.mz ((mZ T).mono (by decide)) hr T.lQ hx) (h_ (dI (dI (dE 2) rfl) rfl) T.fG T.mz ((mZ T).mono (by decide)) hr T.lQ hx)) (dE 1) (fk _)) (dF (dW (nM bz bA iI (dE 5) (dB eO dA)))) eG)
   (dC (eK (i:=6) kz.nd rfl lo (dG ((rn T).mono (by decide)) hr rfl T.oP T.oA.kp T.rD hx (dB (dI (dE 2) rfl) (dB (dI (dE 2) rfl) dA))))
   (dC (eK (i:=7) kz.nd rfl lo (qS Ht (by rfl) T.ze PyProof.Rows.Boot.«list» (dB (dE 5) dA)))
   (dC (eX (kS (qU (eC (sT (G0 hr)) (dE 6) (dE 5) (fk _)) (rT (eC (sT (G0 hr)) (dG ((rn T).mono (by decide)) hr rfl T.oP T.oA.kp T.rD hx (dB (dI (dE 2) rfl) (dB (dI (dE 2) rfl) dA))) (dE 5) (fk _))))) (dF (d9 vb)) eG)
   (dC (eK (i:=8) kz.nd rfl lo (dS iP (dG ((mC T).mono (by decide)) hr rfl T.jo T.jn.kp T.kZ hx (dB (dE 0) (dB dJ dA))) dJ))
   (dC (eK (i:=9) kz.nd rfl lo (qT wW (dE 3) (dS iP (dS iJ (dG ((mC T).mono (by decide)) hr rfl T.jo T.jn.kp T.kZ hx (dB (dE 0) (dB dJ dA))) dJ) (fI sR (by rfl) T.uF PyProof.Rows.Boot.«len» (dB (dE 3) dA))) (λ_ _=>rfl)))
   (dC (eK (i:=10) kz.nd rfl lo (dS iJ (dG ((mC T).mono (by decide)) hr rfl T.jo T.jn.kp T.kZ hx (dB (dE 0) (dB dJ dA))) dJ))
   (dC (eK (i:=11) kz.nd rfl lo (dG ((vX T).mono (by decide)) hr rfl T.lD T.m_.kp T.rC hx (dB (dE 2) (dB (dE 3) (dB (dE 8) (dB (dE 9) (dB (dE 10) dA)))))))
   (dC (eK (i:=12) kz.nd rfl lo (dS iP (dG ((mC T).mono (by decide)) hr rfl T.jo T.jn.kp T.kZ hx (dB (dE 0) (dB dJ dA))) dJ))
   (dC (eX (kS (ql (eC (sT (G0 hr)) (dE 12) (dE 8) (fk _)) (ql (eC Bf (dE 12) dJ (fk _)) (pK (eC va (dE 8) dJ (fk _)))))) (dF (eK (i:=11) kz.nd rfl lo (dS CU (dE 11) (dG ((vX T).mono (by decide)) hr rfl T.lD T.m_.kp T.rC hx (dB (dE 2) (dB (dE 3) (dB (dE 12) (dB (qT wW (dE 3) (dS iP (dE 10) (fI sR (by rfl) T.uF PyProof.Rows.Boot.«len» (dB (dE 3) dA))) (λ_ _=>rfl)) (dB (dE 10) dA))))))))) eG)
   (dC (eX (eC Ac eO (dE 11) (by with_unfolding_all rfl)) (dC (eK (i:=13) kz.nd rfl lo (fI (Mt (by rfl)) (by rfl) T.Ke PyProof.Rows.Boot.«max» (dB (mw (fsc:=dM Cg) (N2:=["_law_old_words","_law_at"]) (js:=[1,9]) ⟨rfl,rfl,by decide+kernel,by decide+kernel,by decide+kernel,by decide+kernel,by decide+kernel,by decide+kernel,by decide+kernel⟩ rfl rfl (by rfl) (gg (dE 3)) (λ_ _ _ _=>(pJ (eC (p6 (G0 hr)) (gW va (dE 0) (dE 1) (fk _)) (gW va (dE 2) (dE 1) (fk _)) (fk _)))) (λ_ _ _ _=>(dE 0))) dA)))
   (dC (dW (ej (dI (dI (dE 2) rfl) rfl) T.gf T.iK ((i6 T).mono (by decide)) hr T.iD hx (dB (dE 13) (dB (zc (eC va (dG ((kc T).mono (by decide)) hr rfl T.iG T.ir.kp T.kg hx (dB (dI (dI (dE 2) rfl) rfl) (dB (dE 13) dA))) dJ (fk _)) (dS sS dJ (dS fM (dS sS dJ dJ) dJ)) dJ) dA))))
   (dF (d9 (gW (p6 (G0 hr)) (dG ((rn T).mono (by decide)) hr rfl T.oP T.oA.kp T.rD hx (dB (dI (dE 2) rfl) (dB (dI (dE 2) rfl) dA))) (gC (dB eO dA)) (fk _)))))) eG)
   (dC (eK (i:=5) kz.nd rfl lo (mw (fsc:=dM Cg) (N2:=["_law_due","_law_planted_here"]) (js:=[5,11]) ⟨rfl,rfl,by decide+kernel,by decide+kernel,by decide+kernel,by decide+kernel,by decide+kernel,by decide+kernel,by decide+kernel⟩ rfl rfl (by rfl) (gg (gC (dB eO (dB eO (dB eO (dB eO dA)))))) (λ_ _ _ _=>(pJ (eC Ac (dE 0) (dS CU (dE 2) (dE 1)) (by with_unfolding_all rfl)))) (λ_ _ _ _=>(dE 0))))
   (dC (eK (i:=14) kz.nd rfl lo (dG ((rn T).mono (by decide)) hr rfl T.oP T.oA.kp T.rD hx (dB (dI (dE 2) rfl) (dB (dI (dE 2) rfl) dA))))
   (dC (eK (i:=15) kz.nd rfl lo (dG ((rn T).mono (by decide)) hr rfl T.oP T.oA.kp T.rD hx (dB (dI (dE 2) rfl) (dB (dI (dE 2) rfl) dA))))
   (dC (eX (kS (qU (gs (eW (fI za (by rfl) T.mB PyProof.Rows.Boot.«isinstance» (dB (dE 14) (dB (F3 T.ze PyProof.Rows.Boot.«list») dA))) (λ_=>rfl))) (qU (eC (sT (G0 hr)) (dE 14) (dE 5) (fk _)) (qU (eC (sT (G0 hr)) (dE 15) (dE 5) (fk _)) (rT (eC (sT (G0 hr)) (dE 6) (dE 7) (fk _))))))) (dF (d9 vb)) eG)
   (dC (dW (nM bz bA iI (dE 14) (dB eO dA)))
   (dF (d9 (uA (gW (p6 (G0 hr)) (dE 15) (dE 5) (fk _)) (rR (gW (p6 (G0 hr)) (dG ((rn T).mono (by decide)) hr rfl T.oP T.oA.kp T.rD hx (dB (dI (dE 2) rfl) (dB (dI (dE 2) rfl) dA))) (dE 5) (fk _))))))))))))))))))))))))))))))),?_⟩
  show gj _ _ _ (Z0 a) H
  dsimp only[eA]
  refine eF (λσ' H'=>∃o:Int,30<=o/\o<=69/\H=H'/\σ'=(Z1 a o)) (λR hR=> ?_) ?_
  ·simp only[gU,dN,dZ,tC,dQ,gh,eZ,dR,oF,ui,and_assoc,Int.reduceLT,Nat.reduceLT,Int.reduceLE,aa,aE,aD,V.int.injEq,V.bl.injEq,V.str.injEq,V.ref.injEq,V.ty.injEq,ai,ah,and_true,true_and,exists_eq_left',exists_and_left,Z0,rb]
   exact⟨ns,hS,hR _ _ ⟨_,by omega,by omega,rfl,rfl⟩⟩
  rintro Gq hGq _ _ ⟨o,o1,o2,rfl,rfl⟩
  subst hGq
  refine eF (λσ' H'=>∃(X:HA) (W:WA) (y:Int),4<=y/\y<=9/\Wd A H' X W (HS.new 3 o y) [] []/\Fh H X W/\dY H H'/\σ'=(Z2 a o X.p)) (λR hR=> ?_) ?_
  ·simp only[gU,dN,dZ,tC,dQ,gh,eZ,dR,oF,o8,ui,and_assoc,wg,Int.reduceLT,Nat.reduceLT,Int.reduceLE,dH,mP,aa,ae,aE,aD,V.int.injEq,V.bl.injEq,V.str.injEq,V.ref.injEq,V.ty.injEq,ai,ah,and_true,true_and,exists_eq_left',exists_and_left,Z1,rb,AO]
   refine⟨ns,hS,?_⟩
   intro x dx hx hdx ne
   have sx:dY H (upd (upd H dx (HO.own x)) x (HO.ins A.eR dx [])):=λb u eb=>by rw[dO (dD eb hx),dO (dD eb hdx)];exact eb
   refine⟨dx,rfl,au,au,au,?_⟩
   rw[if_pos ⟨rfl,zv (by omega) (by omega),zv (by omega) (by omega)⟩]
   rintro X W H' hX he wl ap ⟨w1,w2,w3⟩ f' ⟨f1,f2,f3,f4,f5⟩
   rw[←hX]
   exact hR _ _ ⟨X,W,4+cat ns 0/40%6,by omega,by omega,⟨he,wl,ap⟩,⟨sx.free f3,sx.free f1,sx.free f4,sx.free f5,sx.free f2,sx.free w1,sx.free w3,sx.free w2⟩,λb u eb=>f' b u (sx b u eb) (dD eb hx),rfl⟩
  rintro Gq hGq _ H2 ⟨X,W,y,y1,y2,m2,fh,s2,rfl⟩
  subst hGq
  have cl2:=Clean.new o1 o2 y1 y2
  refine eF (λσ' H'=>∃lc,H lc=none/\(lc≠X.q/\lc≠X.qh/\lc≠W.wq/\lc≠W.lq)/\H' lc=some (.lst [])/\Wd A H' X W (HS.new 3 o y) [] []/\dY H H'/\σ'=(Z3 a o X.p lc)) (λR hR=> ?_) ?_
  ·simp only[dZ,qw,gh,eZ,ak,aE,aD,true_and,Ng,Z2]
   exact λlc hc=>hR _ _ ⟨lc,s2.free hc,m2.own hc,dH,m2.same (dY.upd hc),s2.trans (dY.upd hc),rfl⟩
  rintro Gq hGq _ H3 ⟨lc,hlc,ow,ec,m3,s3,rfl⟩
  subst hGq
  have hf0:(HS.new 3 o y).Ei 0=true:=decide_eq_true (show(0:Int)+1<=o+y-o by omega)
  have hfit:(HS.new 3 o y).fits 0=true:=by unfold HS.fits;rw[if_pos hf0];exact decide_eq_true (show(0:Int)+1<=o+y-o by omega)
  have hat:(HS.new 3 o y).at 0=o:=by unfold HS.at;rw[if_pos hf0];rfl
  obtain⟨szo,szy,c4⟩:=cl2.made (i:=0) (n:=0) (by decide) (by decide) hfit
  rw[hat]at c4
  have hw4:((HS.new 3 o y).made 0 0).w 0=2*o+1:=by rw[HS.Kd hf0];rfl
  have hl4:=c4.hl
  obtain⟨S4,e4⟩:∃S4,S4=(HS.new 3 o y).made 0 0:=⟨_,rfl⟩
  rw[←e4]at c4 hw4 hl4
  have ok2:=cl2.ro.Ok (show([]:List Int).length<1000 by decide)
  have cof:∀{H':Hp} {os:List (Option Int)} {ts:List (Option (Int×Int))} {Q':VK} {E':XK},Wd A H' X W S4 os ts->Q' (.int o) H'->qF A [.ref X.p,.int 0] H' Q' E':=λ{H' os ts Q' E'} m' k=>by
   refine⟨X,S4,.int 0,rfl,m'.g,au,λw hw=>(c4.ro.Hn w hw).1,?_⟩
   rw[if_pos (zv (by omega) (by omega)),show S4.w (iv (V.int 0))=2*o+1 from hw4,if_pos (show jI (2*o+1)=true from decide_eq_true (by omega)),show(2*o+1)/2=o by omega]
   exact k
  refine eF (λσ' H'=>Wd A H' X W S4 [] []/\H' lc=some (.lst [])/\dY H H'/\σ'=(Z3 a o X.p lc)) (λR hR=> ?_) ?_
  ·obtain⟨d0,e0⟩:=m3.g.ob
   have b1:=cl2.ro.b1;have b2:=cl2.ro.b2;have b3:=cl2.ro.b3;have b4:=cl2.ro.b4;have b5:=cl2.ro.b5;have b6:=cl2.ro.b6
   simp only[fj,dN,dZ,tC,dQ,↓er,aa,ae,and_true,true_and,nu,Z3,e0,Hm]
   refine⟨X,_,.int 0,.int 0,rfl,m3.g,au,au,ok2,b1,by omega,by omega,b6,?_⟩
   rw[if_pos (show wi (V.int 0) 0 (((HS.new 3 o y).hw.length:Int)-1)=true from rfl),if_pos (show wi (V.int 0) 0 8=true from rfl),if_pos (show(HS.new 3 o y).fits (iv (V.int 0))=true from hfit)]
   intro H4 g4 f4
   have r:=m3.heap g4 λb o e h1 h2 h3 h4 _=>f4 b o e h1 h2 h3 h4
   exact hR _ _ ⟨by rw[e4];exact r.1,m3.lst r.2 ec ow,fh.RA s3 r.2,rfl⟩
  rintro Gq hGq _ H4 ⟨m4,ec4,s4,rfl⟩
  subst hGq
  refine eF (λσ' H'=>Wd A H' X W S4 [some o] []/\H' lc=some (.lst [])/\dY H H'/\σ'=(Z3 a o X.p lc)) (λR hR=> ?_) ?_
  ·obtain⟨d0,e0⟩:=m4.g.ob
   obtain⟨d1,e1⟩:=m4.wl.ob
   obtain⟨d2,e2⟩:=m4.wl.wk.ob
   simp only[fj,dN,dZ,tC,dQ,↓eJ,↓er,aa,ae,and_true,true_and,fU,kr,nu,Z3,e0,T.eU,T.eP,mX,e1,T.f_,T.iN,Jp,e2,Nk,sQ]
   refine cof m4 ?_
   refine⟨W.w,W.wq,[],.int o,rfl,m4.wl.wk,au,(show(0:Nat)<1000 by decide),?_⟩
   rw[if_pos (zv (by omega) (by omega))]
   have r:=m4.weak (os':=[some o])
   exact hR _ _ ⟨r.1,m4.lst r.2 ec4 ow,fh.RA s4 r.2,rfl⟩
  rintro Gq hGq _ H5 ⟨m5,ec5,s5,rfl⟩
  subst hGq
  refine eF (λσ' H'=>Wd A H' X W S4 [some o] [some (o,5)]/\H' lc=some (.lst [])/\dY H H'/\σ'=(Z3 a o X.p lc)) (λR hR=> ?_) ?_
  ·obtain⟨d0,e0⟩:=m5.g.ob
   obtain⟨d1,e1⟩:=m5.wl.ob
   obtain⟨es,ml⟩:=m5.wl.ls
   obtain⟨d2,e2⟩:=ml.ob
   simp only[fj,dN,dZ,tC,dQ,↓eJ,↓er,aa,ae,and_true,true_and,fU,kr,nu,Z3,e0,T.eU,T.eP,mX,e1,T.f_,T.iM,Jo,e2,Mz,sQ]
   refine cof m5 ?_
   refine⟨W.l,W.ld,W.lq,[],[],es,.int o,.int 5,rfl,ml,au,au,(show(0:Nat)<64 by decide),?_⟩
   rw[if_pos (zv (by omega) (by omega)),if_pos (by simp only[wi,aI,decide_eq_true_eq];omega)]
   intro H6 es6 ml6 ko6
   have r:=m5.last ml6 ko6
   exact hR _ _ ⟨r.1,m5.lst r.2 ec5 ow,fh.RA s5 r.2,rfl⟩
  rintro Gq hGq _ H6 ⟨m6,ec6,s6,rfl⟩
  subst hGq
  refine eF (λσ' H'=>∃rs szo szy,Lw A H H' X W S4 o o rs szo szy [o] lc/\σ'=(Z3 a o X.p lc)) (λR hR=> ?_) ?_
  ·obtain⟨d0,e0⟩:=m6.g.ob
   simp only[fj,dN,dZ,tC,dQ,↓er,kQ,G8,aa,ae,and_true,true_and,nu,Z3,ec6,e0,sQ]
   refine cof m6 ?_
   simp only[ak,aN,ec6]
   exact⟨by decide,hR _ _ ⟨_,szo,szy,⟨m6.lay ec6 ow,c4,by simp[tU],dH,ow,λp=>by simp[tU],fh,s6.put hlc⟩,rfl⟩⟩
  clear cof
  rintro Gq hGq _ H7 ⟨rs7,szo7,szy7,w7,rfl⟩
  subst hGq
  refine eF (λσ' H'=>∃lc S rs szo szy C v,Lw A H H' X W S o o rs szo szy C lc/\C.length<=11/\σ'=(Z4 a o X.p lc v)) (λR hR=> ?_) ?_
  ·simp only[tC,dQ,tE,mH,NF,LY,Tn,aa,V.int.injEq,V.bl.injEq,V.str.injEq,V.ref.injEq,V.ty.injEq,ai,ah,exists_eq_left',Z3]
   refine⟨_,w7.s.seq hS,λlp hlp=> ?_⟩
   obtain⟨is,eis,lis⟩:=Pz (ns:=ns)
   rw[eis]
   have op:=w7.m.own hlp
   refine⟨⟨_,iC.of dH⟩,oG.HC (xs:=is.map V.int) (λi σ H'=>∃lc S rs szo szy C v,Lw A H H' X W S o o rs szo szy C lc/\C.length<=1+i/\H' lp=some (.lst (is.map V.int))/\σ=(Z4 a o X.p lc v)) ⟨lc,S4,rs7,szo7,szy7,[o],_,w7.same (dY.upd hlp),aF _,dH,rfl⟩ (λi σ H' _ ⟨_,_,_,_,_,_,_,_,_,e',_⟩=>iC.of e') ?_ ?_⟩
   ·rintro i x σ H8 hx' ⟨lc,S8,rs8,szo8,szy8,C8,v,w8,l8,ep8,rfl⟩ R2 hR2
    obtain⟨hi,rfl,tk⟩:=ints_get hx'
    simp only[gU,dN,dZ,dQ,gh,eZ,dR,IG,aa,ae,aE,aD,Z4]
    refine⟨X,W,S8,_,_,o,rs8,szo8,szy8,is[i],rfl,w8.m,w8.c,λl H9 S9 rs9 szo9 szy9 C9 m9 c9 h9 l9 f9 hl9 el9=> ?_⟩
    have ec9:=w8.m.lst f9 w8.ec w8.ow
    simp only[ec9,el9]
    refine⟨?_,λlc2 hlc2=>hR2 _ _ ⟨lc2,S9,rs9,szo9,szy9,C8++C9,_,⟨m9.same (dY.upd hlc2),c9,(h9 _).mpr (.inl w8.nm),by rw[dH,aV],m9.own hlc2,λp=>by rw[h9,bD,w8.hC],w8.fh,(w8.fh.RA w8.s f9).trans (dY.upd hlc2)⟩,by rw[aO];omega,(dY.upd hlc2) _ _ (w8.m.lst f9 ep8 op),rfl⟩⟩
    rw[ax,ax]
    exact aA (show _<=20 by omega) (by decide)
   ·rintro σ H8 ⟨lc,S8,rs8,szo8,szy8,C8,v,w8,l8,ep8,rfl⟩
    rw[ax]at l8
    exact hR _ _ ⟨lc,S8,rs8,szo8,szy8,C8,v,w8,by omega,rfl⟩
  clear w7 m6 m5 m4 m3 m2 c4 cl2 hw4 hl4 ok2 hlc ow ec ec4 ec5 ec6 s2 s3 s4 s5 s6
  rintro Gq hGq _ H8 ⟨lc,S8,rs8,szo8,szy8,C8,v,w8,l8,rfl⟩
  subst hGq
  have P8:=w8.c.pd w8.nm w8.nm
  have kl8:=w8.c.Mx
  have c0:0<C8.length:=List.length_pos_iff.mpr λe=>by have:=(w8.hC o).mpr w8.nm;rw[e]at this;cases this
  have hCc:∀x,x∈C8↔x∈fK S8 szo8 szy8:=λx=>(w8.hC x).trans (w8.c.pl x)
  have eo8:=w8.c.eo
  have b08:=w8.c.ro.b0
  have b38:=w8.c.ro.b3
  have strS:∀{l:List String} {x:String},f7 l++[V.str (Str.ofString x)]=f7 (l++[x]):=λ{l x}=>by unfold f7;rw[aV];rfl
  refine eF (λσ' H'=>∃ld,H ld=none/\lc≠ld/\Ow X W ld/\H' ld=some (.lst (f7 []))/\Lw A H H' X W S8 o o rs8 szo8 szy8 C8 lc/\σ'=(Z5 a o X.p lc v ld)) (λR hR=> ?_) ?_
  ·simp only[dZ,qw,gh,eZ,ak,aE,aD,true_and,Ng,Z4]
   exact λld hd=>hR _ _ ⟨ld,w8.s.free hd,dD w8.ec hd,w8.m.own hd,dH,w8.same (dY.upd hd),rfl⟩
  rintro Gq hGq _ H9 ⟨ld,hld,ncd,od,ed9,w9,rfl⟩
  subst hGq
  refine eF (λσ' H'=>H' ld=some (.lst (f7 (BY false false (tq S8) false)))/\Lw A H H' X W S8 o o rs8 szo8 szy8 C8 lc/\σ'=(Z5 a o X.p lc v ld)) (λR hR=> ?_) ?_
  ·obtain⟨d0,e0⟩:=w9.m.g.ob
   obtain⟨d1,e1⟩:=w9.m.g.ar.ob
   obtain⟨d2,e2⟩:=w9.m.g.ar.old
   obtain⟨d3,e3⟩:=w9.m.g.ar.BH
   simp only[gc,fj,gO,gp,gU,dN,dZ,tC,dQ,oF,NB,qz,↓eJ,↓er,kQ,G8,aa,ae,V.int.injEq,V.bl.injEq,V.str.injEq,V.ref.injEq,V.ty.injEq,ai,ah,and_true,true_and,exists_eq_left',exists_and_left,decide_eq_true_eq,↓gb,fU,kr,nu,Z5,e0,T.eU,T.eT,oC,e1,T.eQ,T.fN,T.fE,vJ,wt,e2,e3,AJ,ub,ed9]
   refine⟨d2,_,_,_,rfl,d3,_,_,_,rfl,?_⟩
   have hrb:tq S8=decide (o<S8.so.t-S8.so.b+(S8.sy.t-S8.sy.b)):=by unfold tq;exact decide_eq_decide.mpr (by omega)
   by_cases c:o<S8.so.t-S8.so.b+(S8.sy.t-S8.sy.b)
   ·rw[if_pos c]
    refine⟨by decide,hR _ _ ⟨by rw[dH,hrb,decide_eq_true c];rfl,⟨w9.m.lay ed9 od,w9.c,w9.nm,by rw[dO ncd];exact w9.ec,w9.ow,w9.hC,w9.fh,w9.s.put hld⟩,rfl⟩⟩
   ·rw[if_neg c]
    exact hR _ _ ⟨by rw[hrb,decide_eq_false c];exact ed9,w9,rfl⟩
  rintro Gq hGq _ H10 ⟨ed10,w10,rfl⟩
  subst hGq
  obtain⟨D,hD⟩:∃D,D=BY false false (tq S8) false:=⟨_,rfl⟩
  rw[←hD]at ed10
  have hDl:D.length<=1:=by rw[hD];cases tq S8<;>decide
  have eqD:∀{H':Hp},yV (List.zipWith (zM H' 2) (f7 D) (f7 D))=some true:=λ{H'}=>by rw[wJ rfl,decide_eq_true rfl]
  refine eF (λσ' H'=>∃ls,Ow X W ls/\H' ls=some (.lst (f7 D))/\H' ld=some (.lst (f7 D))/\Lw A H H' X W S8 o o rs8 szo8 szy8 C8 lc/\σ'=(Z6 a o X.p lc v ld ls)) (λR hR=> ?_) ?_
  ·obtain⟨d0,e0⟩:=w10.m.g.ob
   simp only[dN,dZ,dQ,gh,eZ,dR,↓eJ,aa,ae,aE,aD,and_true,true_and,fU,kr,Z5,e0,T.eU,T.eT,T.eP,oC,mX]
   refine wK w10.m P8 λl H' s' hl el=>hR _ _ ⟨l,w10.m.own hl,by rw[hD];exact el,s' _ _ ed10,w10.same s',rfl⟩
  rintro Gq hGq _ H11 ⟨ls,os,es11,ed11,w11,rfl⟩
  subst hGq
  refine eF (λσ' H'=>∃lk,Lp A H H' X W o S8 szo8 szy8 o o false false false C8 D lc ld ls lk/\σ'=(Z7 a o X.p lc v ld ls lk)) (λR hR=> ?_) ?_
  ·simp only[AV,dN,dZ,dQ,gh,eZ,G9,aa,ae,aE,aD,Z6,ed11]
   exact λlk hk=>hR _ _ ⟨lk,⟨w11.m.same (dY.upd hk),P8,(dY.upd hk) _ _ w11.ec,(dY.upd hk) _ _ ed11,(dY.upd hk) _ _ es11,dH,w11.ow,od,os,w11.m.own hk,hCc,hD,eo8,w11.fh,w11.s.trans (dY.upd hk)⟩,rfl⟩
  rintro Gq hGq _ H12 ⟨lk,w12,rfl⟩
  subst hGq
  refine eF (λσ' H'=>Lp A H H' X W o S8 szo8 szy8 o o false false false C8 D lc ld ls lk/\σ'=(Z7 a o X.p lc v ld ls lk)) (λR hR=> ?_) ?_
  ·obtain⟨d0,e0⟩:=w12.m.g.ob
   simp only[fW,gc,gO,gp,gU,Kw,dN,dZ,tC,dQ,dR,eqv,↓reduceIte,aM,G_,II,↓eJ,aa,ae,and_true,true_and,↓gb,fU,kr,Z7,w12.es,w12.ed,e0,T.eU,T.eT,T.eP,oC,mX]
   rw[eqD]
   simp only[↓reduceIte,bc]
   refine wK w12.m P8 λl H' s' hl el=> ?_
   rw[←hD]at el
   have ed':=s' _ _ w12.ed
   simp only[↓reduceIte,el,ed']
   rw[eqD]
   simp only[↓reduceIte,bc]
   exact hR _ _ ⟨w12.same s',rfl⟩
  rintro Gq hGq _ H13 ⟨w13,rfl⟩
  subst hGq
  have dr:∀{H':Hp} {j:Int} {Q':VK} {E':XK},dY H H'->0<=j->Q' (.int (cat ns j)) H'->rb K [.ref a,.int j] H' Q' E':=λs' j0 k=>⟨a,ns,_,rfl,s'.seq hS,j0,k⟩
  have at_C:∀x:Int,∃p∈C8,FD (C8.map V.int) (x%(C8.length:Int))=some (.int p):=λx=>by
   have h0:=bG x (show(C8.length:Int)≠0 by omega)
   have h1:=bF x (show(0:Int)<C8.length by omega)
   exact⟨_,getD_mem' (show(x%(C8.length:Int)).toNat<C8.length by omega),zw h0 (by omega)⟩
  refine eF (λσ' H'=>∃k:Int,0<=k/\k<=7/\H13=H'/\σ'=(Z8 a o X.p lc v ld ls lk k)) (λR hR=> ?_) ?_
  ·simp only[gU,dN,dZ,tC,dQ,gh,eZ,dR,ui,aa,aE,aD,Z7]
   refine dr w13.s (by decide) ?_
   simp only[Int.reduceLT,Nat.reduceLT,true_and]
   exact hR _ _ ⟨_,bG _ (by decide),by have:=bF (cat ns 1) (show(0:Int)<8 by decide);omega,rfl,rfl⟩
  rintro Gq hGq _ _ ⟨k,k0,k7,rfl,rfl⟩
  subst hGq
  refine eF (λσ' H'=>∃p∈C8,H13=H'/\σ'=(Z9 a o X.p lc v ld ls lk k p)) (λR hR=> ?_) ?_
  ·simp only[gU,AV,dN,dZ,tC,dQ,gh,eZ,dR,o8,ui,LG,Ct,and_assoc,wg,aa,ae,aE,aD,Z8]
   refine dr w13.s (by decide) ?_
   simp only[Int.reduceLT,Nat.reduceLT,true_and,w13.ec,ax]
   obtain⟨p,hp,e⟩:=at_C (cat ns 1/8)
   rw[e]
   exact⟨by omega,hR _ _ ⟨p,hp,rfl,rfl⟩⟩
  rintro Gq hGq _ _ ⟨p,hp,rfl,rfl⟩
  subst hGq
  refine eF (λσ' H'=>∃d:Int,H13=H'/\σ'=(Tv a o X.p lc v ld ls lk k p d)) (λR hR=> ?_) ?_
  ·simp only[gU,dN,dZ,tC,dQ,gh,eZ,dR,o8,and_assoc,wg,aa,aE,aD,Z9]
   refine dr w13.s (by decide) ?_
   simp only[Int.reduceLT,Nat.reduceLT,true_and]
   exact hR _ _ ⟨_,rfl,rfl⟩
  rintro Gq hGq _ _ ⟨d,rfl,rfl⟩
  subst hGq
  refine eF (λσ' H'=>∃lp L S nm tk fs fb fa,Lp A H H' X W o S szo8 szy8 nm tk fs fb fa C8 D lc ld ls lk/\Ow X W lp/\H' lp=some (.lst (f7 L))/\((k=7/\L=["walk"])∨(k≠7/\L=BY fs fb false fa/\(k<=4->fb=false/\fa=false/\S.ks.length<=61)))/\σ'=(Tw a o X.p lc v ld ls lk k p d lp)) (λR hR=> ?_) ?_
  ·simp only[dN,dZ,dQ,gh,eZ,dR,aa,ae,aE,aD,Tv]
   refine⟨X,W,S8,szo8,szy8,C8,o,o,k,p,d,false,lc,rfl,w13.m,P8,kl8,w13.ec,by omega,λx hx=>(hCc x).mp hx,(hCc p).mp hp,k0,k7,λ_=>rfl,?_⟩
   by_cases c:k=7
   ·rw[if_pos c]
    exact λl H' s' hl el=>hR _ _ ⟨l,_,S8,o,o,false,false,false,w13.same s',w13.m.own hl,el,.inl ⟨c,rfl⟩,rfl⟩
   ·rw[if_neg c]
    intro l H' S' nm' tk' fs' fb' fa' L m' P' f' hl el eL eS hk
    exact hR _ _ ⟨l,L,S',nm',tk',fs',fb',fa',w13.next m' P' f' ⟨eS.1,eS.2.1⟩,w13.m.own hl,el,.inr ⟨c,eL,hk⟩,rfl⟩
  rintro Gq hGq _ H14 ⟨lp,L,S,nm,tk,fs,fb,fa,w14,olp,elp,hL,rfl⟩
  subst hGq
  clear w13 w12 w11 w10 w9 w8
  refine eF (λσ' H'=>∃k2:Int,0<=k2/\k2<=7/\H14=H'/\σ'=(LJ a o X.p lc v ld ls lk k p d lp k2)) (λR hR=> ?_) ?_
  ·simp only[gU,dN,dZ,tC,dQ,gh,eZ,dR,ui,aa,aE,aD,Tw]
   refine dr w14.s (by decide) ?_
   simp only[Int.reduceLT,Nat.reduceLT,true_and]
   exact hR _ _ ⟨_,bG _ (by decide),by have:=bF (cat ns 2) (show(0:Int)<8 by decide);omega,rfl,rfl⟩
  rintro Gq hGq _ _ ⟨k2,k20,k27,rfl,rfl⟩
  subst hGq
  refine eF (λσ' H'=>∃lp L S nm tk fs fb fa,Lp A H H' X W o S szo8 szy8 nm tk fs fb fa C8 D lc ld ls lk/\Ow X W lp/\H' lp=some (.lst (f7 L))/\L.length<=10/\(("walk"∈L)∨L=BY fs fb false fa)/\σ'=(LJ a o X.p lc v ld ls lk k p d lp k2)) (λR hR=> ?_) ?_
  ·have flen:∀{a b c d:Bool},(BY a b c d).length<=4:=λ{a b c d}=>by cases a<;>cases b<;>cases c<;>cases d<;>decide
   have CG:R (LJ a o X.p lc v ld ls lk k p d lp k2) H14:=by
    refine hR _ _ ⟨lp,L,S,nm,tk,fs,fb,fa,w14,olp,elp,?_,?_,rfl⟩
    ·rcases hL with ⟨_,rfl⟩|⟨_,rfl,_⟩
     ·decide
     ·exact aA flen (by decide)
    ·rcases hL with ⟨_,rfl⟩|⟨_,h,_⟩
     ·exact .inl (by decide)
     ·exact .inr h
   refine ya (λk1 H1=>k1=decide (¬k2=k/\4<k2/\k<5)/\H14=H1) (λK1 hK1=> ?_) ?_ ?_
   ·simp only[gp,gU,Ij,tC,dQ,LH,NB,qz,eqv,aM,G_,decide_eq_false_iff_not,aa,ae,decide_eq_true_eq,↓gb,LJ]
    have go:∀b,b=decide (¬k2=k/\4<k2/\k<5)->K1 b H14:=λb e=>hK1 _ _ ⟨e,rfl⟩
    by_cases c1:k2=k
    ·rw[if_neg λh=>h c1];exact go _ (by simp[c1])
    ·rw[if_pos c1]
     by_cases c2:4<k2
     ·rw[if_pos c2];exact go _ (by simp[c1,c2])
     ·rw[if_neg c2];exact go _ (by simp[c2])
   ·rintro _ ⟨ec3,rfl⟩
    obtain⟨c1,c2,c3⟩:=of_decide_eq_true ec3.symm
    rcases hL with ⟨h,_⟩|⟨_,rfl,hk⟩
    ·omega
    ·obtain⟨hfb,hfa,hks⟩:=hk (by omega)
     subst hfb hfa
     simp only[gU,AV,dN,dZ,dQ,gh,eZ,dR,ui,LG,Ct,IG,aa,ae,aE,aD,LJ,w14.ec,ax]
     obtain⟨p2,hp2,e2⟩:=at_C d
     rw[e2]
     refine⟨by omega,X,W,S,szo8,szy8,C8,nm,tk,k2,p2,d,fs,lc,rfl,w14.m,w14.p,hks,w14.ec,by omega,λx hx=>(w14.hC x).mp hx,(w14.hC p2).mp hp2,k20,k27,λh=>by omega,?_⟩
     by_cases c:k2=7
     ·rw[if_pos c]
      intro l H' s' hl el
      simp only[s' _ _ elp,el]
      refine⟨?_,λl2 hl2=>hR _ _ ⟨l2,BY fs false false false++["walk"],S,nm,tk,fs,false,false,w14.same (s'.trans (dY.upd hl2)),(w14.m.same s').own hl2,by rw[dH];unfold f7;rw[aV],?_,.inl (by simp),rfl⟩⟩
      ·rw[qu,qu];exact aA (bN flen (aF 1)) (by decide)
      ·rw[aO];exact aA (bN flen (aF 1)) (by decide)
     ·rw[if_neg c]
      intro l H' S' nm' tk' fs' fb' fa' L' m' P' f' hl el eL eS _
      have elp':=w14.m.lst f' elp olp
      have w':=w14.next m' P' f' ⟨eS.1,eS.2.1⟩
      have hl':L'.length<=4:=by have:=congrArg List.length eL;rw[aO]at this;have:=flen (a:=fs') (b:=fb') (c:=false) (d:=fa');omega
      simp only[elp',el]
      refine⟨?_,λl2 hl2=>hR _ _ ⟨l2,BY fs false false false++L',S',nm',tk',fs',fb',fa',w'.same (dY.upd hl2),m'.own hl2,by rw[dH];unfold f7;rw[aV],?_,.inr eL,rfl⟩⟩
      ·rw[qu,qu];exact aA (bN flen hl') (by decide)
      ·rw[aO];exact aA (bN flen hl') (by decide)
   ·rintro _ ⟨_,rfl⟩
    simp only[gc,LJ]
    exact CG
  clear hL w14 olp elp
  rintro Gq hGq _ H15 ⟨lp,L,S,nm,tk,fs,fb,fa,w15,olp,elp,hLl,hL,rfl⟩
  subst hGq
  refine eF (λσ' H'=>L=BY fs fb false fa/\H15=H'/\σ'=(LJ a o X.p lc v ld ls lk k p d lp k2)) (λR hR=> ?_) ?_
  ·refine ya (λk1 H1=>k1=decide ("walk"∈L)/\H15=H1) (λK1 hK1=> ?_) ?_ ?_
   ·simp only[gp,gU,tC,dQ,↓reduceIte,aa,ae,aH,FH,↓gb,LJ,elp]
    rw[Ho]
    exact⟨rfl,E9,hK1 _ _ ⟨rfl,rfl⟩⟩
   ·rintro _ ⟨ew,rfl⟩
    have hwk:=of_decide_eq_true ew.symm
    simp only[fW,fj,gj,gp,gU,Sa,AV,dN,dZ,tC,dQ,qw,gh,eZ,dR,oF,Df,LH,qz,eqv,Cp,or_true,Int.reduceLT,Nat.reduceMul,Nat.reduceLT,Int.reduceNeg,Int.reducePow,Int.reduceMul,Int.reduceAdd,qv,pj,A8,LW,mH,↓eJ,↓er,aq,av,af,ak,aa,ae,aE,aD,V.int.injEq,V.bl.injEq,V.str.injEq,V.ref.injEq,V.ty.injEq,ai,ah,and_true,true_and,exists_eq_left',decide_eq_true_eq,Nat.reduceAdd,uO,JR,↓gb,fU,kr,nu,LJ]
    refine⟨⟨_,iC.of w15.ec⟩,mQ.E6 (λx=>decide (decide (iv x<o)=decide (p<o))) (λx=>x) (iC.of w15.ec) (by rw[ax];exact aA l8 (by decide)) (λx hx' K' hK=> ?_) (λx hx' _ K' hK=> ?_) λl0 hl0=> ?_⟩
    ·obtain⟨y,_,rfl⟩:=List.mem_map.mp hx'
     simp only[gp,gU,dQ,qz,eqv,A8,aa,ae,↓gb,bJ]
     exact hK
    ·simp only[dQ,aa]
     exact hK
    ·obtain⟨M,hM⟩:∃M,M=C8.filter λx=>decide (decide (x<o)=decide (p<o)):=⟨_,rfl⟩
     have eM:((C8.map V.int).filter λx=>decide (decide (iv x<o)=decide (p<o))).map (λx=>x)=M.map V.int:=by
      rw[de,bS,hM]
      ·rfl
      ·intro x;rfl
     rw[eM]
     have s0:=dY.upd (o:= .lst (M.map V.int)) hl0
     have TC:upd H15 l0 (.lst (M.map V.int)) l0=some (.lst (M.map V.int)):=dH
     generalize upd H15 l0 (.lst (M.map V.int))=H16 at*
     have m16:=w15.m.same s0
     have z:=w15.p.z
     obtain⟨d0,e0⟩:=m16.g.ob
     obtain⟨d1,e1⟩:=m16.g.ar.ob
     obtain⟨d2,e2⟩:=m16.g.ar.mem.ob
     have hpM:p∈M:=by rw[hM];exact List.mem_filter.mpr ⟨hp,by simp⟩
     simp only[Be,and_true,true_and,TC,e0,T.eU,T.eT,oC,e1,T.eQ,T.d_,jV,e2,Bi]
     refine⟨(λy=>by rw[y]at hpM;cases hpM),λl hlM hmx=> ?_⟩
     have hlC:l∈C8/\decide (l<o)=decide (p<o):=by
      rw[hM]at hlM
      have:=List.mem_filter.mp hlM
      exact⟨this.1,of_decide_eq_true this.2⟩
     obtain⟨l0',l1,n,hn⟩:=z.A1 ((w15.hC l).mp hlC.1)
     refine⟨X.m,X.q,S.ws,.int l,rfl,m16.g.ar.mem,au,z.AX,?_⟩
     rw[if_pos (zv (by omega) (by omega)),show eY S.ws (iv (V.int l)).toNat=some n from hn]
     have go:∀(x:Int) (K1:VK),x=(if n/4<8 then 68 else 0)->(∀H17,Wd A H17 X W {S with ws:=S.ws.set l.toNat x} [some nm] [some (tk,5)]->K1 .gT H17)->qG A [.ref X.m,.int l,.int x] H16 K1 E:=λx K1 ex k=>by
      refine⟨X.m,X.q,S.ws,.int l,.int x,rfl,m16.g.ar.mem,au,au,?_⟩
      have hk:∃y,kd (.int x)=some y:=by rw[oQ,ex];split<;>exact⟨_,rfl⟩
      obtain⟨y,hy⟩:=hk
      rw[if_pos (zv (by omega) (by omega)),hy]
      dsimp only
      have kf:∀b o,H16 b=some o->b≠X.q->upd H16 X.q (HO.lst ((S.ws.set l.toNat x).map V.int)) b=some o:=λb o eb nb=>by rw[dO nb];exact eb
      exact k _ (m16.heap (m16.g.ET (m16.g.ar.N8 (m16.g.ar.mem.put l.toNat x) kf) λb o eb n _ _=>kf b o eb n) λb o eb n _ _ _ _=>kf b o eb n).1
     have b2:=z.b2;have b3:=z.b3;have b5:=z.b5;have b6:=z.b6;have b0:=z.b0;have b4:=z.b4
     have oe:=w15.oe
     have lo:=z.lo
     have ly:=z.ly
     have hs:¬n/4<8->hd (S.ws.getD (l.toNat+1) 0)=none:=λh=>by
      have:=w15.p.sh l ((w15.hC l).mp hlC.1) (l+1) (gX.mpr ⟨n,hn,by omega,by omega⟩)
      rw[show(l+1).toNat=l.toNat+1 by omega]at this
      exact this
     have lim:∀x∈fK S szo8 szy8,(x∈fF 0 szo8/\x<o)∨(x∈fF S.sy.b szy8/\o<=x):=λx hx=>by
      obtain⟨_,_,n',hn'⟩:=z.A1 hx
      obtain⟨_,c0,_⟩:=fP hn'
      rcases z.Ko hx hn' with ⟨h1,h2,h3⟩|⟨h1,h2,h3⟩
      ·exact .inl ⟨h1,by omega⟩
      ·exact .inr ⟨h1,by omega⟩
     have mxs:∀x∈fK S szo8 szy8,decide (x<o)=decide (l<o)->x<=l:=λx hx hxl=>hmx x (by rw[hM];exact List.mem_filter.mpr ⟨(w15.hC x).mpr hx,decide_eq_true (hxl.trans hlC.2)⟩)
     have bad:∀{H17:Hp} {x:Int} {K1:VK} {E1:XK},x=(if n/4<8 then 68 else 0)->Wd A H17 X W {S with ws:=S.ws.set l.toNat x} [some nm] [some (tk,5)]->(∀l H',dY H17 H'->H17 l=none->H' l=some (.lst (f7 ["walk"]))->K1 (.ref l) H')->By A [.ref X.a,.ref X.r] H17 K1 E1:=λ{H17 x K1 E1} ex m17 k=>by
      refine⟨X,_,rfl,m17.g,.inr ⟨?_,?_,k⟩⟩
      ·exact z.AX.set (by rw[oQ,ex];split<;>rfl)
      ·rcases lim l ((w15.hC l).mp hlC.1) with ⟨h1,h2⟩|⟨h1,h2⟩
       ·left
        show KC (S.ws.set l.toNat x) S.so.b S.so.t
        rw[b0]
        exact G5 z.wo h1 (λy hy=>mxs y (aX _ hy) (by
         rcases lim y (aX _ hy) with ⟨_,h⟩|⟨h,h'⟩
         ·rw[decide_eq_true h,decide_eq_true h2]
         ·obtain⟨_,_,_,n',hn',h3⟩:=gd z.wo y hy
          obtain⟨_,c0,_⟩:=fP hn'
          omega)) hn (by omega) (by omega) hs ex
       ·right
        refine⟨⟨szo8,?_,by omega⟩,G5 z.wy h1 (λy hy=>mxs y (aY _ hy) (by
         have:=(gd z.wy y hy).1
         rw[decide_eq_false (by omega),decide_eq_false (by omega)])) hn (by omega) (by omega) hs ex⟩
        show walks (S.ws.set l.toNat x) S.so.b szo8 S.so.t
        rw[b0]
        exact lO (by rw[aK]) (λi i0 i1=>Fd (by omega)) z.wo
     dsimp only
     by_cases c:n/4<8
     ·rw[if_pos c]
      refine go 68 _ (by rw[if_pos c]) λH17 m17=> ?_
      obtain⟨d3,e3⟩:=m17.g.ob
      simp only[and_true,true_and,e3,T.eU,T.eT,T.eP,oC,mX]
      refine bad (by rw[if_pos c]) m17 λlw H18 s18 hlw elw=> ?_
      intro l2 hl2
      have e18:=dY.upd (o:= .lst (f7 ["walk"])) hl2 _ _ elw
      have e19:upd H18 l2 (.lst (f7 ["walk"])) l2=some (.lst (f7 ["walk"])):=dH
      rw[show [V.str (Str.ofString "walk")]=f7 ["walk"] from rfl]
      dsimp only
      rw[e18,e19]
      dsimp only
      rw[if_pos rfl,wJ rfl]
      exact q _
     ·rw[if_neg c]
      refine go 0 _ (by rw[if_neg c]) λH17 m17=> ?_
      obtain⟨d3,e3⟩:=m17.g.ob
      simp only[and_true,true_and,e3,T.eU,T.eT,T.eP,oC,mX]
      refine bad (by rw[if_neg c]) m17 λlw H18 s18 hlw elw=> ?_
      intro l2 hl2
      have e18:=dY.upd (o:= .lst (f7 ["walk"])) hl2 _ _ elw
      have e19:upd H18 l2 (.lst (f7 ["walk"])) l2=some (.lst (f7 ["walk"])):=dH
      rw[show [V.str (Str.ofString "walk")]=f7 ["walk"] from rfl]
      dsimp only
      rw[e18,e19]
      dsimp only
      rw[if_pos rfl,wJ rfl]
      exact q _
   ·rintro _ ⟨ew,rfl⟩
    have hwk:=of_decide_eq_false ew.symm
    simp only[gc,LJ]
    exact hR _ _ ⟨hL.resolve_left hwk,rfl,rfl⟩
  rintro Gq hGq _ _ ⟨eL,rfl,rfl⟩
  subst hGq
  have hdue:(["stray","book","room","age"].filter λx=>decide (x∈L++D))=BY fs fb (tq S) fa:=by
   rw[eL,w15.hD]
   cases fs<;>cases fb<;>cases fa<;>cases tq S<;>decide
  obtain⟨D2,hD2⟩:∃D2,D2=BY fs fb (tq S) fa:=⟨_,rfl⟩
  have hD2l:D2.length<=4:=by rw[hD2];cases fs<;>cases fb<;>cases fa<;>cases tq S<;>decide
  have eqD2:∀{H':Hp},yV (List.zipWith (zM H' 2) (f7 D2) (f7 D2))=some true:=λ{H'}=>by rw[wJ rfl,decide_eq_true rfl]
  refine eF (λσ' H'=>∃ld2,Ow X W ld2/\H' ld2=some (.lst (f7 D2))/\Lp A H H' X W o S szo8 szy8 nm tk fs fb fa C8 D lc ld ls lk/\σ'=(Tx a o X.p lc v ld2 ls lk k p d lp k2)) (λR hR=> ?_) ?_
  ·have sapp:f7 L++f7 D=f7 (L++D):=by unfold f7;rw[aV]
   simp only[dN,dZ,tC,qw,gh,eZ,Int.reduceAdd,qv,pj,mH,aq,av,af,ak,aa,ae,aE,aD,V.int.injEq,V.bl.injEq,V.str.injEq,V.ref.injEq,V.ty.injEq,ai,ah,true_and,exists_eq_left',Nat.reduceAdd,TL,LJ]
   intro l0 hl0
   have s0:=dY.upd (o:= .lst (f7 ["stray","book","room","age"])) hl0
   refine⟨⟨_,iC.of dH⟩,mQ.Rx (xs:=f7 ["stray","book","room","age"]) (λx=>K2 x (f7 (L++D))) (λx=>x) (iC.of dH) (by decide) (λx hx' H1 s1 K' hK=> ?_) (λx hx' _ H1 s1 K' hK=> ?_) λl H1 s1 hl=> ?_⟩
   ·obtain⟨y,_,rfl⟩:=List.mem_map.mp hx'
    have e1:=(s0.trans s1) _ _ elp
    have e2:=(s0.trans s1) _ _ w15.ed
    simp only[gp,gU,dQ,↓reduceIte,dH,IG,aa,ae,aH,FH,↓gb,bJ,e1,e2]
    refine⟨by rw[qu,qu];exact aA (show _<=11 by omega) (by decide),λl5 hl5=> ?_⟩
    exact⟨rfl,by rw[sapp];exact E9,by rw[sapp];exact hK _ (s1.trans (dY.upd hl5))⟩
   ·simp only[dQ,aa]
    exact hK _ s1
   ·refine hR _ _ ⟨l,(w15.m.same (s0.trans s1)).own hl,?_,w15.same ((s0.trans s1).trans (dY.upd hl)),rfl⟩
    rw[dH,hD2,←hdue,KS]
  rintro Gq hGq _ H16 ⟨ld2,old2,ed2,w16,rfl⟩
  subst hGq
  refine eF (λσ' H'=>∃lf,Ow X W lf/\ld2≠lf/\H' lf=some (.lst (f7 D2))/\H' ld2=some (.lst (f7 D2))/\Lp A H H' X W o S szo8 szy8 nm tk fs fb fa C8 D lc ld ls lk/\σ'=(Tz a o X.p lc v ld2 ls lk k p d lp k2 lf)) (λR hR=> ?_) ?_
  ·obtain⟨d0,e0⟩:=w16.m.g.ob
   simp only[dN,dZ,dQ,gh,eZ,dR,↓eJ,aa,ae,aE,aD,and_true,true_and,fU,kr,Tx,e0,T.eU,T.eT,T.eP,oC,mX]
   refine wK w16.m w16.p λl H' s' hl el=>hR _ _ ⟨l,w16.m.own hl,dD ed2 hl,by rw[hD2];exact el,s' _ _ ed2,w16.same s',rfl⟩
  rintro Gq hGq _ H17 ⟨lf,olf,ndf,ef17,ed17,w17,rfl⟩
  subst hGq
  refine eF (λσ' H'=>∃lg,lf≠lg/\H' lg=some (.lst (f7 D2))/\H' lf=some (.lst (f7 D2))/\H' ld2=some (.lst (f7 D2))/\Lp A H H' X W o S szo8 szy8 nm tk fs fb fa C8 D lc ld ls lk/\σ'=(QS a o X.p lc v ld2 ls lk k p d lp k2 lf lg)) (λR hR=> ?_) ?_
  ·obtain⟨d0,e0⟩:=w17.m.g.ob
   simp only[dN,dZ,dQ,gh,eZ,dR,↓eJ,aa,ae,aE,aD,and_true,true_and,fU,kr,Tz,e0,T.eU,T.eT,T.eP,oC,mX]
   refine wK w17.m w17.p λl H' s' hl el=>hR _ _ ⟨l,dD ef17 hl,by rw[hD2];exact el,s' _ _ ef17,s' _ _ ed17,w17.same s',rfl⟩
  rintro Gq hGq _ H18 ⟨lg,nfg,eg18,ef18,ed18,w18,rfl⟩
  subst hGq
  refine eF (λσ' H'=>H18=H'/\σ'=(QS a o X.p lc v ld2 ls lk k p d lp k2 lf lg)) (λR hR=> ?_) ?_
  ·simp only[fW,gc,gO,gp,gU,Kw,nQ,AV,dN,dZ,tC,dQ,eqv,M7,PZ,jH,↓reduceIte,aM,bc,G_,II,aa,ae,true_and,exists_eq_left,↓gb,QS,QM,IA,ef18,eg18,ed18,w18.es,w18.ek,T.qY]
   rw[eqD2,eqD]
   simp only[↓reduceIte,bc]
   exact hR _ _ ⟨rfl,rfl⟩
  rintro Gq hGq _ _ ⟨rfl,rfl⟩
  subst hGq
  refine eF (λσ' H'=>H' lg=some (.lst (f7 D2))/\H' ld2=some (.lst (f7 D2))/\Wd A H' X W S [some nm] [some (tk,5)]/\σ'=(QS a o X.p lc v ld2 ls lk k p d lp k2 lf lg)) (λR hR=> ?_) ?_
  ·simp only[fj,dN,dZ,tC,dQ,kQ,G8,aa,ae,QS,ef18]
   exact⟨by rw[qu];exact bI hD2l (by decide),hR _ _ ⟨by rw[dO (aj nfg)];exact eg18,by rw[dO ndf];exact ed18,w18.m.lay ef18 olf,rfl⟩⟩
  rintro Gq hGq _ H19 ⟨eg19,ed19,m19,rfl⟩
  subst hGq
  obtain⟨d0,e0⟩:=m19.g.ob
  simp only[fW,gU,Cn,dN,dZ,dQ,dR,eqv,↓reduceIte,A8,LW,↓eJ,aa,ae,↓gb,fU,kr,QS,eg19,ed19]
  rw[eqD2]
  simp only[↓reduceIte,and_true,true_and,e0,T.eU,T.eT,T.eP,oC,mX]
  refine wK m19 w18.p λl H' s' hl el=> ?_
  rw[←hD2]at el
  have ed':=s' _ _ ed19
  simp only[↓reduceIte,el,ed']
  rw[eqD2]
  exact q _
structure iU(K:PySem.W.Frag)(f:Addr)(x q:Str)(st:Stmt)(d:FuncData):Prop where
 ex:∃(oc:Value) (od:Option Addr) (kV dc pm:Value) (an:Option Addr) (cd ct:Value) (sl:Array (Option Value)),K.lookup f=some ⟨oc,od,.func (PySem.W.fnOf x q (uT st) (sD st) (dM st) .none kV dc pm an cd ct),sl⟩/\PySem.W.codeIn K cd q=true/\PySem.W.keepIn K (.ref f)=true/\d=PySem.W.fnOf x q (uT st) (sD st) (dM st) .none kV dc pm an cd ct
theorem iU.fn{K:PySem.W.Frag}{f:Addr}{x q:Str}{st:Stmt}{d:FuncData}(h:iU K f x q st d):iS K x q st f d:=by
 obtain⟨oc,od,kV,dc,pm,an,cd,ct,sl,l,e,k,rfl⟩:=h.ex
 exact PB (st:=st) l e k
theorem iU.kp{K:PySem.W.Frag}{f:Addr}{x q:Str}{st:Stmt}{d:FuncData}(h:iU K f x q st d):PySem.W.keepIn K (.ref f)=true:=by
 obtain⟨oc,od,kV,dc,pm,an,cd,ct,sl,l,e,k,rfl⟩:=h.ex
 exact k
theorem all_mk{l:PySem.W.OpenLaw}{w:World}{K:PySem.W.Frag}{h:Heap}{mg:Str->Option Value}{fa nI rH ji jj jl g_ jW ik jZ jf gR j_ jm lj lA jk fS fY lz nH kq pF y7 il fZ j9 jd gn oz jB kn y8 ip jX fT gA jz kj uV g8 jb jc la jY je jg kb ka jh j4 gB lx jx lB lb g9 jy j5 g7 kh Dk nJ rG j6 j8 nK y6 km jA iE nG iq gz gQ iF uU lu ie ic gm gP lh rJ j7 lr jw Hi nR i_ iV fO fB jN mR gH g6 gF k_ dP dU eu eV eN fc fw eB eR:Addr}  {t_NOTHING:Tok}{t_MOST_NUMBER:Tok}{t_MOST_PLACE:Tok}{t_MOST_SLOTS:Tok}{t_MOST_AGE:Tok}{t_MOST_WORDS:Tok}{t_LEAST_OLD_WORDS:Tok}{t_MOST_OLD_WORDS:Tok}{t_LEAST_YOUNG_WORDS:Tok}{t_MOST_YOUNG_WORDS:Tok}{t_MOST_HANDS:Tok}{pB um lZ l7 ma jS nS kD nV lW iY oa me oj ou l_ gx gL ot pA mn rk Bb kE gN n_ lU hZ rj kM mm Bc kF nT gy iz kK mh x4 jQ lS lT pk nU lV lX oh og lY nW iA oq kI ox pv jR kJ nX jP mf E4 pC uk nY n6 pE Ba mj kL jT pz kG iy iX jU xZ oo i4 iZ hV iW pw uo nZ om kH JV:FuncData}
  (X:K.In h) (G:h.Ns mainGlobals mg) (hfa:mg "law"=some (.ref fa))
  (sL:PySem.W.nsIn K mainGlobals "KeepError"=some (some (.ref nR)))
  (sJ:PySem.W.nsIn K mainGlobals "BadNumber"=some (some (.ref i_)))
  (uv:PySem.W.nsIn K mainGlobals "BadWord"=some (some (.ref iV)))
  (jC:PySem.W.nsIn K mainGlobals "BadCount"=some (some (.ref fO)))
  (rl:PySem.W.nsIn K mainGlobals "NoPlace"=some (some (.ref fB)))
  (z7:PySem.W.nsIn K mainGlobals "NoRoom"=some (some (.ref jN)))
  (z8:PySem.W.nsIn K mainGlobals "NoSlot"=some (some (.ref mR)))
  (uw:PySem.W.nsIn K mainGlobals "NoCell"=some (some (.ref gH)))
  (z6:PySem.W.nsIn K mainGlobals "NoHand"=some (some (.ref g6)))
  (pW:PySem.W.nsIn K mainGlobals "NothingHeld"=some (some (.ref gF)))
  (ux:PySem.W.nsIn K mainGlobals "NoName"=some (some (.ref k_)))
  (z5:PySem.W.nsIn K mainGlobals "Memory"=some (some (.ref dP)))
  (x9:PySem.W.nsIn K mainGlobals "Space"=some (some (.ref dU)))
  (CO:PySem.W.nsIn K mainGlobals "Areas"=some (some (.ref eu)))
  (FP:PySem.W.nsIn K mainGlobals "Book"=some (some (.ref eV)))
  (CP:PySem.W.nsIn K mainGlobals "Hands"=some (some (.ref eN)))
  (CQ:PySem.W.nsIn K mainGlobals "Lasts"=some (some (.ref fc)))
  (FR:PySem.W.nsIn K mainGlobals "Weak"=some (some (.ref fw)))
  (CS:PySem.W.nsIn K mainGlobals "Roots"=some (some (.ref eB)))
  (FQ:PySem.W.nsIn K mainGlobals "Heap"=some (some (.ref eR)))
  (pg_Memory:PySem.W.plainGet K dP Str.empty=true)
  (hd_Memory:PySem.W.hasDictIn K dP=true)
  (po_Memory:PySem.W.plainOver K dP=true)
  (sa_Memory:PySem.W.findIn K (.ref dP) "__setattr__"=some (some (.builtin "object.__setattr__")))
  (yg:PySem.W.makesIn K dP=true)
  (kc_Memory:PySem.W.keepIn K (.ref dP)=true)
  (iL:PySem.W.findIn K (.ref dP) "size"=some none)
  (i5:PySem.W.findIn K (.ref dP) "words"=some none)
  (pg_Space:PySem.W.plainGet K dU Str.empty=true)
  (hd_Space:PySem.W.hasDictIn K dU=true)
  (po_Space:PySem.W.plainOver K dU=true)
  (sa_Space:PySem.W.findIn K (.ref dU) "__setattr__"=some (some (.builtin "object.__setattr__")))
  (uE:PySem.W.makesIn K dU=true)
  (kc_Space:PySem.W.keepIn K (.ref dU)=true)
  (hJ:PySem.W.findIn K (.ref dU) "begin"=some none)
  (jr:PySem.W.findIn K (.ref dU) "end"=some none)
  (gK:PySem.W.findIn K (.ref dU) "top"=some none)
  (pg_Areas:PySem.W.plainGet K eu Str.empty=true)
  (hd_Areas:PySem.W.hasDictIn K eu=true)
  (po_Areas:PySem.W.plainOver K eu=true)
  (sa_Areas:PySem.W.findIn K (.ref eu) "__setattr__"=some (some (.builtin "object.__setattr__")))
  (Ao:PySem.W.makesIn K eu=true)
  (kc_Areas:PySem.W.keepIn K (.ref eu)=true)
  (d_:PySem.W.findIn K (.ref eu) "memory"=some none)
  (fN:PySem.W.findIn K (.ref eu) "old"=some none)
  (fE:PySem.W.findIn K (.ref eu) "young"=some none)
  (oR:PySem.W.findIn K (.ref eu) "spare"=some none)
  (pg_Book:PySem.W.plainGet K eV Str.empty=true)
  (hd_Book:PySem.W.hasDictIn K eV=true)
  (po_Book:PySem.W.plainOver K eV=true)
  (sa_Book:PySem.W.findIn K (.ref eV) "__setattr__"=some (some (.builtin "object.__setattr__")))
  (CV:PySem.W.makesIn K eV=true)
  (kc_Book:PySem.W.keepIn K (.ref eV)=true)
  (gS:PySem.W.findIn K (.ref eV) "written"=some none)
  (pg_Hands:PySem.W.plainGet K eN Str.empty=true)
  (hd_Hands:PySem.W.hasDictIn K eN=true)
  (po_Hands:PySem.W.plainOver K eN=true)
  (sa_Hands:PySem.W.findIn K (.ref eN) "__setattr__"=some (some (.builtin "object.__setattr__")))
  (Ap:PySem.W.makesIn K eN=true)
  (kc_Hands:PySem.W.keepIn K (.ref eN)=true)
  (hE:PySem.W.findIn K (.ref eN) "words"=some none)
  (pg_Lasts:PySem.W.plainGet K fc Str.empty=true)
  (hd_Lasts:PySem.W.hasDictIn K fc=true)
  (po_Lasts:PySem.W.plainOver K fc=true)
  (sa_Lasts:PySem.W.findIn K (.ref fc) "__setattr__"=some (some (.builtin "object.__setattr__")))
  (Aq:PySem.W.makesIn K fc=true)
  (kc_Lasts:PySem.W.keepIn K (.ref fc)=true)
  (fQ:PySem.W.findIn K (.ref fc) "waiting"=some none)
  (kC:PySem.W.findIn K (.ref fc) "spoken"=some none)
  (pg_Weak:PySem.W.plainGet K fw Str.empty=true)
  (hd_Weak:PySem.W.hasDictIn K fw=true)
  (po_Weak:PySem.W.plainOver K fw=true)
  (sa_Weak:PySem.W.findIn K (.ref fw) "__setattr__"=some (some (.builtin "object.__setattr__")))
  (CZ:PySem.W.makesIn K fw=true)
  (kc_Weak:PySem.W.keepIn K (.ref fw)=true)
  (ig:PySem.W.findIn K (.ref fw) "told"=some none)
  (pg_Roots:PySem.W.plainGet K eB Str.empty=true)
  (hd_Roots:PySem.W.hasDictIn K eB=true)
  (po_Roots:PySem.W.plainOver K eB=true)
  (sa_Roots:PySem.W.findIn K (.ref eB) "__setattr__"=some (some (.builtin "object.__setattr__")))
  (Ar:PySem.W.makesIn K eB=true)
  (kc_Roots:PySem.W.keepIn K (.ref eB)=true)
  (gJ:PySem.W.findIn K (.ref eB) "hands"=some none)
  (gu:PySem.W.findIn K (.ref eB) "book"=some none)
  (iN:PySem.W.findIn K (.ref eB) "weaks"=some none)
  (iM:PySem.W.findIn K (.ref eB) "lasts"=some none)
  (pg_Heap:PySem.W.plainGet K eR Str.empty=true)
  (hd_Heap:PySem.W.hasDictIn K eR=true)
  (po_Heap:PySem.W.plainOver K eR=true)
  (sa_Heap:PySem.W.findIn K (.ref eR) "__setattr__"=some (some (.builtin "object.__setattr__")))
  (CY:PySem.W.makesIn K eR=true)
  (kc_Heap:PySem.W.keepIn K (.ref eR)=true)
  (eP:PySem.W.findIn K (.ref eR) "roots"=some none)
  (eT:PySem.W.findIn K (.ref eR) "areas"=some none)
  (nL:PySem.W.nsIn K mainGlobals "is_whole"=some (some (.ref nI)))
  (wV:PySem.W.nsIn K mainGlobals "all_of"=some (some (.ref rH)))
  (a_Space_init:PySem.W.findIn K (.ref dU) "__init__"=some (some (.ref ji)))
  (i_Space_init:PySem.W.isFn K (.ref ji)=true)
  (a_Space_room:PySem.W.findIn K (.ref dU) "room"=some (some (.ref jj)))
  (i_Space_room:PySem.W.isFn K (.ref jj)=true)
  (a_Space_used:PySem.W.findIn K (.ref dU) "used"=some (some (.ref jl)))
  (i_Space_used:PySem.W.isFn K (.ref jl)=true)
  (a_Space_extent:PySem.W.findIn K (.ref dU) "extent"=some (some (.ref g_)))
  (i_Space_extent:PySem.W.isFn K (.ref g_)=true)
  (a_Book_init:PySem.W.findIn K (.ref eV) "__init__"=some (some (.ref jW)))
  (i_Book_init:PySem.W.isFn K (.ref jW)=true)
  (a_Book_places:PySem.W.findIn K (.ref eV) "places"=some (some (.ref ik)))
  (i_Book_places:PySem.W.isFn K (.ref ik)=true)
  (a_Hands_row:PySem.W.findIn K (.ref eN) "row"=some (some (.ref jZ)))
  (i_Hands_row:PySem.W.isFn K (.ref jZ)=true)
  (a_Lasts_init:PySem.W.findIn K (.ref fc) "__init__"=some (some (.ref jf)))
  (i_Lasts_init:PySem.W.isFn K (.ref jf)=true)
  (a_Lasts_pending:PySem.W.findIn K (.ref fc) "pending"=some (some (.ref gR)))
  (i_Lasts_pending:PySem.W.isFn K (.ref gR)=true)
  (a_Weak_init:PySem.W.findIn K (.ref fw) "__init__"=some (some (.ref j_)))
  (i_Weak_init:PySem.W.isFn K (.ref j_)=true)
  (a_Weak_names:PySem.W.findIn K (.ref fw) "names"=some (some (.ref jm)))
  (i_Weak_names:PySem.W.isFn K (.ref jm)=true)
  (jo:PySem.W.nsIn K mainGlobals "_law_draw"=some (some (.ref lj)))
  (fL:PySem.W.nsIn K mainGlobals "is_within"=some (some (.ref lA)))
  (a_Space_take:PySem.W.findIn K (.ref dU) "take"=some (some (.ref jk)))
  (i_Space_take:PySem.W.isFn K (.ref jk)=true)
  (a_Lasts_want_pending:PySem.W.findIn K (.ref fc) "want_pending"=some (some (.ref fS)))
  (i_Lasts_want_pending:PySem.W.isFn K (.ref fS)=true)
  (a_Heap_is_for_young:PySem.W.findIn K (.ref eR) "is_for_young"=some (some (.ref fY)))
  (i_Heap_is_for_young:PySem.W.isFn K (.ref fY)=true)
  (qk:PySem.W.nsIn K mainGlobals "is_number"=some (some (.ref lz)))
  (rP:PySem.W.nsIn K mainGlobals "is_place"=some (some (.ref nH)))
  (mr:PySem.W.nsIn K mainGlobals "want_slots"=some (some (.ref kq)))
  (x_:PySem.W.nsIn K mainGlobals "is_head"=some (some (.ref pF)))
  (Dp:PySem.W.nsIn K mainGlobals "fits"=some (some (.ref y7)))
  (a_Memory_init:PySem.W.findIn K (.ref dP) "__init__"=some (some (.ref il)))
  (i_Memory_init:PySem.W.isFn K (.ref il)=true)
  (a_Memory_want_place:PySem.W.findIn K (.ref dP) "want_place"=some (some (.ref fZ)))
  (i_Memory_want_place:PySem.W.isFn K (.ref fZ)=true)
  (a_Space_has:PySem.W.findIn K (.ref dU) "has"=some (some (.ref j9)))
  (i_Space_has:PySem.W.isFn K (.ref j9)=true)
  (a_Hands_init:PySem.W.findIn K (.ref eN) "__init__"=some (some (.ref jd)))
  (i_Hands_init:PySem.W.isFn K (.ref jd)=true)
  (a_Hands_want_hand:PySem.W.findIn K (.ref eN) "want_hand"=some (some (.ref gn)))
  (i_Hands_want_hand:PySem.W.isFn K (.ref gn)=true)
  (a_Weak_at:PySem.W.findIn K (.ref fw) "at"=some (some (.ref oz)))
  (i_Weak_at:PySem.W.isFn K (.ref oz)=true)
  (mW:PySem.W.nsIn K mainGlobals "want_number"=some (some (.ref jB)))
  (g5:PySem.W.nsIn K mainGlobals "want_place"=some (some (.ref kn)))
  (qB:PySem.W.nsIn K mainGlobals "kind"=some (some (.ref y8)))
  (a_Memory_read:PySem.W.findIn K (.ref dP) "read"=some (some (.ref ip)))
  (i_Memory_read:PySem.W.isFn K (.ref ip)=true)
  (a_Hands_get:PySem.W.findIn K (.ref eN) "get"=some (some (.ref jX)))
  (i_Hands_get:PySem.W.isFn K (.ref jX)=true)
  (a_Weak_want_standing:PySem.W.findIn K (.ref fw) "want_standing"=some (some (.ref fT)))
  (i_Weak_want_standing:PySem.W.isFn K (.ref fT)=true)
  (a_Heap_want_hand:PySem.W.findIn K (.ref eR) "want_hand"=some (some (.ref gA)))
  (i_Heap_want_hand:PySem.W.isFn K (.ref gA)=true)
  (pZ:PySem.W.nsIn K mainGlobals "number_word"=some (some (.ref jz)))
  (qQ:PySem.W.nsIn K mainGlobals "place_word"=some (some (.ref kj)))
  (p5:PySem.W.nsIn K mainGlobals "worth"=some (some (.ref uV)))
  (a_Memory_write:PySem.W.findIn K (.ref dP) "write"=some (some (.ref g8)))
  (i_Memory_write:PySem.W.isFn K (.ref g8)=true)
  (a_Areas_init:PySem.W.findIn K (.ref eu) "__init__"=some (some (.ref jb)))
  (i_Areas_init:PySem.W.isFn K (.ref jb)=true)
  (a_Book_write:PySem.W.findIn K (.ref eV) "write"=some (some (.ref jc)))
  (i_Book_write:PySem.W.isFn K (.ref jc)=true)
  (a_Book_has:PySem.W.findIn K (.ref eV) "has"=some (some (.ref la)))
  (i_Book_has:PySem.W.isFn K (.ref la)=true)
  (a_Hands_put:PySem.W.findIn K (.ref eN) "put"=some (some (.ref jY)))
  (i_Hands_put:PySem.W.isFn K (.ref jY)=true)
  (a_Lasts_give:PySem.W.findIn K (.ref fc) "give"=some (some (.ref je)))
  (i_Lasts_give:PySem.W.isFn K (.ref je)=true)
  (a_Lasts_move:PySem.W.findIn K (.ref fc) "move"=some (some (.ref jg)))
  (i_Lasts_move:PySem.W.isFn K (.ref jg)=true)
  (a_Weak_name:PySem.W.findIn K (.ref fw) "name"=some (some (.ref kb)))
  (i_Weak_name:PySem.W.isFn K (.ref kb)=true)
  (a_Weak_move:PySem.W.findIn K (.ref fw) "move"=some (some (.ref ka)))
  (i_Weak_move:PySem.W.isFn K (.ref ka)=true)
  (a_Roots_init:PySem.W.findIn K (.ref eB) "__init__"=some (some (.ref jh)))
  (i_Roots_init:PySem.W.isFn K (.ref jh)=true)
  (a_Heap_held:PySem.W.findIn K (.ref eR) "held"=some (some (.ref j4)))
  (i_Heap_held:PySem.W.isFn K (.ref j4)=true)
  (a_Heap_want_make:PySem.W.findIn K (.ref eR) "want_make"=some (some (.ref gB)))
  (i_Heap_want_make:PySem.W.isFn K (.ref gB)=true)
  (qj:PySem.W.nsIn K mainGlobals "head_word"=some (some (.ref lx)))
  (mU:PySem.W.nsIn K mainGlobals "head_number"=some (some (.ref jx)))
  (sO:PySem.W.nsIn K mainGlobals "stands_in"=some (some (.ref lB)))
  (a_Book_rub:PySem.W.findIn K (.ref eV) "rub"=some (some (.ref lb)))
  (i_Book_rub:PySem.W.isFn K (.ref lb)=true)
  (a_Roots_starts:PySem.W.findIn K (.ref eB) "starts"=some (some (.ref g9)))
  (i_Roots_starts:PySem.W.isFn K (.ref g9)=true)
  (pY:PySem.W.nsIn K mainGlobals "is_of_young"=some (some (.ref jy)))
  (a_Heap_hold:PySem.W.findIn K (.ref eR) "hold"=some (some (.ref j5)))
  (i_Heap_hold:PySem.W.isFn K (.ref j5)=true)
  (a_Heap_cell_of:PySem.W.findIn K (.ref eR) "cell_of"=some (some (.ref g7)))
  (i_Heap_cell_of:PySem.W.isFn K (.ref g7)=true)
  (qP:PySem.W.nsIn K mainGlobals "_law_stray"=some (some (.ref kh)))
  (J1:PySem.W.nsIn K mainGlobals "lay"=some (some (.ref Dk)))
  (iG:PySem.W.nsIn K mainGlobals "slots_of"=some (some (.ref nJ)))
  (wU:PySem.W.nsIn K mainGlobals "age_of"=some (some (.ref rG)))
  (a_Heap_init:PySem.W.findIn K (.ref eR) "__init__"=some (some (.ref j6)))
  (i_Heap_init:PySem.W.isFn K (.ref j6)=true)
  (a_Heap_note:PySem.W.findIn K (.ref eR) "note"=some (some (.ref j8)))
  (i_Heap_note:PySem.W.isFn K (.ref j8)=true)
  (rQ:PySem.W.nsIn K mainGlobals "words_of"=some (some (.ref nK)))
  (Dm:PySem.W.nsIn K mainGlobals "aged"=some (some (.ref y6)))
  (qR:PySem.W.nsIn K mainGlobals "slot_place"=some (some (.ref km)))
  (mV:PySem.W.nsIn K mainGlobals "slot_places"=some (some (.ref jA)))
  (oO:PySem.W.nsIn K mainGlobals "_law_nowhere"=some (some (.ref iE)))
  (uZ:PySem.W.nsIn K mainGlobals "children"=some (some (.ref nG)))
  (a_Space_cells:PySem.W.findIn K (.ref dU) "cells"=some (some (.ref iq)))
  (i_Space_cells:PySem.W.isFn K (.ref iq)=true)
  (a_Areas_lay_into:PySem.W.findIn K (.ref eu) "lay_into"=some (some (.ref gz)))
  (i_Areas_lay_into:PySem.W.isFn K (.ref gz)=true)
  (a_Heap_place_of:PySem.W.findIn K (.ref eR) "place_of"=some (some (.ref gQ)))
  (i_Heap_place_of:PySem.W.isFn K (.ref gQ)=true)
  (lD:PySem.W.nsIn K mainGlobals "_law_planted"=some (some (.ref iF)))
  (z9:PySem.W.nsIn K mainGlobals "walks"=some (some (.ref uU)))
  (sN:PySem.W.nsIn K mainGlobals "has_stray"=some (some (.ref lu)))
  (ni:PySem.W.nsIn K mainGlobals "wanted_places"=some (some (.ref ie)))
  (ng:PySem.W.nsIn K mainGlobals "has_wrong_age"=some (some (.ref ic)))
  (a_Areas_lay_young:PySem.W.findIn K (.ref eu) "lay_young"=some (some (.ref gm)))
  (i_Areas_lay_young:PySem.W.isFn K (.ref gm)=true)
  (a_Areas_lay_old:PySem.W.findIn K (.ref eu) "lay_old"=some (some (.ref gP)))
  (i_Areas_lay_old:PySem.W.isFn K (.ref gP)=true)
  (a_Heap_put:PySem.W.findIn K (.ref eR) "put"=some (some (.ref lh)))
  (i_Heap_put:PySem.W.isFn K (.ref lh)=true)
  (oP:PySem.W.nsIn K mainGlobals "faults"=some (some (.ref rJ)))
  (a_Heap_make:PySem.W.findIn K (.ref eR) "make"=some (some (.ref j7)))
  (i_Heap_make:PySem.W.isFn K (.ref j7)=true)
  (sM:PySem.W.nsIn K mainGlobals "_law_made"=some (some (.ref lr)))
  (pX:PySem.W.nsIn K mainGlobals "_law_filled"=some (some (.ref jw)))
  (g_law:PySem.W.nsIn K mainGlobals "law"=some (some (.ref Hi)))
  (pT:PySem.W.nsIn K mainGlobals "NOTHING"=some (some (.int (-1) t_NOTHING)))
  (m7:PySem.W.nsIn K mainGlobals "MOST_NUMBER"=some (some (.int (1000000000000) t_MOST_NUMBER)))
  (rf:PySem.W.nsIn K mainGlobals "MOST_PLACE"=some (some (.int (9999) t_MOST_PLACE)))
  (o7:PySem.W.nsIn K mainGlobals "MOST_SLOTS"=some (some (.int (8) t_MOST_SLOTS)))
  (lN:PySem.W.nsIn K mainGlobals "MOST_AGE"=some (some (.int (2) t_MOST_AGE)))
  (rg:PySem.W.nsIn K mainGlobals "MOST_WORDS"=some (some (.int (4000) t_MOST_WORDS)))
  (kW:PySem.W.nsIn K mainGlobals "LEAST_OLD_WORDS"=some (some (.int (4) t_LEAST_OLD_WORDS)))
  (mE:PySem.W.nsIn K mainGlobals "MOST_OLD_WORDS"=some (some (.int (2000) t_MOST_OLD_WORDS)))
  (jM:PySem.W.nsIn K mainGlobals "LEAST_YOUNG_WORDS"=some (some (.int (2) t_LEAST_YOUNG_WORDS)))
  (kB:PySem.W.nsIn K mainGlobals "MOST_YOUNG_WORDS"=some (some (.int (500) t_MOST_YOUNG_WORDS)))
  (rd:PySem.W.nsIn K mainGlobals "MOST_HANDS"=some (some (.int (6) t_MOST_HANDS)))
  (HG:PySem.W.nsIn K mainGlobals "any"=some none)
  (F5:PySem.W.nsIn K mainGlobals "bool"=some none)
  (s_:PySem.W.nsIn K mainGlobals "enumerate"=some none)
  (Fm:PySem.W.nsIn K mainGlobals "int"=some none)
  (mB:PySem.W.nsIn K mainGlobals "isinstance"=some none)
  (uF:PySem.W.nsIn K mainGlobals "len"=some none)
  (ze:PySem.W.nsIn K mainGlobals "list"=some none)
  (Ke:PySem.W.nsIn K mainGlobals "max"=some none)
  (yh:PySem.W.nsIn K mainGlobals "range"=some none)
  (xa:PySem.W.nsIn K mainGlobals "sorted"=some none)
  (Kf:PySem.W.nsIn K mainGlobals "sum"=some none)
  (l_is_whole:iU K nI "is_whole" "is_whole" zl pB)
  (l_all_of:iU K rH "all_of" "all_of" DS um)
  (l_Space_init:iU K ji "__init__" "Space.__init__" vq lZ)
  (l_Space_room:iU K jj "room" "Space.room" vt l7)
  (l_Space_used:iU K jl "used" "Space.used" vw ma)
  (l_Space_extent:iU K g_ "extent" "Space.extent" r9 jS)
  (l_Book_init:iU K jW "__init__" "Book.__init__" xk nS)
  (l_Book_places:iU K ik "places" "Book.places" tV kD)
  (l_Hands_row:iU K jZ "row" "Hands.row" xn nV)
  (l_Lasts_init:iU K jf "__init__" "Lasts.__init__" vn lW)
  (l_Lasts_pending:iU K gR "pending" "Lasts.pending" nA iY)
  (l_Weak_init:iU K j_ "__init__" "Weak.__init__" xx oa)
  (l_Weak_names:iU K jm "names" "Weak.names" ra me)
  (l__law_draw:iU K lj "_law_draw" "_law_draw" xB oj)
  (l_is_within:iU K lA "is_within" "is_within" xF ou)
  (l_Space_take:iU K jk "take" "Space.take" vv l_)
  (l_Lasts_want_pending:iU K fS "want_pending" "Lasts.want_pending" lG gx)
  (l_Heap_is_for_young:iU K fY "is_for_young" "Heap.is_for_young" mM gL)
  (l_is_number:iU K lz "is_number" "is_number" xE ot)
  (l_is_place:iU K nH "is_place" "is_place" zk pA)
  (l_want_slots:iU K kq "want_slots" "want_slots" vB mn)
  (l_is_head:iU K pF "is_head" "is_head" Br rk)
  (l_fits:iU K y7 "fits" "fits" Jr Bb)
  (l_Memory_init:iU K il "__init__" "Memory.__init__" tW kE)
  (l_Memory_want_place:iU K fZ "want_place" "Memory.want_place" mO gN)
  (l_Space_has:iU K j9 "has" "Space.has" xw n_)
  (l_Hands_init:iU K jd "__init__" "Hands.__init__" vk lU)
  (l_Hands_want_hand:iU K gn "want_hand" "Hands.want_hand" oU hZ)
  (l_Weak_at:iU K oz "at" "Weak.at" Bq rj)
  (l_want_number:iU K jB "want_number" "want_number" t9 kM)
  (l_want_place:iU K kn "want_place" "want_place" vA mm)
  (l_kind:iU K y8 "kind" "kind" Js Bc)
  (l_Memory_read:iU K ip "read" "Memory.read" tX kF)
  (l_Hands_get:iU K jX "get" "Hands.get" xl nT)
  (l_Weak_want_standing:iU K fT "want_standing" "Weak.want_standing" lH gy)
  (l_Heap_want_hand:iU K gA "want_hand" "Heap.want_hand" pN iz)
  (l_number_word:iU K jz "number_word" "number_word" t7 kK)
  (l_place_word:iU K kj "place_word" "place_word" vy mh)
  (l_worth:iU K uV "worth" "worth" Gr x4)
  (l_Memory_write:iU K g8 "write" "Memory.write" r0 jQ)
  (l_Areas_init:iU K jb "__init__" "Areas.__init__" vi lS)
  (l_Book_write:iU K jc "write" "Book.write" vj lT)
  (l_Book_has:iU K la "has" "Book.has" zh pk)
  (l_Hands_put:iU K jY "put" "Hands.put" xm nU)
  (l_Lasts_give:iU K je "give" "Lasts.give" vm lV)
  (l_Lasts_move:iU K jg "move" "Lasts.move" vo lX)
  (l_Weak_name:iU K kb "name" "Weak.name" xA oh)
  (l_Weak_move:iU K ka "move" "Weak.move" xy og)
  (l_Roots_init:iU K jh "__init__" "Roots.__init__" vp lY)
  (l_Heap_held:iU K j4 "held" "Heap.held" xp nW)
  (l_Heap_want_make:iU K gB "want_make" "Heap.want_make" pO iA)
  (l_head_word:iU K lx "head_word" "head_word" xD oq)
  (l_head_number:iU K jx "head_number" "head_number" t5 kI)
  (l_stands_in:iU K lB "stands_in" "stands_in" xG ox)
  (l_Book_rub:iU K lb "rub" "Book.rub" zi pv)
  (l_Roots_starts:iU K g9 "starts" "Roots.starts" oV jR)
  (l_is_of_young:iU K jy "is_of_young" "is_of_young" t6 kJ)
  (l_Heap_hold:iU K j5 "hold" "Heap.hold" xq nX)
  (l_Heap_cell_of:iU K g7 "cell_of" "Heap.cell_of" rZ jP)
  (l__law_stray:iU K kh "_law_stray" "_law_stray" vx mf)
  (l_lay:iU K Dk "lay" "lay" Na E4)
  (l_slots_of:iU K nJ "slots_of" "slots_of" zm pC)
  (l_age_of:iU K rG "age_of" "age_of" DR uk)
  (l_Heap_init:iU K j6 "__init__" "Heap.__init__" xr nY)
  (l_Heap_note:iU K j8 "note" "Heap.note" xu n6)
  (l_words_of:iU K nK "words_of" "words_of" zo pE)
  (l_aged:iU K y6 "aged" "aged" Jq Ba)
  (l_slot_place:iU K km "slot_place" "slot_place" vz mj)
  (l_slot_places:iU K jA "slot_places" "slot_places" t8 kL)
  (l__law_nowhere:iU K iE "_law_nowhere" "_law_nowhere" r_ jT)
  (l_children:iU K nG "children" "children" sf pz)
  (l_Space_cells:iU K iq "cells" "Space.cells" tY kG)
  (l_Areas_lay_into:iU K gz "lay_into" "Areas.lay_into" pM iy)
  (l_Heap_place_of:iU K gQ "place_of" "Heap.place_of" qE iX)
  (l__law_planted:iU K iF "_law_planted" "_law_planted" se jU)
  (l_walks:iU K uU "walks" "walks" C1 xZ)
  (l_has_stray:iU K lu "has_stray" "has_stray" oE oo)
  (l_wanted_places:iU K ie "wanted_places" "wanted_places" nB i4)
  (l_has_wrong_age:iU K ic "has_wrong_age" "has_wrong_age" i7 iZ)
  (l_Areas_lay_young:iU K gm "lay_young" "Areas.lay_young" oS hV)
  (l_Areas_lay_old:iU K gP "lay_old" "Areas.lay_old" qD iW)
  (l_Heap_put:iU K lh "put" "Heap.put" zj pw)
  (l_faults:iU K rJ "faults" "faults" DT uo)
  (l_Heap_make:iU K j7 "make" "Heap.make" xt nZ)
  (l__law_made:iU K lr "_law_made" "_law_made" xC om)
  (l__law_filled:iU K jw "_law_filled" "_law_filled" tZ kH)
  (l_law:iU K Hi "law" "law" Cg JV)
  (jF:PySem.W.excIn K fO LD "ValueError.__new__"=true)
  (tF:PySem.W.excIn K i_ LD "ValueError.__new__"=true)
  (uK:PySem.W.excIn K iV LD "ValueError.__new__"=true)
  (xV:PySem.W.excIn K gH LD "ValueError.__new__"=true)
  (AY:PySem.W.excIn K g6 LD "ValueError.__new__"=true)
  (uL:PySem.W.excIn K k_ LD "ValueError.__new__"=true)
  (rq:PySem.W.excIn K fB LD "ValueError.__new__"=true)
  (AZ:PySem.W.excIn K jN LD "ValueError.__new__"=true)
  (A0:PySem.W.excIn K mR LD "ValueError.__new__"=true)
  (qa:PySem.W.excIn K gF LD "ValueError.__new__"=true)
  (nt:PySem.W.kitOne K (.type "NoneType") (.type "int")=some false)
  (my:PySem.W.kitOne K (.type "NoneType") (.type "bool")=some false)
  (sU:PySem.W.kitOne K (.type "bool") (.type "int")=some true)
  (qV:PySem.W.kitOne K (.type "bool") (.type "bool")=some true)
  (vd:PySem.W.kitOne K (.type "int") (.type "int")=some true)
  (sX:PySem.W.kitOne K (.type "int") (.type "bool")=some false)
  (ve:PySem.W.kitOne K (.type "str") (.type "int")=some false)
  (sZ:PySem.W.kitOne K (.type "str") (.type "bool")=some false)
  (sY:PySem.W.kitOne K (.type "list") (.type "int")=some false)
  (qX:PySem.W.kitOne K (.type "list") (.type "bool")=some false)
  (qY:PySem.W.kitOne K (.type "list") (.type "list")=some true)
  (qZ:PySem.W.kitOne K (.type "tuple") (.type "int")=some false)
  (p7:PySem.W.kitOne K (.type "tuple") (.type "bool")=some false)
  (sW:PySem.W.kitOne K (.type "dict") (.type "int")=some false)
  (qW:PySem.W.kitOne K (.type "dict") (.type "bool")=some false)
  (mq:PySem.W.exmOne K (.ref gH) (.ref gH)=some true)
  (jK:PySem.W.exmOne K (.ref jN) (.ref nR)=some true)
  :∃fd:FuncData,(∀(s:Shared) (v:Value),BindsTo s fd ⟨[v],[]⟩ [("_law_script",v)])/\∀base:Heap,K.In base->base.Ns mainGlobals mg->e_ l.prog w K mg base (gY l.prog w) true 14 fa fd ["_law_script"] (GU K):=by
 have e:=hfa.symm.trans (aC X G g_law)
 cases e
 obtain⟨oc,od,kV,dc,pm,an,cd,ct,sl,_,_,_,rfl⟩:=id l_law.ex
 let A:Ad:=⟨nI,pB,rH,um,ji,lZ,jj,l7,jl,ma,g_,jS,jW,nS,ik,kD,jZ,nV,jf,lW,gR,iY,j_,oa,jm,me,lj,oj,lA,ou,jk,l_,fS,gx,fY,gL,lz,ot,nH,pA,kq,mn,pF,rk,y7,Bb,il,kE,fZ,gN,j9,n_,jd,lU,gn,hZ,oz,rj,jB,kM,kn,mm,y8,Bc,ip,kF,jX,nT,fT,gy,gA,iz,jz,kK,kj,mh,uV,x4,g8,jQ,jb,lS,jc,lT,la,pk,jY,nU,je,lV,jg,lX,kb,oh,ka,og,jh,lY,j4,nW,gB,iA,lx,oq,jx,kI,lB,ox,lb,pv,g9,jR,jy,kJ,j5,nX,g7,jP,kh,mf,Dk,E4,nJ,pC,rG,uk,j6,nY,j8,n6,nK,pE,y6,Ba,km,mj,jA,kL,iE,jT,nG,pz,iq,kG,gz,iy,gQ,iX,iF,jU,uU,xZ,lu,oo,ie,i4,ic,iZ,gm,hV,gP,iW,lh,pw,rJ,uo,j7,nZ,lr,om,jw,kH,fa,(PySem.W.fnOf "law" "law" (uT Cg) (sD Cg) (dM Cg) .none kV dc pm an cd ct),nR,i_,iV,fO,fB,jN,mR,gH,g6,gF,k_,dP,dU,eu,eV,eN,fc,fw,eB,eR⟩
 have T:Txt K mg A:={
  sL:=aC X G sL,
  sJ:=aC X G sJ,
  uv:=aC X G uv,
  jC:=aC X G jC,
  rl:=aC X G rl,
  z7:=aC X G z7,
  z8:=aC X G z8,
  uw:=aC X G uw,
  z6:=aC X G z6,
  pW:=aC X G pW,
  ux:=aC X G ux,
  z5:=aC X G z5,
  x9:=aC X G x9,
  CO:=aC X G CO,
  FP:=aC X G FP,
  CP:=aC X G CP,
  CQ:=aC X G CQ,
  FR:=aC X G FR,
  CS:=aC X G CS,
  FQ:=aC X G FQ,
  gf:=⟨pg_Memory,hd_Memory,po_Memory,sa_Memory⟩,
  yg:=⟨yg,a_Memory_init,i_Memory_init,kc_Memory⟩,
  iL:=iL,
  i5:=i5,
  fG:=⟨pg_Space,hd_Space,po_Space,sa_Space⟩,
  uE:=⟨uE,a_Space_init,i_Space_init,kc_Space⟩,
  hJ:=hJ,
  jr:=jr,
  gK:=gK,
  eQ:=⟨pg_Areas,hd_Areas,po_Areas,sa_Areas⟩,
  Ao:=⟨Ao,a_Areas_init,i_Areas_init,kc_Areas⟩,
  d_:=d_,
  fN:=fN,
  fE:=fE,
  oR:=oR,
  jJ:=⟨pg_Book,hd_Book,po_Book,sa_Book⟩,
  CV:=⟨CV,a_Book_init,i_Book_init,kc_Book⟩,
  gS:=gS,
  jO:=⟨pg_Hands,hd_Hands,po_Hands,sa_Hands⟩,
  Ap:=⟨Ap,a_Hands_init,i_Hands_init,kc_Hands⟩,
  hE:=hE,
  ja:=⟨pg_Lasts,hd_Lasts,po_Lasts,sa_Lasts⟩,
  Aq:=⟨Aq,a_Lasts_init,i_Lasts_init,kc_Lasts⟩,
  fQ:=fQ,
  kC:=kC,
  m8:=⟨pg_Weak,hd_Weak,po_Weak,sa_Weak⟩,
  CZ:=⟨CZ,a_Weak_init,i_Weak_init,kc_Weak⟩,
  ig:=ig,
  f_:=⟨pg_Roots,hd_Roots,po_Roots,sa_Roots⟩,
  Ar:=⟨Ar,a_Roots_init,i_Roots_init,kc_Roots⟩,
  gJ:=gJ,
  gu:=gu,
  iN:=iN,
  iM:=iM,
  eU:=⟨pg_Heap,hd_Heap,po_Heap,sa_Heap⟩,
  CY:=⟨CY,a_Heap_init,i_Heap_init,kc_Heap⟩,
  eP:=eP,
  eT:=eT,
  nL:=aC X G nL,
  oB:=l_is_whole.fn,
  rE:=l_is_whole.fn.binds (ps:=["thing"]) λ_ _ _ _ _ _=>uM λ_=>rfl,
  wV:=aC X G wV,
  x8:=l_all_of.fn,
  C6:=l_all_of.fn.binds (ps:=["places"]) λ_ _ _ _ _ _=>uM λ_=>rfl,
  yD:=l_Space_init.fn,
  qJ:=l_Space_init.fn.binds (ps:=["self","begin","end"]) λ_ _ _ _ _ _=>y4 λ_ _ _=>rfl,
  Aj:=⟨a_Space_room,i_Space_room,l_Space_room.kp⟩,
  yE:=l_Space_room.fn,
  zE:=l_Space_room.fn.binds (ps:=["self"]) λ_ _ _ _ _ _=>uM λ_=>rfl,
  mz:=⟨a_Space_used,i_Space_used,l_Space_used.kp⟩,
  yG:=l_Space_used.fn,
  lQ:=l_Space_used.fn.binds (ps:=["self"]) λ_ _ _ _ _ _=>uM λ_=>rfl,
  rW:=⟨a_Space_extent,i_Space_extent,l_Space_extent.kp⟩,
  vS:=l_Space_extent.fn,
  rB:=l_Space_extent.fn.binds (ps:=["self"]) λ_ _ _ _ _ _=>uM λ_=>rfl,
  zO:=l_Book_init.fn,
  BJ:=l_Book_init.fn.binds (ps:=["self"]) λ_ _ _ _ _ _=>uM λ_=>rfl,
  tR:=⟨a_Book_places,i_Book_places,l_Book_places.kp⟩,
  wM:=l_Book_places.fn,
  tG:=l_Book_places.fn.binds (ps:=["self"]) λ_ _ _ _ _ _=>uM λ_=>rfl,
  B8:=⟨a_Hands_row,i_Hands_row,l_Hands_row.kp⟩,
  zR:=l_Hands_row.fn,
  BL:=l_Hands_row.fn.binds (ps:=["self"]) λ_ _ _ _ _ _=>uM λ_=>rfl,
  yA:=l_Lasts_init.fn,
  zB:=l_Lasts_init.fn.binds (ps:=["self"]) λ_ _ _ _ _ _=>uM λ_=>rfl,
  vV:=⟨a_Lasts_pending,i_Lasts_pending,l_Lasts_pending.kp⟩,
  uu:=l_Lasts_pending.fn,
  vM:=l_Lasts_pending.fn.binds (ps:=["self"]) λ_ _ _ _ _ _=>uM λ_=>rfl,
  zY:=l_Weak_init.fn,
  BP:=l_Weak_init.fn.binds (ps:=["self"]) λ_ _ _ _ _ _=>uM λ_=>rfl,
  Al:=⟨a_Weak_names,i_Weak_names,l_Weak_names.kp⟩,
  yH:=l_Weak_names.fn,
  zG:=l_Weak_names.fn.binds (ps:=["self"]) λ_ _ _ _ _ _=>uM λ_=>rfl,
  jo:=aC X G jo,
  jn:=l__law_draw.fn,
  kZ:=l__law_draw.fn.binds (ps:=["_law_script","_law_k"]) λ_ _ _ _ _ _=>sv λ_ _=>rfl,
  fL:=aC X G fL,
  fH:=l_is_within.fn,
  fX:=l_is_within.fn.binds (ps:=["thing","least","most"]) λ_ _ _ _ _ _=>y4 λ_ _ _=>rfl,
  Ak:=⟨a_Space_take,i_Space_take,l_Space_take.kp⟩,
  yF:=l_Space_take.fn,
  zF:=l_Space_take.fn.binds (ps:=["self","many"]) λ_ _ _ _ _ _=>sv λ_ _=>rfl,
  qp:=⟨a_Lasts_want_pending,i_Lasts_want_pending,l_Lasts_want_pending.kp⟩,
  o9:=l_Lasts_want_pending.fn,
  qe:=l_Lasts_want_pending.fn.binds (ps:=["self","ticket"]) λ_ _ _ _ _ _=>sv λ_ _=>rfl,
  qI:=⟨a_Heap_is_for_young,i_Heap_is_for_young,l_Heap_is_for_young.kp⟩,
  qg:=l_Heap_is_for_young.fn,
  qH:=l_Heap_is_for_young.fn.binds (ps:=["self","slots"]) λ_ _ _ _ _ _=>sv λ_ _=>rfl,
  qk:=aC X G qk,
  qO:=l_is_number.fn,
  wF:=l_is_number.fn.binds (ps:=["thing"]) λ_ _ _ _ _ _=>uM λ_=>rfl,
  rP:=aC X G rP,
  sH:=l_is_place.fn,
  yX:=l_is_place.fn.binds (ps:=["thing"]) λ_ _ _ _ _ _=>uM λ_=>rfl,
  mr:=aC X G mr,
  mT:=l_want_slots.fn,
  qK:=l_want_slots.fn.binds (ps:=["slots"]) λ_ _ _ _ _ _=>uM λ_=>rfl,
  x_:=aC X G x_,
  y9:=l_is_head.fn,
  EV:=l_is_head.fn.binds (ps:=["number"]) λ_ _ _ _ _ _=>uM λ_=>rfl,
  Dp:=aC X G Dp,
  CN:=l_fits.fn,
  IF:=l_fits.fn.binds (ps:=["memory","at","slots"]) λ_ _ _ _ _ _=>y4 λ_ _ _=>rfl,
  wN:=l_Memory_init.fn,
  yq:=l_Memory_init.fn.binds (ps:=["self","size"]) λ_ _ _ _ _ _=>sv λ_ _=>rfl,
  mL:=⟨a_Memory_want_place,i_Memory_want_place,l_Memory_want_place.kp⟩,
  qi:=l_Memory_want_place.fn,
  mJ:=l_Memory_want_place.fn.binds (ps:=["self","at"]) λ_ _ _ _ _ _=>sv λ_ _=>rfl,
  w_:=⟨a_Space_has,i_Space_has,l_Space_has.kp⟩,
  zX:=l_Space_has.fn,
  wB:=l_Space_has.fn.binds (ps:=["self","at"]) λ_ _ _ _ _ _=>sv λ_ _=>rfl,
  yy:=l_Hands_init.fn,
  zy:=l_Hands_init.fn.binds (ps:=["self","many"]) λ_ _ _ _ _ _=>sv λ_ _=>rfl,
  kT:=⟨a_Hands_want_hand,i_Hands_want_hand,l_Hands_want_hand.kp⟩,
  rL:=l_Hands_want_hand.fn,
  kP:=l_Hands_want_hand.fn.binds (ps:=["self","hand"]) λ_ _ _ _ _ _=>sv λ_ _=>rfl,
  Fj:=⟨a_Weak_at,i_Weak_at,l_Weak_at.kp⟩,
  Dl:=l_Weak_at.fn,
  EU:=l_Weak_at.fn.binds (ps:=["self","name"]) λ_ _ _ _ _ _=>sv λ_ _=>rfl,
  mW:=aC X G mW,
  oM:=l_want_number.fn,
  tK:=l_want_number.fn.binds (ps:=["thing"]) λ_ _ _ _ _ _=>uM λ_=>rfl,
  g5:=aC X G g5,
  gZ:=l_want_place.fn,
  i9:=l_want_place.fn.binds (ps:=["thing"]) λ_ _ _ _ _ _=>uM λ_=>rfl,
  qB:=aC X G qB,
  oJ:=l_kind.fn,
  tI:=l_kind.fn.binds (ps:=["word"]) λ_ _ _ _ _ _=>uM λ_=>rfl,
  p8:=⟨a_Memory_read,i_Memory_read,l_Memory_read.kp⟩,
  wO:=l_Memory_read.fn,
  pV:=l_Memory_read.fn.binds (ps:=["self","at"]) λ_ _ _ _ _ _=>sv λ_ _=>rfl,
  B7:=⟨a_Hands_get,i_Hands_get,l_Hands_get.kp⟩,
  zP:=l_Hands_get.fn,
  BK:=l_Hands_get.fn.binds (ps:=["self","hand"]) λ_ _ _ _ _ _=>sv λ_ _=>rfl,
  qr:=⟨a_Weak_want_standing,i_Weak_want_standing,l_Weak_want_standing.kp⟩,
  o_:=l_Weak_want_standing.fn,
  qf:=l_Weak_want_standing.fn.binds (ps:=["self","name"]) λ_ _ _ _ _ _=>sv λ_ _=>rfl,
  uC:=⟨a_Heap_want_hand,i_Heap_want_hand,l_Heap_want_hand.kp⟩,
  sF:=l_Heap_want_hand.fn,
  ue:=l_Heap_want_hand.fn.binds (ps:=["self","hand"]) λ_ _ _ _ _ _=>sv λ_ _=>rfl,
  pZ:=aC X G pZ,
  rO:=l_number_word.fn,
  yu:=l_number_word.fn.binds (ps:=["n"]) λ_ _ _ _ _ _=>uM λ_=>rfl,
  qQ:=aC X G qQ,
  tN:=l_place_word.fn,
  zI:=l_place_word.fn.binds (ps:=["at"]) λ_ _ _ _ _ _=>uM λ_=>rfl,
  p5:=aC X G p5,
  oN:=l_worth.fn,
  sC:=l_worth.fn.binds (ps:=["word"]) λ_ _ _ _ _ _=>uM λ_=>rfl,
  iK:=⟨a_Memory_write,i_Memory_write,l_Memory_write.kp⟩,
  vQ:=l_Memory_write.fn,
  iD:=l_Memory_write.fn.binds (ps:=["self","at","word"]) λ_ _ _ _ _ _=>y4 λ_ _ _=>rfl,
  yw:=l_Areas_init.fn,
  zx:=l_Areas_init.fn.binds (ps:=["self","old_words","young_words"]) λ_ _ _ _ _ _=>y4 λ_ _ _=>rfl,
  vf:=⟨a_Book_write,i_Book_write,l_Book_write.kp⟩,
  yx:=l_Book_write.fn,
  uR:=l_Book_write.fn.binds (ps:=["self","place"]) λ_ _ _ _ _ _=>sv λ_ _=>rfl,
  zd:=⟨a_Book_has,i_Book_has,l_Book_has.kp⟩,
  BZ:=l_Book_has.fn,
  yW:=l_Book_has.fn.binds (ps:=["self","place"]) λ_ _ _ _ _ _=>sv λ_ _=>rfl,
  w4:=⟨a_Hands_put,i_Hands_put,l_Hands_put.kp⟩,
  zQ:=l_Hands_put.fn,
  wu:=l_Hands_put.fn.binds (ps:=["self","hand","word"]) λ_ _ _ _ _ _=>y4 λ_ _ _=>rfl,
  Ah:=⟨a_Lasts_give,i_Lasts_give,l_Lasts_give.kp⟩,
  yz:=l_Lasts_give.fn,
  zA:=l_Lasts_give.fn.binds (ps:=["self","at","number"]) λ_ _ _ _ _ _=>y4 λ_ _ _=>rfl,
  Ai:=⟨a_Lasts_move,i_Lasts_move,l_Lasts_move.kp⟩,
  yB:=l_Lasts_move.fn,
  zC:=l_Lasts_move.fn.binds (ps:=["self","ticket","at"]) λ_ _ _ _ _ _=>y4 λ_ _ _=>rfl,
  Cb:=⟨a_Weak_name,i_Weak_name,l_Weak_name.kp⟩,
  z3:=l_Weak_name.fn,
  BR:=l_Weak_name.fn.binds (ps:=["self","at"]) λ_ _ _ _ _ _=>sv λ_ _=>rfl,
  Ca:=⟨a_Weak_move,i_Weak_move,l_Weak_move.kp⟩,
  zZ:=l_Weak_move.fn,
  BQ:=l_Weak_move.fn.binds (ps:=["self","name","at"]) λ_ _ _ _ _ _=>y4 λ_ _ _=>rfl,
  yC:=l_Roots_init.fn,
  zD:=l_Roots_init.fn.binds (ps:=["self","many"]) λ_ _ _ _ _ _=>sv λ_ _=>rfl,
  qo:=⟨a_Heap_held,i_Heap_held,l_Heap_held.kp⟩,
  zS:=l_Heap_held.fn,
  qc:=l_Heap_held.fn.binds (ps:=["self","hand"]) λ_ _ _ _ _ _=>sv λ_ _=>rfl,
  uD:=⟨a_Heap_want_make,i_Heap_want_make,l_Heap_want_make.kp⟩,
  sG:=l_Heap_want_make.fn,
  uf:=l_Heap_want_make.fn.binds (ps:=["self","hand","slots"]) λ_ _ _ _ _ _=>y4 λ_ _ _=>rfl,
  qj:=aC X G qj,
  qN:=l_head_word.fn,
  wD:=l_head_word.fn.binds (ps:=["slots","age"]) λ_ _ _ _ _ _=>sv λ_ _=>rfl,
  mU:=aC X G mU,
  oI:=l_head_number.fn,
  tH:=l_head_number.fn.binds (ps:=["memory","at"]) λ_ _ _ _ _ _=>sv λ_ _=>rfl,
  sO:=aC X G sO,
  uY:=l_stands_in.fn,
  BV:=l_stands_in.fn.binds (ps:=["memory","place","cells"]) λ_ _ _ _ _ _=>y4 λ_ _ _=>rfl,
  rV:=⟨a_Book_rub,i_Book_rub,l_Book_rub.kp⟩,
  B0:=l_Book_rub.fn,
  rA:=l_Book_rub.fn.binds (ps:=["self","place"]) λ_ _ _ _ _ _=>sv λ_ _=>rfl,
  w6:=⟨a_Roots_starts,i_Roots_starts,l_Roots_starts.kp⟩,
  vR:=l_Roots_starts.fn,
  wA:=l_Roots_starts.fn.binds (ps:=["self"]) λ_ _ _ _ _ _=>uM λ_=>rfl,
  pY:=aC X G pY,
  rN:=l_is_of_young.fn,
  yt:=l_is_of_young.fn.binds (ps:=["areas","word"]) λ_ _ _ _ _ _=>sv λ_ _=>rfl,
  B9:=⟨a_Heap_hold,i_Heap_hold,l_Heap_hold.kp⟩,
  zT:=l_Heap_hold.fn,
  BM:=l_Heap_hold.fn.binds (ps:=["self","hand","word"]) λ_ _ _ _ _ _=>y4 λ_ _ _=>rfl,
  lF:=⟨a_Heap_cell_of,i_Heap_cell_of,l_Heap_cell_of.kp⟩,
  vP:=l_Heap_cell_of.fn,
  kY:=l_Heap_cell_of.fn.binds (ps:=["self","hand"]) λ_ _ _ _ _ _=>sv λ_ _=>rfl,
  qP:=aC X G qP,
  tM:=l__law_stray.fn,
  zH:=l__law_stray.fn.binds (ps:=["_law_heap","_law_way","_law_at","_law_nowhere_here"]) λ_ _ _ _ _ _=>QT λ_ _ _ _=>rfl,
  J1:=aC X G J1,
  IQ:=l_lay.fn,
  OU:=l_lay.fn.binds (ps:=["memory","at","slots"]) λ_ _ _ _ _ _=>y4 λ_ _ _=>rfl,
  iG:=aC X G iG,
  ir:=l_slots_of.fn,
  kg:=l_slots_of.fn.binds (ps:=["memory","at"]) λ_ _ _ _ _ _=>sv λ_ _=>rfl,
  wU:=aC X G wU,
  x5:=l_age_of.fn,
  C5:=l_age_of.fn.binds (ps:=["memory","at"]) λ_ _ _ _ _ _=>sv λ_ _=>rfl,
  zU:=l_Heap_init.fn,
  BN:=l_Heap_init.fn.binds (ps:=["self","hands","old_words","young_words"]) λ_ _ _ _ _ _=>QT λ_ _ _ _=>rfl,
  B_:=⟨a_Heap_note,i_Heap_note,l_Heap_note.kp⟩,
  zW:=l_Heap_note.fn,
  BO:=l_Heap_note.fn.binds (ps:=["self","place","word"]) λ_ _ _ _ _ _=>y4 λ_ _ _=>rfl,
  rQ:=aC X G rQ,
  sI:=l_words_of.fn,
  yY:=l_words_of.fn.binds (ps:=["memory","at"]) λ_ _ _ _ _ _=>sv λ_ _=>rfl,
  Dm:=aC X G Dm,
  CM:=l_aged.fn,
  IE:=l_aged.fn.binds (ps:=["memory","at","age"]) λ_ _ _ _ _ _=>y4 λ_ _ _=>rfl,
  qR:=aC X G qR,
  tO:=l_slot_place.fn,
  zJ:=l_slot_place.fn.binds (ps:=["memory","at","slot"]) λ_ _ _ _ _ _=>y4 λ_ _ _=>rfl,
  mV:=aC X G mV,
  oK:=l_slot_places.fn,
  tJ:=l_slot_places.fn.binds (ps:=["memory","at"]) λ_ _ _ _ _ _=>sv λ_ _=>rfl,
  oO:=aC X G oO,
  qA:=l__law_nowhere.fn,
  wC:=l__law_nowhere.fn.binds (ps:=["_law_heap","_law_cells","_law_draw_here"]) λ_ _ _ _ _ _=>y4 λ_ _ _=>rfl,
  uZ:=aC X G uZ,
  wR:=l_children.fn,
  C7:=l_children.fn.binds (ps:=["memory","at"]) λ_ _ _ _ _ _=>sv λ_ _=>rfl,
  iw:=⟨a_Space_cells,i_Space_cells,l_Space_cells.kp⟩,
  wQ:=l_Space_cells.fn,
  ij:=l_Space_cells.fn.binds (ps:=["self","memory"]) λ_ _ _ _ _ _=>sv λ_ _=>rfl,
  pL:=⟨a_Areas_lay_into,i_Areas_lay_into,l_Areas_lay_into.kp⟩,
  sE:=l_Areas_lay_into.fn,
  pf:=l_Areas_lay_into.fn.binds (ps:=["self","space","slots","age"]) λ_ _ _ _ _ _=>QT λ_ _ _ _=>rfl,
  vU:=⟨a_Heap_place_of,i_Heap_place_of,l_Heap_place_of.kp⟩,
  ur:=l_Heap_place_of.fn,
  vL:=l_Heap_place_of.fn.binds (ps:=["self","hand","slot"]) λ_ _ _ _ _ _=>y4 λ_ _ _=>rfl,
  lD:=aC X G lD,
  m_:=l__law_planted.fn,
  rC:=l__law_planted.fn.binds (ps:=["_law_heap","_law_cells","_law_way","_law_at","_law_draw_here"]) λ_ _ _ _ _ _=>SK λ_ _ _ _ _=>rfl,
  z9:=aC X G z9,
  z4:=l_walks.fn,
  FE:=l_walks.fn.binds (ps:=["memory","space"]) λ_ _ _ _ _ _=>sv λ_ _=>rfl,
  sN:=aC X G sN,
  uX:=l_has_stray.fn,
  BU:=l_has_stray.fn.binds (ps:=["areas","roots"]) λ_ _ _ _ _ _=>sv λ_ _=>rfl,
  ni:=aC X G ni,
  pH:=l_wanted_places.fn,
  vO:=l_wanted_places.fn.binds (ps:=["areas"]) λ_ _ _ _ _ _=>uM λ_=>rfl,
  ng:=aC X G ng,
  pG:=l_has_wrong_age.fn,
  vN:=l_has_wrong_age.fn.binds (ps:=["areas"]) λ_ _ _ _ _ _=>uM λ_=>rfl,
  s9:=⟨a_Areas_lay_young,i_Areas_lay_young,l_Areas_lay_young.kp⟩,
  rK:=l_Areas_lay_young.fn,
  sA:=l_Areas_lay_young.fn.binds (ps:=["self","slots"]) λ_ _ _ _ _ _=>sv λ_ _=>rfl,
  vT:=⟨a_Areas_lay_old,i_Areas_lay_old,l_Areas_lay_old.kp⟩,
  uq:=l_Areas_lay_old.fn,
  vK:=l_Areas_lay_old.fn.binds (ps:=["self","slots"]) λ_ _ _ _ _ _=>sv λ_ _=>rfl,
  DI:=⟨a_Heap_put,i_Heap_put,l_Heap_put.kp⟩,
  B1:=l_Heap_put.fn,
  C4:=l_Heap_put.fn.binds (ps:=["self","hand","slot","word"]) λ_ _ _ _ _ _=>QT λ_ _ _ _=>rfl,
  oP:=aC X G oP,
  oA:=l_faults.fn,
  rD:=l_faults.fn.binds (ps:=["areas","roots"]) λ_ _ _ _ _ _=>sv λ_ _=>rfl,
  w5:=⟨a_Heap_make,i_Heap_make,l_Heap_make.kp⟩,
  zV:=l_Heap_make.fn,
  wz:=l_Heap_make.fn.binds (ps:=["self","hand","slots"]) λ_ _ _ _ _ _=>y4 λ_ _ _=>rfl,
  sM:=aC X G sM,
  uW:=l__law_made.fn,
  BS:=l__law_made.fn.binds (ps:=["_law_heap","_law_hand","_law_slots"]) λ_ _ _ _ _ _=>y4 λ_ _ _=>rfl,
  pX:=aC X G pX,
  rM:=l__law_filled.fn,
  yr:=l__law_filled.fn.binds (ps:=["_law_heap","_law_cell"]) λ_ _ _ _ _ _=>sv λ_ _=>rfl,
  Mf:=l_law.fn,
  pT:=⟨_,aC X G pT,⟨_,rfl⟩⟩,
  m7:=⟨_,aC X G m7,⟨_,rfl⟩⟩,
  rf:=⟨_,aC X G rf,⟨_,rfl⟩⟩,
  o7:=⟨_,aC X G o7,⟨_,rfl⟩⟩,
  lN:=⟨_,aC X G lN,⟨_,rfl⟩⟩,
  rg:=⟨_,aC X G rg,⟨_,rfl⟩⟩,
  kW:=⟨_,aC X G kW,⟨_,rfl⟩⟩,
  mE:=⟨_,aC X G mE,⟨_,rfl⟩⟩,
  jM:=⟨_,aC X G jM,⟨_,rfl⟩⟩,
  kB:=⟨_,aC X G kB,⟨_,rfl⟩⟩,
  rd:=⟨_,aC X G rd,⟨_,rfl⟩⟩,
  jF:=jF,
  tF:=tF,
  uK:=uK,
  xV:=xV,
  mq:=mq,
  AY:=AY,
  uL:=uL,
  rq:=rq,
  AZ:=AZ,
  jK:=jK,
  A0:=A0,
  qa:=qa,
  nt:=nt,
  my:=my,
  sU:=sU,
  qV:=qV,
  vd:=vd,
  sX:=sX,
  ve:=ve,
  sZ:=sZ,
  sY:=sY,
  qX:=qX,
  qY:=qY,
  qZ:=qZ,
  p7:=p7,
  sW:=sW,
  qW:=qW,
  HG:=bB X G HG,
  F5:=bB X G F5,
  s_:=bB X G s_,
  Fm:=bB X G Fm,
  mB:=bB X G mB,
  uF:=bB X G uF,
  ze:=bB X G ze,
  Ke:=bB X G Ke,
  yh:=bB X G yh,
  xa:=bB X G xa,
  Kf:=bB X G Kf}
 exact⟨_,λs v=> .of_eq rfl,λbase _ _=>Qa T⟩
theorem walk{l:PySem.W.OpenLaw}{q:Program}{loose:List Str}{XP:(Str->Option Value)->Heap->Prop}{YP:World->Heap->Prop}{d:DefRec}{K:Params->PySem.W.Frag}(hn:l.most=some 63)(hdf:d.params.defaults=[])
  (hY:∀(w:World) (h:Heap),YP w h->(K w.params).In h)
  (F:∀(w:World) (mg:Str->Option Value) (fa:Addr) (h:Heap),(K w.params).In h->h.Ns mainGlobals mg->mg d.name=some (.ref fa)->
   ∃fd:FuncData,(∀(s:Shared) (u:Value),BindsTo s fd ⟨[u],[]⟩ [("_law_script",u)])/\∀base:Heap,(K w.params).In base->base.Ns mainGlobals mg->e_ l.prog w (K w.params) mg base (gY l.prog w) true 14 fa fd ["_law_script"] (GU (K w.params))):
  PySem.W.WalkO q loose XP YP l.row.toRowW d [] (λf vs=>PySem.call f vs):=
 L2.OP (n:=63) (k:=14) (x:="_law_script") (ca:=true) (CX:=λw=>gY l.prog w) (sp:=λw=>GU (K w.params)) hn (by decide) hdf ⟨λ_=>rfl,by decide,by decide⟩ hY F (λ_ _ a ns hl _ hS=>⟨a,ns,rfl,hS,hl,λ_=>rfl⟩)
  λ_ _ _ _ _ ⟨_,_,_,_,_,_,_,_,_,_,_,_,z⟩=>z
end
end K20
namespace PySem.W.Fast
theorem tw1957628469483808846:True:=trivial
theorem tw17026694967377949674:True:=trivial
theorem tw1848868213985744412:True:=trivial
theorem tw3228134194708410618:True:=trivial
theorem tw4195002503412839969:True:=trivial
theorem tw9322626615935731905:True:=trivial
theorem tw12236494753620310002:True:=trivial
theorem tw18024600600861166969:True:=trivial
theorem tw16792692994857196734:True:=trivial
theorem tw11285354679584766834:True:=trivial
theorem tw17025924071037104363:True:=trivial
theorem tw7114569410236180116:True:=trivial
theorem tw9440618010926502284:True:=trivial
theorem tw9659647987600275463:True:=trivial
theorem tw1991724895722228011:True:=trivial
theorem tw806246714207390019:True:=trivial
theorem tw13397895205346871045:True:=trivial
theorem tw11754822313468450025:True:=trivial
theorem tw11095127056173106365:True:=trivial
theorem tw4864571284221038236:True:=trivial
theorem tw3921683467524239815:True:=trivial
theorem tw14585709457888654982:True:=trivial
theorem tw13931367023939379322:True:=trivial
theorem tw12742926062119572322:True:=trivial
theorem tw18111741728246941844:True:=trivial
theorem tw16984122380824585433:True:=trivial
theorem tw9882135189318300104:True:=trivial
theorem tw15892947718538792508:True:=trivial
theorem tw10002203922510078465:True:=trivial
theorem tw7949514132969347673:True:=trivial
theorem tw4396248302025405604:True:=trivial
theorem tw7203068750266709852:True:=trivial
theorem tw17435338533183488335:True:=trivial
theorem tw8745113646413964655:True:=trivial
theorem tw11917381444280405566:True:=trivial
theorem tw10428594765921829943:True:=trivial
theorem tw16434965711004999623:True:=trivial
theorem tw3813565032474526992:True:=trivial
theorem tw3080342688887803667:True:=trivial
theorem tw14106621338635518215:True:=trivial
theorem tw15798960427130065907:True:=trivial
theorem tw1210540781302722707:True:=trivial
theorem tw14454725397234995742:True:=trivial
theorem tw13556776110520434623:True:=trivial
theorem tw147846283312247972:True:=trivial
theorem tw12255091424380649041:True:=trivial
theorem tw16056976341906710197:True:=trivial
theorem tw808503223373863886:True:=trivial
theorem tw15487600059264586039:True:=trivial
theorem tw17880783632196192964:True:=trivial
theorem tw13671478579211646535:True:=trivial
theorem tw16821170492215088917:True:=trivial
theorem tw18368022510507938184:True:=trivial
theorem tw8311927119416098898:True:=trivial
theorem tw12396978531058671986:True:=trivial
theorem tw2881163605546036946:True:=trivial
theorem tw16579916474542104484:True:=trivial
theorem tw12779588059649611515:True:=trivial
theorem tw1601759821491772798:True:=trivial
theorem tw13718489565787352999:True:=trivial
theorem tw14390192970379587756:True:=trivial
theorem tw11933825482336193576:True:=trivial
theorem tw12059646643980723176:True:=trivial
theorem tw5856876542802057061:True:=trivial
theorem tw10940797628684034341:True:=trivial
theorem tw3607773213969340885:True:=trivial
theorem tw16953798156198578623:True:=trivial
theorem tw14249294398610841985:True:=trivial
theorem tw4098675588387538362:True:=trivial
theorem tw17080685673483882102:True:=trivial
theorem tw3728017477895914991:True:=trivial
theorem tw15678110952363495473:True:=trivial
theorem tw5513731977985167295:True:=trivial
theorem tw10146363170815967381:True:=trivial
theorem tw7030003876093333175:True:=trivial
theorem tw15027929262114853675:True:=trivial
theorem tw943755034061000641:True:=trivial
theorem tw6222396157252819403:True:=trivial
theorem tw2917322631200619830:True:=trivial
theorem tw18115882775392864669:True:=trivial
theorem tw176505177472898816:True:=trivial
theorem tw16113038643053062948:True:=trivial
theorem tw1424043032852907791:True:=trivial
theorem tw8605074366900842874:True:=trivial
theorem tw8224920957533190701:True:=trivial
theorem tw4046683473000692181:True:=trivial
theorem tw11572408383423604855:True:=trivial
theorem tw4188416253318089565:True:=trivial
theorem tw7001408325141191045:True:=trivial
theorem tw1264830754350346578:True:=trivial
theorem tw13858492868697313286:True:=trivial
theorem tw7067036240755905151:True:=trivial
theorem tw15808522427770712127:True:=trivial
theorem tw570519438611628297:True:=trivial
theorem tw11104970626984403208:True:=trivial
theorem tw5704532528718928245:True:=trivial
theorem tw13428428484560120547:True:=trivial
theorem tw15709821138404418058:True:=trivial
theorem tw13032607900296219117:True:=trivial
theorem tw16603679234289545211:True:=trivial
theorem tw2657441841299029684:True:=trivial
theorem tw8889452489138032448:True:=trivial
theorem tw17952407680427429621:True:=trivial
theorem tw2562725539683331401:True:=trivial
theorem tw695678278525951582:True:=trivial
theorem tw9118079843463795097:True:=trivial
theorem tw11683407962403093713:True:=trivial
theorem tw7635781268167249921:True:=trivial
theorem tw11544621996457340429:True:=trivial
theorem tw12423694115163457097:True:=trivial
theorem tw17761019995717563076:True:=trivial
theorem tw7986216883427108187:True:=trivial
theorem tw12030350630355894565:True:=trivial
theorem tw2395055934088724440:True:=trivial
theorem tw9191770134684414120:True:=trivial
theorem tw3852211126533087883:True:=trivial
theorem tw72006173683579507:True:=trivial
theorem tw622567094693802854:True:=trivial
theorem tw13057599010995658409:True:=trivial
theorem tw8942587956046183300:True:=trivial
theorem tw9764334254869003490:True:=trivial
theorem tw15891948268223981292:True:=trivial
theorem tw5841870841342577634:True:=trivial
theorem tw7297061192570376082:True:=trivial
theorem tw8724511136247015092:True:=trivial
theorem tw17268430933221246378:True:=trivial
theorem tw4984693659906606646:True:=trivial
theorem tw10428935826867955202:True:=trivial
theorem tw4820305490903631465:True:=trivial
theorem tw11726515800007092816:True:=trivial
theorem tw902944568562674590:True:=trivial
theorem tw11988914561273998617:True:=trivial
theorem tw13396052165262368910:True:=trivial
theorem tw6692815071148980044:True:=trivial
theorem tw11705418591280744760:True:=trivial
theorem tw17517084040097868924:True:=trivial
theorem tw18176007111385731814:True:=trivial
theorem tw12140940211551239358:True:=trivial
theorem tw14188241603343468371:True:=trivial
theorem tw14521906410147639486:True:=trivial
theorem tw1227076683973604731:True:=trivial
theorem tw8622740088679094025:True:=trivial
theorem tw10591683015537476669:True:=trivial
theorem tw462452249424661562:True:=trivial
theorem tw1285445704605993642:True:=trivial
theorem tw16111559260842937116:True:=trivial
theorem tw1757627205102649607:True:=trivial
theorem tw13341672467309619742:True:=trivial
theorem tw14519203086185884474:True:=trivial
theorem tw5511195970180076121:True:=trivial
theorem tw8668427216593277409:True:=trivial
theorem tw10039421916504942313:True:=trivial
theorem tw5182585519229859390:True:=trivial
theorem tw10993572195975134567:True:=trivial
theorem tw13071980396474666893:True:=trivial
theorem tw15068906628500663646:True:=trivial
theorem tw456683434225159253:True:=trivial
theorem tw13001445159342108539:True:=trivial
theorem tw16544516370061025748:True:=trivial
theorem tw3920475946941359806:True:=trivial
theorem tw3894103582349486768:True:=trivial
theorem tw7910222396116102634:True:=trivial
theorem tw1379224111385881559:True:=trivial
theorem tw18017044401042304877:True:=trivial
theorem tw13264165937691000153:True:=trivial
theorem tw12339227055330756196:True:=trivial
theorem tw4970733280243278206:True:=trivial
theorem tw9342099494306004515:True:=trivial
theorem tw12441719940684562446:True:=trivial
theorem tw17898816056791414285:True:=trivial
theorem tw9375444836403225905:True:=trivial
theorem tw12083546157005644157:True:=trivial
theorem tw9462368984419791670:True:=trivial
theorem tw10805367353679480833:True:=trivial
theorem tw8054168725079561206:True:=trivial
theorem tw436586282631712184:True:=trivial
theorem tw4337175976388450811:True:=trivial
theorem tw13792584037890925622:True:=trivial
theorem tw17511396575218925520:True:=trivial
theorem tw7943179538896834044:True:=trivial
theorem tw1764709739360610080:True:=trivial
theorem tw5544189663577662687:True:=trivial
theorem tw1767808192268067318:True:=trivial
theorem tw16122051135090676193:True:=trivial
theorem tw16681504365845163942:True:=trivial
theorem tw11709536078782439913:True:=trivial
theorem tw16203927692365448501:True:=trivial
theorem tw75649323129320445:True:=trivial
theorem tw7978466480441600177:True:=trivial
theorem tw8674150636326552318:True:=trivial
theorem tw8119323701069143121:True:=trivial
theorem tw8633919462394376419:True:=trivial
theorem tw5713089730178386965:True:=trivial
theorem tw2296714287843260123:True:=trivial
theorem tw16020930067225945527:True:=trivial
theorem tw11534462223579382490:True:=trivial
theorem tw15393380603391572749:True:=trivial
theorem tw16100942166842123426:True:=trivial
theorem tw12465020437358653448:True:=trivial
theorem tw14828212760419743507:True:=trivial
theorem tw15118680906152762412:True:=trivial
theorem tw14989095287082329803:True:=trivial
theorem tw9625716406379683321:True:=trivial
theorem tw7348004718704357397:True:=trivial
theorem tw10730751213088166149:True:=trivial
theorem tw11768088368515229808:True:=trivial
theorem tw871631282455163575:True:=trivial
theorem tw6130958059368930212:True:=trivial
theorem tw6336470315001394361:True:=trivial
theorem tw4892603401580480927:True:=trivial
theorem tw1320508580856979255:True:=trivial
theorem tw11925767417913113633:True:=trivial
theorem tw16123250516102759908:True:=trivial
theorem tw11124451876001383543:True:=trivial
theorem tw9235758963409597512:True:=trivial
theorem tw8781753962573227799:True:=trivial
theorem tw13467738677443690552:True:=trivial
theorem tw16625797108267660853:True:=trivial
theorem tw8577794172967939311:True:=trivial
theorem tw11860723533798551042:True:=trivial
theorem tw10736660181019118859:True:=trivial
theorem tw3982398269572176003:True:=trivial
theorem tw10445037561059612745:True:=trivial
theorem tw13905714122422673823:True:=trivial
theorem tw14837974289813103980:True:=trivial
theorem tw1018626536035566547:True:=trivial
theorem tw10842374405801715085:True:=trivial
theorem tw4615192125765721880:True:=trivial
theorem tw14678776663165625418:True:=trivial
theorem tw11845198669178776991:True:=trivial
theorem tw8859679191374548496:True:=trivial
theorem tw5465920086057739672:True:=trivial
theorem tw14837809980881197901:True:=trivial
theorem tw7712962971135290245:True:=trivial
theorem tw16325200186406161722:True:=trivial
theorem tw11606989645833119160:True:=trivial
theorem tw14003847620303637946:True:=trivial
theorem tw13669569883659642286:True:=trivial
theorem tw927384400800210852:True:=trivial
theorem tw2899832411436473012:True:=trivial
theorem tw2237652891028674820:True:=trivial
theorem tw17301771748891516138:True:=trivial
theorem tw6281393811467759160:True:=trivial
theorem tw13212547821444629840:True:=trivial
theorem tw17701561062268889371:True:=trivial
theorem tw10702547914013501160:True:=trivial
theorem tw3629801139258800720:True:=trivial
theorem tw12614220446594600971:True:=trivial
theorem tw1625657114821320069:True:=trivial
theorem tw13137123656021574925:True:=trivial
theorem tw16453237309784297328:True:=trivial
theorem tw3291181064268800666:True:=trivial
theorem tw3961167075573952708:True:=trivial
theorem tw7606278499507302131:True:=trivial
theorem tw10152298039312195411:True:=trivial
theorem tw2980003856534925199:True:=trivial
theorem tw17114889752772807516:True:=trivial
theorem tw15925504416229186458:True:=trivial
theorem tw2716803907481854462:True:=trivial
theorem tw13486961289176452468:True:=trivial
theorem tw4013118943725539449:True:=trivial
theorem tw8901590364145967210:True:=trivial
theorem tw15567607582356161836:True:=trivial
theorem tw7837672640601582218:True:=trivial
theorem tw14580173942157503821:True:=trivial
theorem tw8847689569721314227:True:=trivial
theorem tw3276248625493715233:True:=trivial
theorem tw2674961879426593296:True:=trivial
theorem tw5538898999822063993:True:=trivial
theorem tw9370664485382153467:True:=trivial
theorem tw10434475050693190018:True:=trivial
theorem tw18368194465184838864:True:=trivial
theorem tw1576212979110274642:True:=trivial
theorem tw17005977754838393393:True:=trivial
theorem tw8646463146409050034:True:=trivial
theorem tw10899322877194374544:True:=trivial
theorem tw9197711791469429245:True:=trivial
theorem tw6175637142891887443:True:=trivial
theorem tw13950629029010173251:True:=trivial
theorem tw3175078525889660023:True:=trivial
theorem tw5385235954306127878:True:=trivial
theorem tw9033963451743759449:True:=trivial
theorem tw5998863423180358948:True:=trivial
theorem tw244660016586940643:True:=trivial
theorem tw3219442494242246473:True:=trivial
theorem tw7569858150774388281:True:=trivial
theorem tw6473892803853833202:True:=trivial
theorem tw11517250945479931578:True:=trivial
theorem tw17648377438993537397:True:=trivial
theorem tw7813885556596583114:True:=trivial
theorem tw4312010474855348617:True:=trivial
theorem tw6371577668845916291:True:=trivial
theorem tw10328292062622008476:True:=trivial
theorem tw10921467726776960717:True:=trivial
theorem tw4624178173727378767:True:=trivial
theorem tw4480497680892642813:True:=trivial
theorem tw8822965131681001696:True:=trivial
theorem tw6501161302829550430:True:=trivial
theorem tw15266580511237813833:True:=trivial
theorem tw6989731502084069552:True:=trivial
theorem tw6686118632882245363:True:=trivial
theorem tw5834152601271519234:True:=trivial
theorem tw2506982842774143385:True:=trivial
theorem tw335481007952183864:True:=trivial
theorem tw3146360361365938574:True:=trivial
theorem tw12806199297985647701:True:=trivial
theorem tw13929257103688606697:True:=trivial
theorem tw8615579701717696149:True:=trivial
theorem tw1588078699729644867:True:=trivial
theorem tw9681837647801472936:True:=trivial
theorem tw8722116860786229327:True:=trivial
theorem tw8904113993327485406:True:=trivial
theorem tw5475329603008624009:True:=trivial
theorem tw6523157923099831725:True:=trivial
theorem tw12667563187701288835:True:=trivial
theorem tw16925620229429229235:True:=trivial
theorem tw16756664635663626147:True:=trivial
theorem tw7611069384390345032:True:=trivial
theorem tw5494549813658089704:True:=trivial
theorem tw12878885263793666471:True:=trivial
theorem tw4095666305981331325:True:=trivial
theorem tw4657027882586143876:True:=trivial
theorem tw10942455256622096780:True:=trivial
theorem tw6103570307495282943:True:=trivial
theorem tw16959488770806537309:True:=trivial
theorem tw7662155705943952892:True:=trivial
theorem tw10651134248857845993:True:=trivial
theorem tw8450745498599408085:True:=trivial
theorem tw657795235610853096:True:=trivial
theorem tw14374398159487881826:True:=trivial
theorem tw14134410357878560973:True:=trivial
theorem tw9739914911980625702:True:=trivial
theorem tw12138527953542141501:True:=trivial
theorem tw16583229003365014547:True:=trivial
theorem tw10571572689888283669:True:=trivial
theorem tw14274819604792846815:True:=trivial
theorem tw812937089132598374:True:=trivial
theorem tw1559862209103923742:True:=trivial
theorem tw12376970130932896586:True:=trivial
theorem tw2493501578414406125:True:=trivial
theorem tw13496547451238763434:True:=trivial
theorem tw12799057668060465209:True:=trivial
theorem tw2477473952194234237:True:=trivial
theorem tw4766683848518524863:True:=trivial
theorem tw10582343147162481085:True:=trivial
theorem tw12896015871685103039:True:=trivial
theorem tw483038571083761339:True:=trivial
theorem tw9021146013482926709:True:=trivial
theorem tw16287511224787005479:True:=trivial
theorem tw6058716404238091228:True:=trivial
theorem tw5905610333070969680:True:=trivial
theorem tw9443386901536526513:True:=trivial
theorem tw6476995319367601713:True:=trivial
theorem tw11471401804616985437:True:=trivial
theorem tw1899970914078375859:True:=trivial
theorem tw3831153891356430824:True:=trivial
theorem tw15527668940444516276:True:=trivial
theorem tw10619557323948788241:True:=trivial
theorem tw15320060407854097239:True:=trivial
theorem tw13395746943831868120:True:=trivial
theorem tw16802331196950876990:True:=trivial
theorem tw16318568206582215947:True:=trivial
theorem tw6936286639962376456:True:=trivial
theorem tw12538850238608822587:True:=trivial
theorem tw10326228803628313750:True:=trivial
theorem tw12916891203628635810:True:=trivial
theorem tw884467021673545182:True:=trivial
theorem tw17558861433097977110:True:=trivial
theorem tw2522484388344264725:True:=trivial
theorem tw8825818871676405391:True:=trivial
theorem tw4900979377495935185:True:=trivial
theorem tw2385274710734821718:True:=trivial
theorem tw8786807403379250354:True:=trivial
theorem tw3550725316748185683:True:=trivial
theorem tw17273665661962847694:True:=trivial
theorem tw17416191230952038126:True:=trivial
theorem tw17450363666343076830:True:=trivial
theorem tw17039829943707498893:True:=trivial
theorem tw10064166606068457166:True:=trivial
theorem tw1153803463316379296:True:=trivial
theorem tw11399265575078570680:True:=trivial
theorem tw17368106926558093268:True:=trivial
theorem tw8919698507984779099:True:=trivial
theorem tw8812339721697335175:True:=trivial
theorem tw16023885172764620151:True:=trivial
theorem tw12968632535548119435:True:=trivial
theorem tw17869917298651243306:True:=trivial
theorem tw1861648621904849052:True:=trivial
theorem tw15358457981023223606:True:=trivial
theorem tw714708583334869016:True:=trivial
theorem tw11603954006812850118:True:=trivial
theorem tw12254785107883210528:True:=trivial
theorem tw1792168609894217265:True:=trivial
theorem tw721997557037548837:True:=trivial
theorem tw5442879226718022004:True:=trivial
theorem tw5484850187059896126:True:=trivial
theorem tw9801872884402570324:True:=trivial
theorem tw9146508112511981556:True:=trivial
theorem tw13014041309300692396:True:=trivial
theorem tw6818568234582820726:True:=trivial
theorem tw3237524749763379905:True:=trivial
theorem tw867910251472866094:True:=trivial
theorem tw3411626615667846183:True:=trivial
theorem tw4934139910062785869:True:=trivial
theorem tw15994312122532621066:True:=trivial
theorem tw10754497402795738602:True:=trivial
theorem tw13804764267254991515:True:=trivial
theorem tw13028167276784633208:True:=trivial
theorem tw2821257598955768783:True:=trivial
theorem tw5086100792911359000:True:=trivial
theorem tw12499041022027000209:True:=trivial
theorem tw2140373820831116871:True:=trivial
theorem tw4229523796432939585:True:=trivial
theorem tw18420104995695821421:True:=trivial
theorem tw1405229977676448925:True:=trivial
theorem tw11673096146766611996:True:=trivial
theorem tw4099580762392999724:True:=trivial
theorem tw12161091764574018993:True:=trivial
theorem tw12832258605879371150:True:=trivial
theorem tw8392025594401700671:True:=trivial
theorem tw8222549674340166485:True:=trivial
theorem tw12245581377741200323:True:=trivial
theorem tw8834056516546673342:True:=trivial
theorem tw16841808716072519228:True:=trivial
theorem tw3998187723717190477:True:=trivial
theorem tw2753608618736314088:True:=trivial
theorem tw16172694296772671450:True:=trivial
theorem tw413836266004918371:True:=trivial
theorem tw16079178664545961929:True:=trivial
theorem tw18444482588509277641:True:=trivial
theorem tw6081734093954376875:True:=trivial
theorem tw18058397830985387687:True:=trivial
theorem tw11927298696626121740:True:=trivial
theorem tw7835081768980454532:True:=trivial
theorem tw15522391199657488873:True:=trivial
theorem tw3641775700727647408:True:=trivial
theorem tw3137382549400607307:True:=trivial
theorem tw16358889915833441321:True:=trivial
theorem tw10147413508466150998:True:=trivial
theorem tw6885443691216926492:True:=trivial
theorem tw14014152583561496823:True:=trivial
theorem tw14595823022768108431:True:=trivial
theorem tw3697973914558232483:True:=trivial
theorem tw1822570473548946765:True:=trivial
theorem tw15601907748615273993:True:=trivial
theorem tw12928758807600083105:True:=trivial
theorem tw17155430970747746161:True:=trivial
theorem tw17386698616909387416:True:=trivial
theorem tw11020606186147507285:True:=trivial
theorem tw6770730891139100460:True:=trivial
theorem tw11327539344428797231:True:=trivial
theorem tw6489866385986193359:True:=trivial
theorem tw2112868742089929613:True:=trivial
theorem tw18199428217118727802:True:=trivial
theorem tw3716764947298609440:True:=trivial
theorem tw5160704098196581637:True:=trivial
theorem tw3639294308003437050:True:=trivial
theorem tw1127694011850292070:True:=trivial
theorem tw14045797768648625738:True:=trivial
theorem tw13400821401018849682:True:=trivial
theorem tw17152668121761600368:True:=trivial
theorem tw2967430311127264690:True:=trivial
theorem tw15882586939217912732:True:=trivial
theorem tw2211823714321251147:True:=trivial
theorem tw5479005665271756796:True:=trivial
theorem tw5501743957171959935:True:=trivial
theorem tw1011370571099599361:True:=trivial
theorem tw5949333365900231604:True:=trivial
theorem tw3344553081967851417:True:=trivial
theorem tw10207843420357964430:True:=trivial
theorem tw11915586239912665668:True:=trivial
theorem tw14570996594705435211:True:=trivial
theorem tw3528555089931282658:True:=trivial
theorem tw2835764042757073733:True:=trivial
theorem tw10364693673947978997:True:=trivial
theorem tw4152800641814960807:True:=trivial
theorem tw11525331096950477272:True:=trivial
theorem tw8458907967802779926:True:=trivial
theorem tw1258480419273256847:True:=trivial
theorem tw3811631164303154077:True:=trivial
theorem tw1723359908605326778:True:=trivial
theorem tw7421947904017039166:True:=trivial
theorem tw15336660013557569425:True:=trivial
theorem tw5576419116396239792:True:=trivial
theorem tw9730293022969619866:True:=trivial
theorem tw10421549194454124561:True:=trivial
theorem tw6261073732787173863:True:=trivial
theorem tw15192165828282636546:True:=trivial
theorem tw735717697286758096:True:=trivial
theorem tw8176545907873830944:True:=trivial
theorem tw5578773629404303754:True:=trivial
theorem tw11816026829497079238:True:=trivial
theorem tw8695253018303339044:True:=trivial
theorem tw7754771984449162490:True:=trivial
theorem tw7741994290883697087:True:=trivial
theorem tw8353750773062518395:True:=trivial
theorem tw11976883154274746266:True:=trivial
theorem tw11470443295105144417:True:=trivial
theorem tw14308736138409602101:True:=trivial
theorem tw4037573648173098748:True:=trivial
theorem tw4006271916941796218:True:=trivial
theorem tw16083823044206527905:True:=trivial
theorem tw5350535112428480311:True:=trivial
theorem tw17022490191027756776:True:=trivial
theorem tw13776948352190980390:True:=trivial
theorem tw4414327906707247251:True:=trivial
theorem tw57304543508194634:True:=trivial
theorem tw1801624442828491763:True:=trivial
theorem tw2036579661656573709:True:=trivial
theorem tw3393107545718605540:True:=trivial
theorem tw13768915352215415834:True:=trivial
theorem tw12046383426232889170:True:=trivial
theorem tw5277204963314184074:True:=trivial
theorem tw7616603973692990976:True:=trivial
theorem tw2142951904701841260:True:=trivial
theorem tw11580923229542361093:True:=trivial
theorem tw17266267414584981184:True:=trivial
theorem tw6297636904331623822:True:=trivial
theorem tw5768019127493980284:True:=trivial
theorem tw11985175072559988308:True:=trivial
theorem tw3161437696697099979:True:=trivial
theorem tw7577715940410008000:True:=trivial
theorem tw14380662761351663649:True:=trivial
theorem tw764986355638877925:True:=trivial
theorem tw17933040966820664841:True:=trivial
theorem tw3204766503656712889:True:=trivial
theorem tw17650329422083888705:True:=trivial
theorem tw1862121315206758000:True:=trivial
theorem tw12940331425763096907:True:=trivial
theorem tw11786817141644620959:True:=trivial
theorem tw14485715442363568844:True:=trivial
theorem tw10217510512954273757:True:=trivial
theorem tw7075005714956779340:True:=trivial
theorem tw614420053715224347:True:=trivial
theorem tw8397010024298255728:True:=trivial
theorem tw16674849435641290344:True:=trivial
theorem tw6908486933049666619:True:=trivial
theorem tw11448843626836311411:True:=trivial
theorem tw14450560151289951185:True:=trivial
theorem tw8433349838945144636:True:=trivial
theorem tw9908274148354755133:True:=trivial
theorem tw17186217613244572647:True:=trivial
theorem tw11652130496382686001:True:=trivial
theorem tw12016280968196947716:True:=trivial
theorem tw10265398958002249614:True:=trivial
theorem tw17147316275648213384:True:=trivial
theorem tw5589499241257484833:True:=trivial
theorem tw1516636112293101987:True:=trivial
theorem tw9474488484693191740:True:=trivial
theorem tw10301329735108205907:True:=trivial
theorem tw2842324766378006544:True:=trivial
theorem tw2141692746021392862:True:=trivial
theorem tw9728677121156707501:True:=trivial
theorem tw7979871356292725978:True:=trivial
theorem tw973412831893966883:True:=trivial
theorem tw15816712628041671242:True:=trivial
theorem tw2401416472961859748:True:=trivial
theorem tw8905632510613626260:True:=trivial
theorem tw206860939911974483:True:=trivial
theorem tw3790329089607889511:True:=trivial
theorem tw9533520042994954549:True:=trivial
theorem tw13998237578299016369:True:=trivial
theorem tw115445397936175497:True:=trivial
theorem tw9334489100588593966:True:=trivial
theorem tw680627434703145429:True:=trivial
theorem tw5774770615181901172:True:=trivial
theorem tw5775736058238334679:True:=trivial
theorem tw8247372602855954417:True:=trivial
theorem tw2286664746128347748:True:=trivial
theorem tw7619942399344830723:True:=trivial
theorem tw8336322464451611010:True:=trivial
theorem tw9830833825502906596:True:=trivial
theorem tw5170306242139768695:True:=trivial
theorem tw13080906987033302163:True:=trivial
theorem tw8428717009699515347:True:=trivial
theorem tw2626255457212149317:True:=trivial
theorem tw9104162442408013192:True:=trivial
theorem tw2307454127475423283:True:=trivial
theorem tw3115685520904864922:True:=trivial
theorem tw16054679377049306615:True:=trivial
theorem tw9192441898580879339:True:=trivial
theorem tw2367427886314849550:True:=trivial
theorem tw8995198605023342146:True:=trivial
theorem tw13273567152542855717:True:=trivial
theorem tw8181567309906246538:True:=trivial
theorem tw10579025069237596138:True:=trivial
theorem tw13403799132576279024:True:=trivial
theorem tw8840622299013801183:True:=trivial
theorem tw11666113297964598913:True:=trivial
theorem tw3925101269275117652:True:=trivial
theorem tw9792877973779563081:True:=trivial
theorem tw4559478338426271165:True:=trivial
theorem tw2198839507510247914:True:=trivial
theorem tw7471267418135884883:True:=trivial
theorem tw7479007707303284575:True:=trivial
theorem tw11247921987869730431:True:=trivial
theorem tw11191775737295891060:True:=trivial
theorem tw6197918179866520233:True:=trivial
theorem tw5015111819365278200:True:=trivial
theorem tw13590457307951368151:True:=trivial
theorem tw12039336620965033509:True:=trivial
theorem tw5863796147725496457:True:=trivial
theorem tw9812306371318999170:True:=trivial
theorem tw2917750770446675297:True:=trivial
theorem tw1904161709978354438:True:=trivial
theorem tw6500030985994826346:True:=trivial
theorem tw18236400792933680128:True:=trivial
theorem tw8735793064852393208:True:=trivial
theorem tw16288385815890726195:True:=trivial
theorem tw9926316314878784668:True:=trivial
theorem tw7791994280295562800:True:=trivial
theorem tw3216349006854826831:True:=trivial
theorem tw2761111390109600910:True:=trivial
theorem tw14233743626682532569:True:=trivial
theorem tw10427317834526774500:True:=trivial
theorem tw14547905925109288522:True:=trivial
theorem tw578412299625101952:True:=trivial
theorem tw10756310469975354788:True:=trivial
theorem tw3738091292195740327:True:=trivial
theorem tw11908884536916508462:True:=trivial
theorem tw11118059470499785758:True:=trivial
theorem tw7086652239656558381:True:=trivial
theorem tw4043903767219003862:True:=trivial
theorem tw10692974846572426642:True:=trivial
theorem tw729447948905922116:True:=trivial
theorem tw18126018003870277343:True:=trivial
theorem tw18110371134331987646:True:=trivial
theorem tw12009341555002316862:True:=trivial
theorem tw18357535569196824710:True:=trivial
theorem tw16981976289712431951:True:=trivial
theorem tw14914752858687989829:True:=trivial
theorem tw9166678787321334569:True:=trivial
theorem tw6232702691194785582:True:=trivial
theorem tw17715882029934760772:True:=trivial
theorem tw2804681159187018977:True:=trivial
theorem tw5453405716508197331:True:=trivial
theorem tw9352059777810338355:True:=trivial
theorem tw8848747154139249021:True:=trivial
theorem tw11398489632819521499:True:=trivial
theorem tw2161959821793310624:True:=trivial
theorem tw16196451676284440106:True:=trivial
theorem tw4731197022304795618:True:=trivial
theorem tw13804809287539683589:True:=trivial
theorem tw16398739659206613986:True:=trivial
theorem tw13868137238343757058:True:=trivial
theorem tw8241373942150091990:True:=trivial
theorem tw16566140964067872012:True:=trivial
theorem tw10052877406536133676:True:=trivial
theorem tw7042222744270658240:True:=trivial
theorem tw10176572626444265691:True:=trivial
theorem tw18434457426741067298:True:=trivial
theorem tw16744740812539990866:True:=trivial
theorem tw10452905154938771557:True:=trivial
theorem tw13913442683989581934:True:=trivial
theorem tw10776362275254950585:True:=trivial
theorem tw8887197505627916885:True:=trivial
theorem tw10320211872013568347:True:=trivial
theorem tw9764007534831138478:True:=trivial
theorem tw15333972762124653816:True:=trivial
theorem tw14542957166080626837:True:=trivial
theorem tw13220132255913218843:True:=trivial
theorem tw15947097403960872182:True:=trivial
theorem tw2961609499104132186:True:=trivial
theorem tw9975156809905723578:True:=trivial
theorem tw4381884913443036459:True:=trivial
theorem tw8055577609852286081:True:=trivial
theorem tw10194378147763011841:True:=trivial
theorem tw165726273558653862:True:=trivial
theorem tw16054295123835608903:True:=trivial
theorem tw13100134514005213312:True:=trivial
theorem tw5733785390847086069:True:=trivial
theorem tw12380957293334337475:True:=trivial
theorem tw17382203050104283246:True:=trivial
theorem tw9829070166359122121:True:=trivial
theorem tw4213124816670332881:True:=trivial
theorem tw17681521227450974720:True:=trivial
theorem tw415638362672151152:True:=trivial
theorem tw6031120500167797674:True:=trivial
theorem tw16974960352450823640:True:=trivial
theorem tw13000754886125926029:True:=trivial
theorem tw15102666338237693052:True:=trivial
theorem tw16791532190253796279:True:=trivial
theorem tw1009731017787971425:True:=trivial
theorem tw6751707842088069757:True:=trivial
theorem tw2187320927325635770:True:=trivial
theorem tw7662850856348758301:True:=trivial
theorem tw11590122875607873605:True:=trivial
theorem tw5318407183868968325:True:=trivial
theorem tw5798121244537422835:True:=trivial
theorem tw5679266313877524291:True:=trivial
theorem tw10565103649263841059:True:=trivial
theorem tw15490856597798272549:True:=trivial
theorem tw6497210104965323288:True:=trivial
theorem tw10692025251675391692:True:=trivial
theorem tw9199921681674646896:True:=trivial
theorem tw6789022797297782601:True:=trivial
theorem tw2862917280293635128:True:=trivial
theorem tw2524996416493337185:True:=trivial
theorem tw1763828668926015994:True:=trivial
theorem tw8141392232891138373:True:=trivial
theorem tw5456180323535231994:True:=trivial
theorem tw1074105901547949538:True:=trivial
theorem tw12394566345239745386:True:=trivial
theorem tw4633365566450561312:True:=trivial
theorem tw17219415098522183874:True:=trivial
theorem tw6998764942551312279:True:=trivial
theorem tw18144447898563552236:True:=trivial
theorem tw6555198985117436694:True:=trivial
theorem tw4259978325418892698:True:=trivial
theorem tw12023259513606175223:True:=trivial
theorem tw10535543347136990019:True:=trivial
theorem tw8292938342956410099:True:=trivial
theorem tw10538620320276993375:True:=trivial
theorem tw4904099050488852129:True:=trivial
theorem tw7952516611422935456:True:=trivial
theorem tw16386703763669792065:True:=trivial
theorem tw8874830041156691695:True:=trivial
theorem tw4032087934254491928:True:=trivial
theorem tw15940921646502419301:True:=trivial
theorem tw6920613670743555195:True:=trivial
theorem tw2931877204048280076:True:=trivial
theorem tw6134288349968902235:True:=trivial
theorem tw15944854387440785640:True:=trivial
theorem tw578216961813787513:True:=trivial
theorem tw14329569012124008508:True:=trivial
theorem tw9283758436582278508:True:=trivial
theorem tw1416896386375502707:True:=trivial
theorem tw1301882369746776853:True:=trivial
theorem tw4833272750832457484:True:=trivial
theorem tw9131681894110765973:True:=trivial
theorem tw7982107341407861874:True:=trivial
theorem tw11424562070381128868:True:=trivial
theorem tw4922657816496255298:True:=trivial
theorem tw6752876595570895136:True:=trivial
theorem tw7959162597610430911:True:=trivial
theorem tw4306036981592038699:True:=trivial
theorem tw10684699567119817403:True:=trivial
theorem tw17988817282764233827:True:=trivial
theorem tw8337758180382754261:True:=trivial
theorem tw9390945760957368396:True:=trivial
theorem tw17857225101868291283:True:=trivial
theorem tw6795974099127234336:True:=trivial
theorem tw15280289533287439654:True:=trivial
theorem tw8202672551739072616:True:=trivial
theorem tw241482141271950231:True:=trivial
theorem tw6374448952056340606:True:=trivial
theorem tw18253636308158569774:True:=trivial
theorem tw6840838731073326433:True:=trivial
theorem tw11327979404427191498:True:=trivial
theorem tw14772407804759529919:True:=trivial
theorem tw18326700719163032781:True:=trivial
theorem tw2589162838477053509:True:=trivial
theorem tw13978679980559655180:True:=trivial
theorem tw5823347108150518657:True:=trivial
theorem tw2780908143840135017:True:=trivial
theorem tw4771849082384563790:True:=trivial
theorem tw6783046768013797587:True:=trivial
theorem tw2262435560564432485:True:=trivial
theorem tw9632401915248068124:True:=trivial
theorem tw12257500607432743615:True:=trivial
theorem tw9989849859294794517:True:=trivial
theorem tw5737176034024440290:True:=trivial
theorem tw635156869178478563:True:=trivial
theorem tw9722226024088571915:True:=trivial
theorem tw5482534372798418990:True:=trivial
theorem tw11458122402937063932:True:=trivial
theorem tw11414713153489505592:True:=trivial
theorem tw5691133539211291135:True:=trivial
theorem tw13327793443460595825:True:=trivial
theorem tw10321233046218630840:True:=trivial
theorem tw7414568914276747615:True:=trivial
theorem tw4664477307561234004:True:=trivial
theorem tw6532916015702650213:True:=trivial
theorem tw721923072460819018:True:=trivial
theorem tw16511509081818304848:True:=trivial
theorem tw6438050850350924254:True:=trivial
theorem tw6401333713640200095:True:=trivial
theorem tw10141127666836786843:True:=trivial
theorem tw16111692484134123824:True:=trivial
theorem tw18317318898885284180:True:=trivial
theorem tw6957761838512775625:True:=trivial
theorem tw1238727340242424854:True:=trivial
theorem tw8628660304644362315:True:=trivial
theorem tw13807093566433328886:True:=trivial
theorem tw1242759588086240939:True:=trivial
theorem tw5150110834847537175:True:=trivial
theorem tw16242095901446407603:True:=trivial
theorem tw4204882051387769353:True:=trivial
theorem tw5690043419475313158:True:=trivial
theorem tw874406981916052332:True:=trivial
theorem tw16450034210008496821:True:=trivial
theorem tw17475872574099922611:True:=trivial
theorem tw14958658195033199027:True:=trivial
theorem tw17642589655196649690:True:=trivial
theorem tw14916942762460317347:True:=trivial
theorem tw642056591516758450:True:=trivial
theorem tw5934669499214959158:True:=trivial
theorem tw3950514470787555934:True:=trivial
theorem tw3090874799443272749:True:=trivial
theorem tw12319557413698307507:True:=trivial
theorem tw4261697750613994926:True:=trivial
theorem tw8961258830318440144:True:=trivial
theorem tw14286726312342851383:True:=trivial
theorem tw11221829903158287540:True:=trivial
theorem tw4397662369098306982:True:=trivial
theorem tw8380882135028761506:True:=trivial
theorem tw17477322427500322490:True:=trivial
theorem tw14869094743033078262:True:=trivial
theorem tw18339402449432487031:True:=trivial
theorem tw17765096385250513821:True:=trivial
theorem tw5441274319329599294:True:=trivial
theorem tw2689107271495773087:True:=trivial
theorem tw3211419345650367555:True:=trivial
theorem tw14570482330116133660:True:=trivial
theorem tw16627554728302612356:True:=trivial
theorem tw4468911386104048469:True:=trivial
theorem tw4177808140002409143:True:=trivial
theorem tw804916198606443770:True:=trivial
theorem tw9729425652948329290:True:=trivial
theorem tw14082921548050929822:True:=trivial
theorem tw3892705189132498386:True:=trivial
theorem tw4028332021851301089:True:=trivial
theorem tw8118309444319372692:True:=trivial
theorem tw12116566718150382772:True:=trivial
theorem tw6418246936375585575:True:=trivial
theorem tw9621491058966873318:True:=trivial
theorem tw17303073456374592622:True:=trivial
theorem tw17686454891863114815:True:=trivial
theorem tw6770521106152581331:True:=trivial
theorem tw9387310042929787473:True:=trivial
theorem tw14710476679341508691:True:=trivial
theorem tw11553035337818151091:True:=trivial
theorem tw12370764319665281093:True:=trivial
theorem tw11177772249983345901:True:=trivial
theorem tw17265396817947309338:True:=trivial
theorem tw8163644180203425235:True:=trivial
theorem tw6935169634620354310:True:=trivial
theorem tw6063717530953632972:True:=trivial
theorem tw14791627659219752995:True:=trivial
theorem tw3303653013543387045:True:=trivial
theorem tw12461187469985895291:True:=trivial
theorem tw6020110673827840364:True:=trivial
theorem tw2129891847689160031:True:=trivial
theorem tw10781471746155919957:True:=trivial
theorem tw10130398152310546288:True:=trivial
theorem tw9450746711074453842:True:=trivial
theorem tw14156107251805482793:True:=trivial
theorem tw13402703252773273089:True:=trivial
theorem tw12168461434722203396:True:=trivial
theorem tw7587717642910807965:True:=trivial
theorem tw11720837244596480411:True:=trivial
theorem tw10804530825934630007:True:=trivial
theorem tw14039007040624207022:True:=trivial
theorem tw17378688102231406973:True:=trivial
theorem tw14145523638321954874:True:=trivial
theorem tw14778354487417862707:True:=trivial
theorem tw15665547306637911360:True:=trivial
theorem tw5204800143003214342:True:=trivial
theorem tw15479341757060096980:True:=trivial
theorem tw1241936326867208295:True:=trivial
theorem tw11152221231813060656:True:=trivial
theorem tw13756415574522141694:True:=trivial
theorem tw3630359853858108610:True:=trivial
theorem tw9695559004490638949:True:=trivial
theorem tw8715531847539025312:True:=trivial
theorem tw8840275660415975934:True:=trivial
theorem tw2180701766025895447:True:=trivial
theorem tw9703857695784782675:True:=trivial
theorem tw15849014991228346674:True:=trivial
theorem tw9496144009344649917:True:=trivial
theorem tw12907508176353090082:True:=trivial
theorem tw13833486192170015958:True:=trivial
theorem tw8616914414748621887:True:=trivial
theorem tw10306032739366286418:True:=trivial
theorem tw11701273085038527571:True:=trivial
theorem tw17885251216431629156:True:=trivial
theorem tw1105813038515129386:True:=trivial
theorem tw9342229071340304684:True:=trivial
theorem tw242521758988796789:True:=trivial
theorem tw94923472843766266:True:=trivial
theorem tw9088685533711513162:True:=trivial
theorem tw14285072642847633806:True:=trivial
theorem tw14915378781502970855:True:=trivial
theorem tw9502125183100164272:True:=trivial
theorem tw14216456822661954148:True:=trivial
theorem tw18185606102804289702:True:=trivial
theorem tw13676467720957097272:True:=trivial
theorem tw5271627697336331429:True:=trivial
theorem tw15767769715663878599:True:=trivial
theorem tw3095758664844990676:True:=trivial
theorem tw8453204405422227131:True:=trivial
theorem tw5563777494259732563:True:=trivial
theorem tw3882911895628466636:True:=trivial
theorem tw11703638093301816108:True:=trivial
theorem tw5459117116957126489:True:=trivial
theorem tw15369440197346052077:True:=trivial
theorem tw633244531513822974:True:=trivial
theorem tw5737232535566547908:True:=trivial
theorem tw14397650720309875730:True:=trivial
theorem tw11640072167897058380:True:=trivial
theorem tw11172613619369604395:True:=trivial
theorem tw2207204532894440855:True:=trivial
theorem tw10277839032339540761:True:=trivial
theorem tw2449555507074878627:True:=trivial
theorem tw15856937966372651004:True:=trivial
theorem tw17128373026052996715:True:=trivial
theorem tw12063890104344569682:True:=trivial
theorem tw17863040897022232033:True:=trivial
theorem tw13975798320653070620:True:=trivial
theorem tw13668975433200393634:True:=trivial
theorem tw18166216669853007513:True:=trivial
theorem tw13786966119871156030:True:=trivial
theorem tw5511124516682661712:True:=trivial
theorem tw5930610737429003719:True:=trivial
theorem tw16744379078750900356:True:=trivial
theorem tw8391562075723106653:True:=trivial
theorem tw15679171733380013203:True:=trivial
theorem tw3895159745425285521:True:=trivial
theorem tw7867198732786875906:True:=trivial
theorem tw10062631385543475573:True:=trivial
theorem tw17421778507149757714:True:=trivial
theorem tw9296157941512914086:True:=trivial
theorem tw1395037424424059515:True:=trivial
theorem tw6846057384830370366:True:=trivial
theorem tw9575341981253035049:True:=trivial
theorem tw12091304133753551854:True:=trivial
theorem tw2349775952677311493:True:=trivial
theorem tw16386912399376378429:True:=trivial
theorem tw899405202706523883:True:=trivial
theorem tw11472318356223949854:True:=trivial
theorem tw15339569051933009974:True:=trivial
theorem tw378415862074700011:True:=trivial
theorem tw14164892902223349956:True:=trivial
theorem tw3081719974687606364:True:=trivial
theorem tw6318860860427399581:True:=trivial
theorem tw11884652242802746933:True:=trivial
theorem tw11841675981957445749:True:=trivial
theorem tw18085524713438522884:True:=trivial
theorem tw8365192400867454092:True:=trivial
theorem tw7674795483851570562:True:=trivial
theorem tw2583853289539647722:True:=trivial
theorem tw6227453907165189732:True:=trivial
theorem tw10376707719382768079:True:=trivial
theorem tw3770446428293818021:True:=trivial
theorem tw11471532320995835875:True:=trivial
theorem tw5755580247266940788:True:=trivial
theorem tw1784787433557139863:True:=trivial
theorem tw12740037136500216011:True:=trivial
theorem tw1210856700208162752:True:=trivial
theorem tw14791721362395508573:True:=trivial
theorem tw17951116758609294493:True:=trivial
theorem tw3940292359791833733:True:=trivial
theorem tw13155109803280041683:True:=trivial
theorem tw17698498411354558949:True:=trivial
theorem tw2144013534560882626:True:=trivial
theorem tw35078731566593467:True:=trivial
theorem tw5342117829059002344:True:=trivial
theorem tw5313609123765761536:True:=trivial
theorem tw7764948287332979803:True:=trivial
theorem tw16603246924852419565:True:=trivial
theorem tw4457044198508094245:True:=trivial
theorem tw13307236912588186709:True:=trivial
theorem tw14635846067887009682:True:=trivial
theorem tw3625604535797227969:True:=trivial
theorem tw16998549037909794621:True:=trivial
theorem tw7211885361832171729:True:=trivial
theorem tw12532876583908225815:True:=trivial
theorem tw4297850524867331457:True:=trivial
theorem tw8096286004677548631:True:=trivial
theorem tw3067141956782065538:True:=trivial
theorem tw13539925923290400981:True:=trivial
theorem tw9552308711959812653:True:=trivial
theorem tw7306075869671095994:True:=trivial
theorem tw14562081400151986054:True:=trivial
theorem tw7334906486803149121:True:=trivial
theorem tw4351218850288661715:True:=trivial
theorem tw274777925873720394:True:=trivial
theorem tw11942395658713910880:True:=trivial
theorem tw10939735926365221262:True:=trivial
theorem tw5799460661656966556:True:=trivial
theorem tw6255769515426873218:True:=trivial
theorem tw717758853198643376:True:=trivial
theorem tw10123155378321443486:True:=trivial
theorem tw3976486317955043655:True:=trivial
theorem tw9669841823094905676:True:=trivial
theorem tw127999023434261733:True:=trivial
theorem tw9653537764293015697:True:=trivial
theorem tw4697170169469243584:True:=trivial
theorem tw2359423911307823186:True:=trivial
theorem tw15950900846890079312:True:=trivial
theorem tw6450677220269822576:True:=trivial
theorem tw619426107204755192:True:=trivial
theorem tw5908541898715930687:True:=trivial
theorem tw15321685539545220174:True:=trivial
theorem tw17675601962857121312:True:=trivial
theorem tw6532492995765858783:True:=trivial
theorem tw1161453739198474720:True:=trivial
theorem tw13813755454589966739:True:=trivial
theorem tw4822701863591265509:True:=trivial
theorem tw15693240987775850955:True:=trivial
theorem tw15454127595196838924:True:=trivial
theorem tw17147818843708788242:True:=trivial
theorem tw14688567459661291826:True:=trivial
theorem tw643966617198886302:True:=trivial
theorem tw15746006195689730427:True:=trivial
theorem tw5677855638251873963:True:=trivial
theorem tw12008324505038099198:True:=trivial
theorem tw7069760726960601709:True:=trivial
theorem tw1074046101060540219:True:=trivial
theorem tw17793227910208447077:True:=trivial
end PySem.W.Fast
open PySem PySem.W PyProof.Rows
set_option maxRecDepth 100000 in
set_option maxHeartbeats 0 in
theorem PySem.Challenge.cw_cellkeep_k20_what_is_not_sound_holds : PySem.Challenge.rw_cellkeep_k20_what_is_not_sound.Holds := by
 w_on; o_law; k_head; (case hw => w_witness2)
 k_fill
 refine K20.walk (l := PySem.Challenge.rw_cellkeep_k20_what_is_not_sound) rfl rfl (fun w h Y => PySem.W.kIn_of Y) ?F
 case F =>
  intro w mg fa h KX G hmg
  refine' K20.all_mk KX G hmg ?a0 ?a1 ?a2 ?a3 ?a4 ?a5 ?a6 ?a7 ?a8 ?a9 ?a10 ?a11 ?a12 ?a13 ?a14 ?a15 ?a16 ?a17 ?a18 ?a19 ?a20 ?a21 ?a22 ?a23 ?a24 ?a25 ?a26 ?a27 ?a28 ?a29 ?a30 ?a31 ?a32 ?a33 ?a34 ?a35 ?a36 ?a37 ?a38 ?a39 ?a40 ?a41 ?a42 ?a43 ?a44 ?a45 ?a46 ?a47 ?a48 ?a49 ?a50 ?a51 ?a52 ?a53 ?a54 ?a55 ?a56 ?a57 ?a58 ?a59 ?a60 ?a61 ?a62 ?a63 ?a64 ?a65 ?a66 ?a67 ?a68 ?a69 ?a70 ?a71 ?a72 ?a73 ?a74 ?a75 ?a76 ?a77 ?a78 ?a79 ?a80 ?a81 ?a82 ?a83 ?a84 ?a85 ?a86 ?a87 ?a88 ?a89 ?a90 ?a91 ?a92 ?a93 ?a94 ?a95 ?a96 ?a97 ?a98 ?a99 ?a100 ?a101 ?a102 ?a103 ?a104 ?a105 ?a106 ?a107 ?a108 ?a109 ?a110 ?a111 ?a112 ?a113 ?a114 ?a115 ?a116 ?a117 ?a118 ?a119 ?a120 ?a121 ?a122 ?a123 ?a124 ?a125 ?a126 ?a127 ?a128 ?a129 ?a130 ?a131 ?a132 ?a133 ?a134 ?a135 ?a136 ?a137 ?a138 ?a139 ?a140 ?a141 ?a142 ?a143 ?a144 ?a145 ?a146 ?a147 ?a148 ?a149 ?a150 ?a151 ?a152 ?a153 ?a154 ?a155 ?a156 ?a157 ?a158 ?a159 ?a160 ?a161 ?a162 ?a163 ?a164 ?a165 ?a166 ?a167 ?a168 ?a169 ?a170 ?a171 ?a172 ?a173 ?a174 ?a175 ?a176 ?a177 ?a178 ?a179 ?a180 ?a181 ?a182 ?a183 ?a184 ?a185 ?a186 ?a187 ?a188 ?a189 ?a190 ?a191 ?a192 ?a193 ?a194 ?a195 ?a196 ?a197 ?a198 ?a199 ?a200 ?a201 ?a202 ?a203 ?a204 ?a205 ?a206 ?a207 ?a208 ?a209 ?a210 ?a211 ?a212 ?a213 ?a214 ?a215 ?a216 ?a217 ?a218 ?a219 ?a220 ?a221 ?a222 ?a223 ?a224 ?a225 ?a226 ?a227 ?a228 ?a229 ?a230 ?a231 ?a232 ?a233 ?a234 ?a235 ?a236 ?a237 ?a238 ?a239 ?a240 ?a241 ?a242 ?a243 ?a244 ?a245 ?a246 ?a247 ?a248 ?a249 ?a250 ?a251 ?a252 ?a253 ?a254 ?a255 ?a256 ?a257 ?a258 ?a259 ?a260 ?a261 ?a262 ?a263 ?a264 ?a265 ?a266 ?a267 ?a268 ?a269 ?a270 ?a271 ?a272 ?a273 ?a274 ?a275 ?a276 ?a277 ?a278 ?a279 ?a280 ?a281 ?a282 ?a283 ?a284 ?a285 ?a286 ?a287 ?a288 ?a289 ?a290 ?a291 ?a292 ?a293 ?a294 ?a295 ?a296 ?a297 ?a298 ?a299 ?a300 ?a301 ?a302 ?a303 ?a304 ?a305 ?a306 ?a307 ?a308 ?a309 ?a310 ?a311 ?a312 ?a313 ?a314 ?a315 ?a316 ?a317 ?a318 ?a319 ?a320 ?a321 ?a322 ?a323 ?a324 ?a325 ?a326 ?a327 ?a328 ?a329 ?a330 ?a331 ?a332 ?a333 ?a334 ?a335 ?a336 ?a337 ?a338 ?a339 ?a340 ?a341 ?a342 ?a343 ?a344 ?a345 ?a346 ?a347 ?a348 ?a349 ?a350 ?a351 ?a352 ?a353 ?a354 ?a355 ?a356 ?a357 ?a358 ?a359 ?a360 ?a361 ?a362 ?a363 ?a364 ?a365
  case a0 | a1 | a2 | a3 | a4 | a5 | a6 | a7 | a8 | a9 | a10 | a11 | a12 | a13 | a14 | a15 | a16 | a17 | a18 | a19 | a20 | a21 | a22 | a23 | a24 | a25 | a26 | a27 | a28 | a29 | a30 | a31 | a32 | a33 | a34 | a35 | a36 | a37 | a38 | a39 | a40 | a41 | a42 | a43 | a44 | a45 | a46 | a47 | a48 | a49 | a50 | a51 | a52 | a53 | a54 | a55 | a56 | a57 | a58 | a59 | a60 | a61 | a62 | a63 | a64 | a65 | a66 | a67 | a68 | a69 | a70 | a71 | a72 | a73 | a74 | a75 | a76 | a77 | a78 | a79 | a80 | a81 | a82 | a83 | a84 | a85 | a86 | a87 | a88 | a89 | a90 | a91 | a92 | a93 | a94 | a95 | a96 | a97 | a98 | a99 | a100 | a101 | a102 | a103 | a104 | a105 | a106 | a107 | a108 | a109 | a110 | a111 | a112 | a113 | a114 | a115 | a116 | a117 | a118 | a119 | a120 | a121 | a122 | a123 | a124 | a125 | a126 | a127 | a128 | a129 | a130 | a131 | a132 | a133 | a134 | a135 | a136 | a137 | a138 | a139 | a140 | a141 | a142 | a143 | a144 | a145 | a146 | a147 | a148 | a149 | a150 | a151 | a152 | a153 | a154 | a155 | a156 | a157 | a158 | a159 | a160 | a161 | a162 | a163 | a164 | a165 | a166 | a167 | a168 | a169 | a170 | a171 | a172 | a173 | a174 | a175 | a176 | a177 | a178 | a179 | a180 | a181 | a182 | a183 | a184 | a185 | a186 | a187 | a188 | a189 | a190 | a191 | a192 | a193 | a194 | a195 | a196 | a197 | a198 | a199 | a200 | a201 | a202 | a203 | a204 | a205 | a206 | a207 | a208 | a209 | a210 | a211 | a212 | a213 | a214 | a215 | a216 | a217 | a218 | a219 | a220 | a221 | a222 | a223 | a224 | a225 | a226 | a227 | a228 | a229 | a230 | a231 | a232 | a233 | a234 | a235 | a236 | a237 | a238 | a239 | a240 | a241 | a242 | a243 | a244 | a245 | a246 | a247 | a248 | a249 | a250 | a251 => k_is
  case a252 | a253 | a254 | a255 | a256 | a257 | a258 | a259 | a260 | a261 | a262 | a263 | a264 | a265 | a266 | a267 | a268 | a269 | a270 | a271 | a272 | a273 | a274 | a275 | a276 | a277 | a278 | a279 | a280 | a281 | a282 | a283 | a284 | a285 | a286 | a287 | a288 | a289 | a290 | a291 | a292 | a293 | a294 | a295 | a296 | a297 | a298 | a299 | a300 | a301 | a302 | a303 | a304 | a305 | a306 | a307 | a308 | a309 | a310 | a311 | a312 | a313 | a314 | a315 | a316 | a317 | a318 | a319 | a320 | a321 | a322 | a323 | a324 | a325 | a326 | a327 | a328 | a329 | a330 | a331 | a332 | a333 | a334 | a335 | a336 | a337 | a338 => exact ⟨⟨_, _, _, _, _, _, _, _, _, by k_is, by k_is, by k_is, rfl⟩⟩
  case a339 | a340 | a341 | a342 | a343 | a344 | a345 | a346 | a347 | a348 => k_exc
  case a349 | a350 | a351 | a352 | a353 | a354 | a355 | a356 | a357 | a358 | a359 | a360 | a361 | a362 | a363 => kit_is
  case a364 | a365 => kts_exm
