import PyProof.Rows.All
import Wide.All
import OpenK.AllK
import Wide.FinOn
import Lean
import PyProof.EqAt
import PyProof.EqKinds
import PyProof.TupleCall
import PySem.Challenge.RW_cellkeep_k28_programs_read
set_option Elab.async false
set_option linter.all false
set_option maxRecDepth 100000
set_option maxHeartbeats 4000000
abbrev aa := @List.getElem?_cons_zero
abbrev ae := @List.getElem?_cons_succ
abbrev ag := @List.length_cons
abbrev ah := @List.length_map
abbrev ai := @List.set_cons_succ
abbrev aj := @List.set_cons_zero
abbrev ak := @List.length_nil
abbrev ao := @Nat.le_refl
abbrev aq := @List.cons.injEq
abbrev ar := @Option.some.injEq
abbrev au := @PySem.W.mg_of
abbrev av := @Nat.le_trans
abbrev aw := @Bool.and_eq_true
abbrev ax := @List.map_cons
abbrev ay := @List.length_append
abbrev aA := @List.mem_cons_self
abbrev aB := @Nat.lt_of_lt_of_le
abbrev aD := @List.mem_cons_of_mem
abbrev aE := @List.getElem?_eq_getElem
abbrev aF := @List.map_append
abbrev aG := @Bool.not_eq_true'
abbrev aH := @List.length_take
abbrev aI := @List.size_toArray
abbrev aJ := @List.map_nil
abbrev aK := @Nat.ne_of_lt
abbrev aL := @Bool.false_ne_true
abbrev aM := @Ne.symm
abbrev aN := @Bool.false_eq_true
abbrev aO := @Nat.zero_le
abbrev aP := @List.all_cons
abbrev aQ := @List.mem_append_right
abbrev aR := @List.append_nil
abbrev aS := @List.getElem?_map
abbrev aT := @Nat.lt_irrefl
abbrev aU := @True.intro
abbrev aV := @List.length_drop
abbrev aW := @Option.some.inj
abbrev aX := @List.cons_append
abbrev aY := @List.length_zipWith
abbrev aZ := @List.mem_of_getElem?
abbrev a_ := @List.take_add_one
abbrev ba := @PySem.W.kia_one
abbrev bb := @List.take_length
abbrev bc := @PySem.W.mg_none_of
abbrev bf := @List.mem_singleton
abbrev bg := @List.nil_append
abbrev bh := @List.filter_append
abbrev bj := @List.getElem?_zipWith
abbrev bo := @List.length_replicate
abbrev bp := @List.lookup_cons
abbrev bq := @Nat.lt_of_le_of_lt
abbrev br := @Or.inr
abbrev bt := @List.any_cons
abbrev bu := @List.append_assoc
abbrev bw := @List.map_map
abbrev bx := @List.replicate_succ
abbrev bz := @Nat.min_self
abbrev bA := @PySem.W.hideAll_get
abbrev bB := @Bool.true_eq_false
abbrev bC := @List.find?_cons
abbrev bD := @List.flatten_cons
abbrev bE := @List.length_filter_le
abbrev bF := @PySem.W.of_hideAll
abbrev bG := @Int.emod_nonneg
abbrev bH := @List.filterMap_cons
abbrev bI := @List.getElem_mem
abbrev bJ := @List.length_singleton
abbrev bK := @List.mem_append_left
abbrev bL := @Nat.ne_of_gt
abbrev bM := @Nat.sub_self
abbrev bN := @PySem.F.slot_list_append
abbrev bO := @PySem.F.type_list_append
abbrev bP := @PySem.mem_of_lookup
abbrev bQ := @Bool.eq_iff_iff
abbrev bR := @Int.emod_lt_of_pos
abbrev bS := @PyProof.Rows.callWith_type1
abbrev bT := @Array.append_assoc
abbrev bU := @List.getElem?_append_right
abbrev bV := @List.of_mem_zip
abbrev bW := @List.sum_cons
abbrev bX := @Nat.le_of_lt
abbrev bY := @PySem.W.looks_findIn
abbrev bZ := @List.getD_eq_getElem?_getD
abbrev b7 := @List.getElem?_eq_none
abbrev b8 := @List.getElem?_replicate
abbrev b9 := @List.range_succ_eq_map
namespace L2
open PySem PySem.Spec PyProof.Rows
noncomputable abbrev Key:=Sum Int Str
noncomputable def rG:Key->Value->Bool
 | .inl k,v=>Value.isInt k v
 | .inr x,v=>Value.isStrOf x v
noncomputable def Fu (w:World):Key->Int
 | .inl k=>hashInt k
 | .inr x=>hashStr w x
theorem eN:∀{k:Key} {v:Value},rG k v=true->(∃i t,k=Sum.inl i/\v=Value.int i t)∨(∃x t,k=Sum.inr x/\v=Value.str x t)
 | .inl i,v,h=>by
  obtain⟨t,e⟩:=Value.isInt_shape (k:=i) (v:=v) h
  exact .inl ⟨i,t,rfl,e⟩
 | .inr x,v,h=>by
  obtain⟨t,e⟩:=Value.isStrOf_shape (x:=x) (v:=v) h
  exact .inr ⟨x,t,rfl,e⟩
theorem xG(i:Int)(t:Tok):rG (.inl i) (.int i t)=true:=by simp[rG,Value.isInt]
theorem xH(x:Str)(t:Tok):rG (.inr x) (.str x t)=true:=by simp[rG,Value.isStrOf]
theorem Cs(a b:Int):decide ((Sum.inl a:Key)=Sum.inl b)=(a==b):=by
 by_cases e:a=b
 ·subst e;simp
 ·have h:¬(Sum.inl a:Key)=Sum.inl b:=λq=>e (Sum.inl.inj q)
  rw[decide_eq_false h]
  exact(beq_eq_false_iff_ne.mpr e).symm
theorem Cv(a b:Str):decide ((Sum.inr a:Key)=Sum.inr b)=decide (a=b):=by
 by_cases e:a=b
 ·subst e;simp
 ·have h:¬(Sum.inr a:Key)=Sum.inr b:=λq=>e (Sum.inr.inj q)
  rw[decide_eq_false h,decide_eq_false e]
theorem Ct(a:Int)(b:Str):decide ((Sum.inl a:Key)=Sum.inr b)=false:=decide_eq_false (λq=>nomatch q)
theorem Cu(a:Str)(b:Int):decide ((Sum.inr a:Key)=Sum.inl b)=false:=decide_eq_false (λq=>nomatch q)
noncomputable def fv (prog:Program) (w:World):PySem.KeyKind prog w Key where
 is:=rG
 hash:=Fu w
 inj:=λv a b ha hb=>by
  rcases eN ha with ⟨i,t,rfl,rfl⟩|⟨x,t,rfl,rfl⟩
  ·rcases eN hb with ⟨j,u,rfl,e⟩|⟨y,u,rfl,e⟩
   ·injection e with e1 _;rw[e1]
   ·exact nomatch e
  ·rcases eN hb with ⟨j,u,rfl,e⟩|⟨y,u,rfl,e⟩
   ·exact nomatch e
   ·injection e with e1 _;rw[e1]
 byValue:=λk v h=>by
  rcases eN h with ⟨i,t,rfl,rfl⟩|⟨x,t,rfl,rfl⟩<;>rfl
 pyHash:=λhv h=>by
  rcases eN hv with ⟨i,t,rfl,rfl⟩|⟨x,t,rfl,rfl⟩
  ·exact wpAny_pyHash_int h
  ·exact wpAny_pyHash_str h
 eqBool:=λhu hv h=>by
  rcases eN hu with ⟨i,t,rfl,rfl⟩|⟨x,t,rfl,rfl⟩
  ·rcases eN hv with ⟨j,u,rfl,rfl⟩|⟨y,u,rfl,rfl⟩
   ·rw[Cs]at h;exact wpAny_eqBool_int h
   ·rw[Ct]at h;exact SeqAt.EqAt.int_str i t y u _ _ _ _ h
  ·rcases eN hv with ⟨j,u,rfl,rfl⟩|⟨y,u,rfl,rfl⟩
   ·rw[Cu]at h;exact SeqAt.EqAt.str_int x t j u _ _ _ _ h
   ·rw[Cv]at h;exact wpAny_eqBool_str h
 «strs»:=λk x t v h=>by
  rcases eN h with ⟨i,u,rfl,e⟩|⟨y,u,rfl,e⟩
  ·exact nomatch e
  ·injection e with e1 _
   subst e1
   cases v<;>rfl
theorem uN(prog:Program)(w:World)(i:Int)(t:Tok):(fv prog w).is (.inl i) (.int i t)=true:=xG i t
theorem uO(prog:Program)(w:World)(x:Str)(t:Tok):(fv prog w).is (.inr x) (.str x t)=true:=xH x t
end L2
namespace L2
open PySem PySem.Spec PyProof.Rows
inductive V where
 |gm|bl (b:Bool)|int (i:Int)|str (x:Str)|byt (b:Array UInt8)|Ce (b:UInt64)|ref (a:Addr)|ty (n:String)
 deriving DecidableEq
noncomputable def RelV:V->Value->Prop
 | .gm,u=>u=Value.none
 | .bl b,u=>u=Value.bool b
 | .int i,u=>∃t,u=Value.int i t
 | .str x,u=>∃t,u=Value.str x t
 | .byt b,u=>∃t,u=Value.bytes b t
 | .Ce b,u=>∃t,u=Value.float b t
 | .ref a,u=>u=Value.ref a
 | .ty n,u=>u=Value.type n
noncomputable abbrev Vals:List V->List Value->Prop:=Paired RelV
theorem Vals.length{xs:List V}{us:List Value}(r:Vals xs us):xs.length=us.length:=Paired.length r
theorem Vals.get:∀{xs:List V} {us:List Value} {i:Nat} {x:V},Vals xs us->xs[i]? =some x->∃u,us[i]? =some u/\RelV x u
 |_,_,_,_,.nil,e=>by simp at e
 |_,_,0,_,.cons r _,e=>by simp at e;subst e;exact⟨_,rfl,r⟩
 |_,_,i+1,x,.cons _ t,e=>by
  obtain⟨u,h1,h2⟩:=Vals.get (i:=i) (x:=x) t (by simpa using e)
  exact⟨u,by simpa using h1,h2⟩
theorem Vals.set{x:V}{u:Value}(r:RelV x u):∀{xs:List V} {us:List Value} (i:Nat),Vals xs us->Vals (xs.set i x) (us.set i u)
 |_,_,_,.nil=> .nil
 |_,_,0,.cons _ t=> .cons r t
 |_,_,i+1,.cons q t=> .cons q (Vals.set r i t)
theorem Vals.append:∀{xs ys:List V} {us ws:List Value},Vals xs us->Vals ys ws->Vals (xs++ys) (us++ws)
 |_,_,_,_,.nil,s=>s
 |_,_,_,_,.cons r t,s=> .cons r (Vals.append t s)
theorem Vals.take:∀{xs:List V} {us:List Value} (n:Nat),Vals xs us->Vals (xs.take n) (us.take n)
 |_,_,0,_=> .nil
 |_,_,_+1,.nil=> .nil
 |_,_,n+1,.cons r t=> .cons r (Vals.take n t)
theorem Vals.drop:∀{xs:List V} {us:List Value} (n:Nat),Vals xs us->Vals (xs.drop n) (us.drop n)
 |_,_,0,r=>r
 |_,_,_+1,.nil=> .nil
 |_,_,n+1,.cons _ t=>Vals.drop n t
theorem Vals.none_of:∀{xs:List V} {us:List Value} {i:Nat},Vals xs us->xs[i]? =none->us[i]? =none:=λ{xs us i} r e=>by
 have h1:=r.length
 have h2:xs.length<=i:=List.getElem?_eq_none_iff.mp e
 exact List.getElem?_eq_none_iff.mpr (by omega)
noncomputable def qV:Option V->Option Value->Prop
 |some v,some u=>RelV v u
 |none,none=>True
 |_,_=>False
noncomputable def KV {κ:Type}:List (κ×V)->List (κ×Value)->Prop:=Paired λ(p:κ×V) (q:κ×Value)=>p.1=q.1/\RelV p.2 q.2
noncomputable def kV:Key->V
 | .inl i=> .int i
 | .inr x=> .str x
inductive HO where
 |lst (xs:List V)
 |tup (xs:List V)
 |dK (kvs:List (Key×V))|dT (kvs:List (List Key×V))
 |set (S:Int->Bool) (n:Nat)
 |ins (C dx:Addr) (fs:List (Str×V))
 |own (x:Addr)
 |xd (fs:List (Str×V))
 |met (f x:Addr)
 |EI (lo hi:Int)
 |ro (o:Obj) (u:HO)
 |Aa (ps:Array Value)
 |ext (φ:Heap->Prop)
 |exc (cls:Value)
noncomputable abbrev Hp:=Addr->Option HO
noncomputable def upd (H:Hp) (a:Addr) (o:HO):Hp:=λb=>if b=a then some o else H b
theorem cg{H:Hp}{a:Addr}{o:HO}:upd H a o a=some o:=by unfold upd;rw[if_pos rfl]
theorem cO{H:Hp}{a b:Addr}{o:HO}(h:b≠a):upd H a o b=H b:=by unfold upd;rw[if_neg h]
theorem Be{H:Hp}{a:Addr}{o u:HO}:upd (upd H a o) a u=upd H a u:=by
 funext b;unfold upd;split<;>rfl
theorem Eo{H:Hp}{a b:Addr}{o u:HO}(h:H a=some o)(h':H b=some u)(d:o≠u):a≠b:=by
 intro e;subst e;rw[h]at h';exact d (aW h')
theorem du{H:Hp}{a b:Addr}{o:HO}(h:H a=some o)(h':H b=none):a≠b:=by
 intro e;subst e;rw[h]at h';cases h'
section
variable(P:Program)(w:World)
noncomputable def eh (H:Hp) (h:Heap) (a:Addr):HO->Prop
 | .lst xs=>xs.length<=sizeLine/\∃(its:List Value) (n:Nat),Vals xs its/\h.get? a=some {cls:= .type "list",data:= .seq its.toArray n}
 | .tup xs=>xs.length<=sizeLine/\∃its:List Value,Vals xs its/\IsTup h a its.toArray
 | .dK kvs=>kvs.length<=sizeLine/\(a==sysModules)=false/\∃vs,KV kvs vs/\h.DictOf (fv P w) a vs
 | .dT kvs=>kvs.length<=sizeLine/\(a==sysModules)=false/\∃xs:List (List Key×Addr×Value),
   Paired (λ(p:List Key×V) (q:List Key×Addr×Value)=>p.1=q.1/\H q.2.1=some (.tup (p.1.map kV))/\RelV p.2 q.2.2) kvs xs/\
   ∃o es ep,h.get? a=some o/\o.ExactDict/\o.data= .dict es ep/\es.toList=xs.map (entryOfKey (tupleKind (fv P w)))/\(xs.map (·.1)).Nodup
 | .set S n=>h.SetOf (intKind P w) a S n
 | .ins C dx fs=>H dx=some (.own a)/\fs.length<=1000/\dx≠a/\h.get? a=some (PySem.W.instObj C dx)/\
   ∃mA,h.Ns1 dx mA/\(∀f,qV (fs.lookup f) (mA f))/\PySem.Within mA (fs.map (·.1))
 | .own _=>∃o,h.get? a=some o
 | .xd fs=>∃mA,h.Ns1 a mA/\∀f,qV (fs.lookup f) (mA f)
 | .EI lo hi=>∃t u v,h.get? a=some {cls:= .type "range",data:= .fields #[.int lo t,.int hi u,.int 1 v]}
 | .ro o u=>h.get? a=some o/\eh H h a u
 | .Aa ps=>h.get? a=some {cls:= .none,data:= .fields ps}
 | .met f x=>h.get? a=some (PySem.W.methodObj (.ref f) (.ref x))
 | .exc cls=>∃o vs,h.get? a=some o/\o.cls=cls/\o.data= .fields vs
 | .ext φ=>φ h/\(∃o,h.get? a=some o)/\∀h1 h2:Heap,φ h1->(∀o,h1.get? a=some o->h2.get? a=some o)->φ h2
noncomputable def lH (H:Hp) (h:Heap):Prop:=∀a o,H a=some o->eh P w H h a o
end
section
variable{P:Program}{w:World}{H H':Hp}{h h':Heap}{a:Addr}{o:HO}
theorem eh.lt(x:eh P w H h a o):a<h.objs.size:=by
 cases o with
 |lst xs=>obtain⟨_,_,_,_,e⟩:=x;exact Heap.lt_size e
 |tup xs=>obtain⟨_,_,_,p⟩:=x;exact p.lt
 |dK kvs=>obtain⟨_,_,_,_,o,_,_,e,_⟩:=x;exact Heap.lt_size e
 |dT kvs=>obtain⟨_,_,_,_,o,_,_,e,_⟩:=x;exact Heap.lt_size e
 |set S n=>obtain⟨o,_,_,_,e,_⟩:=x;exact Heap.lt_size e
 |ins C dx fs=>obtain⟨_,_,_,e,_⟩:=x;exact Heap.lt_size e
 |own y=>obtain⟨_,e⟩:=x;exact Heap.lt_size e
 |xd fs=>obtain⟨_,⟨_,_,_,e,_⟩,_⟩:=x;exact Heap.lt_size e
 |EI lo hi=>obtain⟨_,_,_,e⟩:=x;exact Heap.lt_size e
 |ro ob u=>obtain⟨e,_⟩:=x;exact Heap.lt_size e
 |Aa ps=>exact Heap.lt_size (show h.get? a=some _ from x)
 |met f y=>exact Heap.lt_size (show h.get? a=some _ from x)
 |ext φ=>obtain⟨_,⟨_,e⟩,_⟩:=x;exact Heap.lt_size e
 |exc cls=>obtain⟨_,_,e,_⟩:=x;exact Heap.lt_size e
theorem Paired.CA{α β:Type}{F G:α->β->Prop}:∀{l₁:List α} {l₂:List β},Paired F l₁ l₂->(∀a b,F a b->G a b)->Paired G l₁ l₂
 |_,_,.nil,_=> .nil
 |_,_,.cons r t,f=> .cons (f _ _ r) (Paired.CA t f)
theorem eh.qC(x:eh P w H h a o)(k:∀b u,(b=a∨H b=some (.own a))->h.get? b=some u->h'.get? b=some u)
  (ho:∀b,H b=some (.own a)->H' b=some (.own a)) (ht:∀b xs,H b=some (.tup xs)->H' b=some (.tup xs)):eh P w H' h' a o:=by
 induction o with
 |lst xs=>obtain⟨z,its,n,r,e⟩:=x;exact⟨z,its,n,r,k _ _ (.inl rfl) e⟩
 |tup xs=>obtain⟨z,its,r,ob,e,c⟩:=x;exact⟨z,its,r,ob,k _ _ (.inl rfl) e,c⟩
 |dK kvs=>obtain⟨z,y,vs,r,ob,es,ep,e,c⟩:=x;exact⟨z,y,vs,r,ob,es,ep,k _ _ (.inl rfl) e,c⟩
 |dT kvs=>
  obtain⟨z,y,xs,r,ob,es,ep,e,c⟩:=x
  exact⟨z,y,xs,Paired.CA r λp q z=>⟨z.1,ht _ _ z.2.1,z.2.2⟩,ob,es,ep,k _ _ (.inl rfl) e,c⟩
 |set S n=>obtain⟨ob,es,ep,t,e,c⟩:=x;exact⟨ob,es,ep,t,k _ _ (.inl rfl) e,c⟩
 |ins C dx fs=>
  obtain⟨d,z,ne,e,mA,⟨od,es,ep,e2,c⟩,r⟩:=x
  exact⟨ho _ d,z,ne,k _ _ (.inl rfl) e,mA,⟨od,es,ep,k _ _ (.inr d) e2,c⟩,r⟩
 |own y=>obtain⟨ob,e⟩:=x;exact⟨ob,k _ _ (.inl rfl) e⟩
 |xd fs=>obtain⟨mA,⟨od,es,ep,e,c⟩,r⟩:=x;exact⟨mA,⟨od,es,ep,k _ _ (.inl rfl) e,c⟩,r⟩
 |EI lo hi=>obtain⟨t,u,v,e⟩:=x;exact⟨t,u,v,k _ _ (.inl rfl) e⟩
 |ro ob u ih=>obtain⟨e,q⟩:=x;exact⟨k _ _ (.inl rfl) e,ih q⟩
 |Aa ps=>
  have e:h.get? a=some {cls:= .none,data:= .fields ps}:=x
  show h'.get? a=some {cls:= .none,data:= .fields ps}
  exact k a _ (.inl rfl) e
 |met f y=>
  have e:h.get? a=some (PySem.W.methodObj (.ref f) (.ref y)):=x
  show h'.get? a=some (PySem.W.methodObj (.ref f) (.ref y))
  exact k a _ (.inl rfl) e
 |exc cls=>obtain⟨o,vs,e,c⟩:=x;exact⟨o,vs,k _ _ (.inl rfl) e,c⟩
 |ext φ=>obtain⟨p,⟨o,e⟩,st⟩:=x;exact⟨st _ _ p λo q=>k _ _ (.inl rfl) q,⟨o,k _ _ (.inl rfl) e⟩,st⟩
theorem lH.lt(x:lH P w H h)(e:H a=some o):a<h.objs.size:=(x a o e).lt
theorem lH.fresh(x:lH P w H h)(e:h.objs.size<=a):H a=none:=by
 cases q:H a with
 |none=>rfl
 |some u=>exact absurd (aB (x.lt q) e) (aT _)
theorem lH.kept(x:lH P w H h)(k:∀b u,h.get? b=some u->h'.get? b=some u):lH P w H h':=λa o e=>
 (x a o e).qC (λb u _ q=>k b u q) (λ_ q=>q) λ_ _ q=>q
theorem lH.laid(x:lH P w H h)(k:∀b u,h.get? b=some u->h'.get? b=some u)(hp:h.objs.size<=a)(new:eh P w (upd H a o) h' a o):lH P w (upd H a o) h':=λb u e=>by
 have hn:=x.fresh hp
 by_cases hb:b=a
 ·subst hb;rw[cg]at e;cases e;exact new
 ·rw[cO hb]at e
  exact(x b u e).qC (λc v _ q=>k c v q) (λc q=>by rw[cO (du q hn)];exact q) λc xs q=>by rw[cO (du q hn)];exact q
end
noncomputable def Rd (H:Hp) (a:Addr) (u:HO):Prop:=H a=some u∨∃o,H a=some (.ro o u)
theorem Rd.of{H:Hp}{a:Addr}{u:HO}(h:H a=some u):Rd H a u:= .inl h
theorem Rd.ok{P:Program}{w:World}{H:Hp}{h:Heap}{a:Addr}{u:HO}(r:Rd H a u)(x:lH P w H h):eh P w H h a u:=by
 rcases r with r|⟨o,r⟩
 ·exact x a u r
 ·obtain⟨_,q⟩:=x a _ r
  exact q
noncomputable def Dz:Option HO->Prop
 |some (.lst _)=>True
 |some (.dK _)=>True
 |some (.dT _)=>True
 |some (.set _ _)=>True
 |some (.ins _ _ _)=>True
 |some (.ext _)=>True
 |_=>False
section
variable{P:Program}{w:World}{H:Hp}{h h':Heap}{x e:Addr}{o':HO}
theorem lH.write(ok:lH P w H h)(mu:Dz (H x))(he:e=x∨H e=some (.own x))(k:∀b u,b≠e->h.get? b=some u->h'.get? b=some u)(heo:∃u,h'.get? e=some u)
  (new:eh P w (upd H x o') h' x o'):lH P w (upd H x o') h':=λb u q=>by
 have nown:∀c y,H c=some (.own y)->c≠x:=λc y r z=>by subst z;rw[r]at mu;exact mu
 have ntup:∀c xs,H c=some (.tup xs)->c≠x:=λc xs r z=>by subst z;rw[r]at mu;exact mu
 by_cases hb:b=x
 ·subst hb;rw[cg]at q;cases q;exact new
 ·rw[cO hb]at q
  by_cases hbe:b=e
  ·have q':H b=some (.own x):=by
    rcases he with z|z
    ·exact absurd (hbe.trans z) hb
    ·rw[hbe];exact z
   rw[q]at q';cases q'
   obtain⟨v,hv⟩:=heo
   exact⟨v,by rw[hbe];exact hv⟩
  ·refine(ok b u q).qC (λc v hc r=>k c v ?_ r) (λc r=>by rw[cO (nown c b r)];exact r) λc xs r=>by rw[cO (ntup c xs r)];exact r
   rcases hc with rfl|hc
   ·exact hbe
   ·rintro rfl
    rcases he with z|z
    ·exact nown c b hc z
    ·rw[hc]at z;cases z;exact hb rfl
end
structure Un(fs ex:List Addr)(H H':Hp)(h h':Heap):Prop where
 keep:∀b o,h.get? b=some o->H b=none->b∉fs->b∉ex->h'.get? b=some o
 slot:∀b o,h.get? b=some o->H b=none->b∈fs->b∉ex->∃sl,h'.get? b=some {o with slots:=sl}
 free:∀b o,h.get? b=some o->H b=none->b∉ex->H' b=none
 there:∀b o,h.get? b=some o->b∉ex->∃o',h'.get? b=some o'
 kb:∀b xs,H b=some (.tup xs)->H' b=some (.tup xs)
 jS:∀b o u,H b=some (.ro o u)->H' b=some (.ro o u)
 ka:∀b ps,H b=some (.Aa ps)->∃more,H' b=some (.Aa (ps++more))
section
variable{fs fs' ex ex':List Addr}{H H1 H2:Hp}{h h1 h2 h':Heap}{a x e:Addr}{o:HO}
theorem Un.any(u:Un fs ex H H1 h h1){b:Addr}{ob:Obj}(q:h.get? b=some ob)(n:H b=none)(hx:b∉ex):∃sl,h1.get? b=some {ob with slots:=sl}:=by
 by_cases hb:b∈fs
 ·exact u.slot b ob q n hb hx
 ·exact⟨ob.slots,u.keep b ob q n hb hx⟩
theorem Un.trans(a:Un fs ex H H1 h h1)(b:Un fs ex H1 H2 h1 h2):Un fs ex H H2 h h2 where
 keep:=λc ob q n hc hx=>b.keep c ob (a.keep c ob q n hc hx) (a.free c ob q n hx) hc hx
 slot:=λc ob q n hc hx=>by
  obtain⟨sl,e1⟩:=a.slot c ob q n hc hx
  obtain⟨sl',e2⟩:=b.slot c _ e1 (a.free c ob q n hx) hc hx
  exact⟨sl',e2⟩
 free:=λc ob q n hx=>by
  obtain⟨o',e1⟩:=a.there c ob q hx
  exact b.free c o' e1 (a.free c ob q n hx) hx
 there:=λc ob q hx=>by
  obtain⟨o',e1⟩:=a.there c ob q hx
  exact b.there c o' e1 hx
 kb:=λc xs q=>b.kb c xs (a.kb c xs q)
 jS:=λc ob xs q=>b.jS c ob xs (a.jS c ob xs q)
 ka:=λc ps q=>by
  obtain⟨m1,e1⟩:=a.ka c ps q
  obtain⟨m2,e2⟩:=b.ka c _ e1
  exact⟨m1++m2,by rw[e2,bT]⟩
theorem Un.kept(k:∀b u,h.get? b=some u->h'.get? b=some u):Un fs ex H H h h':=
 ⟨λb ob q _ _ _=>k b ob q,λb ob q _ _ _=>⟨ob.slots,k b ob q⟩,λ_ _ _ n _=>n,λb ob q _=>⟨ob,k b ob q⟩,λ_ _ q=>q,λ_ _ _ q=>q,λ_ ps q=>⟨#[],by rw[q];simp⟩⟩
theorem Un.refl:Un fs ex H H h h:=Un.kept λ_ _ q=>q
theorem Un.laid(k:∀b u,h.get? b=some u->h'.get? b=some u)(hp:h.objs.size<=a)(hn:H a=none):Un fs ex H (upd H a o) h h' where
 keep:=λb u q _ _ _=>k b u q
 slot:=λb u q _ _ _=>⟨u.slots,k b u q⟩
 free:=λb u q n _=>by rw[cO (aK (aB (Heap.lt_size q) hp))];exact n
 there:=λb u q _=>⟨u,k b u q⟩
 kb:=λb xs q=>by rw[cO (du q hn)];exact q
 jS:=λb u xs q=>by rw[cO (du q hn)];exact q
 ka:=λb ps q=>⟨#[],by rw[cO (du q hn),q];simp⟩
theorem Un.write(mu:Dz (H x))(he:e=x∨H e=some (.own x))(k:∀b u,b≠e->h.get? b=some u->h'.get? b=some u)(heo:∃u,h'.get? e=some u):Un fs ex H (upd H x o) h h':=by
 have hx:∀b,H b=none->b≠x:=λb n z=>by subst z;rw[n]at mu;exact mu
 have hb:∀b,H b=none->b≠e:=λb n z=>by
  subst z
  rcases he with r|r
  ·exact hx b n r
  ·rw[n]at r;cases r
 have hm:∀b u,H b=some u->¬Dz (some u)->b≠x:=λb u q nm z=>by subst z;rw[q]at mu;exact nm mu
 refine⟨λb u q n _ _=>k b u (hb b n) q,λb u q n _ _=>⟨u.slots,k b u (hb b n) q⟩,λb u q n _=>by rw[cO (hx b n)];exact n,λb u q _=> ?_,
  λb xs q=>by rw[cO (hm b _ q λz=>z)];exact q,λb u xs q=>by rw[cO (hm b _ q λz=>z)];exact q,λb ps q=>⟨#[],by rw[cO (hm b _ q λz=>z),q];simp⟩⟩
 by_cases hbe:b=e
 ·subst hbe;exact heo
 ·exact⟨u,k b u hbe q⟩
theorem Un.mono(u:Un fs ex H H1 h h1)(hs:∀b∈fs,b∈fs')(hx:∀b∈ex,b∈ex'):Un fs' ex' H H1 h h1:=
 ⟨λb ob q n hb he=>u.keep b ob q n (λz=>hb (hs b z)) λz=>he (hx b z),λ_ _ q n _ he=>u.any q n λz=>he (hx _ z),λb ob q n he=>u.free b ob q n λz=>he (hx b z),λb ob q he=>u.there b ob q λz=>he (hx b z),u.kb,u.jS,u.ka⟩
end
noncomputable def E8 (h:Heap) (H:Hp):List Addr:=(List.range h.objs.size).filter λa=>(H a).isSome
noncomputable def tP (h:Heap) (H:Hp):Heap:=PySem.W.hideAll h (E8 h H)
theorem xr(h:Heap)(H:Hp):(tP h H).objs.size=h.objs.size:=PySem.W.hideAll_size _ _
theorem yM{h:Heap}{H:Hp}{b:Addr}{o:Obj}(e:h.get? b=some o)(n:H b=none):(tP h H).get? b=some o:=
 bA _ e λhm=>by
  have q:(H b).isSome=true:=(List.mem_filter.mp hm).2
  rw[n]at q;simp at q
theorem AO{h:Heap}{H:Hp}{b:Addr}{o:Obj}(e:(tP h H).get? b=some o):h.get? b=some o/\H b=none:=by
 have e':h.get? b=some o:=bF (E8 h H) e
 refine⟨e',?_⟩
 cases q:H b with
 |none=>rfl
 |some x=>
  have hm:b∈E8 h H:=List.mem_filter.mpr ⟨List.mem_range.mpr (Heap.lt_size e'),by simp[q]⟩
  have z:(tP h H).get? b=none:=PySem.W.hideAll_none (E8 h H) hm
  rw[z]at e;cases e
noncomputable def Ag (g h:Heap) (L:Addr):List (Addr×Obj):=(List.range h.objs.size).filterMap λa=>if a=L∨(g.get? a).isSome=true then none else(h.get? a).map λo=>(a,o)
noncomputable def rest (g h:Heap) (L d:Addr):List (Addr×Obj):=(Ag g h L).filter λp=>decide (p.1≠d)
end L2
namespace L2
open PySem PySem.Spec PyProof.Rows
structure Mod(K:PySem.W.Frag)(mg:Str->Option Value)(base:Heap):Prop where
 E4:K.In base
 glob:base.Ns mainGlobals mg
 blt:∃mb,base.Ns builtinsNs mb/\∀x:Str,x≠"__name__"->mb x=bootBuiltins x
 nolimit:base.NoLimit
structure Cx where
 prog:Program
 w:World
 K:PySem.W.Frag
 mg:Str->Option Value
 base:Heap
 A:Around
 N:List Str
 s₀:Shared
 H₀:Hp
 env:Env
 outer:List Env
 stack:List Env
 ex:List Addr
 fn:Str->Bool
 calm:Bool
 pn:List (Addr×Obj)
 xe:Value->Shared->Prop
noncomputable def lG (l:List Env):List Addr:=l.filterMap (·.frame)
noncomputable abbrev Cx.fs (X:Cx):List Addr:=lG X.outer
noncomputable def EZ (sc:Scope) (x:Str):Prop:=sc.names.lookup x=some .local∨sc.names.lookup x=some .cell∨sc.names.lookup x=some .free
noncomputable def Loc (sc:Scope) (x:Str):Prop:=sc.names.lookup x=some .local∨sc.names.lookup x=some .cell
noncomputable def Look (env:Env) (h:Heap) (m:Str->Option Value) (x:Str) (u:Value):Prop:=
 (env.kindOf x=some .local/\m x=some u)∨((env.kindOf x=some .cell∨env.kindOf x=some .free)/\∃c,env.cells.lookup x=some c/\h.IsCell c (some u))
structure Cx.Ok(X:Cx):Prop where
 mod:Mod X.K X.mg X.base
 kind:X.env.scope.kind= .function
 glob:X.env.globals=mainGlobals
 blt:X.env.builtins=builtinsNs
 above:X.s₀.heap.objs.size<=X.env.locals
 inj:∀x y c,X.env.cells.lookup x=some c->X.env.cells.lookup y=some c->x=y
 has:∀x,(X.env.kindOf x=some .cell∨X.env.kindOf x=some .free)->∃c,X.env.cells.lookup x=some c
 Bo:∀x c,X.fn x=true->X.env.cells.lookup x=some c->X.s₀.heap.objs.size<=c
 hd:X.calm=true->X.A.handled=none
 frames:X.A.frames=some X.stack
 Dm:X.stack=X.outer∨(X.stack=X.env::X.outer/\X.env.frame=some X.env.locals)
 Ed:∀b∈X.ex,b≠X.env.locals/\∀x c,X.env.cells.lookup x=some c->c≠b
 bs:∀b o,X.base.get? b=some o->X.s₀.heap.get? b=some o/\X.H₀ b=none
 wq:X.base.objs.size<=X.s₀.heap.objs.size
 pJ:∀b o,X.base.get? b=some o->b∉X.ex
 vC:∀b∈X.ex,b∉X.fs
 lR:X.s₀.heap.FunFrames X.base X.outer
 x9:∀b∈X.fs,X.H₀ b=none
structure Inv(X:Cx)(pins:List (Addr×Obj))(σ:List (Option V))(H:Hp)(s:Shared):Prop where
 ok:X.Ok
 os:s.os=X.s₀.os
 bare:AllBare s.gens
 base:Un X.fs X.ex X.H₀ H X.s₀.heap s.heap
 loc:∃m,s.heap.Ns X.env.locals m/\∀(i:Nat) (x:Str) (v:V),X.N[i]? =some x->σ[i]? =some (some v)->EZ X.env.scope x->∃u,RelV v u/\Look X.env s.heap m x u
 cell:∀x c,X.env.cells.lookup x=some c->∃v,s.heap.IsCell c v
 free:H X.env.locals=none
 iQ:∀x c,X.env.cells.lookup x=some c->H c=none
 pin:∀p∈X.pn++pins,s.heap.get? p.1=some p.2/\H p.1=none/\p.1≠X.env.locals/\p.1∉X.fs/\∀v,p.2.data≠ .cell v
 dm:lH X.prog X.w H s.heap
 len:σ.length=X.N.length
section
variable{X:Cx}{pins:List (Addr×Obj)}{σ:List (Option V)}{H H':Hp}{s:Shared}{h':Heap}
theorem Cx.Ok.Fx(ok:X.Ok){b:Addr}{o:Obj}(e:X.base.get? b=some o):b∉X.fs:=λhb=>by
 have:=(ok.lR.mem hb).1
 rw[e]at this;cases this
theorem Inv.bs(I:Inv X pins σ H s):∀b o,X.base.get? b=some o->s.heap.get? b=some o/\H b=none:=λb o e=>
 ⟨I.base.keep b o (I.ok.bs b o e).1 (I.ok.bs b o e).2 (I.ok.Fx e) (I.ok.pJ b o e),I.base.free b o (I.ok.bs b o e).1 (I.ok.bs b o e).2 (I.ok.pJ b o e)⟩
theorem Inv.bk(I:Inv X pins σ H s):∀b o,X.base.get? b=some o->s.heap.get? b=some o:=λb o e=>(I.bs b o e).1
theorem Inv.mod(I:Inv X pins σ H s):Mod X.K X.mg X.base:=I.ok.mod
theorem Inv.rF(I:Inv X pins σ H s):X.K.In s.heap:=I.ok.mod.E4.keeps I.bk
theorem Inv.nolimit(I:Inv X pins σ H s):s.heap.NoLimit:=I.ok.mod.nolimit.keeps I.bk
theorem Inv.fr(I:Inv X pins σ H s):∃m,Fr X.base X.env.locals s.heap m:=
 let ⟨m,hn,_⟩:=I.loc
 ⟨m,hn,I.bk,av I.ok.wq I.ok.above⟩
theorem Inv.lt(I:Inv X pins σ H s):X.env.locals<s.heap.objs.size:=let ⟨_,hn,_⟩:=I.loc;hn.lt
theorem Inv.sz(I:Inv X pins σ H s):X.s₀.heap.objs.size<=s.heap.objs.size:=av I.ok.above (bX I.lt)
theorem Inv.Fy(I:Inv X pins σ H s){a:Addr}(h:s.heap.objs.size<=a):a∉X.fs:=λhb=>by
 obtain⟨_,o,ho,_⟩:=I.ok.lR.mem hb
 exact absurd (aB (Heap.lt_size ho) (av I.sz h)) (aT _)
theorem Inv.Aw(I:Inv X pins σ H s):∀x c,X.env.cells.lookup x=some c->c≠X.env.locals:=λx c e z=>by
 obtain⟨v,o,ho,hd⟩:=I.cell x c e
 obtain⟨m,⟨o',es,ep,ho',hd',_⟩,_⟩:=I.loc
 rw[z,ho']at ho;cases ho;rw[hd']at hd;cases hd
theorem Inv.lR(I:Inv X pins σ H s):s.heap.FunFrames X.base X.outer:=by
 have all:∀(l:List Env),(∀b∈lG l,b∈X.fs)->X.s₀.heap.FunFrames X.base l->s.heap.FunFrames X.base l:=by
  intro l
  induction l with
  |nil=>intro _ _;trivial
  |cons env r ih=>
   intro hs hl
   obtain⟨hk,⟨L,o,hf,hn,ho,hd⟩,hr⟩:=hl
   have hL:L∈X.fs:=hs L (by unfold lG;rw[bH,hf];exact aA)
   obtain⟨sl,e⟩:=I.base.slot L o ho (I.ok.x9 L hL) hL λz=>I.ok.vC L z hL
   exact⟨hk,⟨L,_,hf,hn,e,hd⟩,ih (λb hb=>hs b (by unfold lG;rw[bH,hf];exact aD _ hb)) hr⟩
 exact all X.outer (λ_ hb=>hb) I.ok.lR
theorem Inv.stack(I:Inv X pins σ H s):s.heap.FunFrames X.base X.stack:=by
 rcases I.ok.Dm with e|⟨e,hf⟩
 ·rw[e];exact I.lR
 ·rw[e]
  obtain⟨m,hn,_⟩:=I.loc
  refine .cons (by rw[I.ok.kind];decide) hf hn ?_ I.lR
  exact Heap.get?_none_of_le (av I.ok.wq I.ok.above)
theorem Inv.pU(I:Inv X pins σ H s):∀b∈lG X.stack,b∈X.env.locals::X.fs:=λb hb=>by
 rcases I.ok.Dm with e|⟨e,hf⟩
 ·rw[e]at hb;exact aD _ hb
 ·rw[e]at hb
  unfold lG at hb
  rw[bH,hf]at hb
  exact hb
theorem Inv.nE(I:Inv X pins σ H s):∀b∈lG X.stack,H b=none:=λb hb=>by
 rcases List.mem_cons.mp (I.pU b hb) with e|hb
 ·rw[e];exact I.free
 ·obtain⟨_,o,ho,_⟩:=I.ok.lR.mem hb
  exact I.base.free b o ho (I.ok.x9 b hb) λz=>I.ok.vC b z hb
theorem Inv.step{g':Array GenState}{t':Nat}{d':Drawn}{ch:List Addr}(I:Inv X pins σ H s)
  (hch:∀b∈ch,(b∈X.ex∨X.s₀.heap.objs.size<=b)/\b≠X.env.locals/\(∀x c,X.env.cells.lookup x=some c->c≠b)/\∀p∈X.pn++pins,p.1≠b)
  (keep:∀b o,b≠X.env.locals->b∉X.fs->b∉ch->s.heap.get? b=some o->H b=none->h'.get? b=some o)
  (slot:∀b o,b≠X.env.locals->b∈X.fs->b∉ch->s.heap.get? b=some o->H b=none->∃sl,h'.get? b=some {o with slots:=sl}) (free:∀b o,b∉ch->s.heap.get? b=some o->H b=none->H' b=none)
  (there:∀b o,b∉ch->s.heap.get? b=some o->∃o',h'.get? b=some o')
  (kb:∀b xs,H b=some (.tup xs)->H' b=some (.tup xs)) (jS:∀b o u,H b=some (.ro o u)->H' b=some (.ro o u)) (ka:∀b ps,H b=some (.Aa ps)->∃more,H' b=some (.Aa (ps++more)))
  (ns:∀m,s.heap.Ns X.env.locals m->h'.Ns X.env.locals m) (dm:lH X.prog X.w H' h') (hg:AllBare g'):
  Inv X pins σ H' {s with heap:=h',gens:=g',drawn:=d',toks:=t'}:=by
 have neL:∀b o,X.s₀.heap.get? b=some o->b≠X.env.locals:=λb o e=>aK (aB (Heap.lt_size e) I.ok.above)
 have neC:∀b o,X.s₀.heap.get? b=some o->b∉X.ex->b∉ch:=λb o e hx hb=>by
  rcases (hch b hb).1 with z|z
  ·exact hx z
  ·exact absurd (aB (Heap.lt_size e) z) (aT _)
 have cellK:∀x c,X.env.cells.lookup x=some c->∀v,s.heap.IsCell c v->h'.IsCell c v:=λx c e v ⟨o,ho,hd⟩=>by
  have nch:c∉ch:=λz=>(hch c z).2.2.1 x c e rfl
  by_cases hc:c∈X.fs
  ·obtain⟨sl,q⟩:=slot c o (I.Aw x c e) hc nch ho (I.iQ x c e)
   exact⟨_,q,hd⟩
  ·exact⟨o,keep c o (I.Aw x c e) hc nch ho (I.iQ x c e),hd⟩
 refine⟨I.ok,I.os,hg,⟨λb o e n hb hx=> ?_,λb o e n hb hx=> ?_,λb o e n hx=> ?_,λb o e hx=> ?_,λb xs e=>kb b xs (I.base.kb b xs e),λb o xs e=>jS b o xs (I.base.jS b o xs e),λb ps e=> ?_⟩,?_,λx c e=> ?_,?_,λx c e=> ?_,λp hp=> ?_,dm,I.len⟩
 ·exact keep b o (neL b o e) hb (neC b o e hx) (I.base.keep b o e n hb hx) (I.base.free b o e n hx)
 ·obtain⟨sl,e1⟩:=I.base.slot b o e n hb hx
  obtain⟨sl',e2⟩:=slot b _ (neL b o e) hb (neC b o e hx) e1 (I.base.free b o e n hx)
  exact⟨sl',e2⟩
 ·obtain⟨o',e1⟩:=I.base.there b o e hx
  exact free b o' (neC b o e hx) e1 (I.base.free b o e n hx)
 ·obtain⟨o',e1⟩:=I.base.there b o e hx
  exact there b o' (neC b o e hx) e1
 ·obtain⟨m1,e1⟩:=I.base.ka b ps e
  obtain⟨m2,e2⟩:=ka b _ e1
  exact⟨m1++m2,by rw[e2,bT]⟩
 ·obtain⟨m,hn,hl⟩:=I.loc
  refine⟨m,ns m hn,λi x v e1 e2 e3=> ?_⟩
  obtain⟨u,r,l⟩:=hl i x v e1 e2 e3
  refine⟨u,r,?_⟩
  rcases l with l|⟨k,c,e,z⟩
  ·exact .inl l
  ·exact .inr ⟨k,c,e,cellK x c e _ z⟩
 ·obtain⟨v,z⟩:=I.cell x c e
  exact⟨v,cellK x c e v z⟩
 ·obtain⟨m,⟨o,_,_,ho,_⟩,_⟩:=I.loc
  exact free _ o (λz=>(hch _ z).2.1 rfl) ho I.free
 ·obtain⟨v,o,ho,hd⟩:=I.cell x c e
  exact free c o (λz=>(hch c z).2.2.1 x c e rfl) ho (I.iQ x c e)
 ·obtain⟨e,n,ne,nf,d⟩:=I.pin p hp
  have nch:p.1∉ch:=λz=>(hch p.1 z).2.2.2 p hp rfl
  exact⟨keep p.1 p.2 ne nf nch e n,free p.1 p.2 nch e n,ne,nf,d⟩
theorem Inv.un{t':Nat}(I:Inv X pins σ H s)(u:Un X.fs [] H H' s.heap h')(dm:lH X.prog X.w H' h'):Inv X pins σ H' {s with heap:=h',toks:=t'}:=by
 obtain⟨m,⟨o,es,ep,ho,r⟩,_⟩:=id I.loc
 obtain⟨sl,hL⟩:=u.any ho I.free (by simp)
 exact I.step (g':=s.gens) (d':=s.drawn) (ch:=[]) (λ_ z=>nomatch z) (λb o _ hb _ e n=>u.keep b o e n hb (by simp)) (λb o _ hb _ e n=>u.slot b o e n hb (by simp)) (λb o _ e n=>u.free b o e n (by simp)) (λb o _ e=>u.there b o e (by simp)) u.kb u.jS u.ka (λm' hm=>by
  obtain⟨o',es',ep',ho',r'⟩:=hm
  rw[ho]at ho';cases ho'
  exact⟨_,es',ep',hL,r'⟩) dm I.bare
theorem Inv.call{g':Array GenState}{t':Nat}{d':Drawn}{ch:List Addr}(I:Inv X pins σ H s)(u:Un (lG X.stack) ch H H' s.heap h')(dm:lH X.prog X.w H' h')(hg:AllBare g')
  (hch:∀b∈ch,(b∈X.ex∨X.s₀.heap.objs.size<=b)/\b≠X.env.locals/\(∀x c,X.env.cells.lookup x=some c->c≠b)/\∀p∈X.pn++pins,p.1≠b):
  Inv X pins σ H' {s with heap:=h',gens:=g',drawn:=d',toks:=t'}:=by
 obtain⟨m,⟨o,es,ep,ho,r⟩,_⟩:=id I.loc
 obtain⟨sl,hL⟩:=u.any ho I.free λz=>(hch _ z).2.1 rfl
 exact I.step (ch:=ch) hch (λb o hL hb hc e n=>u.keep b o e n (λz=>(List.mem_cons.mp (I.pU b z)).elim hL hb) hc) (λb o _ _ hc e n=>u.any e n hc) (λb o hc e n=>u.free b o e n hc) (λb o hc e=>u.there b o e hc) u.kb u.jS u.ka (λm' hm=>by
  obtain⟨o',es',ep',ho',r'⟩:=hm
  rw[ho]at ho';cases ho'
  exact⟨_,es',ep',hL,r'⟩) dm hg
theorem Inv.turned{t':Nat}{it:Addr}(I:Inv X pins σ H s)(k:∀b o,b≠it->s.heap.get? b=some o->h'.get? b=some o)(hn:H it=none)(hL:it≠X.env.locals)
  (h1:it∈X.ex∨X.s₀.heap.objs.size<=it) (h2:∀x c,X.env.cells.lookup x=some c->c≠it) (h3:∀p∈X.pn++pins,p.1≠it):Inv X pins σ H {s with heap:=h',toks:=t'}:=by
 have nit:∀b u,H b=some u->b≠it:=λb u e z=>by rw[z,hn]at e;cases e
 refine I.step (g':=s.gens) (d':=s.drawn) (ch:=[it]) (λb hb=> ?_) (λb o _ _ hc e _=>k b o (λz=>hc (by simp[z])) e) (λb o _ _ hc e _=>⟨o.slots,k b o (λz=>hc (by simp[z])) e⟩) (λ_ _ _ _ n=>n)
  (λb o hc e=>⟨o,k b o (λz=>hc (by simp[z])) e⟩) (λ_ _ e=>e) (λ_ _ _ e=>e) (λb ps e=>⟨#[],by rw[e];simp⟩) (λm hm=> ?_) (λb u e=> ?_) I.bare
 ·have e:b=it:=by simpa using hb
  subst e
  exact⟨h1,hL,h2,h3⟩
 ·obtain⟨o,es,ep,ho,r⟩:=hm
  exact⟨o,es,ep,k _ o (aM hL) ho,r⟩
 ·refine(I.dm b u e).qC (λc v hc q=>k c v ?_ q) (λ_ q=>q) λ_ _ q=>q
  rcases hc with z|z
  ·rw[z];exact nit b u e
  ·exact nit c _ z
theorem Inv.tok(I:Inv X pins σ H s)(t:Nat):Inv X pins σ H {s with toks:=t}:=I.un (h':=s.heap) (t':=t) Un.refl I.dm
theorem Inv.kept{t':Nat}(I:Inv X pins σ H s)(k:∀b u,s.heap.get? b=some u->h'.get? b=some u):Inv X pins σ H {s with heap:=h',toks:=t'}:=I.un (Un.kept k) (I.dm.kept k)
theorem Inv.laid{a:Addr}{o:HO}{t':Nat}(I:Inv X pins σ H s)(k:∀b u,s.heap.get? b=some u->h'.get? b=some u)(hp:s.heap.objs.size<=a)(new:eh X.prog X.w (upd H a o) h' a o):
  Inv X pins σ (upd H a o) {s with heap:=h',toks:=t'}:=I.un (Un.laid k hp (I.dm.fresh hp)) (I.dm.laid k hp new)
theorem Inv.write{x e:Addr}{o:HO}{t':Nat}(I:Inv X pins σ H s)(mu:Dz (H x))(he:e=x∨H e=some (.own x))(k:∀b u,b≠e->s.heap.get? b=some u->h'.get? b=some u)(heo:∃u,h'.get? e=some u)
  (new:eh X.prog X.w (upd H x o) h' x o):Inv X pins σ (upd H x o) {s with heap:=h',toks:=t'}:=I.un (Un.write mu he k heo) (I.dm.write mu he k heo new)
theorem Inv.kY{pins':List (Addr×Obj)}(I:Inv X pins σ H s)(h:∀p∈pins',s.heap.get? p.1=some p.2/\H p.1=none/\p.1≠X.env.locals/\p.1∉X.fs/\∀v,p.2.data≠ .cell v):Inv X pins' σ H s:=
 ⟨I.ok,I.os,I.bare,I.base,I.loc,I.cell,I.free,I.iQ,λp hp=>(List.mem_append.mp hp).elim (λz=>I.pin p (bK _ z)) (h p),I.dm,I.len⟩
theorem rK{N:List Str}(hN:N.Nodup){i j:Nat}{x:Str}(a:N[i]? =some x)(b:N[j]? =some x):i=j:=by
 obtain⟨h1,e1⟩:=List.getElem?_eq_some_iff.mp a
 obtain⟨h2,e2⟩:=List.getElem?_eq_some_iff.mp b
 exact(List.getElem_inj hN).mp (e1.trans e2.symm)
theorem pW{M:Model}{A:Around}{E:Value->Shared->Prop}{i:Nat}{x:Str}{v:V}{u:Value}{Q:Unit->Shared->Prop}(I:Inv X pins σ H s)(hN:X.N.Nodup)(hi:X.N[i]? =some x)(hx:Loc X.env.scope x)(r:RelV v u)
  (h:∀s',Inv X pins (σ.set i (some v)) H s'->(∃a,Heap.SameBut a s.heap s'.heap/\(a=X.env.locals∨X.env.cells.lookup x=some a))->Q () s') (hf:X.fn x=true∨X.env.scope.names.lookup x=some .local:=by first|exact .inl rfl|exact .inr rfl|assumption):wpAny M A (storeName X.env x u) Q E s:=by
 obtain⟨m,hn,hl⟩:=id I.loc
 have hcls:(X.env.scope.kind== .class ||(X.env.scope.kind== .module&&X.env.locals !=X.env.globals))=false:=by rw[I.ok.kind];rfl
 have hiσ:i<σ.length:=by rw[I.len];exact(List.getElem?_eq_some_iff.mp hi).1
 have Aw:=I.Aw
 have tracked:∀{a:Addr} {h':Heap},(∃o,s.heap.get? a=some o/\H a=none)->Heap.SameBut a s.heap h'->lH X.prog X.w H h':=λ{a h'} ha hs b ob e=>by
  obtain⟨_,_,hfree⟩:=ha
  refine(I.dm b ob e).qC (λc w' hc q=>(hs.2 c ?_).trans q) (λ_ q=>q) λ_ _ q=>q
  rintro rfl
  rcases hc with rfl|hc
  ·rw[hfree]at e;cases e
  ·rw[hfree]at hc;cases hc
 rcases hx with hk|hk
 ·refine wpAny_storeName_local hk hn (λh' hn' hs=> ?_) hcls
  obtain⟨oL,_,_,hoL,_⟩:=id hn
  refine h _ ⟨I.ok,I.os,I.bare,⟨λb o e n hb hx=> ?_,λb o e n hb hx=> ?_,I.base.free,λb o e hx=> ?_,I.base.kb,I.base.jS,I.base.ka⟩,⟨_,hn',λj y v' e1 e2 e3=> ?_⟩,λy c e=> ?_,I.free,I.iQ,λp hp=> ?_,tracked ⟨oL,hoL,I.free⟩ hs,by simpa using I.len⟩ ⟨_,hs,.inl rfl⟩
  ·exact(hs.2 b (aK (aB (Heap.lt_size e) I.ok.above))).trans (I.base.keep b o e n hb hx)
  ·obtain⟨sl,e1⟩:=I.base.slot b o e n hb hx
   exact⟨sl,(hs.2 b (aK (aB (Heap.lt_size e) I.ok.above))).trans e1⟩
  ·obtain⟨o',e1⟩:=I.base.there b o e hx
   exact⟨o',(hs.2 b (aK (aB (Heap.lt_size e) I.ok.above))).trans e1⟩
  ·by_cases hj:j=i
   ·subst hj
    rw[hi]at e1;cases e1
    rw[List.getElem?_set_self hiσ]at e2
    cases e2
    exact⟨u,r,.inl ⟨hk,by simp⟩⟩
   ·rw[List.getElem?_set_ne (aM hj)]at e2
    obtain⟨u',r',q⟩:=hl j y v' e1 e2 e3
    refine⟨u',r',?_⟩
    rcases q with ⟨k,e⟩|⟨k,c,e,z⟩
    ·refine .inl ⟨k,?_⟩
     have:y≠x:=λe=>hj (rK hN e1 (e▸hi))
     simp[this,e]
    ·exact .inr ⟨k,c,e,z.sameBut hs (Aw y c e)⟩
  ·obtain⟨w',z⟩:=I.cell y c e
   exact⟨w',z.sameBut hs (Aw y c e)⟩
  ·obtain⟨e,n,ne,nf,d⟩:=I.pin p hp
   exact⟨(hs.2 p.1 ne).trans e,n,ne,nf,d⟩
 ·have hfn:X.fn x=true:=by
   rcases hf with z|z
   ·exact z
   ·rw[z]at hk;cases hk
  obtain⟨c,hc⟩:=I.ok.has x (.inl hk)
  obtain⟨w',z⟩:=I.cell x c hc
  refine wpAny_storeName_cell I.ok.kind hk hc z (λh' hc' hs=> ?_)
  obtain⟨oc,hoc,hocd⟩:=id z
  refine h {s with heap:=h'} ⟨I.ok,I.os,I.bare,⟨λb o e n hb hx=> ?_,λb o e n hb hx=> ?_,I.base.free,λb o e hx=> ?_,I.base.kb,I.base.jS,I.base.ka⟩,⟨m,hn.sameBut hs (aM (Aw x c hc)),λj y v' e1 e2 e3=> ?_⟩,λy c' e=> ?_,I.free,I.iQ,λp hp=> ?_,tracked ⟨oc,hoc,I.iQ x c hc⟩ hs,by simpa using I.len⟩ ⟨c,hs,.inr hc⟩
  ·exact(hs.2 b (aK (aB (Heap.lt_size e) (I.ok.Bo x c hfn hc)))).trans (I.base.keep b o e n hb hx)
  ·obtain⟨sl,e1⟩:=I.base.slot b o e n hb hx
   exact⟨sl,(hs.2 b (aK (aB (Heap.lt_size e) (I.ok.Bo x c hfn hc)))).trans e1⟩
  ·obtain⟨o',e1⟩:=I.base.there b o e hx
   exact⟨o',(hs.2 b (aK (aB (Heap.lt_size e) (I.ok.Bo x c hfn hc)))).trans e1⟩
  ·by_cases hj:j=i
   ·subst hj
    rw[hi]at e1;cases e1
    rw[List.getElem?_set_self hiσ]at e2
    cases e2
    exact⟨u,r,.inr ⟨.inl hk,c,hc,hc'⟩⟩
   ·rw[List.getElem?_set_ne (aM hj)]at e2
    obtain⟨u',r',q⟩:=hl j y v' e1 e2 e3
    refine⟨u',r',?_⟩
    rcases q with q|⟨k,c',e,z'⟩
    ·exact .inl q
    ·refine .inr ⟨k,c',e,z'.sameBut hs ?_⟩
     rintro rfl
     exact hj (rK hN e1 (I.ok.inj _ _ _ e hc▸hi))
  ·by_cases hcc:c'=c
   ·subst hcc;exact⟨_,hc'⟩
   ·obtain⟨w2,z2⟩:=I.cell y c' e
    exact⟨w2,z2.sameBut hs hcc⟩
  ·obtain⟨e,n,ne,nf,d⟩:=I.pin p hp
   refine⟨(hs.2 p.1 ?_).trans e,n,ne,nf,d⟩
   intro q
   rw[q,hoc]at e
   have q':oc=p.2:=aW e
   exact d w' (by rw[←q'];exact hocd)
theorem rT{M:Model}{A:Around}{E:Value->Shared->Prop}{i:Nat}{x:Str}{v:V}{u:Value}{Q:Unit->Shared->Prop}(I:Inv X pins σ H s)(hN:X.N.Nodup)(hi:X.N[i]? =some x)(hx:Loc X.env.scope x)(r:RelV v u)
  (h:∀s',Inv X pins (σ.set i (some v)) H s'->Q () s') (hf:X.fn x=true∨X.env.scope.names.lookup x=some .local:=by first|exact .inl rfl|exact .inr rfl|assumption):wpAny M A (storeName X.env x u) Q E s:=
 pW I hN hi hx r (λs' I' _=>h s' I') hf
theorem Inv.yt{s':Shared}{ch:List Addr}(I:Inv X pins σ H s)(ho:s'.os=s.os)(u:Un (lG X.stack) ch H H' s.heap s'.heap)(dm:lH X.prog X.w H' s'.heap)(hg:AllBare s'.gens)
  (hch:∀b∈ch,(b∈X.ex∨X.s₀.heap.objs.size<=b)/\b≠X.env.locals/\(∀x c,X.env.cells.lookup x=some c->c≠b)/\∀p∈X.pn++pins,p.1≠b):Inv X pins σ H' s':=by
 obtain⟨h',g',d',t',o'⟩:=s'
 have e:o'=s.os:=ho
 subst e
 exact I.call (g':=g') (t':=t') (d':=d') u dm hg hch
end
noncomputable abbrev XK:=Value->Option Addr->Hp->Prop
noncomputable abbrev St:=List (Option V)
noncomputable abbrev VK:=V->Hp->Prop
noncomputable abbrev TE:=St->Hp->VK->Prop
noncomputable abbrev TT:=St->Hp->(Bool->Hp->Prop)->Prop
noncomputable abbrev TA:=St->Hp->(List V->Hp->Prop)->Prop
structure Ends where
 nx:St->Hp->Prop
 rt:VK
 bk:St->Hp->Prop:=λ_ _=>False
 ct:St->Hp->Prop:=λ_ _=>False
noncomputable abbrev TS:=Ends->St->Hp->Prop
noncomputable def EP (X:Cx) (pins:List (Addr×Obj)) (σ:St) (Q:VK) (u:Value) (s':Shared):Prop:=∃v H',Inv X pins σ H' s'/\RelV v u/\Q v H'
noncomputable def TP (X:Cx) (pins:List (Addr×Obj)) (σ:St) (Q:Bool->Hp->Prop) (b:Bool) (s':Shared):Prop:=∃H',Inv X pins σ H' s'/\Q b H'
noncomputable def AP (X:Cx) (pins:List (Addr×Obj)) (σ:St) (Q:List V->Hp->Prop) (us:List Value) (s':Shared):Prop:=∃vs H',Inv X pins σ H' s'/\Vals vs us/\Q vs H'
noncomputable def SP (X:Cx) (pins:List (Addr×Obj)) (D:Ends) (f:Flow) (s':Shared):Prop:=
 match f with
 | .next=>∃σ' H',Inv X pins σ' H' s'/\D.nx σ' H'
 | .brk=>∃σ' H',Inv X pins σ' H' s'/\D.bk σ' H'
 | .cont=>∃σ' H',Inv X pins σ' H' s'/\D.ct σ' H'
 | .ret u=>∃v σ' H',Inv X pins σ' H' s'/\RelV v u/\D.rt v H'
noncomputable def PE (X:Cx) (e:Expr) (t:TE):Prop:=
 ∀(pins:List (Addr×Obj)) (s:Shared) (σ:St) (H:Hp) (Q:VK),Inv X pins σ H s->t σ H Q->wpAny (model X.prog X.w) X.A (eval e X.env) (EP X pins σ Q) X.xe s
noncomputable def PT (X:Cx) (e:Expr) (t:TT):Prop:=
 ∀(pins:List (Addr×Obj)) (s:Shared) (σ:St) (H:Hp) (Q:Bool->Hp->Prop),Inv X pins σ H s->t σ H Q->wpAny (model X.prog X.w) X.A (isTrue e X.env (eval e X.env)) (TP X pins σ Q) X.xe s
noncomputable def PW (X:Cx) (e:Expr) (t:TT):Prop:=
 ∀(whole:Sem Value) (pins:List (Addr×Obj)) (s:Shared) (σ:St) (H:Hp) (Q:Bool->Hp->Prop),Inv X pins σ H s->t σ H Q->wpAny (model X.prog X.w) X.A (isTrue e X.env whole) (TP X pins σ Q) X.xe s
theorem PW.pt{X:Cx}{e:Expr}{t:TT}(h:PW X e t):PT X e t:=h _
noncomputable def PA (X:Cx) (es:List Expr) (t:TA):Prop:=
 ∀(pos:Pos) (pins:List (Addr×Obj)) (s:Shared) (σ:St) (H:Hp) (Q:List V->Hp->Prop),Inv X pins σ H s->t σ H Q->wpAny (model X.prog X.w) X.A (spliced (backTo pos (starEach es X.env))) (AP X pins σ Q) X.xe s
noncomputable def PS (X:Cx) (st:Stmt) (t:TS):Prop:=
 ∀(pins:List (Addr×Obj)) (s:Shared) (σ:St) (H:Hp) (D:Ends),Inv X pins σ H s->t D σ H->wpAny (model X.prog X.w) X.A (exec st X.env) (SP X pins D) X.xe s
noncomputable def sD (X:Cx) (st:List Stmt) (t:TS):Prop:=
 ∀(pins:List (Addr×Obj)) (s:Shared) (σ:St) (H:Hp) (D:Ends),Inv X pins σ H s->t D σ H->wpAny (model X.prog X.w) X.A (execs st X.env) (SP X pins D) X.xe s
theorem g9{α:Type}{t:Sem α}{Q Q':α->Shared->Prop}{M:Model}{A:Around}{E:Value->Shared->Prop}{s:Shared}(h:wpAny M A t Q E s)(hQ:∀a s,Q a s->Q' a s):wpAny M A t Q' E s:=wpAny_mono h hQ λ_ _ x=>x
end L2
namespace L2
open PySem PySem.Spec PyProof.Rows
section
variable{X:Cx}
noncomputable def FT (i:Nat):TE:=λσ H Q=>∃v,σ[i]? =some (some v)/\Q v H
noncomputable def tC (v:V):TE:=λ_ H Q=>Q v H
theorem C1{i:Nat}{x:Str}{pos:Pos}(hN:X.N[i]? =some x)(hv:EZ X.env.scope x)(hd:(x==("__debug__":Str))=false:=by decide)(hcd:(x==("__classdict__":Str))=false:=by decide):PE X (.Name x pos) (FT i):=by
 intro pins s σ H Q I h
 obtain⟨v,e,h⟩:=h
 obtain⟨m,hn,hl⟩:=I.loc
 obtain⟨u,r,l⟩:=hl i x v hN e hv
 have fin:EP X pins σ Q u s:=⟨v,H,I,r,h⟩
 rcases l with ⟨hk,hm⟩|⟨hk,c,hc,hcell⟩
 ·exact wpAny_Name (wpAny_loadName_local I.ok.kind hk hn hm fin) hd
 ·rcases hk with hk|hk
  ·exact wpAny_Name (wpAny_loadName_cell I.ok.kind hk hc hcell fin) hd
  ·exact wpAny_Name (wpAny_loadName_free I.ok.kind hk hc hcell fin hcd) hd
theorem zt{i j pos}:PE X (.Constant (.int i) j pos) (tC (.int i)):=λ_ _ _ H _ I h=>wpAny_Constant_int ⟨.int i,H,I.tok _,⟨_,rfl⟩,h⟩
theorem Ey{b j pos}:PE X (.Constant (.bool b) j pos) (tC (.bl b)):=λ_ _ _ H _ I h=>Constant_bool ⟨.bl b,H,I,rfl,h⟩
theorem CV{j pos}:PE X (.Constant .none j pos) (tC .gm):=λ_ _ _ H _ I h=>Constant_none ⟨.gm,H,I,rfl,h⟩
theorem zw{x j pos}:PE X (.Constant (.str x) j pos) (tC (.str x)):=λ_ _ _ H _ I h=>Calls.Constant_str ⟨.str x,H,I.tok _,⟨_,rfl⟩,h⟩
noncomputable def Gl (X:Cx) (x:Str):Prop:=X.env.kindOf x=some .globalImplicit
theorem qO{E:Value->Shared->Prop}{pins:List (Addr×Obj)}{s:Shared}{σ:St}{H:Hp}{x:Str}{u:Value}{pos:Pos}{Q:Value->Shared->Prop}(I:Inv X pins σ H s)(hg:Gl X x)(hm:X.mg x=some u)(h:Q u s)
  (hd:(x==("__debug__":Str))=false:=by decide):wpAny (model X.prog X.w) X.A (eval (.Name x pos) X.env) Q E s:=
 Calls.Name_function_global I.ok.kind hg (Calls.loadGlobal_global (by rw[I.ok.glob];exact I.mod.glob.keeps I.bk) hm h) hd
theorem pG{E:Value->Shared->Prop}{pins:List (Addr×Obj)}{s:Shared}{σ:St}{H:Hp}{x:Str}{u:Value}{pos:Pos}{Q:Value->Shared->Prop}(I:Inv X pins σ H s)(hg:Gl X x)(hm:X.mg x=none)(hv:bootBuiltins x=some u)(h:Q u s)
  (hn:x≠"__name__":=by decide) (hd:(x==("__debug__":Str))=false:=by decide):wpAny (model X.prog X.w) X.A (eval (.Name x pos) X.env) Q E s:=by
 obtain⟨mb,h1,h2⟩:=I.mod.blt
 exact Calls.Name_function_global I.ok.kind hg (Calls.loadGlobal_builtin (by rw[I.ok.glob];exact I.mod.glob.keeps I.bk) hm (by rw[I.ok.blt];exact h1.keeps I.bk) ((h2 x hn).trans hv) h) hd
theorem AX{x:Str}{v:V}{u:Value}{pos:Pos}(hg:Gl X x)(hm:X.mg x=some u)(r:RelV v u)(hd:(x==("__debug__":Str))=false:=by decide):PE X (.Name x pos) (tC v):=
 λ_ _ _ H _ I h=>qO I hg hm ⟨v,H,I,r,h⟩ hd
theorem AS{x:Str}{v:V}{u:Value}{pos:Pos}(hg:Gl X x)(hm:X.mg x=none)(hv:bootBuiltins x=some u)(r:RelV v u)(hn:x≠"__name__":=by decide)(hd:(x==("__debug__":Str))=false:=by decide):PE X (.Name x pos) (tC v):=
 λ_ _ _ H _ I h=>pG I hg hm hv ⟨v,H,I,r,h⟩ hn hd
variable{a b:Expr}{ta tb:TE}{pos:Pos}
variable{tA tB':TT}{rest:List Expr}
noncomputable def sv (t u:TT):TT:=λσ H Q=>t σ H λc H1=>if c=true then u σ H1 Q else Q false H1
noncomputable def ya (t u:TT):TT:=λσ H Q=>t σ H λc H1=>if c=true then Q true H1 else u σ H1 Q
noncomputable def jy (t:TT):TT:=λσ H Q=>t σ H λc H1=>Q (!c) H1
theorem A_(ha:PT X a tA):PW X (.BoolOp .And [a] pos) tA:=by
 intro wh pins s σ H Q I h
 refine isTrue_and (g9 (ha pins s σ H Q I h) λc s1 e=> ?_)
 cases c with
 |true=>exact isTrue_and_nil e
 |false=>exact e
theorem Dc(ha:PT X a tA):PW X (.BoolOp .Or [a] pos) tA:=by
 intro wh pins s σ H Q I h
 refine isTrue_or (g9 (ha pins s σ H Q I h) λc s1 e=> ?_)
 cases c with
 |false=>exact isTrue_or_nil e
 |true=>exact e
theorem C_(ha:PT X a tA)(hb:PW X (.BoolOp .And (b::rest) pos) tB'):PW X (.BoolOp .And (a::b::rest) pos) (sv tA tB'):=by
 intro wh pins s σ H Q I h
 refine isTrue_and (g9 (ha pins s σ H _ I h) λc s1 ⟨H1,I1,q1⟩=> ?_)
 cases c with
 |true=>exact hb wh pins s1 σ H1 Q I1 q1
 |false=>exact⟨H1,I1,q1⟩
theorem EG(ha:PT X a tA)(hb:PW X (.BoolOp .Or (b::rest) pos) tB'):PW X (.BoolOp .Or (a::b::rest) pos) (ya tA tB'):=by
 intro wh pins s σ H Q I h
 refine isTrue_or (g9 (ha pins s σ H _ I h) λc s1 ⟨H1,I1,q1⟩=> ?_)
 cases c with
 |true=>exact⟨H1,I1,q1⟩
 |false=>exact hb wh pins s1 σ H1 Q I1 q1
theorem C9(ha:PT X a tA):PT X (.UnaryOp .Not a pos) (jy tA):=by
 intro pins s σ H Q I h
 exact isTrue_not (ha pins s σ H (λc H1=>Q (!c) H1) I h)
noncomputable def m_ (ta tb:TE):TE:=λσ H Q=>ta σ H λx H1=>∃c,x= .bl c/\if c=true then tb σ H1 Q else Q (.bl false) H1
noncomputable def wa (ta tb:TE):TE:=λσ H Q=>ta σ H λx H1=>∃c,x= .bl c/\if c=true then Q (.bl true) H1 else tb σ H1 Q
noncomputable def u6 (ta:TE):TE:=λσ H Q=>ta σ H λx H1=>∃c,x= .bl c/\Q (.bl (!c)) H1
theorem CZ{op}{t:TE}(h:PE X a t):PE X (.BoolOp op [a] pos) t:=λpins s σ H Q I hw=>BoolOp_one (h pins s σ H Q I hw)
theorem CU(ha:PE X a ta)(hb:PE X (.BoolOp .And (b::rest) pos) tb):PE X (.BoolOp .And (a::b::rest) pos) (m_ ta tb):=by
 intro pins s σ H Q I h
 refine BoolOp_and (g9 (ha pins s σ H _ I h) λv s1 ⟨x,H1,I1,r1,q1⟩=> ?_)
 obtain⟨c,rfl,q1⟩:=q1
 cases r1
 refine wpAny_truthy_bool ?_
 cases c with
 |true=>exact hb pins s1 σ H1 Q I1 q1
 |false=>exact⟨.bl false,H1,I1,rfl,q1⟩
theorem EB(ha:PE X a ta)(hb:PE X (.BoolOp .Or (b::rest) pos) tb):PE X (.BoolOp .Or (a::b::rest) pos) (wa ta tb):=by
 intro pins s σ H Q I h
 refine BoolOp_or (g9 (ha pins s σ H _ I h) λv s1 ⟨x,H1,I1,r1,q1⟩=> ?_)
 obtain⟨c,rfl,q1⟩:=q1
 cases r1
 refine wpAny_truthy_bool ?_
 cases c with
 |false=>exact hb pins s1 σ H1 Q I1 q1
 |true=>exact⟨.bl true,H1,I1,rfl,q1⟩
theorem CY(ha:PE X a ta):PE X (.UnaryOp .Not a pos) (u6 ta):=by
 intro pins s σ H Q I h
 refine UnaryOp_ (g9 (ha pins s σ H _ I h) λv s1 ⟨x,H1,I1,r1,q1⟩=> ?_)
 obtain⟨c,rfl,q1⟩:=q1
 cases r1
 exact not_of (wpAny_truthy_bool ⟨.bl (!c),H1,I1,rfl,q1⟩)
noncomputable def E7 (t:TT) (ta tb:TE):TE:=λσ H Q=>t σ H λc H1=>if c=true then ta σ H1 Q else tb σ H1 Q
theorem zr{c:Expr}(hc:PT X c tA)(ha:PE X a ta)(hb:PE X b tb):PE X (.IfExp c a b pos) (E7 tA ta tb):=by
 intro pins s σ H Q I h
 refine wpAny_IfExp (g9 (hc pins s σ H _ I h) λd s1 ⟨H1,I1,q1⟩=> ?_)
 cases d with
 |true=>exact ha pins s1 σ H1 Q I1 q1
 |false=>exact hb pins s1 σ H1 Q I1 q1
end
end L2
namespace L2
open PySem PySem.Spec PyProof.Rows
noncomputable def fb (K:PySem.W.Frag) (H:Hp) (a:Addr) (xs:List V):Prop:=
 Rd H a (.lst xs)∨
  ∃(o:Obj) (its:Array Value) (n:Nat),K.lookup a=some o/\o.cls= .type "list"/\o.dict=none/\o.data= .seq its n/\its.size<=sizeLine/\Vals xs its.toList
noncomputable def nh (K:PySem.W.Frag) (H:Hp) (a:Addr) (xs:List V):Prop:=
 Rd H a (.tup xs)∨
  ∃(o:Obj) (its:Array Value) (n:Nat),K.lookup a=some o/\o.cls= .type "tuple"/\o.data= .seq its n/\its.size<=sizeLine/\Vals xs its.toList
noncomputable def Ff:Value->Option V
 | .none=>some .gm
 | .bool b=>some (.bl b)
 | .int i _=>some (.int i)
 | .str x _=>some (.str x)
 | .bytes b _=>some (.byt b)
 | .float b _=>some (.Ce b)
 | .ref a=>some (.ref a)
 | .type n=>some (.ty n)
 |_=>none
theorem RelV.abs{x:V}{u:Value}(r:RelV x u):Ff u=some x:=by
 cases x with
 |gm=>cases r;rfl
 |bl _=>cases r;rfl
 |int _=>obtain⟨t,rfl⟩:=r;rfl
 |str _=>obtain⟨t,rfl⟩:=r;rfl
 |byt _=>obtain⟨t,rfl⟩:=r;rfl
 |Ce _=>obtain⟨t,rfl⟩:=r;rfl
 |ref _=>cases r;rfl
 |ty _=>cases r;rfl
theorem RelV.inj{x y:V}{u:Value}(r:RelV x u)(q:RelV y u):x=y:=aW (r.abs.symm.trans q.abs)
theorem Vals.inj:∀{xs ys:List V} {us:List Value},Vals xs us->Vals ys us->xs=ys
 |_,_,_,.nil,.nil=>rfl
 |_,_,_,.cons r t,.cons r' t'=>by rw[r.inj r',Vals.inj t t']
section
variable{X:Cx}{pins:List (Addr×Obj)}{σ:St}{H:Hp}{s:Shared}{a:Addr}{xs ys:List V}
theorem fb.of{K:PySem.W.Frag}(h:H a=some (.lst xs)):fb K H a xs:= .inl (.inl h)
theorem nh.of{K:PySem.W.Frag}(h:H a=some (.tup xs)):nh K H a xs:= .inl (.inl h)
theorem Inv.list(I:Inv X pins σ H s)(h:fb X.K H a xs):∃its:List Value,Vals xs its/\PlainL s.heap a its.toArray/\xs.length<=sizeLine:=by
 rcases h with h|⟨o,its,n,hk,hc,hd,hs,hz,r⟩
 ·obtain⟨z,its,n,r,e⟩:=h.ok I.dm
  exact⟨its,r,⟨_,n,e,rfl,rfl,rfl⟩,z⟩
 ·refine⟨its.toList,r,⟨o,n,I.rF a o hk,hc,hd,by simpa using hs⟩,?_⟩
  have e:=r.length
  simp only[Array.length_toList]at e
  omega
theorem Inv.tuple(I:Inv X pins σ H s)(h:nh X.K H a xs):∃its:List Value,Vals xs its/\IsTup s.heap a its.toArray/\xs.length<=sizeLine:=by
 rcases h with h|⟨o,its,n,hk,hc,hs,hz,r⟩
 ·obtain⟨z,its,r,p⟩:=h.ok I.dm
  exact⟨its,r,p,z⟩
 ·refine⟨its.toList,r,⟨o,I.rF a o hk,hc,n,by simpa using hs⟩,?_⟩
  have e:=r.length
  simp only[Array.length_toList]at e
  omega
theorem Inv.uL(I:Inv X pins σ H s)(h:fb X.K H a xs)(h':fb X.K H a ys):xs=ys:=by
 obtain⟨its,r,⟨o,n,e,_,_,d⟩,_⟩:=I.list h
 obtain⟨its',r',⟨o',n',e',_,_,d'⟩,_⟩:=I.list h'
 rw[e]at e';cases e'
 rw[d]at d'
 injection d' with d1 _
 have:its=its':=by simpa using congrArg Array.toList d1
 subst this
 exact r.inj r'
theorem Inv.x3(I:Inv X pins σ H s)(h:nh X.K H a xs)(h':nh X.K H a ys):xs=ys:=by
 obtain⟨its,r,⟨o,e,_,n,d⟩,_⟩:=I.tuple h
 obtain⟨its',r',⟨o',e',_,n',d'⟩,_⟩:=I.tuple h'
 rw[e]at e';cases e'
 rw[d]at d'
 injection d' with d1 _
 have:its=its':=by simpa using congrArg Array.toList d1
 subst this
 exact r.inj r'
end
noncomputable abbrev Cx.fV (X:Cx) (E:Value->Shared->Prop):Cx:={X with xe:=E}
noncomputable abbrev Cx.BC (X:Cx):Cx:=X.fV λ_ _=>False
theorem Cx.Ok.fV{X:Cx}(ok:X.Ok)(E:Value->Shared->Prop):(X.fV E).Ok:=
 ⟨ok.mod,ok.kind,ok.glob,ok.blt,ok.above,ok.inj,ok.has,ok.Bo,ok.hd,ok.frames,ok.Dm,ok.Ed,ok.bs,ok.wq,ok.pJ,ok.vC,ok.lR,ok.x9⟩
theorem Cx.Ok.fJ{X:Cx}{E:Value->Shared->Prop}(ok:(X.fV E).Ok):X.Ok:=
 ⟨ok.mod,ok.kind,ok.glob,ok.blt,ok.above,ok.inj,ok.has,ok.Bo,ok.hd,ok.frames,ok.Dm,ok.Ed,ok.bs,ok.wq,ok.pJ,ok.vC,ok.lR,ok.x9⟩
section
variable{X:Cx}{pins:List (Addr×Obj)}{σ:St}{H:Hp}{s:Shared}{E:Value->Shared->Prop}
theorem Inv.fV(I:Inv X pins σ H s)(E:Value->Shared->Prop):Inv (X.fV E) pins σ H s:=⟨I.ok.fV E,I.os,I.bare,I.base,I.loc,I.cell,I.free,I.iQ,I.pin,I.dm,I.len⟩
theorem Inv.fJ(I:Inv (X.fV E) pins σ H s):Inv X pins σ H s:=⟨I.ok.fJ,I.os,I.bare,I.base,I.loc,I.cell,I.free,I.iQ,I.pin,I.dm,I.len⟩
theorem SP.fJ{D:Ends}{f:Flow}{s':Shared}(h:SP (X.fV E) pins D f s'):SP X pins D f s':=by
 cases f with
 |next=>obtain⟨σ',H',I,q⟩:=h;exact⟨σ',H',I.fJ,q⟩
 |brk=>obtain⟨σ',H',I,q⟩:=h;exact⟨σ',H',I.fJ,q⟩
 |cont=>obtain⟨σ',H',I,q⟩:=h;exact⟨σ',H',I.fJ,q⟩
 |ret u=>obtain⟨v,σ',H',I,r,q⟩:=h;exact⟨v,σ',H',I.fJ,r,q⟩
theorem PE.BC{e:Expr}{t:TE}(h:PE X.BC e t):PE X e t:=λpins s σ H Q I hw=>
 wpAny_mono (h pins s σ H Q (I.fV _) hw) (λ_ _ ⟨v,H',I',r,q⟩=>⟨v,H',I'.fJ,r,q⟩) λ_ _ z=>False.elim z
theorem PT.BC{e:Expr}{t:TT}(h:PT X.BC e t):PT X e t:=λpins s σ H Q I hw=>
 wpAny_mono (h pins s σ H Q (I.fV _) hw) (λ_ _ ⟨H',I',q⟩=>⟨H',I'.fJ,q⟩) λ_ _ z=>False.elim z
theorem sD.BC{st:List Stmt}{t:TS}(h:sD X.BC st t):sD X st t:=λpins s σ H D I hw=>
 wpAny_mono (h pins s σ H D (I.fV _) hw) (λ_ _ q=>q.fJ) λ_ _ z=>False.elim z
end
section
variable{X:Cx}{st:Stmt}{rest:List Stmt}{t u:TS}{e:Expr}{te:TE}{pos:Pos}
noncomputable def cW:TS:=λD σ H=>D.nx σ H
noncomputable def gh (t u:TS):TS:=λD σ H=>t {D with nx:=u D} σ H
theorem A7:sD X [] cW:=λ_ _ σ H _ I h=>wpAny_execs_nil ⟨σ,H,I,h⟩
theorem zF(h1:PS X st t)(h2:sD X rest u):sD X (st::rest) (gh t u):=by
 intro pins s σ H D I h
 refine wpAny_execs_cons (g9 (h1 pins s σ H {D with nx:=u D} I h) λf s1 q=> ?_)
 cases f with
 |next=>
  obtain⟨σ',H',I',q⟩:=q
  exact h2 pins s1 σ' H' D I' q
 |ret v=>exact q
 |brk=>exact q
 |cont=>exact q
theorem A8(h1:PS X st t):sD X [st] t:=by
 intro pins s σ H D I h
 refine wpAny_execs_cons (g9 (h1 pins s σ H D I h) λf s1 q=> ?_)
 cases f with
 |next=>exact wpAny_execs_nil q
 |ret v=>exact q
 |brk=>exact q
 |cont=>exact q
theorem Inv.quiet{pins:List (Addr×Obj)}{σ:St}{H:Hp}{s:Shared}(I:Inv X pins σ H s):interactive X.env=false:=by simp[interactive,I.ok.kind]
noncomputable def lF (te:TE):TS:=λD σ H=>te σ H λ_ H1=>D.nx σ H1
theorem A5(he:PE X e te)(hs:swapsWith e none pos.line X.env=pure false:=by rfl):PS X (.Expr e pos) (lF te):=by
 intro pins s σ H D I h
 exact wpAny_Expr_any (g9 (he pins s σ H _ I h) λv s1 ⟨x,H1,I1,r1,q1⟩=>⟨σ,H1,I1,q1⟩) I.quiet hs
noncomputable def dj (te:TE):TS:=λD σ H=>te σ H D.rt
theorem C6(he:PE X e te):PS X (.Return (some e) pos) (dj te):=by
 intro pins s σ H D I h
 exact wpAny_Return_some (g9 (he pins s σ H _ I h) λv s1 ⟨x,H1,I1,r1,q1⟩=>⟨x,σ,H1,I1,r1,q1⟩)
noncomputable def zN:TS:=λD _ H=>D.rt .gm H
theorem A6:PS X (.Return none pos) zN:=λ_ _ σ H _ I h=>wpAny_Return_none ⟨.gm,σ,H,I,rfl,h⟩
noncomputable def dA (c:TT) (t u:TS):TS:=λD σ H=>c σ H λb H1=>if b=true then t D σ H1 else u D σ H1
theorem EF{c:Expr}{a b:List Stmt}{tc:TT}(hc:PT X c tc)(ha:sD X a t)(hb:sD X b u):PS X (.If c a b pos) (dA tc t u):=by
 intro pins s σ H D I h
 refine wpAny_If (g9 (hc pins s σ H _ I h) λd s1 ⟨H1,I1,q1⟩=> ?_)
 cases d with
 |true=>exact ha pins s1 σ H1 D I1 q1
 |false=>exact hb pins s1 σ H1 D I1 q1
end
noncomputable abbrev TG:=V->St->Hp->(St->Hp->Prop)->Prop
noncomputable abbrev Bk:=List V->St->Hp->(St->Hp->Prop)->Prop
noncomputable def PG (X:Cx) (target:Expr) (t:TG):Prop:=
 ∀(pins:List (Addr×Obj)) (s:Shared) (σ:St) (H:Hp) (v:V) (u:Value) (Q:St->Hp->Prop),Inv X pins σ H s->RelV v u->t v σ H Q->
  wpAny (model X.prog X.w) X.A (assign target X.env u) (λ_ s'=>∃σ' H',Inv X pins σ' H' s'/\Q σ' H') X.xe s
noncomputable def DA (X:Cx) (ts:List Expr) (t:Bk):Prop:=
 ∀(pins:List (Addr×Obj)) (s:Shared) (σ:St) (H:Hp) (vs:List V) (us:List Value) (Q:St->Hp->Prop),Inv X pins σ H s->Vals vs us->t vs σ H Q->
  wpAny (model X.prog X.w) X.A (assignInOrder ((assignEach ts X.env).map (·.2)) us) (λ_ s'=>∃σ' H',Inv X pins σ' H' s'/\Q σ' H') X.xe s
noncomputable abbrev DE:=V->V->V->Hp->(Hp->Prop)->Prop
noncomputable def Fd (X:Cx) (t:DE):Prop:=
 ∀(pins:List (Addr×Obj)) (s:Shared) (σ:St) (H:Hp) (o i v:V) (ov iv u:Value) (Q:Hp->Prop),Inv X pins σ H s->RelV o ov->RelV i iv->RelV v u->t o i v H Q->
  wpAny (model X.prog X.w) X.A (setItem ov iv u) (λ_ s'=>∃H',Inv X pins σ H' s'/\Q H') X.xe s
section
variable{X:Cx}{pos:Pos}
noncomputable def cJ (i:Nat):TG:=λv σ H Q=>Q (σ.set i (some v)) H
theorem qP{i:Nat}{x:Str}(hN:X.N.Nodup)(hi:X.N[i]? =some x)(hx:Loc X.env.scope x)(hf:X.fn x=true∨X.env.scope.names.lookup x=some .local:=by first|exact .inl rfl|exact .inr rfl|assumption):PG X (.Name x pos) (cJ i):=by
 intro pins s σ H v u Q I r h
 exact wpAny_assign_Name (rT I hN hi hx r (λs' I'=>⟨_,H,I',h⟩) hf)
noncomputable def Cg:Bk:=λvs σ H Q=>vs=[]/\Q σ H
noncomputable def sP (t:TG) (u:Bk):Bk:=λvs σ H Q=>∃v r,vs=v::r/\t v σ H λσ' H'=>u r σ' H' Q
theorem AZ:DA X [] Cg:=by
 intro pins s σ H vs us Q I r h
 obtain⟨e,h⟩:=h
 subst e
 cases r
 exact assignInOrder_nil ⟨σ,H,I,h⟩
theorem uT{e:Expr}{es:List Expr}{t:TG}{u:Bk}(h1:PG X e t)(h2:DA X es u)
  (hs:(assignEach (e::es) X.env).map (·.2)=assign e X.env::(assignEach es X.env).map (·.2):=by rfl):DA X (e::es) (sP t u):=by
 intro pins s σ H vs us Q I r h
 obtain⟨v,vr,e1,h⟩:=h
 subst e1
 cases r with
 |cons r rr=>
  rw[hs]
  refine assignInOrder_cons (g9 (h1 pins s σ H _ _ _ I r h) λ_ s1 ⟨σ1,H1,I1,q1⟩=> ?_)
  exact h2 pins s1 σ1 H1 _ _ Q I1 rr q1
noncomputable def Ci (K:PySem.W.Frag) (n:Nat) (t:Bk):TG:=λv σ H Q=>∃a xs,v= .ref a/\nh K H a xs/\xs.length=n/\t xs σ H Q
theorem C2{es:List Expr}{k:Nat}{t:Bk}{n:Nat}(hc:X.calm=true)(h:DA X es t)
  (hn:(assignEach es X.env).length=n:=by rfl) (hst:(assignEach es X.env).findIdx? (·.1)=none:=by rfl):PG X (.Tuple es k pos) (Ci X.K n t):=by
 intro pins s σ H v u Q I r hw
 obtain⟨a,xs,e1,hq,hl,hw⟩:=hw
 subst e1
 cases r
 obtain⟨its,rv,ht,hz⟩:=I.tuple hq
 refine assign_Tuple_tuple (I.ok.hd hc) ht (by simp[hn,←hl,rv.length]) hst λh' hx=> ?_
 have I1:Inv X pins σ H {s with heap:=h'}:=I.kept (t':=s.toks) λb o e=>hx b o (aK (Heap.lt_size e)) e
 exact h pins _ σ H xs _ Q I1 (by simpa using rv) hw
noncomputable def c5 (te:TE) (g:TG):TS:=λD σ H=>te σ H λx H1=>g x σ H1 D.nx
theorem C7{i:Nat}{x:Str}{e:Expr}{te:TE}{pos':Pos}(hN:X.N.Nodup)(hi:X.N[i]? =some x)(hx:Loc X.env.scope x)(he:PE X e te)(hs:swapsWith e (some (.Name x pos')) pos.line X.env=pure false:=by rfl)(hf:X.fn x=true∨X.env.scope.names.lookup x=some .local:=by first|exact .inl rfl|exact .inr rfl|assumption):
  PS X (.Assign [.Name x pos'] e pos) (c5 te (cJ i)):=by
 intro pins s σ H D I h
 refine wpAny_Assign_Name (g9 (he pins s σ H _ I h) λv s1 ⟨y,H1,I1,r1,q1⟩=> ?_) hs
 exact rT I1 hN hi hx r1 (λs2 I2=>⟨_,H1,I2,q1⟩) hf
end
section
variable{X:Cx}{pos:Pos}
end
structure It where
 go:Nat->Hp->Prop
 Bi:Nat->Hp->V->Hp->Prop
 stop:Nat->Hp->Prop
noncomputable def nJ (X:Cx) (pins:List (Addr×Obj)) (H:Hp) (b:Addr):Prop:=
 H b=none/\b≠X.env.locals/\b∉X.fs/\(b∈X.ex∨X.s₀.heap.objs.size<=b)/\(∀x c,X.env.cells.lookup x=some c->c≠b)/\∀p∈X.pn++pins,p.1≠b
theorem Inv.yJ{X:Cx}{pins:List (Addr×Obj)}{σ:St}{H H':Hp}{s:Shared}{b:Addr}(I:Inv X pins σ H s)(hb:s.heap.objs.size<=b)(hn:H' b=none):nJ X pins H' b:=by
 refine⟨hn,bL (aB I.lt hb),I.Fy hb,.inr (av I.sz hb),λx c e z=> ?_,λp hp z=> ?_⟩
 ·obtain⟨v,q⟩:=I.cell x c e
  exact absurd (aB q.lt (by rw[z];exact hb)) (aT _)
 ·exact absurd (aB (Heap.lt_size (I.pin p hp).1) (by rw[z];exact hb)) (aT _)
structure Turn(P:Program)(w:World)(K:PySem.W.Frag)(tg:Expr)(J:It)(fp:List Addr)(it:Addr)(tn:Nat->Heap->Prop):Prop where
 mem:it∈fp
 obj:∀i h,tn i h->∀b∈fp,∃o,h.get? b=some o/\∀v,o.data≠ .cell v
 keep:∀i h h',tn i h->(∀b∈fp,∀o,h.get? b=some o->h'.get? b=some o)->tn i h'
 item:∀(X:Cx),X.prog=P->X.w=w->X.K=K->X.calm=true->∀(i:Nat) (pins:List (Addr×Obj)) (s:Shared) (σ:St) (H:Hp) (E:Value->Shared->Prop),Inv X pins σ H s->(∀b∈fp,nJ X pins H b)->tn i s.heap->J.go i H->
  wpAny (model P w) X.A (pyNext (.ref it)) (λr s1=>∃u,r=some u/\
   wpAny (model P w) X.A (letOwnedTupleGo tg (.ref it) u) (λ_ s2=>∃x H',Inv X pins σ H' s2/\RelV x u/\J.Bi i H x H'/\tn (i+1) s2.heap/\∀b∈fp,H' b=none) E s1) E s
 done:∀(X:Cx),X.prog=P->X.w=w->X.K=K->X.calm=true->∀(i:Nat) (pins:List (Addr×Obj)) (s:Shared) (σ:St) (H:Hp) (E:Value->Shared->Prop),Inv X pins σ H s->(∀b∈fp,nJ X pins H b)->tn i s.heap->J.stop i H->
  wpAny (model P w) X.A (pyNext (.ref it)) (λr s1=>r=none/\Inv X pins σ H s1) E s
 self:∀(A:Around) (i:Nat) (s:Shared) (Q:Value->Shared->Prop) (E:Value->Shared->Prop),tn i s.heap->Q (.ref it) s->wpAny (model P w) A (pyIter (.ref it)) Q E s
noncomputable abbrev TI:=St->Hp->(It->Hp->Prop)->Prop
noncomputable def FW (X:Cx) (pins:List (Addr×Obj)) (σ:St) (tg:Expr) (R:It->Hp->Prop) (itv:Value) (s2:Shared):Prop:=
 ∃(it:Addr) (fp:List Addr) (tn:Nat->Heap->Prop) (J:It) (H':Hp),itv= .ref it/\Inv X pins σ H' s2/\Turn X.prog X.w X.K tg J fp it tn/\tn 0 s2.heap/\(∀b∈fp,nJ X pins H' b)/\R J H'
noncomputable def PI (X:Cx) (tg iter:Expr) (wi:TI):Prop:=
 ∀(pins:List (Addr×Obj)) (s:Shared) (σ:St) (H:Hp) (R:It->Hp->Prop),Inv X pins σ H s->wi σ H R->
  wpAny (model X.prog X.w) X.A (eval iter X.env) (λv s1=>wpAny (model X.prog X.w) X.A (pyIter v) (FW X pins σ tg R) X.xe s1) X.xe s
theorem yK{M:Model}{A:Around}{E:Value->Shared->Prop}{s:Shared}{tg:Expr}{it:Addr}{u:Value}{o:Obj}{n:String}{vs:Array Value}{Q:Unit->Shared->Prop}(ho:s.heap.get? it=some o)(hc:o.cls= .type n)(hd:o.data= .fields vs)
  (hn: ["enumerate","zip","dict_itemiterator","dict_reverseitemiterator","odict_iterator","itertools.zip_longest","itertools.pairwise"].contains n=false) (hQ:Q () s):wpAny M A (letOwnedTupleGo tg (.ref it) u) Q E s:=by
 unfold letOwnedTupleGo
 cases tg<;>first
  |exact wpAny_pure hQ
  |(cases u<;>first
    |exact wpAny_pure hQ
    |(refine wpAny_bind (wpAny_load ho ?_)
      rw[hc,hd]
      show wpAny M A (if (["enumerate","zip","dict_itemiterator","dict_reverseitemiterator","odict_iterator","itertools.zip_longest","itertools.pairwise"].contains n&&vs[0]? ==some (rawInt _))=true then _ else _) Q E s
      rw[if_neg (by intro h;rw[hn,Bool.false_and]at h;cases h)]
      exact wpAny_pure hQ))
noncomputable def yb (K:PySem.W.Frag) (a:Addr):It:=
 ⟨λi H=>∃xs x,fb K H a xs/\xs[i]? =some x,λi H x H'=>H'=H/\∀xs,fb K H a xs->xs[i]? =some x,λi H=>∃xs,fb K H a xs/\xs.length<=i⟩
noncomputable def EU (K:PySem.W.Frag) (a:Addr):It:=
 ⟨λi H=>∃xs x,nh K H a xs/\xs[i]? =some x,λi H x H'=>H'=H/\∀xs,nh K H a xs->xs[i]? =some x,λi H=>∃xs,nh K H a xs/\xs.length<=i⟩
noncomputable def zX (lo:Int) (n:Nat):It:=⟨λi _=>i<n,λi H x H'=>H'=H/\x= .int (lo+i),λi _=>n<=i⟩
theorem x4{P:Program}{w:World}{K:PySem.W.Frag}{tg:Expr}(a it:Addr):Turn P w K tg (yb K a) [it] it (λi h=>h.IsListIter it a i) where
 mem:=by simp
 obj:=λi h st b hb=>by
  have e:b=it:=by simpa using hb
  subst e
  obtain⟨o,e,c,d⟩:=st
  exact⟨o,e,λv z=>by rw[d]at z;cases z⟩
 keep:=λi h h' st k=>st.at λo e=>k it (by simp) o e
 item:=by
  intro X hP hw hK hc i pins s σ H E I hf st hg
  subst hP hw hK
  obtain⟨xs,x,hq,hx⟩:=hg
  obtain⟨its,rv,p,hz⟩:=I.list hq
  obtain⟨u,hu,ru⟩:=rv.get hx
  obtain⟨f0,f1,f2,f3,f4,f5⟩:=hf it (by simp)
  refine wpAny_pyNext_list_item st p.isList (x:=u) (by simpa using hu) λh' st' sb=> ?_
  have I1:Inv X pins σ H {s with heap:=h'}:=I.turned (t':=s.toks) (λb o hb e=>(sb.2 b hb).trans e) f0 f1 f3 f4 f5
  obtain⟨o,e,c,d⟩:=id st'
  exact⟨u,rfl,yK (s:={s with heap:=h'}) e c d (by decide) ⟨x,H,I1,ru,⟨rfl,λys hy=>by rw[I.uL hy hq];exact hx⟩,st',λb hb=>(hf b hb).1⟩⟩
 done:=by
  intro X hP hw hK hc i pins s σ H E I hf st hg
  subst hP hw hK
  obtain⟨xs,hq,hx⟩:=hg
  obtain⟨its,rv,p,hz⟩:=I.list hq
  obtain⟨f0,f1,f2,f3,f4,f5⟩:=hf it (by simp)
  have hl:=rv.length
  exact wpAny_pyNext_list_end (I.ok.hd hc) st p.isList (by simp;omega) λh' eb=>⟨rfl,I.turned (t':=s.toks) (λb o hb e=>eb b o hb e) f0 f1 f3 f4 f5⟩
 self:=λ_ _ _ _ _ st h=>wpAny_pyIter_listiter st h
theorem wb{P:Program}{w:World}{K:PySem.W.Frag}{tg:Expr}(it:Addr)(lo:Int)(n:Nat):Turn P w K tg (zX lo n) [it] it (λi h=>IsRangeIter h it (lo+(i:Nat)*1) ((n:Int)-(i:Nat)) 1) where
 mem:=by simp
 obj:=λi h st b hb=>by
  have e:b=it:=by simpa using hb
  subst e
  exact⟨_,st,λv z=>by
   have z':Data.fields _=Data.cell v:=z
   cases z'⟩
 keep:=λi h h' st k=>k it (by simp) _ st
 item:=by
  intro X hP hw hK hc i pins s σ H E I hf st hg
  subst hP hw hK
  obtain⟨f0,f1,f2,f3,f4,f5⟩:=hf it (by simp)
  have W:=Walks.range (prog:=X.prog) (w:=X.w) (I.ok.hd hc) it lo 1 n
  refine W.item i s _ _ hg st λv h' tk hv st' kk=> ?_
  obtain⟨t,rfl⟩:=hv
  have I1:Inv X pins σ H {s with heap:=h',toks:=tk}:=I.turned (λb o hb e=>kk b o (by simpa using hb) e) f0 f1 f3 f4 f5
  refine⟨_,rfl,yK (s:={s with heap:=h',toks:=tk}) (n:="range_iterator") st' rfl rfl (by decide) ⟨.int (lo+i),H,I1,⟨t,?_⟩,⟨rfl,rfl⟩,st',λb hb=>(hf b hb).1⟩⟩
  rw[Int.mul_one]
 done:=by
  intro X hP hw hK hc i pins s σ H E I hf st hg
  subst hP hw hK
  obtain⟨f0,f1,f2,f3,f4,f5⟩:=hf it (by simp)
  exact wpAny_pyNext_range_end (I.ok.hd hc) st (by have:n<=i:=hg;omega) λh' eb=>⟨rfl,I.turned (t':=s.toks) (λb o hb e=>eb b o hb e) f0 f1 f3 f4 f5⟩
 self:=λ_ _ _ _ _ st h=>wpAny_pyIter_rangeiter st h
end L2
namespace L2
open PySem PySem.Spec PyProof.Rows
section
variable{X:Cx}{tg:Expr}
noncomputable def kQ (K:PySem.W.Frag) (tl:TE):TI:=λσ H R=>tl σ H λx H1=>∃a,x= .ref a/\(∃xs,fb K H1 a xs)/\R (yb K a) H1
theorem A0{l:Expr}{tl:TE}(hl:PE X l tl):PI X tg l (kQ X.K tl):=by
 intro pins s σ H R I h
 refine g9 (hl pins s σ H _ I h) λv s1 ⟨x,H1,I1,r1,q1⟩=> ?_
 obtain⟨a,e,⟨xs,hq⟩,q⟩:=q1
 subst e
 cases r1
 obtain⟨its,rv,p,hz⟩:=I1.list hq
 refine wpAny_pyIter_list p.isList ?_
 refine⟨s1.heap.objs.size,[s1.heap.objs.size],_,_,H1,rfl,I1.kept (t':=s1.toks) λb o e=>Heap.get?_push_of_some _ e,x4 a _,⟨_,Heap.get?_push_size _ rfl,rfl,rfl⟩,λb hb=> ?_,q⟩
 have e:b=s1.heap.objs.size:=by simpa using hb
 subst e
 exact I1.yJ (ao _) (I1.dm.fresh (ao _))
theorem uX{pins:List (Addr×Obj)}{σ:St}{H:Hp}{s:Shared}{R:It->Hp->Prop}{E:Value->Shared->Prop}{lo hi:Int}{t u v:Tok}{tk:Nat}(I:Inv X pins σ H s)(h1: -(2^62)<=lo)(h2:lo<2^62)(h3: -(2^62)<=hi)(h4:hi<2^62)
  (q:R (zX lo (hi-lo).toNat) H):wpAny (model X.prog X.w) X.A (pyIter (.ref s.heap.objs.size)) (FW X pins σ tg R) E {s with heap:=s.heap.push {cls:= .type "range",data:= .fields #[.int lo t,.int hi u,.int 1 v]},toks:=tk}:=by
 refine wpAny_pyIter_range (IsRange.new ..) (small_one h1 h2 h3 h4) ?_
 have I1:Inv X pins σ H {s with heap:=s.heap.push {cls:= .type "range",data:= .fields #[.int lo t,.int hi u,.int 1 v]},toks:=tk}:=I.kept λb o e=>Heap.get?_push_of_some _ e
 refine⟨(s.heap.push {cls:= .type "range",data:= .fields #[.int lo t,.int hi u,.int 1 v]}).objs.size,[(s.heap.push {cls:= .type "range",data:= .fields #[.int lo t,.int hi u,.int 1 v]}).objs.size],_,_,H,rfl,
  I1.kept (t':=tk) λb o e=>Heap.get?_push_of_some _ e,wb _ lo (hi-lo).toNat,?_,λb hb=> ?_,q⟩
 ·have e1:lo+((0:Nat):Int)*1=lo:=by simp
  have e2:(((hi-lo).toNat:Nat):Int)-((0:Nat):Int)=Builtin.Range.rangeSize lo hi 1:=by rw[rangeSize_one];split<;>omega
  show IsRangeIter _ _ (lo+((0:Nat):Int)*1) ((((hi-lo).toNat:Nat):Int)-((0:Nat):Int)) 1
  rw[e1,e2]
  exact Heap.get?_push_size _ rfl
 ·have e:b=(s.heap.push {cls:= .type "range",data:= .fields #[.int lo t,.int hi u,.int 1 v]}).objs.size:=by simpa using hb
  subst e
  exact I1.yJ (ao _) (I1.dm.fresh (ao _))
noncomputable def sQ (ta:TA):TI:=λσ H R=>ta σ H λvs H1=>∃j:Int,vs=[.int j]/\ -(2^62)<=j/\j<2^62/\R (zX 0 j.toNat) H1
noncomputable def yN (ta:TA):TI:=λσ H R=>ta σ H λvs H1=>∃i j:Int,vs=[.int i,.int j]/\(-(2^62)<=i/\i<2^62/\ -(2^62)<=j/\j<2^62)/\R (zX i (j-i).toNat) H1
theorem xT{a:Expr}{ta:TA}{p pos:Pos}(hg:Gl X "range")(hm:X.mg "range"=none)(ha:PA X [a] ta)(hs:starEach [a] X.env=[(false,eval a X.env)]:=by rfl):PI X tg (.Call (.Name "range" p) [a] [] pos) (sQ ta):=by
 intro pins s σ H R I h
 refine Call_ (pG I hg hm boot_range (bS (g9 (ha pos pins s σ H _ I h) λus s1 ⟨vs,H1,I1,r1,q1⟩=> ?_) hs rfl))
 obtain⟨j,e,q1,q2,q⟩:=q1
 subst e
 cases r1 with
 |cons r rr=>
  cases rr
  obtain⟨t,rfl⟩:=r
  exact call_range_1 (uX I1 (by omega) (by omega) q1 q2 (by simpa using q))
theorem xU{a b:Expr}{ta:TA}{p pos:Pos}(hg:Gl X "range")(hm:X.mg "range"=none)(ha:PA X [a,b] ta)(hs:starEach [a,b] X.env=[(false,eval a X.env),(false,eval b X.env)]:=by rfl)(hs2:starEach [b] X.env=[(false,eval b X.env)]:=by rfl):
  PI X tg (.Call (.Name "range" p) [a,b] [] pos) (yN ta):=by
 intro pins s σ H R I h
 refine Call_ (pG I hg hm boot_range (bS (g9 (ha pos pins s σ H _ I h) λus s1 ⟨vs,H1,I1,r1,q1⟩=> ?_) (by rw[hs,hs2]) (by rw[hs2];rfl)))
 obtain⟨i,j,e,⟨q1,q2,q3,q4⟩,q⟩:=q1
 subst e
 cases r1 with
 |cons r rr=>
  cases rr with
  |cons r' rr=>
   cases rr
   obtain⟨t,rfl⟩:=r
   obtain⟨t',rfl⟩:=r'
   exact call_range_2 (uX I1 q1 q2 q3 q4 q)
noncomputable def Dp (wi:TI) (g:TG) (tb:TS):TS:=λD σ H=>wi σ H λJ H1=>∃W:Nat->Nat->St->Hp->Prop,(∃m,W 0 m σ H1)/\∀i m σ H,W i m σ H->
 (J.stop i H/\D.nx σ H)∨(J.go i H/\∃N:St->Hp->Prop,(∀σ' H',N σ' H'->∃m',m'<m/\W (i+1) m' σ' H')/\∀x H',J.Bi i H x H'->g x σ H' λσ2 H2=>tb {D with nx:=N,ct:=N,bk:=D.nx} σ2 H2)
noncomputable def pL (fp:List Addr) (h:Heap):List (Addr×Obj):=fp.filterMap λb=>(h.get? b).map λo=>(b,o)
theorem jw{fp:List Addr}{h:Heap}{b:Addr}{o:Obj}(hb:b∈fp)(e:h.get? b=some o):(b,o)∈pL fp h:=List.mem_filterMap.mpr ⟨b,hb,by rw[e];rfl⟩
theorem xO{fp:List Addr}{h:Heap}{p:Addr×Obj}(hp:p∈pL fp h):p.1∈fp/\h.get? p.1=some p.2:=by
 obtain⟨b,hb,e⟩:=List.mem_filterMap.mp hp
 cases q:h.get? b with
 |none=>rw[q]at e;cases e
 |some o=>
  rw[q]at e
  have e':(b,o)=p:=aW e
  subst e'
  exact⟨hb,q⟩
theorem Inv.pinned{pins:List (Addr×Obj)}{σ:St}{H:Hp}{s:Shared}{fp:List Addr}(I:Inv X pins σ H s)(hf:∀b∈fp,nJ X pins H b)(ho:∀b∈fp,∃o,s.heap.get? b=some o/\∀v,o.data≠ .cell v):Inv X (pins++pL fp s.heap) σ H s:=
 I.kY λp hp=>(List.mem_append.mp hp).elim (λz=>I.pin p (aQ _ z)) λz=>by
  obtain⟨hb,e⟩:=xO z
  obtain⟨f0,f1,f2,_⟩:=hf p.1 hb
  obtain⟨o,e',d⟩:=ho p.1 hb
  rw[e]at e';cases e'
  exact⟨e,f0,f1,f2,d⟩
theorem Inv.rX{pins pl:List (Addr×Obj)}{σ:St}{H:Hp}{s:Shared}(I:Inv X (pins++pl) σ H s):Inv X pins σ H s:=I.kY λp hp=>I.pin p (aQ _ (bK _ hp))
theorem C5{iter:Expr}{body:List Stmt}{wi:TI}{g:TG}{tb:TS}{pos:Pos}(hp:PassesOwn (model X.prog X.w) X.A X.env X.xe)(hc:X.calm=true)(hi:PI X tg iter wi)(hg:PG X tg g)(hb:sD X body tb)
  (hs:∀x,foldedSetIterable iter X.env x=pure x:=by intro _;rfl):PS X (.For tg iter body [] pos) (Dp wi g tb):=by
 intro pins s σ H D I h
 refine wpAny_For (g9 (hi pins s σ H _ I h) λv s1 h1=>g9 h1 λitv s2 h2=> ?_) hs
 obtain⟨it,fp,tn,J,H2,e,I2,T,st2,f2,W,⟨m0,w0⟩,turn⟩:=h2
 subst e
 have stat:∀{H':Hp},(∀b∈fp,H' b=none)->∀b∈fp,nJ X pins H' b:=λhn b hb=>⟨hn b hb,(f2 b hb).2⟩
 refine codeAny_forLoop_any (λn s'=>∃i σ' H',Inv X pins σ' H' s'/\tn i s'.heap/\(∀b∈fp,H' b=none)/\W i n σ' H') ?_ m0 ⟨0,σ,H2,I2,st2,λb hb=>(f2 b hb).1,w0⟩
 rintro n s3 ⟨i,σ3,H3,I3,st3,fr3,w3⟩
 rcases turn i n σ3 H3 w3 with ⟨stop,qn⟩|⟨go,N,hN,step⟩
 ·refine wpAny_passesOwn hp (g9 (T.done X rfl rfl rfl hc i pins s3 σ3 H3 X.xe I3 (stat fr3) st3 stop) λr s4 ⟨hr,I4⟩=> ?_)
  subst hr
  exact wpAny_execs_nil ⟨σ3,H3,I4,qn⟩
 ·refine wpAny_passesOwn hp (g9 (T.item X rfl rfl rfl hc i pins s3 σ3 H3 X.xe I3 (stat fr3) st3 go) λr s4 ⟨u,hr,h4⟩=> ?_)
  subst hr
  refine wpAny_passesOwn hp (g9 h4 λ_ s5 ⟨x,H5,I5,r5,y5,st5,fr5⟩=> ?_)
  have I5':=I5.pinned (stat fr5) (T.obj _ _ st5)
  refine wpAny_passesOwn hp (g9 (hg _ s5 σ3 H5 x u _ I5' r5 (step x H5 y5)) λ_ s6 ⟨σ6,H6,I6,q6⟩=> ?_)
  refine wpAny_passesOwn hp (g9 (hb _ s6 σ6 H6 _ I6 q6) λf s7 q7=> ?_)
  have again:∀{σ7:St} {H7:Hp},Inv X (pins++pL fp s5.heap) σ7 H7 s7->N σ7 H7->∃m,m<n/\∃i σ' H',Inv X pins σ' H' s7/\tn i s7.heap/\(∀b∈fp,H' b=none)/\W i m σ' H':=λ{σ7 H7} I7 n7=>by
   obtain⟨m',hm,w7⟩:=hN σ7 H7 n7
   refine⟨m',hm,i+1,σ7,H7,I7.rX,T.keep _ _ _ st5 λb hb o e=>(I7.pin (b,o) (aQ _ (aQ _ (jw hb e)))).1,λb hb=> ?_,w7⟩
   obtain⟨o,e,d⟩:=T.obj _ _ st5 b hb
   exact(I7.pin (b,o) (aQ _ (aQ _ (jw hb e)))).2.1
  cases f with
  |next=>obtain⟨σ7,H7,I7,n7⟩:=q7;exact again I7 n7
  |cont=>obtain⟨σ7,H7,I7,n7⟩:=q7;exact again I7 n7
  |brk=>obtain⟨σ7,H7,I7,q7⟩:=q7;exact⟨σ7,H7,I7.rX,q7⟩
  |ret v=>obtain⟨x7,σ7,H7,I7,r7,q7⟩:=q7;exact⟨x7,σ7,H7,I7.rX,r7,q7⟩
end
theorem yI{K:PySem.W.Frag}{a:Addr}{xs:List V}{g:TG}{tb:TS}{D:Ends}{σ:St}{H:Hp}(Pv:Nat->St->Hp->Prop)(h0:Pv 0 σ H)(hl:∀i σ H,i<=xs.length->Pv i σ H->fb K H a xs)
  (hs:∀i x σ H,xs[i]? =some x->Pv i σ H->g x σ H λσ2 H2=>tb {D with nx:=Pv (i+1),ct:=Pv (i+1),bk:=D.nx} σ2 H2) (hd:∀σ H,Pv xs.length σ H->D.nx σ H):
  ∃W:Nat->Nat->St->Hp->Prop,(∃m,W 0 m σ H)/\∀i m σ H,W i m σ H->
   ((yb K a).stop i H/\D.nx σ H)∨((yb K a).go i H/\∃N:St->Hp->Prop,(∀σ' H',N σ' H'->∃m',m'<m/\W (i+1) m' σ' H')/\∀x H',(yb K a).Bi i H x H'->g x σ H' λσ2 H2=>tb {D with nx:=N,ct:=N,bk:=D.nx} σ2 H2):=by
 refine⟨λi m σ H=>m=xs.length-i/\i<=xs.length/\Pv i σ H,⟨xs.length,by simp,aO _,h0⟩,?_⟩
 rintro i m σ H ⟨rfl,hi,p⟩
 have q:=hl i σ H hi p
 by_cases hlt:i<xs.length
 ·refine .inr ⟨⟨xs,xs[i],q,by simp[hlt]⟩,Pv (i+1),λσ' H' p'=>⟨xs.length-(i+1),by omega,rfl,hlt,p'⟩,λx H' y=> ?_⟩
  obtain⟨e,y⟩:=y
  subst e
  exact hs i x σ _ (y xs q) p
 ·have e:i=xs.length:=by omega
  subst e
  exact .inl ⟨⟨xs,q,ao _⟩,hd σ H p⟩
theorem AA{K:PySem.W.Frag}{a:Addr}{xs:List V}{g:TG}{tb:TS}{D:Ends}{σ:St}{H:Hp}(Pv:Nat->St->Hp->Prop)(h0:Pv 0 σ H)(hl:∀i σ H,i<=xs.length->Pv i σ H->nh K H a xs)
  (hs:∀i x σ H,xs[i]? =some x->Pv i σ H->g x σ H λσ2 H2=>tb {D with nx:=Pv (i+1),ct:=Pv (i+1),bk:=D.nx} σ2 H2) (hd:∀σ H,Pv xs.length σ H->D.nx σ H):
  ∃W:Nat->Nat->St->Hp->Prop,(∃m,W 0 m σ H)/\∀i m σ H,W i m σ H->
   ((EU K a).stop i H/\D.nx σ H)∨((EU K a).go i H/\∃N:St->Hp->Prop,(∀σ' H',N σ' H'->∃m',m'<m/\W (i+1) m' σ' H')/\∀x H',(EU K a).Bi i H x H'->g x σ H' λσ2 H2=>tb {D with nx:=N,ct:=N,bk:=D.nx} σ2 H2):=by
 refine⟨λi m σ H=>m=xs.length-i/\i<=xs.length/\Pv i σ H,⟨xs.length,by simp,aO _,h0⟩,?_⟩
 rintro i m σ H ⟨rfl,hi,p⟩
 have q:=hl i σ H hi p
 by_cases hlt:i<xs.length
 ·refine .inr ⟨⟨xs,xs[i],q,by simp[hlt]⟩,Pv (i+1),λσ' H' p'=>⟨xs.length-(i+1),by omega,rfl,hlt,p'⟩,λx H' y=> ?_⟩
  obtain⟨e,y⟩:=y
  subst e
  exact hs i x σ _ (y xs q) p
 ·have e:i=xs.length:=by omega
  subst e
  exact .inl ⟨⟨xs,q,ao _⟩,hd σ H p⟩
theorem xq{lo:Int}{n:Nat}{g:TG}{tb:TS}{D:Ends}{σ:St}{H:Hp}(Pv:Nat->St->Hp->Prop)(h0:Pv 0 σ H)
  (hs:∀i σ H,i<n->Pv i σ H->g (.int (lo+i)) σ H λσ2 H2=>tb {D with nx:=Pv (i+1),ct:=Pv (i+1),bk:=D.nx} σ2 H2) (hd:∀σ H,Pv n σ H->D.nx σ H):
  ∃W:Nat->Nat->St->Hp->Prop,(∃m,W 0 m σ H)/\∀i m σ H,W i m σ H->
   ((zX lo n).stop i H/\D.nx σ H)∨((zX lo n).go i H/\∃N:St->Hp->Prop,(∀σ' H',N σ' H'->∃m',m'<m/\W (i+1) m' σ' H')/\∀x H',(zX lo n).Bi i H x H'->g x σ H' λσ2 H2=>tb {D with nx:=N,ct:=N,bk:=D.nx} σ2 H2):=by
 refine⟨λi m σ H=>m=n-i/\i<=n/\Pv i σ H,⟨n,by simp,aO _,h0⟩,?_⟩
 rintro i m σ H ⟨rfl,hi,p⟩
 by_cases hlt:i<n
 ·refine .inr ⟨hlt,Pv (i+1),λσ' H' p'=>⟨n-(i+1),by omega,rfl,hlt,p'⟩,λx H' y=> ?_⟩
  obtain⟨e,y⟩:=y
  subst e y
  exact hs i σ _ hlt p
 ·have e:i=n:=by omega
  subst e
  exact .inl ⟨ao _,hd σ H p⟩
end L2
namespace L2
open PySem PySem.Spec PyProof.Rows
noncomputable abbrev R2:=V->V->Hp->VK->Prop
noncomputable def iy (X:Cx) (f:Value->Value->Sem Value) (r:R2):Prop:=
 ∀(pins:List (Addr×Obj)) (s:Shared) (σ:St) (H:Hp) (x y:V) (v u:Value) (Q:VK),Inv X pins σ H s->RelV x v->RelV y u->r x y H Q->
  wpAny (model X.prog X.w) X.A (f v u) (EP X pins σ Q) X.xe s
noncomputable def DF (X:Cx) (f:Value->Sem Value) (r:V->Hp->VK->Prop):Prop:=
 ∀(pins:List (Addr×Obj)) (s:Shared) (σ:St) (H:Hp) (x:V) (v:Value) (Q:VK),Inv X pins σ H s->RelV x v->r x H Q->
  wpAny (model X.prog X.w) X.A (f v) (EP X pins σ Q) X.xe s
noncomputable def fh (X:Cx) (f:Value) (r:List V->Hp->VK->Prop):Prop:=
 ∀(pins:List (Addr×Obj)) (s:Shared) (σ:St) (H:Hp) (xs:List V) (us:List Value) (Q:VK),Inv X pins σ H s->Vals xs us->r xs H Q->
  wpAny (model X.prog X.w) X.A (call f us) (EP X pins σ Q) X.xe s
noncomputable def Fe (X:Cx) (r:V->Hp->(Bool->Hp->Prop)->Prop):Prop:=
 ∀(pins:List (Addr×Obj)) (s:Shared) (σ:St) (H:Hp) (x:V) (v:Value) (Q:Bool->Hp->Prop),Inv X pins σ H s->RelV x v->r x H Q->
  wpAny (model X.prog X.w) X.A (truthy v) (TP X pins σ Q) X.xe s
noncomputable def dD (r:R2) (ta tb:TE):TE:=λσ H Q=>ta σ H λx H1=>tb σ H1 λy H2=>r x y H2 Q
noncomputable def FR (r:V->Hp->VK->Prop) (ta:TE):TE:=λσ H Q=>ta σ H λx H1=>r x H1 Q
noncomputable def rI (C:Int->Int->Prop) (g:Int->Int->V):R2:=λx y H Q=>∃i j,x= .int i/\y= .int j/\C i j/\Q (g i j) H
noncomputable def BE (g:Int->Int->V):R2:=λx y H Q=>∃i j,x= .int i/\y= .int j/\Q (g i j) H
noncomputable def rU (g:Int->V):V->Hp->VK->Prop:=λx H Q=>∃i,x= .int i/\Q (g i) H
section
variable{X:Cx}{a b c:Expr}{ta tb tc:TE}{pos:Pos}
theorem BV(ha:PE X a ta)(hb:PE X b tb){pins:List (Addr×Obj)}{s:Shared}{σ:St}{H:Hp}{R:V->V->Hp->Prop}(I:Inv X pins σ H s)
  (h:ta σ H λx H1=>tb σ H1 λy H2=>R x y H2) {Q:Value->Shared->Prop} {f:Value->Value->Sem Value}
  (hf:∀v u s2 x y H2,Inv X pins σ H2 s2->RelV x v->RelV y u->R x y H2->wpAny (model X.prog X.w) X.A (f v u) Q X.xe s2):
  wpAny (model X.prog X.w) X.A (eval a X.env) (λv s₁=>wpAny (model X.prog X.w) X.A (eval b X.env) (λu s₂=>wpAny (model X.prog X.w) X.A (f v u) Q X.xe s₂) X.xe s₁) X.xe s:=by
 refine g9 (ha pins s σ H _ I h) λv s1 ⟨x,H1,I1,r1,q1⟩=> ?_
 refine g9 (hb pins s1 σ H1 _ I1 q1) λu s2 ⟨y,H2,I2,r2,q2⟩=> ?_
 exact hf v u s2 x y H2 I2 r1 r2 q2
theorem EA{op:Operator}{r:R2}(ho:iy X (binaryOp op) r)(ha:PE X a ta)(hb:PE X b tb):PE X (.BinOp a op b pos) (dD r ta tb):=by
 intro pins s σ H Q I h
 exact wpAny_BinOp (BV ha hb I h λv u s2 x y H2 I2 rx ry q=>ho pins s2 σ H2 x y v u Q I2 rx ry q)
theorem ED{op:UnaryOp}{r:V->Hp->VK->Prop}(ho:DF X (unaryOp op) r)(ha:PE X a ta):PE X (.UnaryOp op a pos) (FR r ta):=by
 intro pins s σ H Q I h
 exact UnaryOp_ (g9 (ha pins s σ H _ I h) λv s1 ⟨x,H1,I1,r1,q1⟩=>ho pins s1 σ H1 x v Q I1 r1 q1)
theorem Fz{f:Value->Value->Sem Value}{C:Int->Int->Prop}{g:Int->Int->Int}
  (rule:∀(i j:Int) (t u:Tok) (s:Shared) (Q:Value->Shared->Prop) (E:Value->Shared->Prop),C i j->Q (.int (g i j) s.toks) {s with toks:=s.toks+1}->wpAny (model X.prog X.w) X.A (f (.int i t) (.int j u)) Q E s):
  iy X f (rI C λi j=> .int (g i j)):=by
 intro pins s σ H x y v u Q I rx ry h
 obtain⟨i,j,rfl,rfl,hc,q⟩:=h
 obtain⟨t,rfl⟩:=rx
 obtain⟨t',rfl⟩:=ry
 exact rule i j t t' s _ _ hc ⟨.int (g i j),H,I.tok _,⟨_,rfl⟩,q⟩
theorem Ep{f:Value->Value->Sem Value}{g:Int->Int->Int}
  (rule:∀(i j:Int) (t u:Tok) (s:Shared) (Q:Value->Shared->Prop) (E:Value->Shared->Prop),Q (.int (g i j) s.toks) {s with toks:=s.toks+1}->wpAny (model X.prog X.w) X.A (f (.int i t) (.int j u)) Q E s):
  iy X f (BE λi j=> .int (g i j)):=by
 intro pins s σ H x y v u Q I rx ry h
 obtain⟨i,j,rfl,rfl,q⟩:=h
 obtain⟨t,rfl⟩:=rx
 obtain⟨t',rfl⟩:=ry
 exact rule i j t t' s _ _ ⟨.int (g i j),H,I.tok _,⟨_,rfl⟩,q⟩
theorem CK{f:Value->Value->Sem Value}{g:Int->Int->Bool}
  (rule:∀(i j:Int) (t u:Tok) (s:Shared) (Q:Value->Shared->Prop) (E:Value->Shared->Prop),Q (.bool (g i j)) s->wpAny (model X.prog X.w) X.A (f (.int i t) (.int j u)) Q E s):
  iy X f (BE λi j=> .bl (g i j)):=by
 intro pins s σ H x y v u Q I rx ry h
 obtain⟨i,j,rfl,rfl,q⟩:=h
 obtain⟨t,rfl⟩:=rx
 obtain⟨t',rfl⟩:=ry
 exact rule i j t t' s _ _ ⟨.bl (g i j),H,I,rfl,q⟩
noncomputable def la (i j:Int):Prop:=0<j/\j<1073741824
noncomputable def ur (i j:Int):Prop:=(-(2^64)<i/\i<2^64)∨(-(2^64)<j/\j<2^64)
theorem ur.ok{i j:Int}(h:ur i j):IntMulOk i j:=by
 rcases h with ⟨h1,h2⟩|⟨h1,h2⟩
 ·exact .of_left (intBits_le_64 h1 h2)
 ·exact .of_right (intBits_le_64 h1 h2)
theorem CL:iy X (binaryOp .Add) (BE λi j=> .int (i+j)):=Ep λ_ _ _ _ _ _ _ q=>add_int q
theorem CT:iy X (binaryOp .Sub) (BE λi j=> .int (i-j)):=Ep λ_ _ _ _ _ _ _ q=>sub_int q
theorem CP:iy X (binaryOp .Mult) (rI ur λi j=> .int (i*j)):=Fz λ_ _ _ _ _ _ _ hc q=>mul_int q hc.ok
theorem AR:iy X (binaryOp .FloorDiv) (rI la λi j=> .int (i/j)):=Fz λi j _ _ _ _ _ hc q=>by
 have h1:(0:Int)<j:=hc.1
 have h2:j<1073741824:=hc.2
 exact floordiv_int (by omega) (by rw[Int.fdiv_eq_ediv_of_nonneg i (by omega)];exact q) (.inl (PyProof.noPylong_small (by omega)))
theorem CO:iy X (binaryOp .Mod) (rI (λ_ j=>0<j) λi j=> .int (i%j)):=Fz λi j _ _ _ _ _ hc q=>by
 have h1:(0:Int)<j:=hc
 exact mod_int' (by omega) (by rw[Int.fmod_eq_emod_of_nonneg i (by omega)];exact q)
theorem F9{f:Value->Sem Value}{g:Int->Int}
  (rule:∀(i:Int) (t:Tok) (s:Shared) (Q:Value->Shared->Prop) (E:Value->Shared->Prop),Q (.int (g i) s.toks) {s with toks:=s.toks+1}->wpAny (model X.prog X.w) X.A (f (.int i t)) Q E s):
  DF X f (rU λi=> .int (g i)):=by
 intro pins s σ H x v Q I rx h
 obtain⟨i,rfl,q⟩:=h
 obtain⟨t,rfl⟩:=rx
 exact rule i t s _ _ ⟨.int (g i),H,I.tok _,⟨_,rfl⟩,q⟩
theorem Dt:DF X (unaryOp .USub) (rU λi=> .int (-i)):=F9 λ_ _ _ _ _ q=>neg_int q
end
noncomputable def Dj:V->V->Bool
 | .gm,.gm=>true| .gm,.int _=>true| .int _,.gm=>true| .gm,.bl _=>true| .bl _,.gm=>true| .gm,.str _=>true| .str _,.gm=>true
 | .int _,.int _=>true| .bl _,.bl _=>true| .str _,.str _=>true| .byt _,.byt _=>true
 | .int _,.str _=>true| .str _,.int _=>true| .bl _,.str _=>true| .str _,.bl _=>true
 |_,_=>false
noncomputable def F6:R2:=λx y H Q=>Dj x y=true/\Q (.bl (decide (x=y))) H
noncomputable def F7:R2:=λx y H Q=>Dj x y=true/\Q (.bl (!decide (x=y))) H
theorem wI{i j:Int}:decide (V.int i=V.int j)=(i==j):=by
 rw[bQ]
 simp
theorem yx{i j:Bool}:decide (V.bl i=V.bl j)=(i==j):=by
 rw[bQ]
 simp
theorem wJ{i j:Str}:decide (V.str i=V.str j)=(i==j):=by
 rw[bQ]
 simp
theorem wH{i j:Array UInt8}:decide (V.byt i=V.byt j)=(i.toList==j.toList):=by
 rw[bQ]
 cases i
 cases j
 simp
section
variable{X:Cx}{a b c:Expr}{ta tb tc:TE}{pos:Pos}
theorem df{pins:List (Addr×Obj)}{σ:St}{H:Hp}{s:Shared}{Q:VK}{k k':Bool}(I:Inv X pins σ H s)(q:Q (.bl k) H)(e:k=k'):EP X pins σ Q (.bool k') s:=by
 subst e
 exact⟨.bl k,H,I,rfl,q⟩
theorem Er:iy X (compareOp .Eq) F6:=by
 intro pins s σ H x y v u Q I rx ry h
 obtain⟨hs,q⟩:=h
 cases x with
 |gm=>
  cases rx
  cases y with
  |gm=>cases ry;exact PySem.EqNone.eq_none_none (df I q (by simp))
  |bl j=>cases ry;exact PySem.EqNone.eq_none_bool (df I q (by simp))
  |int j=>obtain⟨t',rfl⟩:=ry;exact PySem.EqNone.eq_none_int (df I q (by simp))
  |str j=>obtain⟨t',rfl⟩:=ry;exact PySem.EqNone.eq_none_str (df I q (by simp))
  |_=>exact absurd (show false=true from hs) aL
 |bl i=>
  cases rx
  cases y with
  |gm=>cases ry;exact PySem.EqNone.eq_bool_none (df I q (by simp))
  |bl j=>cases ry;exact eq_bool (df I q yx)
  |str j=>obtain⟨t',rfl⟩:=ry;exact PySem.EqMixed.eq_bool_str (df I q (by simp))
  |_=>exact absurd (show false=true from hs) aL
 |int i=>
  obtain⟨t,rfl⟩:=rx
  cases y with
  |gm=>cases ry;exact PySem.EqNone.eq_int_none (df I q (by simp))
  |int j=>obtain⟨t',rfl⟩:=ry;exact eq_int (df I q wI)
  |str j=>obtain⟨t',rfl⟩:=ry;exact PySem.EqMixed.eq_int_str (df I q (by simp))
  |_=>exact absurd (show false=true from hs) aL
 |str i=>
  obtain⟨t,rfl⟩:=rx
  cases y with
  |gm=>cases ry;exact PySem.EqNone.eq_str_none (df I q (by simp))
  |bl j=>cases ry;exact PySem.EqMixed.eq_str_bool (df I q (by simp))
  |int j=>obtain⟨t',rfl⟩:=ry;exact PySem.EqMixed.eq_str_int (df I q (by simp))
  |str j=>obtain⟨t',rfl⟩:=ry;exact eq_str (df I q wJ)
  |_=>exact absurd (show false=true from hs) aL
 |byt i=>
  obtain⟨t,rfl⟩:=rx
  cases y with
  |byt j=>obtain⟨t',rfl⟩:=ry;exact PySem.W.eq_bytes (df I q wH)
  |_=>exact absurd (show false=true from hs) aL
 |_=>cases y<;>exact absurd (show false=true from hs) aL
theorem Ew:iy X (compareOp .NotEq) F7:=by
 intro pins s σ H x y v u Q I rx ry h
 obtain⟨hs,q⟩:=h
 cases x with
 |gm=>
  cases rx
  cases y with
  |gm=>cases ry;exact PySem.EqNone.ne_none_none (df I q (by simp))
  |bl j=>cases ry;exact PySem.EqNone.ne_none_bool (df I q (by simp))
  |int j=>obtain⟨t',rfl⟩:=ry;exact PySem.EqNone.ne_none_int (df I q (by simp))
  |str j=>obtain⟨t',rfl⟩:=ry;exact PySem.EqNone.ne_none_str (df I q (by simp))
  |_=>exact absurd (show false=true from hs) aL
 |bl i=>
  cases rx
  cases y with
  |gm=>cases ry;exact PySem.EqNone.ne_bool_none (df I q (by simp))
  |bl j=>cases ry;exact ne_bool (df I q (congrArg not yx))
  |str j=>obtain⟨t',rfl⟩:=ry;exact PySem.EqMixed.ne_bool_str (df I q (by simp))
  |_=>exact absurd (show false=true from hs) aL
 |int i=>
  obtain⟨t,rfl⟩:=rx
  cases y with
  |gm=>cases ry;exact PySem.EqNone.ne_int_none (df I q (by simp))
  |int j=>obtain⟨t',rfl⟩:=ry;exact ne_int (df I q (congrArg not wI))
  |str j=>obtain⟨t',rfl⟩:=ry;exact PySem.EqMixed.ne_int_str (df I q (by simp))
  |_=>exact absurd (show false=true from hs) aL
 |str i=>
  obtain⟨t,rfl⟩:=rx
  cases y with
  |gm=>cases ry;exact PySem.EqNone.ne_str_none (df I q (by simp))
  |bl j=>cases ry;exact PySem.EqMixed.ne_str_bool (df I q (by simp))
  |int j=>obtain⟨t',rfl⟩:=ry;exact PySem.EqMixed.ne_str_int (df I q (by simp))
  |str j=>obtain⟨t',rfl⟩:=ry;exact ne_str (df I q (congrArg not wJ))
  |_=>exact absurd (show false=true from hs) aL
 |byt i=>
  obtain⟨t,rfl⟩:=rx
  cases y with
  |byt j=>obtain⟨t',rfl⟩:=ry;exact PySem.W.ne_bytes (df I q (congrArg not wH))
  |_=>exact absurd (show false=true from hs) aL
 |_=>cases y<;>exact absurd (show false=true from hs) aL
theorem Eu:iy X (compareOp .Lt) (BE λi j=> .bl (decide (i<j))):=CK λ_ _ _ _ _ _ _ q=>lt_int q
theorem Et:iy X (compareOp .LtE) (BE λi j=> .bl (decide (i<=j))):=CK λ_ _ _ _ _ _ _ q=>le_int q
theorem Es:iy X (compareOp .Gt) (BE λi j=> .bl (decide (j<i))):=CK λ_ _ _ _ _ _ _ q=>gt_int q
theorem xQ:iy X (compareOp .In) (λx y H Q=>∃i j,x= .str i/\y= .str j/\Q (.bl (!(Builtin.Str.occurrences j i 0 j.length 1).isEmpty)) H):=by
 intro pins s σ H x y v u Q I rx ry h
 obtain⟨i,j,rfl,rfl,q⟩:=h
 obtain⟨t,rfl⟩:=rx
 obtain⟨t',rfl⟩:=ry
 exact in_str (df I q rfl)
theorem CN:iy X (compareOp .Is) (λx y H Q=>y= .gm/\Q (.bl (decide (x= .gm))) H):=by
 intro pins s σ H x y v u Q I rx ry h
 obtain⟨rfl,q⟩:=h
 cases ry
 refine is_none_gen (df I q ?_)
 cases x<;>first
  |(cases rx;rfl)
  |(obtain⟨t,rfl⟩:=rx;rfl)
theorem t8:iy X (compareOp .NotIn) (λx y H Q=>∃i j,x= .str i/\y= .str j/\Q (.bl (!(!(Builtin.Str.occurrences j i 0 j.length 1).isEmpty))) H):=by
 intro pins s σ H x y v u Q I rx ry h
 obtain⟨i,j,rfl,rfl,q⟩:=h
 obtain⟨t,rfl⟩:=rx
 obtain⟨t',rfl⟩:=ry
 exact notIn_str (df I q rfl)
theorem iy.or{f:Value->Value->Sem Value}{r r':R2}(h:iy X f r)(h':iy X f r'):iy X f (λx y H Q=>r x y H Q∨r' x y H Q):=by
 intro pins s σ H x y v u Q I rx ry q
 rcases q with q|q
 ·exact h pins s σ H x y v u Q I rx ry q
 ·exact h' pins s σ H x y v u Q I rx ry q
theorem cM(b:Expr){op:CmpOp}(h:op≠ .In:=by decide)(h2:op≠ .NotIn:=by decide):behindInMarks op b=false:=by
 have e1:(op==CmpOp.In)=false:=by cases op<;>first|rfl|exact absurd rfl h
 have e2:(op==CmpOp.NotIn)=false:=by cases op<;>first|rfl|exact absurd rfl h2
 cases b<;>simp[behindInMarks,e1,e2]
theorem AU{op:CmpOp}{r:R2}(ho:iy X (compareOp op) r)(ha:PE X a ta)(hb:PE X b tb)(hm:behindInMarks op b=false):PE X (.Compare a [op] [b] pos) (dD r ta tb):=by
 intro pins s σ H Q I h
 exact wpAny_Compare1 (BV ha hb I h λv u s2 x y H2 I2 rx ry q=>ho pins s2 σ H2 x y v u Q I2 rx ry q) hm
noncomputable def cV (t:TE):TT:=λσ H Q=>t σ H λx H'=>∃k,x= .bl k/\Q k H'
theorem A9{op:CmpOp}{r:R2}(ho:iy X (compareOp op) r)(ha:PE X a ta)(hb:PE X b tb)(hm:behindInMarks op b=false):PT X (.Compare a [op] [b] pos) (cV (dD r ta tb)):=by
 intro pins s σ H Q I h
 refine wpAny_isTrue_Compare1 (g9 (ha pins s σ H _ I h) λv s1 ⟨x,H1,I1,r1,q1⟩=>g9 (hb pins s1 σ H1 _ I1 q1) λu s2 ⟨y,H2,I2,r2,q2⟩=>
  g9 (ho pins s2 σ H2 x y v u _ I2 r1 r2 q2) λc s3 ⟨z,H3,I3,r3,k,e,q3⟩=> ?_) hm
 subst e
 cases r3
 exact wpAny_truthy_bool ⟨H3,I3,q3⟩
noncomputable def mh (r r':R2) (ta tb tc:TE):TE:=λσ H Q=>ta σ H λx H1=>tb σ H1 λy H2=>r x y H2 λz H3=>∃k,z= .bl k/\
 (if k=true then tc σ H3 λw' H4=>r' y w' H4 Q else Q (.bl false) H3)
theorem zk{op op':CmpOp}{r r':R2}(ho:iy X (compareOp op) r)(ho':iy X (compareOp op') r')(ha:PE X a ta)(hb:PE X b tb)(hc:PE X c tc)
  (hm:lastMarks [op,op'] [b,c]=false:=by with_unfolding_all rfl):PE X (.Compare a [op,op'] [b,c] pos) (mh r r' ta tb tc):=by
 intro pins s σ H Q I h
 refine Compare_chain (g9 (ha pins s σ H _ I h) λv s1 ⟨x,H1,I1,r1,q1⟩=>chain_link (g9 (hb pins s1 σ H1 _ I1 q1) λu s2 ⟨y,H2,I2,r2,q2⟩=>
  g9 (ho pins s2 σ H2 x y v u _ I2 r1 r2 q2) λd s3 ⟨z,H3,I3,r3,k,e,q3⟩=> ?_)) hm
 subst e
 cases r3
 refine wpAny_truthy_bool ?_
 cases k with
 |false=>exact ite_ff ⟨.bl false,H3,I3,rfl,q3⟩
 |true=>exact ite_tt (chain_last (g9 (hc pins s3 σ H3 _ I3 q3) λw' s4 ⟨z',H4,I4,r4,q4⟩=>ho' pins s4 σ H4 y z' u w' Q I4 r2 r4 q4))
theorem zG{op op':CmpOp}{r r':R2}(ho:iy X (compareOp op) r)(ho':iy X (compareOp op') r')(ha:PE X a ta)(hb:PE X b tb)(hc:PE X c tc)
  (hm:lastMarks [op,op'] [b,c]=false:=by with_unfolding_all rfl):PT X (.Compare a [op,op'] [b,c] pos) (cV (mh r r' ta tb tc)):=by
 intro pins s σ H Q I h
 refine isTrue_chain (g9 (ha pins s σ H _ I h) λv s1 ⟨x,H1,I1,r1,q1⟩=>test_link (g9 (hb pins s1 σ H1 _ I1 q1) λu s2 ⟨y,H2,I2,r2,q2⟩=>
  g9 (ho pins s2 σ H2 x y v u _ I2 r1 r2 q2) λd s3 ⟨z,H3,I3,r3,k,e,q3⟩=> ?_)) hm
 subst e
 cases r3
 refine wpAny_truthy_bool ?_
 cases k with
 |false=>
  obtain⟨k',e',q'⟩:=q3
  cases e'
  exact ite_ff ⟨H3,I3,q'⟩
 |true=>
  refine ite_tt (test_last (g9 (hc pins s3 σ H3 _ I3 q3) λw' s4 ⟨z',H4,I4,r4,q4⟩=>g9 (ho' pins s4 σ H4 y z' u w' _ I4 r2 r4 q4) λd' s5 ⟨z2,H5,I5,r5,k2,e2,q5⟩=> ?_))
  subst e2
  cases r5
  exact wpAny_truthy_bool ⟨H5,I5,q5⟩
noncomputable def jd (K:PySem.W.Frag) (x:V) (H:Hp) (k:Bool):Prop:=
 match x with
 | .gm=>k=false
 | .bl b=>k=b
 | .int i=>k=(i !=0)
 | .str y=>y.length<=sizeLine/\k=((y.length:Int) !=0)
 | .byt y=>y.size<=sizeLine/\k=((y.size:Int) !=0)
 | .ref p=>(∃xs,fb K H p xs/\k= !xs.isEmpty)∨(∃xs,nh K H p xs/\k= !xs.isEmpty)∨∃kvs,H p=some (.dK kvs)/\k= !kvs.isEmpty
 |_=>False
theorem vE{κ:Type}{kvs:List (κ×V)}{vs:List (κ×Value)}(r:KV kvs vs):(!vs.isEmpty)= !kvs.isEmpty:=by
 cases r<;>rfl
theorem rp{xs:List V}{its:List Value}(r:Vals xs its):(!its.toArray.isEmpty)= !xs.isEmpty:=by
 cases r<;>simp
theorem oa:(sizeLine:Nat)<2^63:=by rw[sizeLine_eq];decide
theorem Ds:Fe X (λx H Q=>∃k,jd X.K x H k/\Q k H):=by
 intro pins s σ H x v Q I rx h
 obtain⟨k,e,q⟩:=h
 have hl:=oa
 have hs:sizeLine=16777216:=sizeLine_eq
 cases x with
 |gm=>
  cases rx
  have e':k=false:=e
  subst e'
  exact truthy_none ⟨H,I,q⟩
 |bl b=>
  cases rx
  have e':k=b:=e
  subst e'
  exact wpAny_truthy_bool ⟨H,I,q⟩
 |int i=>
  obtain⟨t,rfl⟩:=rx
  have e':k=(i !=0):=e
  subst e'
  exact PySem.P.truthy_int ⟨H,I,q⟩
 |str y=>
  obtain⟨t,rfl⟩:=rx
  obtain⟨hy,e'⟩:y.length<=sizeLine/\k=((y.length:Int) !=0):=e
  subst e'
  exact PySem.P.truthy_str (by omega) ⟨H,I.tok _,q⟩
 |byt y=>
  obtain⟨t,rfl⟩:=rx
  obtain⟨hy,e'⟩:y.size<=sizeLine/\k=((y.size:Int) !=0):=e
  subst e'
  exact PySem.W.truthy_bytes (by omega) ⟨H,I.tok _,q⟩
 |ref p=>
  cases rx
  have e':(∃xs,fb X.K H p xs/\k= !xs.isEmpty)∨(∃xs,nh X.K H p xs/\k= !xs.isEmpty)∨∃kvs,H p=some (.dK kvs)/\k= !kvs.isEmpty:=e
  rcases e' with ⟨xs,hx,e'⟩|⟨xs,hx,e'⟩|⟨kvs,hx,e'⟩
  ·subst e'
   obtain⟨its,r,pl,hz⟩:=I.list hx
   have hlen:=r.length
   exact wpAny_truthy_list pl.isList (by simp only[aI];omega) ⟨H,I.tok _,by rw[rp r];exact q⟩
  ·subst e'
   obtain⟨its,r,pl,hz⟩:=I.tuple hx
   have hlen:=r.length
   exact truthy_tuple pl (by simp only[aI];omega) ⟨H,I.tok _,by rw[rp r];exact q⟩
  ·subst e'
   obtain⟨hz,hS,vs,r,m⟩:kvs.length<=sizeLine/\(p==sysModules)=false/\∃vs,KV kvs vs/\s.heap.DictOf (fv X.prog X.w) p vs:=I.dm p _ hx
   have hlen:kvs.length=vs.length:=Paired.length r
   exact wpAny_truthy_dict hS m (by omega) ⟨H,I.tok _,by rw[vE r];exact q⟩
 |_=>exact(show False from e).elim
theorem zH(ha:PE X a ta)(he:∀whole,isTrue a X.env whole=(do let v←whole;standAt a.pos;holding [v] (truthy v))):
  PT X a (λσ H Q=>ta σ H λx H'=>∃k,jd X.K x H' k/\Q k H'):=by
 intro pins s σ H Q I h
 exact isTrue_plain (g9 (ha pins s σ H _ I h) λv s1 ⟨x,H1,I1,r1,q1⟩=>Ds pins s1 σ H1 x v Q I1 r1 q1) (he _)
theorem vS:iy X (binaryOp .Add) (λx y H Q=>∃i j,x= .str i/\y= .str j/\i.length+j.length<=sizeLine/\Q (.str (i++j)) H):=by
 intro pins s σ H x y v u Q I rx ry h
 obtain⟨i,j,rfl,rfl,hz,q⟩:=h
 obtain⟨t,rfl⟩:=rx
 obtain⟨t',rfl⟩:=ry
 exact add_str (λt' tk=>⟨.str (i++j),H,I.tok _,⟨_,rfl⟩,q⟩) hz
theorem vals1{x:V}{us:List Value}(r:Vals [x] us):∃u,us=[u]/\RelV x u:=by
 cases r with
 |cons r1 r2=>cases r2;exact⟨_,rfl,r1⟩
theorem vals2{x y:V}{us:List Value}(r:Vals [x,y] us):∃u w',us=[u,w']/\RelV x u/\RelV y w':=by
 cases r with
 |cons r1 r2=>
  cases r2 with
  |cons r3 r4=>cases r4;exact⟨_,_,rfl,r1,r3⟩
theorem xo:fh X (.type "int") (λxs H Q=>(∃i,xs=[.int i]/\Q (.int i) H)∨∃k,xs=[.bl k]/\Q (.int (if k then 1 else 0)) H):=by
 intro pins s σ H xs us Q I r h
 rcases h with ⟨i,rfl,q⟩|⟨k,rfl,q⟩
 ·obtain⟨u,rfl,t,rfl⟩:=vals1 r
  exact call_int_int ⟨.int i,H,I,⟨_,rfl⟩,q⟩
 ·obtain⟨u,rfl,r1⟩:=vals1 r
  cases r1
  exact call_int_bool ⟨.int (if k then 1 else 0),H,I.tok _,⟨_,rfl⟩,q⟩
theorem tK:fh X (.type "str") (λxs H Q=>∃i,xs=[.int i]/\i.natAbs.log2<1920/\Q (.str (toString i)) H):=by
 intro pins s σ H xs us Q I r h
 obtain⟨i,rfl,hz,q⟩:=h
 obtain⟨u,rfl,t,rfl⟩:=vals1 r
 exact PySem.P.str_of_int hz ⟨.str _,H,I.tok _,⟨_,rfl⟩,q⟩
end
end L2
namespace L2
open PySem PySem.Spec PyProof.Rows
structure BM(h:Heap)(x dx C:Addr)(mA:Str->Option Value):Prop where
 obj:h.get? x=some (PySem.W.instObj C dx)
 ns:h.Ns1 dx mA
 ne:dx≠x
theorem xI{h:Heap}{dx:Addr}{mA:Str->Option Value}(n:h.Ns1 dx mA):∃od,h.get? dx=some od/\∀name,PySem.W.lookIn name od=some (mA name):=by
 obtain⟨o,es,ep,ho,hd,hk,_,hm⟩:=n
 refine⟨o,ho,λname=> ?_⟩
 have e:=hm name
 unfold nsFind findBy at e
 rw[←Array.find?_toList]at e
 unfold PySem.W.lookIn
 rw[hd]
 dsimp only
 split
 ·rename_i y q
  rw[q]at e
  exact congrArg some e
 ·rename_i q
  rw[q]at e
  have a:es.toList.any (·.refKey)=false:=by
   rw[List.any_eq_false]
   intro y hy
   obtain⟨z,t,hkey⟩:=hk y (Array.mem_toList_iff.mp hy)
   simp[DictEntry.refKey,hkey]
  have a':¬es.toList.any (·.refKey)=true:=by rw[a];exact aL
  rw[if_neg a']
  exact congrArg some e
theorem BM.look{h:Heap}{x dx C:Addr}{mA:Str->Option Value}(I:BM h x dx C mA):∃od,PySem.W.InstAt h x (PySem.W.instObj C dx) C (some od)/\∀name,PySem.W.lookIn name od=some (mA name):=
 let ⟨od,ho,hl⟩:=xI I.ns
 ⟨od,⟨I.obj,rfl,rfl,ho⟩,hl⟩
section
variable{prog:Program}{w:World}{A:Around}{E:Value->Shared->Prop}{s:Shared}{K:PySem.W.Frag}{x dx C f:Addr}{mA:Str->Option Value}{name:Str}{v:Value}
end
theorem qV.none_of{o:Option Value}(r:qV none o):o=none:=by
 cases o with
 |none=>rfl
 |some u=>exact(show False from r).elim
section
variable{P:Program}{w:World}{H H':Hp}{h h':Heap}{a C dx:Addr}{fs fs':List (Str×V)}
theorem AD(dm:lH P w H h)(e:H a=some (.ins C dx fs)):∃mA,BM h a dx C mA/\(∀f,qV (fs.lookup f) (mA f))/\PySem.Within mA (fs.map (·.1))/\fs.length<=1000/\H dx=some (.own a):=by
 obtain⟨d,z,ne,ob,mA,n,r,q⟩:=(show eh P w H h a (.ins C dx fs) from dm a _ e)
 exact⟨mA,⟨ob,n,ne⟩,r,q,z,d⟩
end
structure ET(K:PySem.W.Frag)(C:Addr):Prop where
 pg:PySem.W.plainGet K C Str.empty=true
 hd:PySem.W.hasDictIn K C=true
 po:PySem.W.plainOver K C=true
 sa:PySem.W.findIn K (.ref C) "__setattr__"=some (some (.builtin "object.__setattr__"))
theorem ET.get{K:PySem.W.Frag}{C:Addr}(c:ET K C)(f:Str):PySem.W.plainGet K C f=true:=c.pg
structure F_(K:PySem.W.Frag)(C:Addr)(f:Str)(v:V)(u:Value):Prop where
 at_:PySem.W.findIn K (.ref C) f=some (some u)
 rel:RelV v u
 get:PySem.W.specialIn K u "__get__"=some none
 cp:PySem.W.copiedNames.contains f=false
structure Meth(K:PySem.W.Frag)(C:Addr)(m:Str)(f:Addr):Prop where
 at_:PySem.W.findIn K (.ref C) m=some (some (.ref f))
 fn:PySem.W.isFn K (.ref f)=true
 kp:PySem.W.keepIn K (.ref f)=true
section
variable{X:Cx}{pins:List (Addr×Obj)}{σ:St}{H:Hp}{s:Shared}{a C dx:Addr}{fs:List (Str×V)}{f:Str}{v:V}{A:Around}{E:Value->Shared->Prop}
theorem Inv.made(I:Inv X pins σ H s):Inv X pins σ (upd (upd H s.heap.objs.size (.own (s.heap.objs.size+1))) (s.heap.objs.size+1) (.ins C s.heap.objs.size []))
  {s with heap:=(s.heap.push PySem.W.emptyDict).push (PySem.W.instObj C s.heap.objs.size)}:=by
 have e1:(s.heap.push PySem.W.emptyDict).get? s.heap.objs.size=some PySem.W.emptyDict:=Heap.get?_push_size s.heap rfl
 have e2:((s.heap.push PySem.W.emptyDict).push (PySem.W.instObj C s.heap.objs.size)).get? (s.heap.objs.size+1)=some (PySem.W.instObj C s.heap.objs.size):=by
  have:=Heap.get?_push_size (s.heap.push PySem.W.emptyDict) (o:=PySem.W.instObj C s.heap.objs.size) rfl
  rwa[Heap.size_push]at this
 have e3:(s.heap.push PySem.W.emptyDict).Ns s.heap.objs.size (λ_=>none):=⟨PySem.W.emptyDict,#[],_,e1,rfl,(λe he=>absurd he (by simp)),λ_=>rfl⟩
 have I1:=I.laid (a:=s.heap.objs.size) (o:= .own (s.heap.objs.size+1)) (h':=s.heap.push PySem.W.emptyDict) (t':=s.toks) (λb u q=>Heap.get?_push_of_some _ q) (ao _) ⟨_,e1⟩
 refine I1.laid (a:=s.heap.objs.size+1) (o:= .ins C s.heap.objs.size []) (t':=s.toks) (λb u q=>Heap.get?_push_of_some _ q) (Nat.le_of_eq (Heap.size_push _ _)) ?_
 have ne:s.heap.objs.size≠s.heap.objs.size+1:=aK (Nat.lt_succ_self _)
 refine⟨by rw[cO ne,cg],aO _,ne,e2,λ_=>none,(Heap.Ns1.of_empty e3).at λo q=>Heap.get?_push_of_some _ q,λ_=>aU,λy hy=>absurd rfl hy⟩
end
section
variable{X:Cx}{o e value:Expr}{f:Str}{pos pos' tpos:Pos}{ta tv:TE}
end
section
variable{X:Cx}{pins:List (Addr×Obj)}{σ:St}{H:Hp}{s:Shared}{A:Around}{E:Value->Shared->Prop}{Q:Value->Shared->Prop}{c:Value}{b:Bool}
inductive qx (K:PySem.W.Frag) (H:Hp):V->Value->Prop where
 |gm:qx K H .gm (.type "NoneType")
 |bl (x:Bool):qx K H (.bl x) (.type "bool")
 |int (i:Int):qx K H (.int i) (.type "int")
 |str (x:Str):qx K H (.str x) (.type "str")
 |Ce (x:UInt64):qx K H (.Ce x) (.type "float")
 |lst {a:Addr} {xs:List V} (e:H a=some (.lst xs)):qx K H (.ref a) (.type "list")
 |ro {a:Addr} {o:Obj} {xs:List V} (e:H a=some (.ro o (.lst xs))):qx K H (.ref a) (.type "list")
 |tup {a:Addr} {xs:List V} (e:H a=some (.tup xs)):qx K H (.ref a) (.type "tuple")
 |dK {a:Addr} {kvs:List (Key×V)} (e:H a=some (.dK kvs)):qx K H (.ref a) (.type "dict")
 |dT {a:Addr} {kvs:List (List Key×V)} (e:H a=some (.dT kvs)):qx K H (.ref a) (.type "dict")
 |ins {a C dx:Addr} {fs:List (Str×V)} (e:H a=some (.ins C dx fs)) (cl:ET K C) (ha:PySem.W.findIn K (.ref C) "__class__"=some (some (.builtin "object.__class__")))
   (hn:PySem.W.specialIn K (.builtin "object.__class__") "__get__"=some (some (.builtin "getset_descriptor.__get__"))) (htk:PySem.W.takesIn K (.builtin "object.__class__")=some true)
   (hm:PySem.W.mroIn K C (.type "object")=some true):qx K H (.ref a) (.ref C)
theorem gX{x:V}{u t:Value}(I:Inv X pins σ H s)(rx:RelV x u)(ty:qx X.K H x t)(e:PySem.W.kitOne X.K t c=some b)(h:∀tk,Q (.bool b) {s with toks:=tk}):
  wpAny (model X.prog X.w) A (call (.builtin "isinstance") [u,c]) Q E s:=by
 cases ty with
 |gm=>cases (show u=Value.none from rx);exact ba PySem.W.kitx_none I.rF aU e (λz=>nomatch z) h
 |bl y=>cases (show u=Value.bool y from rx);exact ba PySem.W.kitx_bool I.rF aU e (λz=>nomatch z) h
 |int i=>obtain⟨t,q⟩:=(show∃t,u=Value.int i t from rx);cases q;exact ba PySem.W.kitx_int I.rF aU e (λz=>nomatch z) h
 |str y=>obtain⟨t,q⟩:=(show∃t,u=Value.str y t from rx);cases q;exact ba PySem.W.kitx_str I.rF aU e (λz=>nomatch z) h
 |Ce y=>obtain⟨t,q⟩:=(show∃t,u=Value.float y t from rx);cases q;exact ba PySem.W.kitx_float I.rF aU e (λz=>nomatch z) h
 | @lst a xs ea=>
  cases (show u=Value.ref a from rx)
  obtain⟨_,_,n,_,h1⟩:=(show eh X.prog X.w H s.heap a (.lst xs) from I.dm a _ ea)
  exact ba PySem.W.kitx_list I.rF ⟨_,h1,rfl⟩ e (λz=>nomatch z) h
 | @ro a ob xs ea=>
  cases (show u=Value.ref a from rx)
  obtain⟨_,_,_,n,_,h1⟩:=(show eh X.prog X.w H s.heap a (.ro ob (.lst xs)) from I.dm a _ ea)
  exact ba PySem.W.kitx_list I.rF ⟨_,h1,rfl⟩ e (λz=>nomatch z) h
 | @tup a xs ea=>
  cases (show u=Value.ref a from rx)
  obtain⟨_,_,_,p⟩:=(show eh X.prog X.w H s.heap a (.tup xs) from I.dm a _ ea)
  obtain⟨o,h1,h2,_⟩:=p
  exact ba PySem.W.kitx_tuple I.rF ⟨o,h1,h2⟩ e (λz=>nomatch z) h
 | @dK a kvs ea=>
  cases (show u=Value.ref a from rx)
  obtain⟨_,_,vs,_,p⟩:=(show eh X.prog X.w H s.heap a (.dK kvs) from I.dm a _ ea)
  obtain⟨o,es,ep,h1,h2,_⟩:=p
  exact ba PySem.W.kitx_dict I.rF ⟨o,h1,h2.1⟩ e (λz=>nomatch z) h
 | @dT a kvs ea=>
  cases (show u=Value.ref a from rx)
  obtain⟨_,_,xs,_,o,es,ep,h1,h2,_⟩:=(show eh X.prog X.w H s.heap a (.dT kvs) from I.dm a _ ea)
  exact ba PySem.W.kitx_dict I.rF ⟨o,h1,h2.1⟩ e (λz=>nomatch z) h
 | @ins a C dx fs ea cl ha hn htk hm=>
  cases (show u=Value.ref a from rx)
  obtain⟨mA,O,_⟩:=AD I.dm ea
  obtain⟨od,J,_⟩:=O.look
  exact ba (PySem.W.kitx_own (cl.get _) cl.hd ha hn htk hm) I.rF J e (λz=>nomatch z) h
end
end L2
namespace L2
open PySem PySem.Spec PyProof.Rows
structure iz(ca:Bool)(k:Nat)(A:Around):Prop where
 hd:ca=true->A.handled=none
 dp:A.depth+3*k+5<recursionLimit
 un:A.units+16*k+200<cLine
theorem iz.mono{ca:Bool}{j k:Nat}{A:Around}(r:iz ca k A)(h:j<=k):iz ca j A:=⟨r.hd,by have:=r.dp;omega,by have:=r.un;omega⟩
theorem iz.deeper{ca:Bool}{k:Nat}{A:Around}(r:iz ca (k+1) A)(env:Env):iz ca k (A.deeper env):=
 ⟨r.hd,by have:=r.dp;show A.depth+1+3*k+5<_;omega,by have:=r.un;show A.units+3+16*k+200<_;omega⟩
theorem iz.in1{ca:Bool}{k:Nat}{A:Around}(r:iz ca (k+1) A):iz ca k A.in1:=
 ⟨r.hd,by have:=r.dp;show A.depth+3*k+5<_;omega,by have:=r.un;show A.units+1+16*k+200<_;omega⟩
theorem vL{A:Around}{C:Addr}{us:List Value}{kw:List (Str×Value)}:(A.under (.builtin "type.__call__" ⟨.ref C::us,kw⟩)).depth=A.depth+1:=by
 first|rfl|simp[Around.under,Code.weight,Code.isCreation,Code.isGuard,Code.isCaller,Code.frames,Code.isFrame,guardIds]
theorem vM{A:Around}{C:Addr}{us:List Value}{kw:List (Str×Value)}:(A.under (.builtin "type.__call__" ⟨.ref C::us,kw⟩)).units=A.units+1:=by
 first|rfl|simp[Around.under,Code.cUnits,Code.frames,Code.isFrame]
theorem iz.make{ca:Bool}{k:Nat}{A:Around}(r:iz ca (k+1) A)(C:Addr)(us:List Value)(kw:List (Str×Value)):iz ca k (A.under (.builtin "type.__call__" ⟨.ref C::us,kw⟩)):=
 ⟨r.hd,by have:=r.dp;rw[vL];omega,by have:=r.un;rw[vM];omega⟩
theorem iz.depth{ca:Bool}{k:Nat}{A:Around}(r:iz ca k A):A.depth<recursionLimit:=by have:=r.dp;omega
theorem iz.units{ca:Bool}{k:Nat}{A:Around}(r:iz ca k A):A.units+64<cLine:=by have:=r.un;omega
noncomputable def cL:TA:=λ_ H Q=>Q [] H
noncomputable def cB (ta:TE) (tr:TA):TA:=λσ H Q=>ta σ H λx H1=>tr σ H1 λxs H2=>Q (x::xs) H2
section
variable{X:Cx}{e:Expr}{es:List Expr}{te:TE}{t:TA}{pos:Pos}
theorem zg:PA X [] cL:=λ_ _ _ _ H Q I h=>Calls.spliced_nil ⟨[],H,I,.nil,h⟩
theorem t9(ha:PE X e te)(hr:PA X es t)(hs:starEach (e::es) X.env=(false,eval e X.env)::starEach es X.env:=by rfl):PA X (e::es) (cB te t):=by
 intro pos pins s σ H Q I h
 rw[hs]
 show wpAny _ _ (spliced ((false,eval e X.env)::backTo pos (starEach es X.env))) _ _ s
 refine Calls.spliced_cons (g9 (ha pins s σ H _ I h) λu s1 ⟨x,H1,I1,r1,q1⟩=> ?_)
 exact g9 (hr pos pins s1 σ H1 _ I1 q1) λus s2 ⟨xs,H2,I2,r2,q2⟩=>⟨x::xs,H2,I2,.cons r1 r2,q2⟩
noncomputable def sy (t:TA):TE:=λσ H Q=>t σ H λxs H1=>xs.length<=sizeLine/\∀p,H1 p=none->Q (.ref p) (upd H1 p (.tup xs))
noncomputable def eY (t:TA):TE:=λσ H Q=>t σ H λxs H1=>xs.length<=sizeLine/\∀p,H1 p=none->Q (.ref p) (upd H1 p (.lst xs))
theorem C0{x1}(h:PA X es t):PE X (.Tuple es x1 pos) (sy t):=by
 intro pins s σ H Q I hq
 refine wpAny_Tuple_spliced (g9 (h pos pins s σ H _ I hq) λus s1 ⟨xs,H1,I1,r,z,q⟩=>⟨by rw[←r.length];exact z,?_⟩)
 have hf:H1 s1.heap.objs.size=none:=I1.dm.fresh (ao _)
 refine⟨.ref s1.heap.objs.size,upd H1 s1.heap.objs.size (.tup xs),I1.laid (t':=s1.toks) (λb u e=>Heap.get?_push_of_some _ e) (ao _) ?_,rfl,q _ hf⟩
 exact⟨z,us,r,⟨_,Heap.get?_push_size _ rfl,rfl,_,rfl⟩⟩
theorem zu(h:PA X es t):PE X (.List es pos) (eY t):=by
 intro pins s σ H Q I hq
 refine wpAny_List_spliced (g9 (h pos pins s σ H _ I hq) λus s1 ⟨xs,H1,I1,r,z,q⟩=>⟨by rw[←r.length];exact z,?_⟩)
 have hf:H1 s1.heap.objs.size=none:=I1.dm.fresh (ao _)
 refine⟨.ref s1.heap.objs.size,upd H1 s1.heap.objs.size (.lst xs),I1.laid (t':=s1.toks) (λb u e=>Heap.get?_push_of_some _ e) (ao _) ?_,rfl,q _ hf⟩
 exact⟨z,us,0,r,Heap.get?_push_size _ rfl⟩
end
noncomputable abbrev Sp:=List V->Hp->VK->XK->Prop
noncomputable abbrev we:=List Env->Hp->Shared->XK->Value->Shared->Prop
structure sf(P:Program)(w:World)(K:PySem.W.Frag)(mg:Str->Option Value)(base:Heap)(A:Around)(outer:List Env)(s:Shared)(H:Hp):Prop where
 frames:A.frames=some outer
 mod:Mod K mg base
 bs:∀b o,base.get? b=some o->s.heap.get? b=some o/\H b=none
 wq:base.objs.size<=s.heap.objs.size
 lR:s.heap.FunFrames base outer
 x9:∀b∈lG outer,H b=none
 dm:lH P w H s.heap
 bare:AllBare s.gens
noncomputable def CE (outer:List Env) (P:Program) (w:World) (H:Hp) (s:Shared) (Q:VK) (u:Value) (s':Shared):Prop:=
 ∃v H',s'.os=s.os/\AllBare s'.gens/\Un (lG outer) [] H H' s.heap s'.heap/\lH P w H' s'.heap/\RelV v u/\Q v H'
noncomputable def CR (CX:we) (outer:List Env) (P:Program) (w:World) (H:Hp) (s:Shared) (Q:VK) (E:XK) (r:Result) (s':Shared):Prop:=
 match r with
 | .ok (.ret u)=>CE outer P w H s Q u s'
 | .ok _=>False
 | .error e=>CX outer H s E e s'
structure eg(P:Program)(w:World)(K:PySem.W.Frag)(mg:Str->Option Value)(base:Heap)(CX:we)(ca:Bool)(k:Nat)(f:Addr)(fd:FuncData)(ps:List Str)(sp:Sp):Prop where
 len:∀vs H Q E,sp vs H Q E->vs.length=ps.length
 run:∀(A:Around) (outer:List Env) (s:Shared) (H:Hp) (args:Args) (us:List Value) (vs:List V) (Q:VK) (E:XK),iz ca k A->sf P w K mg base A outer s H->BindsTo s fd args (ps.zip us)->Vals vs us->sp vs H Q E->
  codeAny (model P w) A (.call (.ref f) args) (CR CX outer P w H s Q E) s
theorem eg.mono{P:Program}{w:World}{K:PySem.W.Frag}{mg:Str->Option Value}{base:Heap}{CX:we}{ca:Bool}{j k:Nat}{f:Addr}{fd:FuncData}{ps:List Str}{sp:Sp}(F:eg P w K mg base CX ca j f fd ps sp)(h:j<=k):
  eg P w K mg base CX ca k f fd ps sp:=⟨F.len,λA outer s H args us vs Q E hr=>F.run A outer s H args us vs Q E (hr.mono h)⟩
theorem eg.imp{P:Program}{w:World}{K:PySem.W.Frag}{mg:Str->Option Value}{base:Heap}{CX:we}{ca:Bool}{k:Nat}{f:Addr}{fd:FuncData}{ps:List Str}{sp sp':Sp}(F:eg P w K mg base CX ca k f fd ps sp)
  (h:∀vs H Q E,sp' vs H Q E->sp vs H Q E):eg P w K mg base CX ca k f fd ps sp':=
 ⟨λvs H Q E q=>F.len vs H Q E (h _ _ _ _ q),λA outer s H args us vs Q E hr he hb hv hs=>F.run A outer s H args us vs Q E hr he hb hv (h _ _ _ _ hs)⟩
theorem sf.make{P:Program}{w:World}{K:PySem.W.Frag}{mg:Str->Option Value}{base:Heap}{A:Around}{outer:List Env}{s:Shared}{H:Hp}(e:sf P w K mg base A outer s H)(C:Addr)(us:List Value)(kw:List (Str×Value)):
  sf P w K mg base (A.under (.builtin "type.__call__" ⟨.ref C::us,kw⟩)) outer s H:=⟨by first|exact e.frames|(simpa [Around.under,Code.envs,Code.isFrame,pushEnvs] using e.frames),e.mod,e.bs,e.wq,e.lR,e.x9,e.dm,e.bare⟩
theorem sf.in1{P:Program}{w:World}{K:PySem.W.Frag}{mg:Str->Option Value}{base:Heap}{A:Around}{outer:List Env}{s:Shared}{H:Hp}(e:sf P w K mg base A outer s H):
  sf P w K mg base A.in1 outer s H:=⟨e.frames,e.mod,e.bs,e.wq,e.lR,e.x9,e.dm,e.bare⟩
section
variable{X:Cx}{pins:List (Addr×Obj)}{σ:St}{H:Hp}{s s':Shared}
theorem Inv.Fp(I:Inv X pins σ H s):sf X.prog X.w X.K X.mg X.base X.A X.stack s H:=
 ⟨I.ok.frames,I.ok.mod,I.bs,av I.ok.wq I.sz,I.stack,I.nE,I.dm,I.bare⟩
theorem Inv.after{Q:VK}{u:Value}(I:Inv X pins σ H s)(h:CE X.stack X.prog X.w H s Q u s'):EP X pins σ Q u s':=by
 obtain⟨v,H',os,bare,un,dm,r,q⟩:=h
 obtain⟨hh,g,d,t,os'⟩:=s'
 obtain rfl:os'=s.os:=os
 exact⟨v,H',I.call (h':=hh) (g':=g) (d':=d) (t':=t) (ch:=[]) un dm bare (λb z=>absurd z (by simp)),r,q⟩
end
noncomputable def Binds (K:PySem.W.Frag) (fd:FuncData) (ps:List Str) (ds:List Value):Prop:=
 ∀(s:Shared) (us:List Value),K.In s.heap->(us++ds).length=ps.length->BindsTo s fd ⟨us,[]⟩ (ps.zip (us++ds))
theorem Binds.all{K:PySem.W.Frag}{fd:FuncData}{ps:List Str}(h:∀us:List Value,us.length=ps.length->bindArgs fd ⟨us,[]⟩=pure (ps.zip us)):Binds K fd ps []:=λs us _ hl=>by
 rw[aR]at hl⊢
 exact .of_eq (h us hl)
section
variable{X:Cx}{CX:we}{ca:Bool}{k:Nat}{f C:Addr}{fd:FuncData}{ps:List Str}{sp:Sp}{dvs:List V}{ds:List Value}{E:XK}{x m:Str}{p pos apos:Pos}{e o:Expr}{es:List Expr}{ta:TE}{t:TA}
structure Mk(K:PySem.W.Frag)(C f:Addr):Prop where
 makes:PySem.W.makesIn K C=true
 init:PySem.W.findIn K (.ref C) "__init__"=some (some (.ref f))
 fn:PySem.W.isFn K (.ref f)=true
 kp:PySem.W.keepIn K (.ref C)=true
end
section
variable{X:Cx}{CX:we}{ca:Bool}{k:Nat}{f C:Addr}{fd:FuncData}{ps ks:List Str}{sp:Sp}{E:XK}{x m:Str}{p pos apos kpos:Pos}{e o:Expr}{es:List Expr}{kws:List Keyword}{te ta:TE}{t tk:TA}{nm:Option Str}
structure Fc(K:PySem.W.Frag)(fd:FuncData)(ps ks:List Str)(g:List Value->List Value->List Value)(gV:List V->List V->List V):Prop where
 to:∀(s:Shared) (us ws:List Value),K.In s.heap->(g us ws).length=ps.length->BindsTo s fd ⟨us,ks.zip ws⟩ (ps.zip (g us ws))
 rel:∀{vs:List V} {us:List Value} {zs:List V} {ws:List Value},Vals vs us->Vals zs ws->Vals (gV vs zs) (g us ws)
variable{g:List Value->List Value->List Value}{gV:List V->List V->List V}
end
structure cX(N P:List Str)(sc:Scope):Prop where
 kind:sc.kind= .function
 co:sc.isCoroutine=false
 gen:sc.isGenerator=false
 nd:N.Nodup
 pre:N.take P.length=P
 par:∀x∈P,sc.names.lookup x=some .local∨sc.names.lookup x=some .cell
 CG:∀y∈sc.names,y.2≠ .free
theorem sL{kindOf:Str->Option NameKind}{x:Str}:∀{binds:List (Str×Value)} {m:Str->Option Value},(∀v,(x,v)∉binds)->bindL kindOf binds m x=m x
 | [],_,_=>rfl
 |(n,v)::r,m,h=>by
  unfold bindL
  rw[sL λw hw=>h w (aD _ hw)]
  split
  ·have:x≠n:=by rintro rfl;exact h v aA
   simp[this]
  ·rfl
theorem sI{kindOf:Str->Option NameKind}{x:Str}:∀{binds:List (Str×Value)} {m:Str->Option Value},(∀v,(x,v)∉binds)->bindC kindOf binds m x=m x
 | [],_,_=>rfl
 |(n,v)::r,m,h=>by
  unfold bindC
  rw[sI λw hw=>h w (aD _ hw)]
  split
  ·rfl
  ·have:x≠n:=by rintro rfl;exact h v aA
   simp[this]
theorem sJ{kindOf:Str->Option NameKind}{x:Str}{v:Value}:∀{P:List Str} {vs:List Value} {i:Nat} {m:Str->Option Value},P.Nodup->P[i]? =some x->vs[i]? =some v->kindOf x=some .local->
  bindL kindOf (P.zip vs) m x=some v
 | [],_,_,_,_,h,_,_=>by simp at h
 |_::_,[],_,_,_,_,h,_=>by simp at h
 |p::P,w::vs,0,m,nd,h1,h2,hk=>by
  simp at h1 h2;subst h1;subst h2
  show bindL kindOf ((p,w)::P.zip vs) m p=_
  unfold bindL
  rw[sL λv hv=>(List.nodup_cons.mp nd).1 (bV hv).1,if_pos hk]
  simp
 |p::P,w::vs,i+1,m,nd,h1,h2,hk=>by
  show bindL kindOf ((p,w)::P.zip vs) m x=_
  unfold bindL
  exact sJ (i:=i) (List.nodup_cons.mp nd).2 (by simpa using h1) (by simpa using h2) hk
theorem sG{kindOf:Str->Option NameKind}{x:Str}{v:Value}:∀{P:List Str} {vs:List Value} {i:Nat} {m:Str->Option Value},P.Nodup->P[i]? =some x->vs[i]? =some v->kindOf x≠some .local->
  bindC kindOf (P.zip vs) m x=some v
 | [],_,_,_,_,h,_,_=>by simp at h
 |_::_,[],_,_,_,_,h,_=>by simp at h
 |p::P,w::vs,0,m,nd,h1,h2,hk=>by
  simp at h1 h2;subst h1;subst h2
  show bindC kindOf ((p,w)::P.zip vs) m p=_
  unfold bindC
  rw[sI λv hv=>(List.nodup_cons.mp nd).1 (bV hv).1,if_neg hk]
  simp
 |p::P,w::vs,i+1,m,nd,h1,h2,hk=>by
  show bindC kindOf ((p,w)::P.zip vs) m x=_
  unfold bindC
  exact sG (i:=i) (List.nodup_cons.mp nd).2 (by simpa using h1) (by simpa using h2) hk
noncomputable def start (N:List Str) (vs:List V):St:=vs.map some++List.replicate (N.length-vs.length) none
noncomputable def tL (CX:we) (ca:Bool) (P:Program) (w:World) (K:PySem.W.Frag) (mg:Str->Option Value) (base:Heap) (N:List Str) (qual:Str) (scope:Scope) (f:Addr) (cd:Value) (A:Around) (outer:List Env) (s:Shared) (H:Hp) (E:XK):Cx where
 prog:=P
 w:=w
 K:=K
 mg:=mg
 base:=base
 A:=A.deeper (envOfC qual scope s.heap.objs.size f cd)
 N:=N
 s₀:=s
 H₀:=H
 env:=envOfC qual scope s.heap.objs.size f cd
 outer:=outer
 stack:=envOfC qual scope s.heap.objs.size f cd::outer
 ex:=[]
 calm:=ca
 fn:=λ_=>true
 pn:=[]
 xe:=λe s'=>wpAny (model P w) (A.deeper (envOfC qual scope s.heap.objs.size f cd)) (leaving (envOfC qual scope s.heap.objs.size f cd) e) (λ_ s''=>CX outer H s E e s'') (λe' s''=>CX outer H s E e' s'') s'
theorem uz{sc:Scope}{n:Nat}{x:Str}(h:sc.names.lookup x=some .cell):∃c,(cellsFrom n sc.names []).lookup x=some c:=by
 have q:=PySem.W.cellsFrom_some sc.names n [] (.inl h)
 exact Option.isSome_iff_exists.mp q
theorem xu{CX:we}{ca:Bool}{P:Program}{w:World}{K:PySem.W.Frag}{mg:Str->Option Value}{base:Heap}{N ps:List Str}{qual:Str}{scope:Scope}{f:Addr}{cd:Value}{A:Around}{outer:List Env}{s s1:Shared}{H:Hp}{E:XK}{us:List Value}{vs:List V}
  (S:cX N ps scope) (hd:ca=true->A.handled=none) (e0:sf P w K mg base A outer s H) (hl:vs.length=ps.length) (r:Vals vs us)
  (x:InCallC s s.heap.objs.size (bindL (envOfC qual scope s.heap.objs.size f cd).kindOf (ps.zip us) λ_=>none) (cellsFrom (s.heap.objs.size+1) scope.names []) (bindC (envOfC qual scope s.heap.objs.size f cd).kindOf (ps.zip us) λ_=>none) s1):
  Inv (tL CX ca P w K mg base N qual scope f cd A outer s H E) [] (start N vs) H s1:=by
 have hpl:ps.length<=N.length:=by have:=congrArg List.length S.pre;rw[aH]at this;omega
 obtain⟨h1,tk,rfl,hk⟩:=x.done
 have noA:∀b:Addr,b∉(tL CX ca P w K mg base N qual scope f cd A outer s H E).ex:=λb z=>absurd (show b∈([]:List Addr) from z) (by simp)
 refine⟨⟨e0.mod,S.kind,rfl,rfl,ao _,λy z c h1 h2=> ?_,λy hy=> ?_,λy c _ h=> ?_,λz=>hd z,Around.frames_deeper e0.frames,.inr ⟨rfl,rfl⟩,λb z=>absurd z (noA b),e0.bs,e0.wq,λb _ _=>noA b,λb z=>absurd z (noA b),e0.lR,e0.x9⟩,
  rfl,e0.bare,Un.kept hk,⟨_,x.toInCall.ns,λi y v h1 h2 h3=> ?_⟩,λy c h=>⟨_,x.cell y c h⟩,e0.dm.fresh (ao _),λy c h=> ?_,λp hp=>absurd (show p∈([]:List (Addr×Obj)) from hp) (by simp),e0.dm.kept hk,?_⟩
 ·exact name_of_addr x.apart (bP h1) (bP h2)
 ·have hy:scope.names.lookup y=some .cell∨scope.names.lookup y=some .free:=hy
  rcases hy with hy|hy
  ·exact uz hy
  ·exact absurd rfl (S.CG _ (bP hy))
 ·exact bX (x.above y c (bP h))
 ·have hi:i<vs.length:=by
   unfold start at h2
   by_cases hi:i<vs.length
   ·exact hi
   ·rw[bU (by simpa using hi)]at h2
    rw[b8]at h2
    split at h2<;>cases h2
  have ha:vs[i]? =some v:=by
   unfold start at h2
   rw[List.getElem?_append_left (by simpa using hi),aS]at h2
   cases e:vs[i]? with
   |none=>rw[e]at h2;cases h2
   |some a=>rw[e]at h2;cases h2;rfl
  obtain⟨u,hu,rv⟩:=r.get ha
  have hp:ps[i]? =some y:=by
   rw[←S.pre,List.getElem?_take_of_lt (by omega)];exact h1
  have ndP:ps.Nodup:=by rw[←S.pre];exact S.nd.sublist (List.take_sublist _ _)
  refine⟨u,rv,?_⟩
  rcases S.par y (aZ hp) with k|k
  ·exact .inl ⟨k,sJ ndP hp hu k⟩
  ·obtain⟨c,e⟩:=uz (n:=s.heap.objs.size+1) k
   refine .inr ⟨.inl k,c,e,?_⟩
   have q:=x.cell y c e
   rw[sG ndP hp hu (by show scope.names.lookup y≠_;rw[k];decide)]at q
   exact q
 ·exact e0.dm.fresh (bX (x.above y c (bP h)))
 ·unfold start
  show _=N.length
  rw[ay,ah,bo]
  omega
theorem Bt{CX:we}{ca:Bool}{P:Program}{w:World}{K:PySem.W.Frag}{mg:Str->Option Value}{base:Heap}{k:Nat}{f:Addr}{name qual:Str}{params:Arguments}{body:List Stmt}{scope:Scope}{dV kV doc pm cdv ct oc:Value}{an od:Option Addr}
  {osl:Array (Option Value)} {N ps:List Str} {sp:Sp} (lk:K.lookup f=some ⟨oc,od,.func (PySem.W.fnOf name qual params body scope dV kV doc pm an cdv ct),osl⟩) (hcd:PySem.W.codeIn K cdv qual=true) (S:cX N ps scope)
  (len:∀vs H Q E,sp vs H Q E->vs.length=ps.length)
  (hbody:∀(A:Around) (outer:List Env) (s:Shared) (H:Hp) (vs:List V) (Q:VK) (E:XK),iz ca k (A.deeper (envOfC qual scope s.heap.objs.size f cdv))->sp vs H Q E->
   ∃t,sD (tL CX ca P w K mg base N qual scope f cdv A outer s H E) body t/\t {nx:=λ_ H'=>Q .gm H',rt:=Q} (start N vs) H):
  eg P w K mg base CX ca (k+1) f (PySem.W.fnOf name qual params body scope dV kV doc pm an cdv ct) ps sp:=by
 refine⟨len,λA outer s H args us vs Q E hr e0 hb r hsp=> ?_⟩
 have hl:=len _ _ _ _ hsp
 have KX:K.In s.heap:=e0.mod.E4.keeps λb o e=>(e0.bs b o e).1
 have lim:s.heap.NoLimit:=e0.mod.nolimit.keeps λb o e=>(e0.bs b o e).1
 have hkind:∀y∈ps.zip us,scope.names.lookup y.1=some .local∨(scope.names.lookup y.1=some .cell/\((cellsFrom (s.heap.objs.size+1) scope.names []).lookup y.1).isSome=true):=λ⟨n,v⟩ hy=>by
  rcases S.par n (bV hy).1 with q|q
  ·exact .inl q
  ·exact .inr ⟨q,PySem.W.cellsFrom_some _ _ _ (.inl q)⟩
 refine codeAny_call_function hr.depth (KX _ _ lk) rfl S.co S.gen rfl (PySem.W.codeRec_of KX hcd) (hb _ _ _ _ ?_)
 refine wpAny_newFunctionEnv_cells S.kind hkind λenv he s1 x=> ?_
 subst he
 refine⟨lim.keeps x.toInCall.keep,codeAny_func ?_⟩
 obtain⟨t,ht,hq⟩:=hbody A outer s H vs Q E (hr.deeper _) hsp
 have I:Inv (tL CX ca P w K mg base N qual scope f cdv A outer s H E) [] (start N vs) H s1:=xu S hr.hd e0 hl r x
 refine wpAny_mono (ht [] s1 (start N vs) H _ I hq) (λfl s' hs=> ?_) λe s' hs=>hs
 have fin:∀{σ':St} {H':Hp} {v:V} {u:Value},Inv (tL CX ca P w K mg base N qual scope f cdv A outer s H E) [] σ' H' s'->RelV v u->Q v H'->CE outer P w H s Q u s':=
  λ{σ' H' v u} J rv q=>⟨v,H',J.os,J.bare,J.base,J.dm,rv,q⟩
 cases fl with
 |ret u=>
  obtain⟨v,σ',H',J,rv,q⟩:=hs
  exact fin J rv q
 |next=>
  obtain⟨σ',H',J,q⟩:=hs
  exact fin (v:=V.gm) (u:=Value.none) J rfl q
 |brk=>
  obtain⟨_,_,_,q⟩:=hs
  exact False.elim q
 |cont=>
  obtain⟨_,_,_,q⟩:=hs
  exact False.elim q
end L2
namespace L2
open PySem PySem.Spec PyProof.Rows
section
variable{X:Cx}{x:Str}{p pos:Pos}{e:Expr}{es:List Expr}{t:TA}{id T:String}{r:List V->Hp->VK->Prop}
noncomputable def ja (r:List V->Hp->VK->Prop) (t:TA):TE:=λσ H Q=>t σ H λvs H1=>r vs H1 Q
theorem zh(hc:fh X (.builtin id) r)(hg:Gl X x)(hm:X.mg x=none)(hv:bootBuiltins x=some (.builtin id))(ha:PA X (e::es) t)(hn:x≠"__name__":=by decide)(hdb:(x==("__debug__":Str))=false:=by decide)
  (he:starEach (e::es) X.env=(false,eval e X.env)::starEach es X.env:=by rfl) (hpl:(backTo pos (starEach es X.env)).any (·.1)=false:=by rfl):PE X (.Call (.Name x p) (e::es) [] pos) (ja r t):=by
 intro pins s σ H Q I h
 refine wpAny_Call_Name_kw (pG I hg hm hv ?_ hn hdb)
 exact PyProof.Rows.callWith_builtin1 (g9 (ha pos pins s σ H _ I h) λus s1 ⟨vs,H1,I1,r1,q1⟩=>hc pins s1 σ H1 vs us Q I1 r1 q1) he hpl
theorem xS(hc:fh X (.type T) r)(hg:Gl X x)(hm:X.mg x=none)(hv:bootBuiltins x=some (.type T))(ha:PA X (e::es) t)(hn:x≠"__name__":=by decide)(hdb:(x==("__debug__":Str))=false:=by decide)
  (he:starEach (e::es) X.env=(false,eval e X.env)::starEach es X.env:=by rfl) (hpl:(backTo pos (starEach es X.env)).any (·.1)=false:=by rfl):PE X (.Call (.Name x p) (e::es) [] pos) (ja r t):=by
 intro pins s σ H Q I h
 refine wpAny_Call_Name_kw (pG I hg hm hv ?_ hn hdb)
 exact bS (g9 (ha pos pins s σ H _ I h) λus s1 ⟨vs,H1,I1,r1,q1⟩=>hc pins s1 σ H1 vs us Q I1 r1 q1) he hpl
end
end L2
namespace HT
open PySem PyProof.Rows
section
open PySem.SeqAt
open PySem.AutoSeq1 (wpAny_loadPart')
open PySem.MeetsSeq PySem.MeetsSeq2 PySem.MeetsSeq3
end
section
variable{prog:Program}{w:World}{A:Around}{E:Value->Shared->Prop}{s:Shared}
theorem Av{t b:Addr}{vs ws:List Value}{Q:Value->Shared->Prop}(ht:IsTup s.heap t vs.toArray)(hb:IsTup s.heap b ws.toArray)(hv:vs≠ [])
  (h1:ws=[]->Q (.ref t) s) (h2:ws≠ []->Q (.ref s.heap.objs.size) {s with heap:=s.heap.push {cls:= .type "tuple",data:= .seq (vs++ws).toArray}})
  (hsz:vs.length+ws.length<=sizeLine):wpAny (model prog w) A (binaryOp .Add (.ref t) (.ref b)) Q E s:=by
 obtain⟨⟨cls,dd,data,sl⟩,ho,hc,n,hd⟩:=id ht
 obtain⟨⟨cls2,dd2,data2,sl2⟩,ho2,hc2,n2,hd2⟩:=id hb
 simp only at hc hd hc2 hd2
 subst hc hd hc2 hd2
 have e:vs.toArray++ws.toArray=(vs++ws).toArray:=by simp
 by_cases hw:ws=[]
 ·exact concat_meets ⟨_,ho,rfl⟩ ⟨_,ho2,rfl⟩ noFill_tuple_add seq_tuple_add PySem.F.slot_tuple_add PySem.F.entry_tuple_add (PySem.F.args_tuple_add_2 _ _)
   (tuple_addW1 t b vs.toArray ws.toArray n n2 dd dd2 sl sl2 (by simpa using hv) (by simp[hw])) ⟨ho,ho2,h1 hw⟩
 ·refine concat_meets ⟨_,ho,rfl⟩ ⟨_,ho2,rfl⟩ noFill_tuple_add seq_tuple_add PySem.F.slot_tuple_add PySem.F.entry_tuple_add (PySem.F.args_tuple_add_2 _ _)
   (tuple_addW2 t b vs.toArray ws.toArray n n2 dd dd2 sl sl2 (by simpa using hv) (by simpa using hw) (by rw[aI,aI];exact hsz)) ⟨ho,ho2,?_⟩
  rw[e]
  exact h2 hw
noncomputable def jf (n d:Nat):Option Int->Nat
 |none=>d
 |some v=>if v<0 then(v+(n:Int)).toNat else min v.toNat n
theorem uZ(n d:Nat):jf n d none=d:=rfl
theorem uc(n d k:Nat):jf n d (some (k:Int))=min k n:=by
 show(if (k:Int)<0 then((k:Int)+(n:Int)).toNat else min (k:Int).toNat n)=min k n
 rw[if_neg (by omega),Int.toNat_natCast]
theorem Di(n d:Nat)(hd:d<=n)(o:Option Int):jf n d o<=n:=by
 cases o with
 |none=>exact hd
 |some v=>
  show(if v<0 then(v+(n:Int)).toNat else min v.toNat n)<=n
  by_cases hv:v<0
  ·rw[if_pos hv];omega
  ·rw[if_neg hv];exact Nat.min_le_right _ _
theorem wB(v:Int)(n d:Nat):(if v<0 then max (v+(n:Int)) 0 else min v (n:Int))=((jf n d (some v):Nat):Int):=by
 show(if v<0 then max (v+(n:Int)) 0 else min v (n:Int))=(((if v<0 then(v+(n:Int)).toNat else min v.toNat n):Nat):Int)
 by_cases hv:v<0
 ·simp only[if_pos hv];omega
 ·simp only[if_neg hv];omega
theorem vn(lo hi:Option Int)(n:Nat):Builtin.Slice.sliceAdjust lo hi 1 (n:Int)=(((jf n 0 lo:Nat):Int),((jf n n hi:Nat):Int)):=by
 have h1:¬((1:Int)<0):=by omega
 unfold Builtin.Slice.sliceAdjust
 simp only[h1,if_false]
 refine Prod.ext ?_ ?_
 ·cases lo with
  |none=>rfl
  |some v=>exact wB v n 0
 ·cases hi with
  |none=>rfl
  |some v=>exact wB v n n
theorem vV(i j:Nat):Builtin.Slice.slicePlaces (i:Int) (j:Int) 1=j-i:=by
 unfold Builtin.Slice.slicePlaces
 have h1:(1:Int)>0:=by omega
 simp only[h1,if_true,Int.ediv_one]
 split<;>omega
theorem rP{v:Value}{o:Option Int}{Q:Option Int->Shared->Prop}(p:IsPart v o)(h:Q o s):wpAny (model prog w) A (Builtin.Slice.slicePartIndex v) Q E s:=by
 cases p with
 |none=>exact slicePart_none h
 |int i t=>exact slicePart_int h
theorem pR{sl:Addr}{vl vu:Value}{lo hi:Option Int}{n:Nat}{Q:Int×Int×Nat->Shared->Prop}(hs:s.heap.IsSliceOf sl vl vu .none)(pl:IsPart vl lo)(pu:IsPart vu hi)
  (h:Q (((jf n 0 lo:Nat):Int),1,jf n n hi-jf n 0 lo) s):wpAny (model prog w) A (Builtin.Slice.sliceApplied (.ref sl) (pure (n:Int))) Q E s:=by
 obtain⟨os,hos,hcs,hds⟩:=id hs
 unfold Builtin.Slice.sliceApplied Builtin.Slice.sliceFields
 refine wpAny_bind (wpAny_bind (wpAny_field hos hds (x:=vl) rfl (wpAny_bind (wpAny_field hos hds (x:=vu) rfl (wpAny_bind (wpAny_field hos hds (x:= .none) rfl (wpAny_pure ?_)))))))
 refine wpAny_bind (slicePart_none ?_)
 show wpAny _ _ (if ((1:Int)==0)=true then _ else _) _ _ s
 rw[if_neg (by decide)]
 refine wpAny_bind (rP pl (wpAny_bind (rP pu (wpAny_bind (wpAny_pure ?_)))))
 show wpAny _ _ (match Builtin.Slice.sliceAdjust lo hi 1 (n:Int) with|(lo,hi)=>pure (lo,(1:Int),Builtin.Slice.slicePlaces lo hi 1)) _ _ s
 rw[vn lo hi n]
 show wpAny _ _ (pure (((jf n 0 lo:Nat):Int),(1:Int),Builtin.Slice.slicePlaces ((jf n 0 lo:Nat):Int) ((jf n n hi:Nat):Int) 1)) _ _ s
 rw[vV]
 exact wpAny_pure h
theorem zA(xs:Array Value)(i k:Nat):((List.range k).filterMap λ(m:Nat)=>xs[((i:Int)+(m:Int)*1).toNat]?).toArray=((xs.toList.drop i).take k).toArray:=by
 have e:(λ(m:Nat)=>xs[((i:Int)+(m:Int)*1).toNat]?)=λm=>xs[i+m]? :=by
  funext m
  have:((i:Int)+(m:Int)*1).toNat=i+m:=by omega
  rw[this]
 rw[e]
 have:=pick_run xs i k
 rw[List.filterMap_map]at this
 have e2:((λx=>xs[x]?)∘λx=>i+x)=λm=>xs[i+m]? :=rfl
 rw[e2]at this
 rw[this]
theorem oU{t sl:Addr}{items:Array Value}{vl vu:Value}{lo hi:Option Int}{Q:Value->Shared->Prop}(ht:IsTup s.heap t items)(hs:s.heap.IsSliceOf sl vl vu .none)(pl:IsPart vl lo)(pu:IsPart vu hi)
  (hw:¬(jf items.size 0 lo=0/\jf items.size items.size hi=items.size))
  (h:Q (.ref s.heap.objs.size) {s with heap:=s.heap.push {cls:= .type "tuple",data:= .seq ((items.toList.drop (jf items.size 0 lo)).take (jf items.size items.size hi-jf items.size 0 lo)).toArray}})
  (hsz:items.size<=sizeLine):wpAny (model prog w) A (getItem (.ref t) (.ref sl)) Q E s:=by
 have htake:sizeOk (.seq ((items.toList.drop (jf items.size 0 lo)).take (jf items.size items.size hi-jf items.size 0 lo)).toArray):=by
  show((items.toList.drop (jf items.size 0 lo)).take (jf items.size items.size hi-jf items.size 0 lo)).toArray.size<=sizeLine
  rw[aI,aH,aV,Array.length_toList]
  omega
 have hj:jf items.size items.size hi<=items.size:=Di _ _ (ao _) hi
 obtain⟨os,hos,hcs,hds⟩:=id hs
 have hTs:s.TypeIs (.ref sl) "slice":=⟨os,hos,hcs⟩
 unfold getItem
 try with_reducible refine wpAny_holding ?_
 first|refine wpAny_bind (wpAny_pure ?_)|skip
 refine wpAny_bind (wpAny_sequenceKey ht.typeIs (by decide) ?_)
 refine wpAny_bind (wpAny_callSpecial?_slot (name:=Str.ofString "__getitem__") ht.typeIs PyProof.Rows.slot_tuple_getitem
  (wpAny_call_entry PyProof.Rows.slot_tuple_getitem ht.typeIs entry_tuple_getitem ?_ (args_tuple_getitem _ _)))
 show wpAny _ _ (Builtin.Tuple.tupleItemsOf (.ref t)>>=_) _ _ s
 refine wpAny_bind (tupleItemsOf_ ht ?_)
 refine wpAny_bind (wpAny_typeOf hTs ?_)
 rw[if_pos (by decide)]
 refine wpAny_bind (pR hs pl pu ?_)
 have hno:¬((((jf items.size 0 lo:Nat):Int)==0&&(1:Int)==1&&(jf items.size items.size hi-jf items.size 0 lo)==items.size)=true):=by
  intro q
  rw[aw,aw]at q
  have q1:((jf items.size 0 lo:Nat):Int)=0:=eq_of_beq q.1.1
  have q2:jf items.size items.size hi-jf items.size 0 lo=items.size:=eq_of_beq q.2
  exact hw ⟨by omega,by omega⟩
 show wpAny _ _ (if (((jf items.size 0 lo:Nat):Int)==0&&(1:Int)==1&&(jf items.size items.size hi-jf items.size 0 lo)==items.size)=true then _ else _) _ _ s
 rw[if_neg hno,zA]
 first
  |exact wpAny_bind (m:=Builtin.Tuple.tupleExact _) (wpAny_newObj_type (wpAny_pure ⟨_,rfl,wpAny_pure h⟩) htake)
  |exact wpAny_bind (m:=Builtin.Tuple.tupleExact _) (wpAny_newObj_type (wpAny_bind (wpAny_pure (wpAny_pure ⟨_,rfl,wpAny_pure h⟩))) htake)
  |exact wpAny_bind (wpAny_bind (m:=Builtin.Tuple.tupleExact _) (wpAny_newObj_type (wpAny_pure (wpAny_pure ⟨_,rfl,wpAny_pure h⟩)) htake))
  |exact wpAny_bind (wpAny_bind (m:=Builtin.Tuple.tupleExact _) (wpAny_newObj_type (wpAny_pure ⟨_,rfl,wpAny_pure h⟩) htake))
end
end HT
namespace L2
open PySem PySem.Spec PyProof.Rows
noncomputable abbrev TO:=St->Hp->(Option Int->Hp->Prop)->Prop
noncomputable def PO (X:Cx) (e:Option Expr) (t:TO):Prop:=
 ∀(pins:List (Addr×Obj)) (s:Shared) (σ:St) (H:Hp) (Q:Option Int->Hp->Prop),Inv X pins σ H s->t σ H Q->
  wpAny (model X.prog X.w) X.A (evalPart e X.env) (λu s'=>∃o H',Inv X pins σ H' s'/\IsPart u o/\Q o H') X.xe s
noncomputable def eK:TO:=λ_ H Q=>Q none H
section
variable{X:Cx}{e:Expr}{te:TE}{lo hi:Option Expr}{tl th:TO}{pos p2:Pos}
theorem A3:PO X none eK:=by
 intro pins s σ H Q I h
 rw[evalPart_none]
 exact wpAny_pure ⟨none,H,I,.none,h⟩
noncomputable def wg (X:Cx) (r:V->Option Int->Option Int->Hp->VK->Prop):Prop:=
 ∀(pins:List (Addr×Obj)) (s:Shared) (σ:St) (H:Hp) (x:V) (v vl vu:Value) (lo hi:Option Int) (sl:Addr) (Q:VK),Inv X pins σ H s->RelV x v->s.heap.IsSliceOf sl vl vu .none->IsPart vl lo->IsPart vu hi->r x lo hi H Q->
  ∃T id,typeLookup (.type T) "__getitem__"=pure (some (.builtin id))/\s.TypeIs v T/\wpAny (model X.prog X.w) X.A (getItem v (.ref sl)) (EP X pins σ Q) X.xe s
theorem wg.or{r r':V->Option Int->Option Int->Hp->VK->Prop}(h:wg X r)(h':wg X r'):wg X (λx lo hi H Q=>r x lo hi H Q∨r' x lo hi H Q):=by
 intro pins s σ H x v vl vu lo hi sl Q I rx hs pl pu q
 rcases q with q|q
 ·exact h pins s σ H x v vl vu lo hi sl Q I rx hs pl pu q
 ·exact h' pins s σ H x v vl vu lo hi sl Q I rx hs pl pu q
noncomputable def uh (r:V->Option Int->Option Int->Hp->VK->Prop) (te:TE) (tl th:TO):TE:=λσ H Q=>te σ H λx H1=>tl σ H1 λl H2=>th σ H2 λu H3=>r x l u H3 Q
theorem zv{r:V->Option Int->Option Int->Hp->VK->Prop}(hr:wg X r)(he:PE X e te)(hl:PO X lo tl)(hu:PO X hi th):PE X (.Subscript e (.Slice lo hi none p2) pos) (uh r te tl th):=by
 intro pins s σ H Q I h
 refine Subscript_ (g9 (he pins s σ H _ I h) λv s1 ⟨x,H1,I1,r1,q1⟩=> ?_)
 refine wpAny_Slice (g9 (hl pins s1 σ H1 _ I1 q1) λvl s2 ⟨l,H2,I2,pl,q2⟩=>g9 (hu pins s2 σ H2 _ I2 q2) λvu s3 ⟨u,H3,I3,pu,q3⟩=> ?_)
 rw[evalPart_none]
 refine wpAny_pure ?_
 have I4:Inv X pins σ H3 {s3 with heap:=s3.heap.push {cls:= .type "slice",data:= .fields #[vl,vu,.none]}}:=I3.kept (t':=s3.toks) λb ob q=>Heap.get?_push_of_some _ q
 obtain⟨T,id,hT,ht,hg⟩:=hr pins {s3 with heap:=s3.heap.push {cls:= .type "slice",data:= .fields #[vl,vu,.none]}} σ H3 x v vl vu l u s3.heap.objs.size Q I4 r1 (Heap.IsSliceOf.new ..) pl pu q3
 show wpAny (model X.prog X.w) X.A (subscriptTail e (.Slice lo hi none p2) v (.ref s3.heap.objs.size)) (EP X pins σ Q) X.xe {s3 with heap:=s3.heap.push {cls:= .type "slice",data:= .fields #[vl,vu,.none]}}
 exact tail_any (ops:=[.ref s3.heap.objs.size,v]) ht hT hg (by with_unfolding_all rfl)
noncomputable def nY (xs:List V) (lo hi:Option Int):List V:=(xs.drop (HT.jf xs.length 0 lo)).take (HT.jf xs.length xs.length hi-HT.jf xs.length 0 lo)
theorem qi(xs:List V)(lo hi:Option Int):(nY xs lo hi).length<=xs.length:=by
 unfold nY
 rw[aH,aV]
 omega
noncomputable def FL (K:PySem.W.Frag):V->Option Int->Option Int->Hp->VK->Prop:=λx lo hi H Q=>∃a xs,x= .ref a/\nh K H a xs/\
 ¬(HT.jf xs.length 0 lo=0/\HT.jf xs.length xs.length hi=xs.length)/\∀p,H p=none->Q (.ref p) (upd H p (.tup (nY xs lo hi)))
theorem Dl:wg X (FL X.K):=by
 intro pins s σ H x v vl vu lo hi sl Q I rx hs pl pu h
 obtain⟨a,xs,rfl,hx,hw,q⟩:=h
 cases rx
 obtain⟨its,r,ht,hz⟩:=I.tuple hx
 have hlen:its.toArray.size=xs.length:=by rw[aI];exact r.length.symm
 refine⟨"tuple",_,PyProof.Rows.slot_tuple_getitem.lookup,ht.typeIs,?_⟩
 refine HT.oU ht hs pl pu (by rw[hlen];exact hw) ?_ (by rw[hlen];exact hz)
 rw[hlen]
 refine⟨.ref s.heap.objs.size,_,I.laid (t':=s.toks) (o:= .tup (nY xs lo hi)) (λb ob q=>Heap.get?_push_of_some _ q) (ao _) ?_,rfl,q _ (I.dm.fresh (ao _))⟩
 exact⟨av (qi xs lo hi) hz,_,(r.drop (HT.jf xs.length 0 lo)).take (HT.jf xs.length xs.length hi-HT.jf xs.length 0 lo),IsTup.new _ _⟩
noncomputable def EH (K:PySem.W.Frag):R2:=λx y H Q=>∃a b xs ys,x= .ref a/\y= .ref b/\nh K H a xs/\nh K H b ys/\xs≠ []/\xs.length+ys.length<=sizeLine/\
 (ys=[]->Q (.ref a) H)/\(ys≠ []->∀p,H p=none->Q (.ref p) (upd H p (.tup (xs++ys))))
theorem Vals.tX{xs:List V}{us:List Value}(r:Vals xs us):us=[]↔xs=[]:=by
 cases r with
 |nil=>simp
 |cons _ _=>simp
theorem AQ:iy X (binaryOp .Add) (EH X.K):=by
 intro pins s σ H x y v u Q I rx ry h
 obtain⟨a,b,xs,ys,rfl,rfl,ha,hb,hx,hz,q1,q2⟩:=h
 cases rx
 cases ry
 obtain⟨its,r1,p1,_⟩:=I.tuple ha
 obtain⟨its2,r2,p2,_⟩:=I.tuple hb
 refine HT.Av p1 p2 (λz=>hx (r1.tX.mp z)) (λz=>⟨.ref a,H,I,rfl,q1 (r2.tX.mp z)⟩) (λz=> ?_) (by rw[←r1.length,←r2.length];exact hz)
 refine⟨.ref s.heap.objs.size,_,I.laid (t':=s.toks) (o:= .tup (xs++ys)) (λb ob q=>Heap.get?_push_of_some _ q) (ao _) ?_,rfl,q2 (λw=>z (r2.tX.mpr w)) _ (I.dm.fresh (ao _))⟩
 exact⟨by rw[ay];exact hz,_,r1.append r2,IsTup.new _ _⟩
end
end L2
namespace L2
open PySem PySem.Spec PyProof.Rows
noncomputable def xy (n:Nat) (i:Int):Option Nat:=if 0<=i then(if i<n then some i.toNat else none) else if -(n:Int)<=i then some (i+n).toNat else none
noncomputable def mD {α:Type} (xs:List α) (i:Int):Option α:=(xy xs.length i).bind λj=>xs[j]?
theorem AE{n:Nat}{i:Int}{j:Nat}(h:xy n i=some j):seqIndex? i n=some j/\j<n/\ -(n:Int)<=i/\i<n:=by
 unfold xy at h
 by_cases h0:0<=i
 ·rw[if_pos h0]at h
  by_cases h1:i<n
  ·rw[if_pos h1]at h
   have e:i.toNat=j:=aW h
   exact⟨by rw[seqIndex_of h0 h1,e],by omega,by omega,h1⟩
  ·rw[if_neg h1]at h;cases h
 ·rw[if_neg h0]at h
  by_cases h1: -(n:Int)<=i
  ·rw[if_pos h1]at h
   have e:(i+n).toNat=j:=aW h
   exact⟨by rw[seqIndex_neg (by omega) h1,e],by omega,h1,by omega⟩
  ·rw[if_neg h1]at h;cases h
theorem tF{α:Type}{xs:List α}{i:Int}{v:α}(h:mD xs i=some v):∃j,seqIndex? i xs.length=some j/\xs[j]? =some v/\j<xs.length/\ -(xs.length:Int)<=i/\i<xs.length:=by
 unfold mD at h
 cases e:xy xs.length i with
 |none=>rw[e]at h;cases h
 |some j=>
  rw[e]at h
  obtain⟨h1,h2,h3,h4⟩:=AE e
  exact⟨j,h1,h,h2,h3,h4⟩
theorem oA{α:Type}{xs:List α}{j:Nat}{v:α}(h:xs[j]? =some v):mD xs (j:Int)=some v:=by
 have hj:j<xs.length:=(List.getElem?_eq_some_iff.mp h).1
 have e:xy xs.length (j:Int)=some j:=by
  unfold xy
  rw[if_pos (by omega),if_pos (by omega)];simp
 unfold mD;rw[e];exact h
theorem uu{α:Type}(xs:List α)(v:α):mD (xs++[v]) (-1)=some v:=by
 have hl:(xs++[v]).length=xs.length+1:=by simp
 have e:xy (xs++[v]).length (-1)=some xs.length:=by
  unfold xy
  rw[hl,if_neg (by decide),if_pos (by omega)]
  congr 1
  omega
 unfold mD
 rw[e]
 show(xs++[v])[xs.length]? =some v
 simp
noncomputable def qE (b:Expr):Prop:=∀o i,subscripted b false o i=operate [o,i] (getItem o i)
noncomputable def vg (X:Cx) (r:R2):Prop:=
 ∀(value slice:Expr) (pins:List (Addr×Obj)) (s:Shared) (σ:St) (H:Hp) (x y:V) (v u:Value) (Q:VK),Inv X pins σ H s->RelV x v->RelV y u->r x y H Q->
  subscripted slice false v u=operate [v,u] (getItem v u)->wpAny (model X.prog X.w) X.A (subscriptTail value slice v u) (EP X pins σ Q) X.xe s
noncomputable def yc (X:Cx) (id:String) (r:V->List V->Hp->VK->Prop):Prop:=
 ∀(pins:List (Addr×Obj)) (s:Shared) (σ:St) (H:Hp) (x:V) (xs:List V) (v:Value) (us:List Value) (Q:VK),Inv X pins σ H s->RelV x v->Vals xs us->r x xs H Q->
  wpAny (model X.prog X.w) X.A (call (.builtin id) (v::us)) (EP X pins σ Q) X.xe s
section
variable{X:Cx}{a b:Expr}{ta tb:TE}{pos:Pos}
theorem vg.or{r r':R2}(h:vg X r)(h':vg X r'):vg X (λx y H Q=>r x y H Q∨r' x y H Q):=by
 intro value slice pins s σ H x y v u Q I rx ry q hs
 rcases q with q|q
 ·exact h value slice pins s σ H x y v u Q I rx ry q hs
 ·exact h' value slice pins s σ H x y v u Q I rx ry q hs
theorem yc.or{id:String}{r r':V->List V->Hp->VK->Prop}(h:yc X id r)(h':yc X id r'):yc X id (λx xs H Q=>r x xs H Q∨r' x xs H Q):=by
 intro pins s σ H x xs v us Q I rx rs q
 rcases q with q|q
 ·exact h pins s σ H x xs v us Q I rx rs q
 ·exact h' pins s σ H x xs v us Q I rx rs q
theorem BD{r:R2}(hr:vg X r)(ha:PE X a ta)(hb:PE X b tb)(hs:qE b):PE X (.Subscript a b pos) (dD r ta tb):=by
 intro pins s σ H Q I h
 exact Subscript_ (BV ha hb I h λv u s2 x y H2 I2 rx ry q=>hr a b pins s2 σ H2 x y v u Q I2 rx ry q (hs _ _))
noncomputable def FF (K:PySem.W.Frag):R2:=λx y H Q=>∃p xs i v,x= .ref p/\y= .int i/\fb K H p xs/\mD xs i=some v/\Q v H
noncomputable def FH (K:PySem.W.Frag):R2:=λx y H Q=>∃p xs i v,x= .ref p/\y= .int i/\nh K H p xs/\mD xs i=some v/\Q v H
noncomputable def FG:R2:=λx y H Q=>∃z i c,x= .str z/\y= .int i/\z.length<=sizeLine/\mD z.cps.toList i=some c/\Q (.str ⟨#[c]⟩) H
theorem tQ:vg X (FF X.K):=by
 intro value slice pins s σ H x y v u Q I rx ry h hs
 obtain⟨p,xs,i,z,rfl,rfl,hq,he,q⟩:=h
 cases rx
 obtain⟨t,rfl⟩:=ry
 obtain⟨its,r,pl,hz⟩:=I.list hq
 obtain⟨j,h1,h2,h3,h4,h5⟩:=tF he
 obtain⟨w,ew,rw'⟩:=r.get h2
 have hl:=r.length
 have hn:=oa
 have fin:EP X pins σ Q w s:=⟨z,H,I,rw',q⟩
 by_cases h0:0<=i
 ·have hj:i.toNat=j:=by
   rw[seqIndex_of h0 h5]at h1
   exact aW h1
  exact item_listR pl.isList h0 (by omega) (by rw[hj];simpa using ew) fin hs
 ·have hj:(i+(its.toArray.size:Int)).toNat=j:=by
   rw[seqIndex_neg (by omega) h4]at h1
   rw[aI,←hl]
   exact aW h1
  exact subscriptTail_builtinR (x:=w) pl.isList.typeIs slot_list_getitem.lookup
   (wpAny_getItem_list_neg (Q:=λr s'=>r=w/\EP X pins σ Q r s') pl.isList (by omega) (by rw[aI]<;>omega) (by omega) (by rw[hj];simpa using ew) ⟨rfl,fin⟩) hs
theorem Cn:vg X (FH X.K):=by
 intro value slice pins s σ H x y v u Q I rx ry h hs
 obtain⟨p,xs,i,z,rfl,rfl,hq,he,q⟩:=h
 cases rx
 obtain⟨t,rfl⟩:=ry
 obtain⟨its,r,pl,hz⟩:=I.tuple hq
 obtain⟨j,h1,h2,h3,h4,h5⟩:=tF he
 obtain⟨w,ew,rw'⟩:=r.get h2
 have hl:=r.length
 have hn:=oa
 have fin:EP X pins σ Q w s:=⟨z,H,I,rw',q⟩
 exact subscriptTail_builtinR (x:=w) pl.typeIs slot_tuple_getitem.lookup
  (getItem_tuple (j:=j) (Q:=λr s'=>r=w/\EP X pins σ Q r s') pl (by omega) (by omega) (by rw[aI,←hl];exact h1) (by simpa using ew) ⟨rfl,fin⟩) hs
theorem Cm:vg X FG:=by
 intro value slice pins s σ H x y v u Q I rx ry h hs
 obtain⟨z,i,c,rfl,rfl,hz,he,q⟩:=h
 obtain⟨t,rfl⟩:=rx
 obtain⟨t',rfl⟩:=ry
 obtain⟨j,h1,h2,h3,h4,h5⟩:=tF he
 have hl:z.cps.toList.length=z.length:=by simp[Str.length]
 rw[hl]at h1 h4 h5
 have hn:=oa
 exact tail_any (typeIs_str s z t) slot_str_getitem.lookup (getItem_str (c:=c) (by
  have e1:decide (i< -(2^63:Int))=false:=decide_eq_false (by omega)
  have e2:decide (i>=2^63)=false:=decide_eq_false (by omega)
  rw[e1,e2,Bool.or_false]) (by rw[h1];simpa using h2) ⟨.str ⟨#[c]⟩,H,I.tok _,⟨_,rfl⟩,q⟩) hs
theorem Inv.lst{pins:List (Addr×Obj)}{σ:St}{H:Hp}{s:Shared}{p:Addr}{xs:List V}(I:Inv X pins σ H s)(h:H p=some (.lst xs)):
  ∃(its:List Value) (n:Nat),Vals xs its/\s.heap.get? p=some {cls:= .type "list",data:= .seq its.toArray n}/\xs.length<=sizeLine:=by
 obtain⟨z,its,n,r,e⟩:=I.dm p _ h
 exact⟨its,n,r,e,z⟩
theorem ud(lo hi:Option Int)(n:Nat):(sliceBounds lo hi none n).1=((HT.jf n 0 lo:Nat):Int)/\(sliceBounds lo hi none n).2.1=((HT.jf n n hi:Nat):Int)/\(sliceBounds lo hi none n).2.2=1:=by
 refine⟨?_,?_,rfl⟩
 ·cases lo with
  |none=>simp[sliceBounds,HT.jf]
  |some i=>
   simp only[sliceBounds,HT.jf,Option.getD_none,show(1:Int)>0 by decide,if_true]
   by_cases h:i<0
   ·simp only[h,if_true]<;>omega
   ·simp only[h,if_false]<;>omega
 ·cases hi with
  |none=>simp[sliceBounds,HT.jf]
  |some i=>
   simp only[sliceBounds,HT.jf,Option.getD_none,show(1:Int)>0 by decide,if_true]
   by_cases h:i<0
   ·simp only[h,if_true]<;>omega
   ·simp only[h,if_false]<;>omega
theorem su(its:List Value)(lo hi:Option Int):slicePick its.toArray lo hi none=((its.drop (HT.jf its.length 0 lo)).take (HT.jf its.length its.length hi-HT.jf its.length 0 lo)).toArray:=by
 obtain⟨h1,h2,h3⟩:=ud lo hi its.toArray.size
 unfold slicePick
 rw[h1,h2,h3]
 simp only[sliceRange_one,pick_run,aI]<;>rfl
noncomputable def FK (K:PySem.W.Frag):V->Option Int->Option Int->Hp->VK->Prop:=λx lo hi H Q=>∃a xs,x= .ref a/\fb K H a xs/\∀p,H p=none->Q (.ref p) (upd H p (.lst (nY xs lo hi)))
theorem Bc:wg X (FK X.K):=by
 intro pins s σ H x v vl vu lo hi sl Q I rx hs pl pu h
 obtain⟨a,xs,rfl,hx,q⟩:=h
 cases rx
 obtain⟨its,r,ht,hz⟩:=I.list hx
 have hlen:=r.length
 refine⟨"list",_,slot_list_getitem.lookup,ht.isList.typeIs,?_⟩
 refine wpAny_getItem_list_slice ht.isList hs pl pu .none (by simp) ?_ (by rw[aI]<;>omega)
 rw[su,←hlen]
 refine⟨.ref s.heap.objs.size,_,I.laid (t':=s.toks) (o:= .lst (nY xs lo hi)) (λb ob q=>Heap.get?_push_of_some _ q) (ao _) ?_,rfl,q _ (I.dm.fresh (ao _))⟩
 exact⟨av (qi xs lo hi) hz,_,0,(r.drop (HT.jf xs.length 0 lo)).take (HT.jf xs.length xs.length hi-HT.jf xs.length 0 lo),Heap.get?_push_size _ rfl⟩
noncomputable def iP:V->Bool
 | .gm=>true
 | .bl _=>true
 | .int _=>true
 | .str _=>true
 |_=>false
noncomputable def wK:V->V->Bool
 | .gm,.gm=>true
 | .bl a,.bl b=>a==b
 | .bl a,.int b=>(if a then 1 else 0)==b
 | .int a,.bl b=>a==(if b then 1 else 0)
 | .int a,.int b=>a==b
 | .str a,.str b=>a==b
 |_,_=>false
theorem vz{A:Around}{s:Shared}{y x:V}{u v:Value}(ry:RelV y u)(rx:RelV x v)(fy:iP y=true)(fx:iP x=true):SeqAt.EqAt A s u v (wK y x):=by
 cases y with
 |gm=>
  cases ry
  cases x with
  |gm=>cases rx;exact SeqAt.EqAt.same _
  |bl b=>cases rx;exact SeqAt.EqAt.none_bool b
  |int b=>obtain⟨t,rfl⟩:=rx;exact SeqAt.EqAt.none_int b t
  |str b=>obtain⟨t,rfl⟩:=rx;exact SeqAt.EqAt.none_str b t
  |_=>exact absurd (show false=true from fx) aL
 |bl a=>
  cases ry
  cases x with
  |gm=>cases rx;exact SeqAt.EqAt.bool_none a
  |bl b=>cases rx;exact SeqAt.EqAt.bool_bool a b
  |int b=>obtain⟨t,rfl⟩:=rx;exact SeqAt.EqAt.bool_int a b t
  |str b=>obtain⟨t,rfl⟩:=rx;exact SeqAt.EqAt.bool_str a b t
  |_=>exact absurd (show false=true from fx) aL
 |int a=>
  obtain⟨t',rfl⟩:=ry
  cases x with
  |gm=>cases rx;exact SeqAt.EqAt.int_none a t'
  |bl b=>cases rx;exact SeqAt.EqAt.int_bool a t' b
  |int b=>obtain⟨t,rfl⟩:=rx;exact SeqAt.EqAt.int_int a t' b t
  |str b=>obtain⟨t,rfl⟩:=rx;exact SeqAt.EqAt.int_str a t' b t
  |_=>exact absurd (show false=true from fx) aL
 |str a=>
  obtain⟨t',rfl⟩:=ry
  cases x with
  |gm=>cases rx;exact SeqAt.EqAt.str_none a t'
  |bl b=>cases rx;exact SeqAt.EqAt.str_bool a t' b
  |int b=>obtain⟨t,rfl⟩:=rx;exact SeqAt.EqAt.str_int a t' b t
  |str b=>obtain⟨t,rfl⟩:=rx;exact SeqAt.EqAt.str_str a t' b t
  |_=>exact absurd (show false=true from fx) aL
 |_=>exact absurd (show false=true from fy) aL
noncomputable def vA (x:V) (u:Value):Bool:=match u with
 | .none=>wK .gm x
 | .bool b=>wK (.bl b) x
 | .int i _=>wK (.int i) x
 | .str z _=>wK (.str z) x
 |_=>false
theorem yD{x y:V}{u:Value}(r:RelV y u)(f:iP y=true):vA x u=wK y x:=by
 cases y with
 |gm=>cases r;rfl
 |bl b=>cases r;rfl
 |int i=>obtain⟨t,rfl⟩:=r;rfl
 |str z=>obtain⟨t,rfl⟩:=r;rfl
 |_=>exact absurd (show false=true from f) aL
theorem oy{x:V}:∀{xs:List V} {us:List Value},Vals xs us->xs.all iP=true->us.any (vA x)=xs.any λy=>wK y x
 |_,_,.nil,_=>rfl
 |y::xs,u::us,.cons r t,f=>by
  rw[aP,aw]at f
  rw[bt,bt,yD r f.1,oy t f.2]
theorem mT{A:Around}{s:Shared}{x:V}{v:Value}(rx:RelV x v)(fx:iP x=true):∀{xs:List V} {us:List Value},Vals xs us->xs.all iP=true->∀u∈us,SeqAt.EqAt A s u v (vA x u)
 |_,_,.nil,_=>λu hu=>by cases hu
 |y::xs,u::us,.cons r t,f=>λu' hu=>by
  rw[aP,aw]at f
  rcases List.mem_cons.mp hu with rfl|hu
  ·rw[yD r f.1];exact vz r rx f.1 fx
  ·exact mT rx fx t f.2 u' hu
noncomputable def z_ (x:V) (xs:List V):Bool:=xs.any λy=>wK y x
noncomputable def FE (K:PySem.W.Frag) (neg:Bool):R2:=λx y H Q=>∃p xs,y= .ref p/\(fb K H p xs∨nh K H p xs)/\iP x=true/\xs.all iP=true/\Q (.bl (if neg then !z_ x xs else z_ x xs)) H
theorem xP:iy X (compareOp .In) (FE X.K false):=by
 intro pins s σ H x y v u Q I rx ry h
 obtain⟨p,xs,rfl,hq,fx,fs,q⟩:=h
 cases ry
 rcases hq with hq|hq
 ·obtain⟨its,r,pl,hz⟩:=I.list hq
  refine SeqAt.in_listAt (vA x) pl.isList (λw hw=>mT rx fx r fs w (by simpa using hw)) ⟨.bl _,H,I,rfl,?_⟩
  rw[show its.toArray.any (vA x)=its.any (vA x) by simp,oy r fs]
  exact q
 ·obtain⟨its,r,pl,hz⟩:=I.tuple hq
  refine SeqAt.in_tupleAt (vA x) pl (λw hw=>mT rx fx r fs w (by simpa using hw)) ⟨.bl _,H,I,rfl,?_⟩
  rw[show its.toArray.any (vA x)=its.any (vA x) by simp,oy r fs]
  exact q
theorem t7:iy X (compareOp .NotIn) (FE X.K true):=by
 intro pins s σ H x y v u Q I rx ry h
 obtain⟨p,xs,rfl,hq,fx,fs,q⟩:=h
 cases ry
 rcases hq with hq|hq
 ·obtain⟨its,r,pl,hz⟩:=I.list hq
  refine SeqAt.notIn_listAt (vA x) pl.isList (λw hw=>mT rx fx r fs w (by simpa using hw)) ⟨.bl _,H,I,rfl,?_⟩
  rw[show its.toArray.any (vA x)=its.any (vA x) by simp,oy r fs]
  exact q
 ·obtain⟨its,r,pl,hz⟩:=I.tuple hq
  refine SeqAt.notIn_tupleAt (vA x) pl (λw hw=>mT rx fx r fs w (by simpa using hw)) ⟨.bl _,H,I,rfl,?_⟩
  rw[show its.toArray.any (vA x)=its.any (vA x) by simp,oy r fs]
  exact q
theorem lN:fh X (.builtin "len") (λxs H Q=>∃p ys,xs=[.ref p]/\(fb X.K H p ys∨nh X.K H p ys)/\Q (.int ys.length) H):=by
 intro pins s σ H xs us Q I r h
 obtain⟨p,ys,rfl,hq,q⟩:=h
 obtain⟨u,rfl,rx⟩:=vals1 r
 cases rx
 have hn:=oa
 rcases hq with hq|hq
 ·obtain⟨its,r',pl,hz⟩:=I.list hq
  have hlen:=r'.length
  exact Calls.call_len_list pl.isList (by simp only[aI]<;>omega) ⟨.int ys.length,H,I.tok _,⟨s.toks+1,by rw[aI,hlen]⟩,q⟩
 ·obtain⟨its,r',pl,hz⟩:=I.tuple hq
  have hlen:=r'.length
  exact len_tuple pl (by simp only[aI]<;>omega) ⟨.int ys.length,H,I.tok _,⟨s.toks+1,by rw[aI,hlen]⟩,q⟩
theorem tI:fh X (.builtin "len") (λxs H Q=>∃z,xs=[.str z]/\z.length<=sizeLine/\Q (.int z.length) H):=by
 intro pins s σ H xs us Q I r h
 obtain⟨z,rfl,hz,q⟩:=h
 obtain⟨u,rfl,t,rfl⟩:=vals1 r
 have hn:=oa
 exact len_str (by omega) ⟨.int z.length,H,I.tok _,⟨_,rfl⟩,q⟩
theorem fh.or{f:Value}{r r':List V->Hp->VK->Prop}(h:fh X f r)(h':fh X f r'):fh X f (λxs H Q=>r xs H Q∨r' xs H Q):=by
 intro pins s σ H xs us Q I rs q
 rcases q with q|q
 ·exact h pins s σ H xs us Q I rs q
 ·exact h' pins s σ H xs us Q I rs q
theorem tJ:fh X (.type "list") (λxs H Q=>∃p ys,xs=[.ref p]/\(fb X.K H p ys∨nh X.K H p ys)/\∀l,H l=none->Q (.ref l) (upd H l (.lst ys))):=by
 intro pins s σ H xs us Q I r h
 obtain⟨p,ys,rfl,hq,q⟩:=h
 obtain⟨u,rfl,rx⟩:=vals1 r
 cases rx
 have fin:∀(its:List Value),Vals ys its->ys.length<=sizeLine->∀(h':Heap) (c':Nat),(∀b o',s.heap.get? b=some o'->h'.get? b=some o')->
   h'.get? s.heap.objs.size=some {cls:= .type "list",dict:=none,data:= .seq its.toArray c',slots:= #[]}->EP X pins σ Q (.ref s.heap.objs.size) {s with heap:=h'}:=λits r' hz h' c' kp e=>
  ⟨.ref s.heap.objs.size,_,I.laid (t':=s.toks) kp (ao _) (show eh X.prog X.w _ h' _ (.lst ys) from⟨hz,its,c',r',e⟩),rfl,q _ (I.dm.fresh (ao _))⟩
 rcases hq with hq|hq
 ·obtain⟨its,r',pl,hz⟩:=I.list hq
  have hlen:=r'.length
  obtain⟨o,ho,hc,n,hd⟩:=pl.isList
  exact call_list_seq p (.inl rfl) ho hc hd (λh' c' kp e=>fin its r' hz h' c' kp e) (by simp only[aI]<;>omega)
 ·obtain⟨its,r',pl,hz⟩:=I.tuple hq
  have hlen:=r'.length
  obtain⟨o,ho,hc,n,hd⟩:=pl
  exact call_list_seq p (.inr rfl) ho hc hd (λh' c' kp e=>fin its r' hz h' c' kp e) (by simp only[aI]<;>omega)
theorem sg:fh X (.type "tuple") (λxs H Q=>∃p ys,xs=[.ref p]/\((fb X.K H p ys/\∀l,H l=none->Q (.ref l) (upd H l (.tup ys)))∨(nh X.K H p ys/\Q (.ref p) H))):=by
 intro pins s σ H xs us Q I r h
 obtain⟨p,ys,rfl,h⟩:=h
 obtain⟨u,rfl,rx⟩:=vals1 r
 cases rx
 rcases h with ⟨hq,q⟩|⟨hq,q⟩
 ·obtain⟨its,r',pl,hz⟩:=I.list hq
  have hlen:=r'.length
  refine call_tuple_list pl.isList (λh' kp=> ?_) (by simp only[aI]<;>omega)
  have I1:Inv X pins σ H {s with heap:=h'}:=I.kept (t':=s.toks) kp
  have I2:Inv X pins σ (upd H h'.objs.size (.tup ys)) {s with heap:=h'.push {cls:= .type "tuple",data:= .seq its.toArray}}:=
   I1.laid (t':=s.toks) (λb o e=>Heap.get?_push_of_some _ e) (ao _) (show eh X.prog X.w _ _ _ (.tup ys) from⟨hz,its,r',IsTup.new _ _⟩)
  exact⟨.ref h'.objs.size,_,I2,rfl,q _ (I1.dm.fresh (ao _))⟩
 ·obtain⟨its,r',pl,hz⟩:=I.tuple hq
  exact call_tuple_same pl ⟨.ref p,H,I,rfl,q⟩
noncomputable def E9 (K:PySem.W.Frag) (T:String) (x:V) (H:Hp):Prop:=match x with
 | .str _=>T="str"
 | .int _=>T="int"
 | .ref p=>(T="list"/\∃xs,fb K H p xs)∨(T="tuple"/\∃o,K.lookup p=some o/\o.cls= .type "tuple"/\o.dict=none)∨
   (T="dict"/\((∃kvs,H p=some (.dK kvs))∨∃kvs,H p=some (.dT kvs)))∨(T="set"/\∃S n,H p=some (.set S n))
 |_=>False
theorem wc{pins:List (Addr×Obj)}{σ:St}{H:Hp}{s:Shared}{T:String}{x:V}{v:Value}(I:Inv X pins σ H s)(r:RelV x v)(ty:E9 X.K T x H):
  s.TypeIs v T/\∀a,v= .ref a->∃ob,s.heap.get? a=some ob/\ob.dict=none:=by
 cases x with
 |str z=>
  obtain⟨t,rfl⟩:=r
  cases (show T="str" from ty)
  exact⟨typeIs_str s z t,λ_ e=>nomatch e⟩
 |int i=>
  obtain⟨t,rfl⟩:=r
  cases (show T="int" from ty)
  exact⟨typeIs_int s i t,λ_ e=>nomatch e⟩
 |ref p=>
  cases r
  rcases ty with ⟨rfl,xs,hq⟩|⟨rfl,o,hk,hc,hd⟩|⟨rfl,hk⟩|⟨rfl,S,n,hk⟩
  ·obtain⟨its,_,pl,_⟩:=I.list hq
   refine⟨pl.isList.typeIs,λa e=> ?_⟩
   cases e
   obtain⟨o,n,e,c,hd,_⟩:=pl
   exact⟨o,e,hd⟩
  ·refine⟨⟨o,I.rF p o hk,hc⟩,λa e=> ?_⟩
   cases e
   exact⟨o,I.rF _ o hk,hd⟩
  ·have z:∃o,s.heap.get? p=some o/\o.ExactDict:=by
    rcases hk with ⟨kvs,hk⟩|⟨kvs,hk⟩
    ·obtain⟨_,_,_,_,o,_,_,e,ex,_⟩:=I.dm p _ hk
     exact⟨o,e,ex⟩
    ·obtain⟨_,_,_,_,o,_,_,e,ex,_⟩:=I.dm p _ hk
     exact⟨o,e,ex⟩
   obtain⟨o,e,ex⟩:=z
   refine⟨⟨o,e,ex.1⟩,λa e2=> ?_⟩
   cases e2
   exact⟨o,e,ex.2.1⟩
  ·obtain⟨o,_,_,_,e,ex,_⟩:=I.dm p _ hk
   refine⟨⟨o,e,ex.1⟩,λa e2=> ?_⟩
   cases e2
   exact⟨o,e,ex.2.1⟩
 |_=>exact False.elim ty
variable{o e:Expr}{es:List Expr}{to:TE}{t:TA}{name:Str}{apos cpos:Pos}{T id:String}{r:V->List V->Hp->VK->Prop}
end
end L2
namespace L2
open PySem PySem.Spec PyProof.Rows
noncomputable def BK (X:Cx) (id:String) (r:V->List V->Hp->VK->Prop):Prop:=
 ∀(pins:List (Addr×Obj)) (s:Shared) (σ:St) (H:Hp) (x:V) (xs:List V) (v:Value) (us:List Value) (Q:VK),Inv X pins σ H s->RelV x v->Vals xs us->r x xs H Q->
  wpAny (model X.prog X.w) X.A (call (.builtin id) (v::us)) (EP X pins σ Q) X.xe s
theorem Vals.one:∀{x:V} {us:List Value},Vals [x] us->∃u,us=[u]/\RelV x u
 |_,_,.cons r .nil=>⟨_,rfl,r⟩
theorem Vals.two:∀{x y:V} {us:List Value},Vals [x,y] us->∃u v,us=[u,v]/\RelV x u/\RelV y v
 |_,_,_,.cons r (.cons q .nil)=>⟨_,_,rfl,r,q⟩
theorem Vals.zero:∀{us:List Value},Vals [] us->us=[]
 |_,.nil=>rfl
theorem Vals.dropLast{xs:List V}{us:List Value}(h:Vals xs us):Vals xs.dropLast us.dropLast:=by
 induction h with
 |nil=>exact .nil
 |cons r t ih=>
  cases t with
  |nil=>exact .nil
  |cons q t'=>exact .cons r ih
theorem Vals.eraseIdx:∀{xs:List V} {us:List Value} (i:Nat),Vals xs us->Vals (xs.eraseIdx i) (us.eraseIdx i)
 |_,_,_,.nil=> .nil
 |_,_,0,.cons _ t=>t
 |_,_,i+1,.cons r t=> .cons r (Vals.eraseIdx i t)
theorem Vals.reverse{xs:List V}{us:List Value}(h:Vals xs us):Vals xs.reverse us.reverse:=by
 induction h with
 |nil=>exact .nil
 |cons r t ih=>rw[List.reverse_cons,List.reverse_cons];exact Vals.append ih (.cons r .nil)
theorem Vals.rep{xs:List V}{us:List Value}(h:Vals xs us):∀k:Nat,Vals (List.replicate k xs).flatten (List.replicate k us).flatten
 |0=> .nil
 |k+1=>by
  rw[bx,bx,bD,bD]
  exact Vals.append h (Vals.rep h k)
theorem vB{α:Type}(l:List α):l.eraseIdx (l.length-1)=l.dropLast:=by
 induction l with
 |nil=>rfl
 |cons a r ih=>
  cases r with
  |nil=>rfl
  |cons b r=>
   have e:(a::b::r).length-1=((b::r).length-1)+1:=by
    have h1:(a::b::r).length=r.length+2:=rfl
    have h2:(b::r).length=r.length+1:=rfl
    omega
   rw[e,List.eraseIdx_cons_succ,ih]
   all_goals rfl
theorem foldl_rep(its:List Value):∀(k:Nat) (acc:List Value),
  List.foldl (λx1 x2=>x1++x2) acc.toArray (List.replicate k its.toArray)=(acc++(List.replicate k its).flatten).toArray
 |0,acc=>by simp
 |k+1,acc=>by
  have e:acc.toArray++its.toArray=(acc++its).toArray:=by simp
  have e2:(acc++its)++(List.replicate k its).flatten=acc++(List.replicate (k+1) its).flatten:=by
   rw[bx,bD,bu]
  rw[←e2,←foldl_rep its k (acc++its),←e,bx,List.foldl_cons]
section
variable{X:Cx}{pins:List (Addr×Obj)}{σ:St}{H:Hp}{s:Shared}{l b:Addr}{xs ys zs:List V}
theorem Inv.Cz{its its':List Value}{n:Nat}{f:Array Value->Array Value}{t':Nat}(I:Inv X pins σ H s)(hH:H l=some (.lst xs))
  (e:s.heap.get? l=some {cls:= .type "list",data:= .seq its.toArray n}) (hf:f its.toArray=its'.toArray) (hv:Vals ys its') (hz:ys.length<=sizeLine):
  Inv X pins σ (upd H l (.lst ys)) {s with heap:=s.heap.update l (Obj.mapSeq f),toks:=t'}:=by
 have q:=PySem.IsL.update e f
 rw[hf]at q
 refine I.write (x:=l) (e:=l) (by rw[hH];exact trivial) (.inl rfl) (λb' u hb hu=>(Heap.get?_update_other s.heap (Obj.mapSeq f) (aM hb)).trans hu) ⟨_,q⟩ ?_
 exact⟨hz,its',_,hv,q⟩
theorem Inv.Em{its:List Value}{t':Nat}(I:Inv X pins σ H s)(hv:Vals ys its)(hz:ys.length<=sizeLine):
  Inv X pins σ (upd H s.heap.objs.size (.lst ys)) {s with heap:=s.heap.push {cls:= .type "list",data:= .seq its.toArray},toks:=t'}:=
 I.laid (λ_ _ q=>Heap.get?_push_of_some _ q) (ao _) ⟨hz,its,0,hv,Heap.get?_push_size _ rfl⟩
theorem Inv.fresh(I:Inv X pins σ H s):H s.heap.objs.size=none:=I.dm.fresh (ao _)
theorem Inv.xJ(I:Inv X pins σ H s)(hH:H l=some (.lst xs)):xs.length<=sizeLine/\∃(its:List Value) (n:Nat),Vals xs its/\xs.length=its.length/\s.heap.get? l=some {cls:= .type "list",data:= .seq its.toArray n}:=by
 obtain⟨z,its,n,r,e⟩:=I.dm l _ hH
 exact⟨z,its,n,r,r.length,e⟩
theorem zd{n:Nat}(h:n<=sizeLine):Builtin.List.listTooLong n=false:=by
 unfold Builtin.List.listTooLong
 exact decide_eq_false (by omega)
end
section
variable{X:Cx}
noncomputable def Ba:V->List V->Hp->VK->Prop:=λx vs H Q=>∃l xs y,x= .ref l/\vs=[y]/\H l=some (.lst xs)/\xs.length<sizeLine/\Q .gm (upd H l (.lst (xs++[y])))
theorem xK:BK X "list.append" Ba:=by
 intro pins s σ H x vs v us Q I rx rv h
 obtain⟨l,xs,y,rfl,rfl,hH,hz,q⟩:=h
 cases rx
 obtain⟨u,rfl,ru⟩:=rv.one
 obtain⟨z,its,n,r,hl,e⟩:=I.xJ hH
 refine call_meets F.slot_list_append ⟨_,e,rfl⟩ F.entry_list_append (F.args_list_append_2 _ _) (PySem.list_append l its.toArray n u (by rw[aI];omega)) ⟨e,?_⟩
 refine⟨.gm,_,I.Cz (its':=its++[u]) hH e (by simp) (r.append (.cons ru .nil)) ?_,rfl,q⟩
 rw[ay,bJ]
 omega
noncomputable def FI:V->List V->Hp->VK->Prop:=λx vs H Q=>∃l xs y,x= .ref l/\vs=[]/\H l=some (.lst xs)/\xs[xs.length-1]? =some y/\Q y (upd H l (.lst xs.dropLast))
theorem CC:BK X "list.pop" FI:=by
 intro pins s σ H x vs v us Q I rx rv h
 obtain⟨l,xs,y,rfl,rfl,hH,hy,q⟩:=h
 cases rx
 have hus:=rv.zero
 subst hus
 obtain⟨z,its,n,r,hl,e⟩:=I.xJ hH
 obtain⟨u,hu,ru⟩:=r.get hy
 have hy':its.toArray[its.toArray.size-1]? =some u:=by
  show its.toArray[its.length-1]? =some u
  rw[←Array.getElem?_toList,←hl]
  exact hu
 refine call_meets F.slot_list_pop ⟨_,e,rfl⟩ F.entry_list_pop (F.args_list_pop_1 _) (MeetsSeq.list_pop_last l its.toArray n u hy' (by rw[aI];omega)) ⟨e,?_⟩
 refine⟨y,_,I.Cz (its':=its.dropLast) hH e ?_ r.dropLast ?_,ru,q⟩
 ·show its.toArray.eraseIdxIfInBounds (its.toArray.size-1)=its.dropLast.toArray
  rw[aI,List.eraseIdxIfInBounds_toArray,vB]
 ·rw[List.length_dropLast]
  omega
noncomputable def Dd:V->List V->Hp->VK->Prop:=λx vs H Q=>∃l xs,x= .ref l/\vs=[]/\H l=some (.lst xs)/\Q .gm (upd H l (.lst []))
theorem za:BK X "list.clear" Dd:=by
 intro pins s σ H x vs v us Q I rx rv h
 obtain⟨l,xs,rfl,rfl,hH,q⟩:=h
 cases rx
 have hus:=rv.zero
 subst hus
 obtain⟨z,its,n,r,hl,e⟩:=I.xJ hH
 refine call_meets F.slot_list_clear ⟨_,e,rfl⟩ F.entry_list_clear (F.args_list_clear_1 _) (AutoSeq1.list_clear_list_0 l its.toArray n (by rw[aI];omega)) ⟨e,?_⟩
 exact⟨.gm,_,I.Cz (its':=[]) (ys:=[]) hH e rfl .nil (aO _),rfl,q⟩
noncomputable def FD:R2:=λx y H Q=>∃l b xs zs,x= .ref l/\y= .ref b/\H l=some (.lst xs)/\H b=some (.lst zs)/\xs.length+zs.length<=sizeLine/\∀p,H p=none->Q (.ref p) (upd H p (.lst (xs++zs)))
theorem CM:iy X (binaryOp .Add) FD:=by
 intro pins s σ H x y v u Q I rx ry h
 obtain⟨l,b,xs,zs,rfl,rfl,hH,hB,hz,q⟩:=h
 cases rx
 cases ry
 obtain⟨z,its,n,r,hl,e⟩:=I.xJ hH
 obtain⟨z2,its2,n2,r2,hl2,e2⟩:=I.xJ hB
 refine PySem.P.add_list e e2 ?_ (by rw[aI,aI];omega)
 have ea:its.toArray++its2.toArray=(its++its2).toArray:=by simp
 rw[ea]
 exact⟨.ref _,_,I.Em (t':=s.toks) (r.append r2) (by rw[ay];omega),rfl,q _ I.fresh⟩
noncomputable def FJ:R2:=λx y H Q=>∃l k xs,x= .ref l/\y= .int k/\H l=some (.lst xs)/\ -(2^63)<=k/\k<2^63/\xs.length*k.toNat<=sizeLine/\
 ∀p,H p=none->Q (.ref p) (upd H p (.lst (List.replicate k.toNat xs).flatten))
theorem len_rep{α:Type}(xs:List α)(k:Nat):(List.replicate k xs).flatten.length=k*xs.length:=by
 induction k with
 |zero=>simp
 |succ k ih=>rw[bx,bD,ay,ih,Nat.succ_mul,Nat.add_comm]
theorem CS:iy X (binaryOp .Mult) FJ:=by
 intro pins s σ H x y v u Q I rx ry h
 obtain⟨l,k,xs,rfl,rfl,hH,h1,h2,hz,q⟩:=h
 cases rx
 obtain⟨t,rfl⟩:=ry
 obtain⟨z,its,n,r,hl,e⟩:=I.xJ hH
 have hlen:its.toArray.size*k.toNat<=sizeLine:=by rw[aI,←hl];exact hz
 have hcap:¬its.toArray.size*k.toNat>(2^63-1)/8:=by
  have:(sizeLine:Nat)<=(2^63-1)/8:=by decide
  omega
 have hfit:¬(!Builtin.List.listFitsIndex k)=true:=by
  rw[fitsIndex_both h1 h2]
  exact aL
 have hlong:¬Builtin.List.listTooLong (its.toArray.size*k.toNat)=true:=by
  rw[zd hlen]
  exact aL
 have hnew:List.foldl (λx1 x2=>x1++x2) #[] (List.replicate (if its.toArray.isEmpty=true then 0 else k.toNat) its.toArray)=(List.replicate k.toNat its).flatten.toArray:=by
  have f0:∀m:Nat,List.foldl (λx1 x2=>x1++x2) #[] (List.replicate m its.toArray)=(List.replicate m its).flatten.toArray:=λm=>by
   have:=foldl_rep its m []
   rw[bg]at this
   exact this
  rw[f0]
  cases its with
  |nil=>simp
  |cons a r'=>rw[if_neg (by simp)]
 refine wpAny_binaryOp_repeat_ref (T:="list") (U:="int") (by decide) ⟨_,e,rfl⟩ (λs'=>typeIs_int s' k t) noFill_list_mul F.fills_int_mul F.slot_int_rmul repeat_list F.slot_int_index.lookup
  (call_meets F.slot_int_rmul (typeIs_int s k t) F.entry_int_rmul (F.args_int_rmul_2 _ _) (int___rmul___int_list k t l its.toArray n)
   ⟨e,rfl,⟨_,e,rfl⟩,call_meets F.slot_list_mul ⟨_,e,rfl⟩ F.entry_list_mul (F.args_list_mul_2 _ _) (AutoListH.list___mul___list_int_3 l its.toArray n k t hfit hcap hlong) ⟨e,?_⟩⟩)
 rw[hnew]
 exact⟨.ref _,_,I.Em (t':=s.toks) (r.rep k.toNat) (by rw[len_rep,Nat.mul_comm];exact hz),rfl,q _ I.fresh⟩
end
section
variable{prog:Program}{w:World}{A:Around}{E:Value->Shared->Prop}{s:Shared}
set_option maxRecDepth 100000 in
end
section
variable{X:Cx}
end
end L2
namespace L2
open PySem PySem.Spec PyProof.Rows
section
variable{κ:Type} [DecidableEq κ]
noncomputable def qD (kvs:List (κ×V)) (k:κ):Option V:=(kvs.find? λkv=>decide (kv.1=k)).map (·.2)
noncomputable def putK (kvs:List (κ×V)) (k:κ) (v:V):List (κ×V):=
 if (kvs.any λkv=>decide (kv.1=k))=true then kvs.map (λkv=>if kv.1=k then(kv.1,v) else kv) else kvs++[(k,v)]
noncomputable def Bp (kvs:List (κ×V)) (k:κ):List (κ×V):=kvs.filter λkv=>decide (kv.1≠k)
theorem r9{p:κ×V}{r:List (κ×V)}{k:κ}(e:p.1=k):qD (p::r) k=some p.2:=by simp[qD,bC,e]
theorem rZ{p:κ×V}{r:List (κ×V)}{k:κ}(e:¬p.1=k):qD (p::r) k=qD r k:=by simp[qD,bC,e]
theorem vf(k:κ):∀kvs:List (κ×V),(kvs.any λkv=>decide (kv.1=k))=(qD kvs k).isSome
 | []=>rfl
 |p::r=>by
  rw[bt]
  by_cases e:p.1=k
  ·simp only[r9 e,decide_eq_true e,Bool.true_or,Option.isSome_some]
  ·rw[rZ e,decide_eq_false e,Bool.false_or];exact vf k r
theorem mS(kvs:List (κ×V))(k:κ)(v:V):(putK kvs k v).length<=kvs.length+1:=by
 unfold putK
 split
 ·rw[ah];omega
 ·rw[ay,ag,ak];omega
theorem qV.xx{o:Option V}{u:Option Value}(r:qV o u):o.isSome=u.isSome:=by
 cases o with
 |none=>cases u with
  |none=>rfl
  |some _=>exact(show False from r).elim
 |some _=>cases u with
  |none=>exact(show False from r).elim
  |some _=>rfl
theorem qV.getD{o:Option V}{u:Option Value}{d:V}{d':Value}(r:qV o u)(rd:RelV d d'):RelV (o.getD d) (u.getD d'):=by
 cases o with
 |none=>cases u with
  |none=>exact rd
  |some _=>exact(show False from r).elim
 |some _=>cases u with
  |none=>exact(show False from r).elim
  |some _=>exact r
theorem KV.val{kvs:List (κ×V)}{vs:List (κ×Value)}(r:KV kvs vs)(k:κ):qV (qD kvs k) (valueAt vs k):=by
 unfold KV at r
 induction r with
 |nil=>exact aU
 | @cons p q ps qs h t ih=>
  obtain⟨h1,h2⟩:=h
  by_cases e:p.1=k
  ·have e':q.1=k:=h1.symm.trans e
   have b:valueAt (q::qs) k=some q.2:=by simp[valueAt,bC,e']
   rw[r9 e,b];exact h2
  ·have e':¬q.1=k:=λz=>e (h1.trans z)
   have b:valueAt (q::qs) k=valueAt qs k:=by simp[valueAt,bC,e']
   rw[rZ e,b];exact ih
theorem KV.any{kvs:List (κ×V)}{vs:List (κ×Value)}(r:KV kvs vs)(k:κ):(kvs.any λkv=>decide (kv.1=k))=vs.any λkv=>decide (kv.1=k):=by
 unfold KV at r
 induction r with
 |nil=>rfl
 |cons h t ih=>rw[bt,bt,ih,h.1]
theorem KV.Df{kvs:List (κ×V)}{vs:List (κ×Value)}(r:KV kvs vs)(k:κ){y:V}{u:Value}(ry:RelV y u):
  KV (kvs.map λkv=>if kv.1=k then(kv.1,y) else kv) (vs.map λkv=>if kv.1=k then(kv.1,u) else kv):=by
 unfold KV at r⊢
 induction r with
 |nil=>exact .nil
 | @cons p q ps qs h t ih=>
  rw[ax,ax]
  refine .cons ?_ ih
  obtain⟨h1,h2⟩:=h
  by_cases e:p.1=k
  ·rw[if_pos e,if_pos (h1.symm.trans e)];exact⟨h1,ry⟩
  ·rw[if_neg e,if_neg (λz=>e (h1.trans z))];exact⟨h1,h2⟩
theorem KV.put{kvs:List (κ×V)}{vs:List (κ×Value)}(r:KV kvs vs)(k:κ){y:V}{u:Value}(ry:RelV y u):KV (putK kvs k y) (stored vs k u):=by
 unfold putK stored
 rw[r.any k]
 by_cases e:(vs.any λkv=>decide (kv.1=k))=true
 ·rw[if_pos e,if_pos e];exact r.Df k ry
 ·rw[if_neg e,if_neg e];exact Paired.snoc r ⟨rfl,ry⟩
theorem KV.drop{kvs:List (κ×V)}{vs:List (κ×Value)}(r:KV kvs vs)(k:κ):KV (Bp kvs k) (without vs k):=by
 unfold KV at r⊢
 unfold Bp without
 induction r with
 |nil=>exact .nil
 | @cons p q ps qs h t ih=>
  obtain⟨h1,h2⟩:=h
  rw[List.filter_cons,List.filter_cons]
  by_cases e:p.1=k
  ·have a:¬decide (p.1≠k)=true:=by simp[e]
   have b:¬decide (q.1≠k)=true:=by simp[h1.symm.trans e]
   rw[if_neg a,if_neg b];exact ih
  ·have e':¬q.1=k:=λz=>e (h1.trans z)
   have a:decide (p.1≠k)=true:=by simp[e]
   have b:decide (q.1≠k)=true:=by simp[e']
   rw[if_pos a,if_pos b];exact .cons ⟨h1,h2⟩ ih
theorem KV.keys{kvs:List (κ×V)}{vs:List (κ×Value)}(r:KV kvs vs):kvs.map (·.1)=vs.map (·.1):=by
 unfold KV at r
 induction r with
 |nil=>rfl
 |cons h t ih=>rw[ax,ax,ih,h.1]
theorem KV.length{kvs:List (κ×V)}{vs:List (κ×Value)}(r:KV kvs vs):kvs.length=vs.length:=Paired.length r
end
theorem y7{P:Program}{w:World}{k:Key}{u:Value}(r:RelV (kV k) u):(fv P w).is k u=true:=by
 cases k with
 |inl i=>obtain⟨t,e⟩:=(show∃t,u=Value.int i t from r);subst e;exact uN P w i t
 |inr x=>obtain⟨t,e⟩:=(show∃t,u=Value.str x t from r);subst e;exact uO P w x t
theorem sR{P:Program}{w:World}:∀{ks:List Key} {us:List Value},Vals (ks.map kV) us->ItemsAre (fv P w) ks us
 | [],_,r=>by rw[aJ]at r;cases r;exact .nil
 |k::ks,_,r=>by
  rw[ax]at r
  cases r with
  |cons h t=>exact .cons (y7 h) (sR t)
noncomputable abbrev KT (H:Hp):List (List Key×V)->List (List Key×Addr×Value)->Prop:=Paired λp q=>p.1=q.1/\H q.2.1=some (.tup (p.1.map kV))/\RelV p.2 q.2.2
theorem KT.val{H:Hp}{kvs:List (List Key×V)}{xs:List (List Key×Addr×Value)}(r:KT H kvs xs)(k:List Key):qV (qD kvs k) ((atKey xs k).map (·.2)):=by
 induction r with
 |nil=>exact aU
 | @cons p q ps qs h t ih=>
  obtain⟨h1,_,h2⟩:=h
  by_cases e:p.1=k
  ·have e':q.1=k:=h1.symm.trans e
   have b:atKey (q::qs) k=some q.2:=by simp[atKey,bC,e']
   rw[r9 e,b];exact h2
  ·have e':¬q.1=k:=λz=>e (h1.trans z)
   have b:atKey (q::qs) k=atKey qs k:=by simp[atKey,bC,e']
   rw[rZ e,b];exact ih
theorem KT.Df{H:Hp}{kvs:List (List Key×V)}{xs:List (List Key×Addr×Value)}(r:KT H kvs xs)(k:List Key){y:V}{u:Value}(ry:RelV y u):
  KT H (kvs.map λkv=>if kv.1=k then(kv.1,y) else kv) (xs.map (putAt k u)):=by
 induction r with
 |nil=>exact .nil
 | @cons p q ps qs h t ih=>
  rw[ax,ax]
  refine .cons ?_ ih
  obtain⟨h1,h2,h3⟩:=h
  unfold putAt
  by_cases e:p.1=k
  ·rw[if_pos e,if_pos (h1.symm.trans e)];exact⟨h1,h2,ry⟩
  ·rw[if_neg e,if_neg (λz=>e (h1.trans z))];exact⟨h1,h2,h3⟩
theorem KT.put{H:Hp}{kvs:List (List Key×V)}{xs:List (List Key×Addr×Value)}(r:KT H kvs xs)(k:List Key){b:Addr}{y:V}{u:Value}(hb:H b=some (.tup (k.map kV)))(ry:RelV y u):
  KT H (putK kvs k y) (storedH xs k b u):=by
 have e:(kvs.any λkv=>decide (kv.1=k))=(atKey xs k).isSome:=by
  rw[vf,(r.val k).xx,Option.isSome_map]
 unfold putK storedH
 rw[e]
 by_cases q:(atKey xs k).isSome=true
 ·rw[if_pos q,if_pos q];exact r.Df k ry
 ·rw[if_neg q,if_neg q];exact Paired.snoc r ⟨rfl,hb,ry⟩
theorem KT.keeps{H H':Hp}{kvs:List (List Key×V)}{xs:List (List Key×Addr×Value)}(r:KT H kvs xs)(ht:∀b ys,H b=some (.tup ys)->H' b=some (.tup ys)):KT H' kvs xs:=
 Paired.CA r λ_ _ z=>⟨z.1,ht _ _ z.2.1,z.2.2⟩
section
variable{P:Program}{w:World}{H:Hp}{h:Heap}{a:Addr}
theorem BF{u:HO}(ok:lH P w H h)(e:Rd H a u):eh P w H h a u:=e.ok ok
theorem Ea{kvs:List (Key×V)}(ok:lH P w H h)(e:Rd H a (.dK kvs)):kvs.length<=sizeLine/\(a==sysModules)=false/\∃vs,KV kvs vs/\h.DictOf (fv P w) a vs:=
 show eh P w H h a (.dK kvs) from BF ok e
theorem yB{kvs:List (Key×V)}(ok:lH P w H h)(e:H a=some (.dK kvs)):kvs.length<=sizeLine/\(a==sysModules)=false/\∃vs,KV kvs vs/\h.DictOf (fv P w) a vs:=Ea ok (.inl e)
theorem y8{ks:List Key}(ok:lH P w H h)(e:H a=some (.tup (ks.map kV))):(tupleKind (fv P w)).is h ks a:=by
 obtain⟨_,its,r,o,h1,h2,n,h3⟩:=(show eh P w H h a (.tup (ks.map kV)) from ok a _ e)
 exact⟨o,its.toArray,n,h1,h2,h3,by simpa using sR r⟩
theorem Ec{kvs:List (List Key×V)}(ok:lH P w H h)(e:Rd H a (.dT kvs)):kvs.length<=sizeLine/\(a==sysModules)=false/\
  ∃xs,KT H kvs xs/\h.DictOfH (tupleKind (fv P w)) a xs:=by
 obtain⟨z,y,xs,r,o,es,ep,h1,h2,h3,h4,h5⟩:=(show eh P w H h a (.dT kvs) from BF ok e)
 refine⟨z,y,xs,r,o,es,ep,h1,h2,h3,h4,λx hx=> ?_,h5⟩
 have all:∀{l:List (List Key×V)} {m:List (List Key×Addr×Value)},KT H l m->∀x∈m,(tupleKind (fv P w)).is h x.1 x.2.1:=by
  intro l m q
  induction q with
  |nil=>intro x hx;exact nomatch hx
  | @cons p q ps qs hq t ih=>
   intro x hx
   rcases List.mem_cons.mp hx with e|hx
   ·subst e
    exact y8 ok (by rw[←hq.1];exact hq.2.1)
   ·exact ih x hx
 exact all r x hx
theorem Eb{kvs:List (List Key×V)}(ok:lH P w H h)(e:H a=some (.dT kvs)):kvs.length<=sizeLine/\(a==sysModules)=false/\
  ∃xs,KT H kvs xs/\h.DictOfH (tupleKind (fv P w)) a xs:=Ec ok (.inl e)
end
noncomputable def Ab (H:Hp) (a:Addr) (y:V) (r:Option V):Prop:=
 (∃kvs k,Rd H a (.dK kvs)/\y=kV k/\r=qD kvs k)∨∃kvs k b,Rd H a (.dT kvs)/\y= .ref b/\H b=some (.tup (k.map kV))/\r=qD kvs k
noncomputable def xh (H:Hp) (a:Addr) (y v:V) (H':Hp):Prop:=
 (∃kvs k,H a=some (.dK kvs)/\y=kV k/\kvs.length<sizeLine/\H'=upd H a (.dK (putK kvs k v)))∨
 ∃kvs k b,H a=some (.dT kvs)/\y= .ref b/\H b=some (.tup (k.map kV))/\kvs.length<sizeLine/\H'=upd H a (.dT (putK kvs k v))
theorem Ab.k{H:Hp}{a:Addr}{kvs:List (Key×V)}{k:Key}(e:H a=some (.dK kvs)):Ab H a (kV k) (qD kvs k):= .inl ⟨kvs,k,.inl e,rfl,rfl⟩
theorem Ab.t{H:Hp}{a b:Addr}{kvs:List (List Key×V)}{k:List Key}(e:H a=some (.dT kvs))(eb:H b=some (.tup (k.map kV))):Ab H a (.ref b) (qD kvs k):= .inr ⟨kvs,k,b,.inl e,rfl,eb,rfl⟩
theorem xh.k{H:Hp}{a:Addr}{kvs:List (Key×V)}{k:Key}{v:V}(e:H a=some (.dK kvs))(hl:kvs.length<sizeLine):xh H a (kV k) v (upd H a (.dK (putK kvs k v))):= .inl ⟨kvs,k,e,rfl,hl,rfl⟩
theorem xh.t{H:Hp}{a b:Addr}{kvs:List (List Key×V)}{k:List Key}{v:V}(e:H a=some (.dT kvs))(eb:H b=some (.tup (k.map kV)))(hl:kvs.length<sizeLine):
  xh H a (.ref b) v (upd H a (.dT (putK kvs k v))):= .inr ⟨kvs,k,b,e,rfl,eb,hl,rfl⟩
section
variable{X:Cx}{pins:List (Addr×Obj)}{σ:St}{H:Hp}{s:Shared}{a:Addr}{y v:V}{u r:Value}{o:Option V}{A:Around}{E:Value->Shared->Prop}
theorem Inv.big(I:Inv X pins σ H s):sysModules<s.heap.objs.size:=by
 have h:mainGlobals<s.heap.objs.size:=(I.mod.glob.keeps I.bk).lt
 exact Nat.lt_trans (by decide) h
theorem tM{h':Heap}{t':Nat}{ob:HO}(I:Inv X pins σ H s)(mu:Dz (H a))(hs:Heap.SameBut a s.heap h')(he:∃q,h'.get? a=some q)(new:eh X.prog X.w (upd H a ob) h' a ob):
  Inv X pins σ (upd H a ob) {s with heap:=h',toks:=t'}:=
 I.write (x:=a) (e:=a) mu (.inl rfl) (λb q hb z=>(hs.2 b hb).trans z) he new
theorem yA{P:Program}{w:World}{H':Hp}{h':Heap}{kvs:List (Key×V)}{vs:List (Key×Value)}(z:kvs.length<=sizeLine)(hd:(a==sysModules)=false)(rel:KV kvs vs)(dd:h'.DictOf (fv P w) a vs):
  eh P w H' h' a (.dK kvs):=⟨z,hd,vs,rel,dd⟩
theorem xp{H':Hp}{Q:Unit->Shared->Prop}(hu:A.units+1<cLine)(I:Inv X pins σ H s)(g:xh H a y v H')(ry:RelV y u)(rv:RelV v r)(h:∀s',Inv X pins σ H' s'->Q () s'):
  wpAny (model X.prog X.w) A (setItem (.ref a) u r) Q E s:=by
 rcases g with ⟨kvs,k,e,ey,l,eH⟩|⟨kvs,k,b,e,ey,eb,l,eH⟩
 ·subst ey eH
  obtain⟨z,hd,vs,rel,dd⟩:=yB I.dm e
  have hz:vs.length<=sizeLine:=by rw[←rel.length];exact z
  have hl:(putK kvs k v).length<=sizeLine:=by have:=mS kvs k v;omega
  refine wpAny_setItem_pairs (hsz:=hz) (y7 ry) dd λh' dd' hs=>h _ ?_
  have he:∃q,h'.get? a=some q:=let ⟨q,_,_,hq,_⟩:=dd';⟨q,hq⟩
  exact tM I (by rw[e];exact aU) hs he (yA hl hd (rel.put k rv) dd')
 ·subst ey eH
  cases (show u=Value.ref b from ry)
  obtain⟨z,hd,xs,rel,dd⟩:=Eb I.dm e
  have hz:xs.length<=sizeLine:=by rw[←Paired.length rel];exact z
  have hl:(putK kvs k v).length<=sizeLine:=by have:=mS kvs k v;omega
  refine wpAny_setItem_heap (hsz:=hz) (tupleKind_room_in1 hu) (y8 I.dm eb) dd λh' dd' hs=>h _ ?_
  obtain⟨q,es,ep,hq,h2,h3,h4,_,h5⟩:=dd'
  refine tM I (by rw[e];exact aU) hs ⟨q,hq⟩ ⟨hl,hd,_,(rel.put k eb rv).keeps λc ys ec=> ?_,q,es,ep,hq,h2,h3,h4,h5⟩
  rw[cO (Eo ec e (λz=>nomatch z))]
  exact ec
end
section
variable{X:Cx}{pins:List (Addr×Obj)}{σ:St}{H:Hp}{s:Shared}{a:Addr}{kvs:List (Key×V)}{k:Key}{u:Value}{A:Around}{E:Value->Shared->Prop}
end
noncomputable def BL (i:Expr):Prop:=∀ov iv,subscripted i false ov iv=operate [ov,iv] (getItem ov iv)
theorem Bd{prog:Program}{w:World}{A:Around}{E:Value->Shared->Prop}{s:Shared}{env:Env}{value slice:Expr}{pos:Pos}{T id:String}{Q:Value->Shared->Prop}
  (hl:typeLookup (.type T) "__getitem__"=pure (some (.builtin id))) (hs:BL slice)
  (h:wpAny (model prog w) A (eval value env) (λo s₁=>wpAny (model prog w) A (eval slice env) (λi s₂=>s₂.TypeIs o T/\wpAny (model prog w) A (getItem o i) Q E s₂) E s₁) E s):
  wpAny (model prog w) A (eval (.Subscript value slice pos) env) Q E s:=by
 refine Subscript_ (wpAny_mono h (λo s₁ h₁=>wpAny_mono h₁ (λi s₂ h₂=> ?_) λ_ _ x=>x) λ_ _ x=>x)
 obtain⟨hT,h₂⟩:=h₂
 unfold subscriptTail
 refine wpAny_bind ?_
 rw[getitemInPython_of_ne hT.not_modules]
 refine wpAny_bind (wpAny_specialOf hT hl ?_)
 have fin:wpAny (model prog w) A (subscripted slice false o i) (λr s₃=>wpAny (model prog w) A (letTemporaryGo value o r>>=λ_=>pure r) Q E s₃) E s₂:=by
  rw[hs o i]
  exact wpAny_operating (wpAny_mono h₂ (λr s₃ h₃=>wpAny_bind (wpAny_letTemporaryGo (wpAny_pure h₃))) λ_ _ x=>x)
 first
  |exact wpAny_pure (wpAny_bind fin)
  |exact wpAny_bind (wpAny_pure (wpAny_bind fin))
  |exact wpAny_bind fin
section
variable{X:Cx}{o i e value:Expr}{pos pos' tpos:Pos}{td ty tv:TE}
end
theorem uC{P:Program}{w:World}{H:Hp}(h:Heap)(hb:sysModules<h.objs.size):eh P w H (h.push {cls:= .type "dict",data:= .dict #[]}) h.objs.size (.dK []):=
 ⟨aO _,beq_eq_false_iff_ne.mpr (aM (aK hb)),[],.nil,Heap.DictOf.new h⟩
noncomputable def v_:TE:=λ_ H Q=>∀p,H p=none->Q (.ref p) (upd H p (.dK []))
section
variable{X:Cx}{pos:Pos}
theorem zp:PE X (.Dict [] [] pos) v_:=λpins s σ H Q I h=>
 wpAny_Dict_empty ⟨.ref s.heap.objs.size,_,I.laid (a:=s.heap.objs.size) (o:= .dK []) (t':=s.toks) (λ_ _ q=>Heap.get?_push_of_some _ q) (ao _) (uC s.heap I.big),rfl,h _ (I.dm.fresh (ao _))⟩
end
noncomputable def ug:List (TE×TE)->St->Hp->(List (V×V)->Hp->Prop)->Prop
 | [],_,H,Q=>Q [] H
 |(tk,tv)::r,σ,H,Q=>tk σ H λx H1=>tv σ H1 λy H2=>ug r σ H2 λps H3=>Q ((x,y)::ps) H3
noncomputable abbrev VV:List (V×V)->List (Value×Value)->Prop:=Paired λp q=>RelV p.1 q.1/\RelV p.2 q.2
noncomputable def DB (X:Cx) (pos:Pos) (keys:List (Option Expr)) (values:List Expr) (trs:List (TE×TE)):Prop:=
 ∀(pins:List (Addr×Obj)) (s:Shared) (σ:St) (H:Hp) (Q:List (V×V)->Hp->Prop),Inv X pins σ H s->ug trs σ H Q->
  wpAny (model X.prog X.w) X.A (evalPairs (pairTrees keys values X.env pos)) (λvs s'=>∃ps H',Inv X pins σ H' s'/\VV ps vs/\Q ps H') X.xe s
theorem A4{X:Cx}{pos:Pos}:DB X pos [] [] []:=λpins s σ H Q I h=>pairTrees_nil_walk ⟨[],H,I,.nil,h⟩
theorem zD{X:Cx}{pos:Pos}{k v:Expr}{ks:List (Option Expr)}{vs:List Expr}{tk tv:TE}{trs:List (TE×TE)}(hk:PE X k tk)(hv:PE X v tv)(hr:DB X pos ks vs trs):
  DB X pos (some k::ks) (v::vs) ((tk,tv)::trs):=λpins s σ H Q I h=>
 pairTrees_cons_walk (g9 (hk pins s σ H _ I h) λu s1 ⟨x,H1,I1,rx,q1⟩=>g9 (hv pins s1 σ H1 _ I1 q1) λw2 s2 ⟨y,H2,I2,ry,q2⟩=>
  g9 (hr pins s2 σ H2 _ I2 q2) λws s3 ⟨ps,H3,I3,rel,q3⟩=>⟨(x,y)::ps,H3,I3,.cons ⟨rx,ry⟩ rel,q3⟩)
noncomputable def pH (kvs more:List (Key×V)):List (Key×V):=more.foldl (λacc kv=>putK acc kv.1 kv.2) kvs
theorem KV.merge:∀{more:List (Key×V)} {rs:List (Key×Value)} {kvs:List (Key×V)} {vs:List (Key×Value)},KV more rs->KV kvs vs->KV (pH kvs more) (merged vs rs):=by
 intro more rs kvs vs r
 unfold KV at r
 induction r generalizing kvs vs with
 |nil=>intro q;exact q
 | @cons p q ps qs h t ih=>
  intro r0
  have e:KV (putK kvs p.1 p.2) (stored vs q.1 q.2):=by
   have:=r0.put p.1 h.2
   rw[←h.1];exact this
  exact ih e
theorem nN:∀(more kvs:List (Key×V)),(pH kvs more).length<=kvs.length+more.length
 | [],kvs=>by show kvs.length<=kvs.length+0;omega
 |p::r,kvs=>by
  have h1:=nN r (putK kvs p.1 p.2)
  have h2:=mS kvs p.1 p.2
  show(pH (putK kvs p.1 p.2) r).length<=_
  rw[ag];omega
theorem q9{P:Program}{w:World}:∀{kvs:List (Key×V)} {ws:List (Value×Value)},VV (kvs.map λkv=>(kV kv.1,kv.2)) ws->∃rs,Carries (fv P w) ws rs/\KV kvs rs
 | [],_,r=>by rw[aJ]at r;cases r;exact⟨[],aU,.nil⟩
 |p::kvs,_,r=>by
  rw[ax]at r
  cases r with
  | @cons a b as bs h t=>
   obtain⟨rs,c,q⟩:=q9 (P:=P) (w:=w) t
   obtain⟨b1,b2⟩:=b
   exact⟨(p.1,b2)::rs,⟨y7 h.1,rfl,c⟩,.cons ⟨rfl,h.2⟩ q⟩
noncomputable def zM (trs:List (TE×TE)):TE:=λσ H Q=>∀p,H p=none->ug trs σ (upd H p (.dK [])) λps H2=>H2 p=some (.dK [])/\∃kvs:List (Key×V),ps=kvs.map (λkv=>(kV kv.1,kv.2))/\kvs.length<=15/\Q (.ref p) (upd H2 p (.dK (pH [] kvs)))
theorem AW{X:Cx}{pos:Pos}{keys:List (Option Expr)}{values:List Expr}{trs:List (TE×TE)}(h:DB X pos keys values trs)(hall:keys.all (·.isSome)=true)(hl:keys.length=values.length)(h0:keys≠ [])
  (h15:keys.length<=15):PE X (.Dict keys values pos) (zM trs):=by
 intro pins s σ H Q I q
 have hn:=I.dm.fresh (ao s.heap.objs.size)
 have I1:=I.laid (a:=s.heap.objs.size) (o:= .dK []) (h':=s.heap.push {cls:= .type "dict",data:= .dict #[]}) (t':=s.toks) (λ_ _ q=>Heap.get?_push_of_some _ q) (ao _) (uC s.heap I.big)
 refine wpAny_Dict_walk (knd:=fv X.prog X.w) hall hl h0 h15 (g9 (h pins _ σ _ _ I1 (q _ hn)) λws s2 ⟨ps,H2,I2,rel,e,kvs,ep,lk,q2⟩=> ?_)
 subst ep
 obtain⟨rs,c,rk⟩:=q9 (P:=X.prog) (w:=X.w) rel
 obtain⟨z,hd,vs0,r0,dd⟩:=yB I2.dm e
 cases r0
 refine⟨rs,c,dd,λh' dd' hs=>⟨.ref s.heap.objs.size,_,?_,rfl,q2⟩⟩
 have hz:(pH [] kvs).length<=sizeLine:=by
  have h1:=nN kvs []
  rw[ak]at h1
  rw[sizeLine_eq];omega
 have he:∃q,h'.get? s.heap.objs.size=some q:=let ⟨q,_,_,hq,_⟩:=dd';⟨q,hq⟩
 exact tM I2 (by rw[e];exact aU) hs he (yA hz hd (rk.merge .nil) dd')
structure M1(X:Cx)(o:Expr)(m:Str)(apos:Pos)(e:Expr)(cpos:Pos):Prop where
 base:attributeBase o m X.env (eval o X.env)=eval o X.env
 F5:((backTo cpos (starEach [e] X.env)).all (λx=> !x.1)&&(backToKw cpos (keywordEach [] X.env)).all (λx=>x.1.isSome)
  &&decide (([e]:List Expr).length+([]:List Keyword).length+(if ([]:List Keyword).isEmpty then 0 else 1)<30))=true
 line:(apos.endLine==cpos.line)=true
 trees:backTo cpos (starEach [e] X.env)=[(false,eval e X.env)]
structure M2(X:Cx)(o:Expr)(m:Str)(apos:Pos)(e f:Expr)(cpos:Pos):Prop where
 base:attributeBase o m X.env (eval o X.env)=eval o X.env
 F5:((backTo cpos (starEach [e,f] X.env)).all (λx=> !x.1)&&(backToKw cpos (keywordEach [] X.env)).all (λx=>x.1.isSome)
  &&decide (([e,f]:List Expr).length+([]:List Keyword).length+(if ([]:List Keyword).isEmpty then 0 else 1)<30))=true
 line:(apos.endLine==cpos.line)=true
 trees:backTo cpos (starEach [e,f] X.env)=[(false,eval e X.env),(false,eval f X.env)]
section
variable{X:Cx}{pins:List (Addr×Obj)}{σ:St}{H:Hp}{s:Shared}{a:Addr}{y d:V}{u r:Value}{o:Option V}{A:Around}{E:Value->Shared->Prop}
end
section
variable{X:Cx}{o e f:Expr}{apos cpos:Pos}{td ty tx:TE}
end
section
variable{X:Cx}{pins:List (Addr×Obj)}{σ:St}{H:Hp}{s:Shared}{a:Addr}{kvs:List (Key×V)}{A:Around}{E:Value->Shared->Prop}
end
section
variable{X:Cx}{pins:List (Addr×Obj)}{σ:St}{H:Hp}{s:Shared}{a:Addr}{y:V}{u:Value}{A:Around}{E:Value->Shared->Prop}
end
end L2
namespace Att
open PySem PySem.W PySem.Calls PyProof.Rows
theorem qy{P:Params}{h:Heap}:∀(ns:List Int) (vs:List Value),WellAll P h vs (ns.map WData.int)->IntsAre vs ns:=by
 intro ns
 induction ns with
 |nil=>
  intro vs w
  rw[aJ]at w
  cases w
  exact .nil
 |cons n ns ih=>
  intro vs w
  rw[ax]at w
  cases w with
  |cons a b=>
   cases a
   exact .cons _ _ (ih _ b)
theorem xZ{l:OpenLaw}{n:Nat}(hn:l.most=some n){P:Params}{h:Heap}{args:List WData}{vals:List Value}
  (hpre:l.row.toRowW.claim.pre args=true) (hwl:WellAll P h vals args):
  ∃a vs ns,vals=[Value.ref a]/\args=[WData.list (ns.map WData.int)]/\h.get? a=some {cls:= .type "list",data:= .seq vs.toArray}/\IntsAre vs ns/\ns.length<=n:=by
 have hsh:WShape.hasAll [] args [.list .int]=true:=(pre_splitW hpre).1
 have hc:l.pre.holds [] {args:=args}=true:=(pre_splitW hpre).2
 obtain⟨d,r,rfl,h1,h2⟩:=hasAllW_cons hsh
 obtain rfl:=hasAllW_nil h2
 obtain⟨xs,rfl,h3⟩:=hasW_list h1
 obtain⟨ns,rfl⟩:=items_int h3
 have hlen:ns.length<=n:=by
  unfold OpenLaw.pre at hc
  have h4:(WTm.not (.lt (.lit (.int (n:Int))) (.len (.arg 0)))).holds [] {args:=[.list (ns.map .int)]}=true:=by
   have h4:=(holds_andW hc).1
   rw[hn]at h4
   exact h4
  have h5:=condW_of h4 (w_not (w_lt w_lit (w_len_list (w_arg rfl))))
  rw[ah]at h5
  refine Nat.le_of_not_lt λq=> ?_
  have q':(n:Int)<((ns.length:Nat):Int):=by omega
  first
   |(rw[decide_eq_true q']at h5;exact absurd h5 (by decide))
   |(simp at h5;omega)
 cases hwl with
 |cons w1 w2=>
  cases w2
  cases w1 with
  |list ho hall=>exact⟨_,_,ns,rfl,rfl,ho,qy ns _ hall,hlen⟩
theorem xV(l:OpenLaw)(args:List WData):l.row.toRowW.claim.post args (.bool true) args=true:=
 postW_of (r:=l.row.toRowW) (X:=(true==true))
  (show WShape.has [] (.bool true) .bool=true by first|rfl|decide|simp[WShape.has,WShape.arms,WShape.armsAll])
  (show(WTm.eq .res (.lit (.bool true))).value [] {args:=args,res:=some (.bool true),after:=args}=some (.bool (true==true)) from w_eq_bool (w_res rfl) w_lit) rfl
theorem uv{l:OpenLaw}{n:Nat}{q:Program}{loose:List Str}{XP:(Str->Option Value)->Heap->Prop}{YP:World->Heap->Prop}{d:DefRec}
  (hn:l.most=some n) (hdf:d.params.defaults=[])
  (call:∀(w:World) (s₀ s₁:Shared) (mg mb:Str->Option Value) (fa:Addr) (o:Obj) (pm cd doc:Value) (a:Addr) (vs:List Value) (ns:List Int),
   Ground q loose [] XP w s₀ mg mb s₁.heap->YP w s₁.heap->
   s₁.heap.get? fa=some o->o.data= .func (docDef d.name d.params d.body d.scope pm cd doc)->s₁.heap.CodeRec cd d.name->mg d.name=some (.ref fa)->
   s₁.heap.get? a=some {cls:= .type "list",data:= .seq vs.toArray}->IntsAre vs ns->ns.length<=n->s₁.gens= #[]->
   codeAny (model l.prog w) callerA (.call (.ref fa) ⟨[.ref a],[]⟩) (λr s'=>r= .ok (.ret (.bool true))/\OldK s₁.heap s'.heap/\s'.os=s₁.os/\AllBare s'.gens) s₁):
  WalkO q loose XP YP l.row.toRowW d [] (λf vs=>PySem.call f vs):=by
 intro w s₀ s₁ mg mb G Y fa o pm cd doc dV kV ho hd hcd hD hmg hg args vals as hpre hlay hrd hwl hlo
 obtain rfl:dV= .none:=Dflts.none hD hdf
 obtain rfl:kV= .none:=Dflts.noKw hD
 obtain⟨a,vs,ns,rfl,rfl,hobj,hints,hlen⟩:=xZ hn hpre hwl
 refine enter_call (codeAny_mono (call w s₀ s₁ mg mb fa o pm cd doc a vs ns G Y ho (fd_plain hd) hcd hmg hobj hints hlen hg) λr s' hq=> ?_)
 obtain⟨rfl,h2,h3,h4⟩:=hq
 exact⟨.inl ⟨.bool true,.bool true,[],rfl,λ_=>rfl,.bool true,xV l _,λ_=>⟨List.Pairwise.nil,λ_ hm=>(nomatch hm)⟩⟩,h2,h3,h4⟩
section
variable{prog:Program}{w:World}{A:Around}{E:Value->Shared->Prop}{s:Shared}{K:Frag}
noncomputable def ledger (h:Heap) (L d:Addr):List (Addr×Obj):=(List.range h.objs.size).filterMap λa=>if a=L∨a=d then none else(h.get? a).map λo=>(a,o)
end
end Att
namespace L2
open PySem PySem.Spec PyProof.Rows
theorem tq:∀{vs:List Value} {ns:List Int},IntsAre vs ns->Vals (ns.map V.int) vs
 |_,_,.nil=> .nil
 |_,_,.cons n t h=> .cons ⟨t,rfl⟩ (tq h)
noncomputable def BN (H:Hp):Prop:=∀b,H b=none∨∃o xs,H b=some (.ro o (.lst xs))
theorem y9{P:Program}{w:World}{K:PySem.W.Frag}{mg mb:Str->Option Value}{CX:we}{ca:Bool}{k:Nat}{fa a:Addr}{fd:FuncData}{x:Str}{sp:Sp}{s₁:Shared}{vs:List Value}{ns:List Int}
  (KX:K.In s₁.heap) (hns:s₁.heap.Ns mainGlobals mg) (hb:s₁.heap.Ns builtinsNs mb) (hbb:∀x:Str,x≠"__name__"->mb x=bootBuiltins x) (hlim:s₁.heap.NoLimit) (hg:s₁.gens= #[])
  (ha:s₁.heap.get? a=some {cls:= .type "list",data:= .seq vs.toArray}) (hi:IntsAre vs ns) (hl:ns.length<=sizeLine) (hr:iz ca k callerA)
  (F:∀base:Heap,K.In base->base.Ns mainGlobals mg->eg P w K mg base CX ca k fa fd [x] sp) (hbind:∀(s:Shared) (u:Value),BindsTo s fd ⟨[u],[]⟩ [(x,u)])
  (hsp:∀H:Hp,BN H->fb K H a (ns.map V.int)->sp [.ref a] H (λv _=>v= .bl true) λ_ _ _=>False)
  (hCX:∀H e s',CX [] H s₁ (λ_ _ _=>False) e s'->False):
  codeAny (model P w) callerA (.call (.ref fa) ⟨[.ref a],[]⟩) (λr s'=>r= .ok (.ret (.bool true))/\OldK s₁.heap s'.heap/\s'.os=s₁.os/\AllBare s'.gens) s₁:=by
 have rv:=tq hi
 have lenV:=hi.length
 have core:∀H:Hp,BN H->fb K H a (ns.map V.int)->lH P w H s₁.heap->(∀b,H b≠none->b=a)->(H a≠none->K.lookup a=none)->
   codeAny (model P w) callerA (.call (.ref fa) ⟨[.ref a],[]⟩) (λr s'=>r= .ok (.ret (.bool true))/\OldK s₁.heap s'.heap/\s'.os=s₁.os/\AllBare s'.gens) s₁:=by
  intro H hO hS dm hA hK
  have base_of:∀{b:Addr} {o:Obj},s₁.heap.get? b=some o->H b=none->(tP s₁.heap H).get? b=some o:=λe n=>yM e n
  have noA:∀{b:Addr} {o:Obj} {es:Array DictEntry} {ep:Nat},s₁.heap.get? b=some o->o.data= .dict es ep->H b=none:=λ{b o es ep} e d=>by
   cases q:H b with
   |none=>rfl
   |some u=>
    have e':b=a:=hA b (by rw[q];simp)
    subst e'
    rw[ha]at e;cases e
    have d':Data.seq vs.toArray _=Data.dict es ep:=d
    cases d'
  have nsK:∀{b:Addr} {m:Str->Option Value},s₁.heap.Ns b m->(tP s₁.heap H).Ns b m:=λ{b m} ⟨o,es,ep,e,d,r⟩=>⟨o,es,ep,base_of e (noA e d),d,r⟩
  have hKb:K.In (tP s₁.heap H):=λb o e=>base_of (KX b o e) (by
   cases q:H b with
   |none=>rfl
   |some u=>
    have e':b=a:=hA b (by rw[q];simp)
    subst e'
    rw[hK (by rw[q];simp)]at e;cases e)
  have hM:Mod K mg (tP s₁.heap H):=⟨hKb,nsK hns,⟨mb,nsK hb,hbb⟩,let ⟨mc,h1,h2⟩:=hlim;⟨mc,nsK h1,h2⟩⟩
  have e0:sf P w K mg (tP s₁.heap H) callerA [] s₁ H:=⟨rfl,hM,λb o e=>AO e,Nat.le_of_eq (xr _ _),trivial,λb hb=>absurd (show b∈([]:List Addr) from hb) (by simp),dm,.of_eq hg⟩
  refine codeAny_mono ((F _ hKb (nsK hns)).run callerA [] s₁ H ⟨[.ref a],[]⟩ [.ref a] [.ref a] _ _ hr e0 (hbind s₁ (.ref a)) (.cons rfl .nil) (hsp H hO hS)) λr s' h=> ?_
  cases r with
  |error e=>exact(hCX H e s' h).elim
  |ok fl=>
   cases fl with
   |next=>exact False.elim h
   |brk=>exact False.elim h
   |cont=>exact False.elim h
   |ret u=>
    obtain⟨v,H',os,bare,un,hok',r',q⟩:=h
    have q':v= .bl true:=q
    subst q'
    obtain rfl:u=Value.bool true:=r'
    refine⟨rfl,OldK.of_keep λb o e=> ?_,os,bare⟩
    cases q:H b with
    |none=>exact un.keep b o e q (by intro z;exact absurd (show b∈([]:List Addr) from z) (by simp)) (by simp)
    |some u=>
     rcases hO b with z|⟨ob,xs,z⟩
     ·rw[q]at z;cases z
     ·have z2:=un.jS b ob _ z
      obtain⟨e1,_⟩:=dm b _ z
      obtain⟨e2,_⟩:=hok' b _ z2
      rw[e]at e1;cases e1
      exact e2
 cases hk:K.lookup a with
 |some o=>
  have e:=KX a o hk
  rw[ha]at e
  cases e
  refine core (λ_=>none) (λ_=> .inl rfl) (.inr ⟨_,vs.toArray,_,hk,rfl,rfl,rfl,by rw[aI,lenV];exact hl,by simpa using rv⟩) (λb u z=>by have z':(none:Option HO)=some u:=z;cases z') (λb z=>absurd rfl z) λz=>absurd rfl z
 |none=>
  refine core (λb=>if b=a then some (.ro {cls:= .type "list",data:= .seq vs.toArray} (.lst (ns.map V.int))) else none) (λb=> ?_) (.inl (.inr ⟨{cls:= .type "list",data:= .seq vs.toArray},if_pos rfl⟩)) (λb u z=> ?_) (λb z=> ?_) λ_=>hk
  ·by_cases hb:b=a
   ·exact .inr ⟨_,_,if_pos hb⟩
   ·exact .inl (if_neg hb)
  ·by_cases hb:b=a
   ·have z':=(if_pos hb).symm.trans z
    cases z'
    subst hb
    exact⟨ha,by rw[ah];exact hl,vs,_,rv,ha⟩
   ·have z':=(if_neg hb).symm.trans z
    cases z'
  ·by_cases hb:b=a
   ·exact hb
   ·exact absurd (if_neg hb) z
end L2
namespace L2
open PySem PySem.Spec PyProof.Rows
theorem Bf{l:PySem.W.OpenLaw}{n k:Nat}{q:Program}{loose:List Str}{XP:(Str->Option Value)->Heap->Prop}{YP:World->Heap->Prop}{d:DefRec}{K:Params->PySem.W.Frag}{CX:World->we}{ca:Bool}{sp:World->Sp}{x:Str}
  (hn:l.most=some n) (hn2:n<=sizeLine) (hdf:d.params.defaults=[]) (hr:iz ca k callerA)
  (hY:∀(w:World) (h:Heap),YP w h->(K w.params).In h)
  (F:∀(w:World) (mg:Str->Option Value) (fa:Addr) (h:Heap),(K w.params).In h->h.Ns mainGlobals mg->mg d.name=some (.ref fa)->
   ∃fd:FuncData,(∀(s:Shared) (u:Value),BindsTo s fd ⟨[u],[]⟩ [(x,u)])/\
    ∀base:Heap,(K w.params).In base->base.Ns mainGlobals mg->eg l.prog w (K w.params) mg base (CX w) ca k fa fd [x] (sp w))
  (hsp:∀(w:World) (H:Hp) (a:Addr) (ns:List Int),ns.length<=n->BN H->fb (K w.params) H a (ns.map V.int)->sp w [.ref a] H (λv _=>v= .bl true) λ_ _ _=>False)
  (hCX:∀(w:World) (H:Hp) (s:Shared) (e:Value) (s':Shared),CX w [] H s (λ_ _ _=>False) e s'->False):
  PySem.W.WalkO q loose XP YP l.row.toRowW d [] (λf vs=>PySem.call f vs):=by
 refine Att.uv hn hdf λw s₀ s₁ mg mb fa o pm cd doc a vs ns G Y ho hd hcd hmg hobj hints hlen hg=> ?_
 have KX:=hY w _ Y
 obtain⟨fd,hb,hF⟩:=F w mg fa _ KX G.T.g hmg
 exact y9 KX G.T.g G.T.b G.T.builtins G.T.nolimit hg hobj hints (av hlen hn2) hr hF hb (λH hO hS=>hsp w H a ns hlen hO hS) λH e s'=>hCX w H s₁ e s'
end L2
namespace L2
open PySem PySem.Spec PyProof.Rows
noncomputable def lO (s:Stmt):Arguments:=match s with
 | .FunctionDef _ a _ _ _ _ _ _ _ _=>a
 |_=>{posonlyargs:=[],args:=[],vararg:=none,kwonlyargs:=[],kw_defaults:=[],kwarg:=none,defaults:=[]}
noncomputable def jX (s:Stmt):List Stmt:=match s with
 | .FunctionDef _ _ b _ _ _ _ _ _ _=>b
 |_=>[]
noncomputable def cH (s:Stmt):Scope:=match s with
 | .FunctionDef _ _ _ _ _ _ sc _ _ _=>sc
 |_=>{kind:= .function,names:=[],isGenerator:=false,isCoroutine:=false}
noncomputable abbrev FU:we:=λ_ _ _ _ _ _=>False
noncomputable abbrev E0:XK:=λ_ _ _=>False
structure mx(K:PySem.W.Frag)(x qual:Str)(st:Stmt)(f:Addr)(fd:FuncData):Prop where
 ex:∃(oc:Value) (od:Option Addr) (kV doc pm:Value) (an:Option Addr) (cdv ct:Value) (osl:Array (Option Value)),
  fd=PySem.W.fnOf x qual (lO st) (jX st) (cH st) .none kV doc pm an cdv ct/\K.lookup f=some ⟨oc,od,.func fd,osl⟩/\PySem.W.codeIn K cdv qual=true
 kp:PySem.W.keepIn K (.ref f)=true
section
variable{P:Program}{w:World}{K:PySem.W.Frag}{mg:Str->Option Value}{base:Heap}
theorem mx.ok{x qual:Str}{st:Stmt}{f:Addr}{fd:FuncData}{N ps:List Str}{ca:Bool}{k:Nat}{sp:Sp}(F:mx K x qual st f fd)(S:cX N ps (cH st))(len:∀vs H Q E,sp vs H Q E->vs.length=ps.length)
  (hbody:∀(cdv:Value) (A:Around) (outer:List Env) (s:Shared) (H:Hp) (vs:List V) (Q:VK) (E:XK),iz ca k (A.deeper (envOfC qual (cH st) s.heap.objs.size f cdv))->sp vs H Q E->
   ∃t,sD (tL FU ca P w K mg base N qual (cH st) f cdv A outer s H E).BC (jX st) t/\t {nx:=λ_ H'=>Q .gm H',rt:=Q} (start N vs) H):eg P w K mg base FU ca (k+1) f fd ps sp:=by
 obtain⟨oc,od,kV,doc,pm,an,cdv,ct,osl,rfl,lk,hcd⟩:=F.ex
 refine Bt lk hcd S len λA outer s H vs Q E hr hsp=> ?_
 obtain⟨t,h,q⟩:=hbody cdv A outer s H vs Q E hr hsp
 exact⟨t,h.BC,q⟩
theorem mx.binds{x qual:Str}{st:Stmt}{f:Addr}{fd:FuncData}{ps:List Str}(F:mx K x qual st f fd)
  (h:∀(kV doc pm:Value) (an:Option Addr) (cdv ct:Value) (us:List Value),us.length=ps.length->bindArgs (PySem.W.fnOf x qual (lO st) (jX st) (cH st) .none kV doc pm an cdv ct) ⟨us,[]⟩=pure (ps.zip us)):Binds K fd ps []:=by
 obtain⟨oc,od,kV,doc,pm,an,cdv,ct,osl,rfl,lk,hcd⟩:=F.ex
 exact .all (h kV doc pm an cdv ct)
theorem Cf{x qual:Str}{st:Stmt}{f:Addr}{oc:Value}{od an:Option Addr}{osl:Array (Option Value)}{kV doc pm cdv ct:Value}(l:K.lookup f=some ⟨oc,od,.func (PySem.W.fnOf x qual (lO st) (jX st) (cH st) .none kV doc pm an cdv ct),osl⟩)
  (c:PySem.W.codeIn K cdv qual=true) (k:PySem.W.keepIn K (.ref f)=true):mx K x qual st f (PySem.W.fnOf x qual (lO st) (jX st) (cH st) .none kV doc pm an cdv ct):=⟨⟨oc,od,kV,doc,pm,an,cdv,ct,osl,rfl,l,c⟩,k⟩
end
theorem Ej{ca:Bool}{A:Around}{k:Nat}(hr:iz ca k A):A.units+1<cLine:=bq (Nat.add_le_add_left (by decide:1<=64) _) hr.units
section
variable{X:Cx}
end
noncomputable def cq (H H':Hp):Prop:=∀b o,H b=some o->H' b=some o
theorem cq.refl(H:Hp):cq H H:=λ_ _ h=>h
theorem cq.trans{H H1 H2:Hp}(a:cq H H1)(b:cq H1 H2):cq H H2:=λc o h=>b c o (a c o h)
theorem cq.free{H H':Hp}(e:cq H H'){l:Addr}(h:H' l=Option.none):H l=Option.none:=by
 cases q:H l with
 |none=>rfl
 |some o=>
  rw[e l o q]at h
  cases h
theorem cq.seq{K:PySem.W.Frag}{H H':Hp}{a:Addr}{xs:List V}(e:cq H H')(h:fb K H a xs):fb K H' a xs:=by
 rcases h with (h|⟨o,h⟩)|h
 ·exact .inl (.inl (e _ _ h))
 ·exact .inl (.inr ⟨o,e _ _ h⟩)
 ·exact .inr h
end L2
namespace L2
open PySem PySem.Spec PyProof.Rows
section
variable{X:Cx}
end
section
variable{κ:Type} [DecidableEq κ]
end
end L2
namespace L2
open PySem PySem.Spec PyProof.Rows
structure Ae(fs:List Addr)(H H':Hp)(h B:Heap):Prop where
 keep:∀b o,h.get? b=some o->H b=none->b∉fs->B.get? b=some o/\H' b=none
 fr:∀b∈fs,H' b=none
 there:∀b o,h.get? b=some o->b∈fs∨∃o',B.get? b=some o'
 kb:∀b xs,H b=some (.tup xs)->H' b=some (.tup xs)
 jS:∀b o u,H b=some (.ro o u)->H' b=some (.ro o u)
 ka:∀b ps,H b=some (.Aa ps)->∃more,H' b=some (.Aa (ps++more))
noncomputable def BP (fs:List Addr) (h h':Heap):Prop:=∀b o,h.get? b=some o->b∈fs->∃sl,h'.get? b=some {o with slots:=sl}
structure Af(B:Heap)(l:List Env)(a:Addr)(h:Heap):Prop where
 stays:B.StaysIn h
 new:B.get? a=none
 lR:h.FunFrames B l
noncomputable def BO (h:Heap) (a:Addr) (cls:Value):Prop:=∃oe vs a0,h.get? a=some oe/\oe.cls=cls/\oe.data= .fields vs/\vs[0]? =some a0/\vs[1]? =some .none
noncomputable abbrev DC:=Heap->Addr->Value->Heap->Prop
noncomputable def zz (fl:Value):DC:=λB a cls h=>∃a0,Heap.TracedAtW h B a cls a0 fl
noncomputable abbrev uU:DC:=zz .none
noncomputable abbrev l6 (L:Addr):DC:=zz (rawInt L)
noncomputable def zy (L:Addr):DC:=λB a cls h=>BO h a cls∨uU B a cls h∨l6 L B a cls h
noncomputable def kF (P:Program) (w:World):we:=λouter H s E e s'=>∃(a:Addr) (cls:Value) (H':Hp) (B:Heap),e= .ref a/\s'.os=s.os/\AllBare s'.gens/\Af B outer a s'.heap/\uU B a cls s'.heap/\
 lH P w H' B/\Ae (lG outer) H H' s.heap B/\BP (lG outer) s.heap s'.heap/\E cls none H'
inductive jW (X:Cx) (E:St->XK) (ph:DC) (a:Addr) (cls:Value) (s':Shared):Prop
 |mk {pins:List (Addr×Obj)} {σ:St} {H H':Hp} {B:Heap} {s:Shared} (I:Inv X pins σ H s) (os:s'.os=s.os) (bare:AllBare s'.gens) (way:Af B X.stack a s'.heap) (p:ph B a cls s'.heap)
   (dm:lH X.prog X.w H' B) (rel:Ae (lG X.stack) H H' s.heap B) (sl:BP (lG X.stack) s.heap s'.heap) (e:E σ cls none H'):jW X E ph a cls s'
noncomputable def vm (X:Cx) (E:St->XK) (L:Addr):Value->Shared->Prop:=λe s'=>∃a cls,e= .ref a/\jW X E (zy L) a cls s'
section
variable{l:List Env}{B h h1 h2:Heap}{P:Program}{w:World}{H:Hp}{fs:List Addr}
theorem BP.up(sl:BP (lG l) h h1)(ff:h1.FunFrames B l)(k:h1.UpToSlots h2):BP (lG l) h h2:=λb o e hb=>by
 obtain⟨s1,q⟩:=sl b o e hb
 obtain⟨_,o1,q1,nf⟩:=ff.mem hb
 rw[q]at q1;cases q1
 obtain⟨s2,q2⟩:=k b _ q nf
 exact⟨s2,q2⟩
theorem lH.hide(ok:lH P w H h)(hf:∀b∈fs,H b=none):lH P w H (PySem.W.hideAll h fs):=λa o e=>
 (ok a o e).qC (λb u hb q=>bA _ q λhm=>by
  have z:=hf b hm
  rcases hb with rfl|hb
  ·rw[e]at z;cases z
  ·rw[hb]at z;cases z) (λ_ q=>q) λ_ _ q=>q
end
section
variable{X:Cx}{E:St->XK}{a L:Addr}{cls:Value}{s':Shared}{M:Model}{A:Around}{Q:Unit->Shared->Prop}{E':Value->Shared->Prop}
theorem jW.note(u:jW X E (zy L) a cls s')(hA:A.frames=X.A.frames)(hst:X.stack=X.env::X.outer)(hf:X.env.frame=some L)
  (hQ:∀h',jW X E (l6 L) a cls {s' with heap:=h'}->Q () {s' with heap:=h'}):wpAny M A (noteFrame (.ref a) X.env) Q E' s':=by
 obtain⟨I,os,bare,⟨w1,w2,w3⟩,p,dm,rel,sl,e⟩:=u
 rename_i B s
 have hfr:A.frames=some (X.env::X.outer):=by rw[hA,I.ok.frames,hst]
 have go:∀h' a0,Heap.NotedW B (X.env::X.outer) a cls a0 (rawInt L) s'.heap h'->Q () {s' with heap:=h'}:=λh' a0 ⟨k1,k2,k3,k4⟩=>
  hQ h' ⟨I,os,bare,⟨k1,w2,hst▸k2⟩,⟨a0,k3⟩,dm,rel,sl.up w3 k4,e⟩
 have w3':s'.heap.FunFrames B (X.env::X.outer):=hst▸w3
 rcases p with ⟨oe,vs,a0,he,hc,hd,h0,h1⟩|⟨a0,p⟩|⟨a0,p⟩
 ·subst hc;unfold noteFrame;simp only[hf];refine wpAny_bind (wpAny_field he hd h1 ?_);rw[if_neg (by decide)]
  exact wpAny_entryW hfr w3' hf he w1 w2 hd (Array.getElem?_eq_some_iff.mp h1).1 h0 λh' N=>go h' a0 N
 ·exact wpAny_noteFrame_onW hfr w3' hf p w1 w2 λh' N=>go h' a0 N
 ·exact wpAny_noteFrame_againW hf p (hQ s'.heap ⟨I,os,bare,⟨w1,w2,w3⟩,⟨a0,p⟩,dm,rel,sl,e⟩)
theorem jW.Fq{fl:Value}(u:jW X E (zz fl) a cls s')(hQ:∀h',jW X E uU a cls {s' with heap:=h'}->Q () {s' with heap:=h'}):wpAny M A (setFlight (.ref a) none) Q E' s':=by
 obtain⟨I,os,bare,⟨w1,w2,w3⟩,⟨a0,p⟩,dm,rel,sl,e⟩:=u
 exact wpAny_setFlight_noneW w1 w3 p λh' k1 k2 k3 k4=>hQ h' ⟨I,os,bare,⟨k1,w2,k2⟩,⟨a0,k3⟩,dm,rel,sl.up w3 λb o hb hn=>⟨o.slots,k4 b o hb hn⟩,e⟩
theorem jW.hold(u:jW X E (l6 L) a cls s')(hQ:∀h',jW X E (l6 L) a cls {s' with heap:=h'}->Q () {s' with heap:=h'}):
  wpAny M A (do if (←field (.ref a) 1)== .none then unsupported "frame.own-activation:exception-without-traceback"
                setFlight (.ref a) (some L)) Q E' s':=by
 obtain⟨I,os,bare,⟨w1,w2,w3⟩,⟨a0,oe,vs,T,oT,ts,he,hcls,hd,h1,hnT,hTe,hT,hdT,h3⟩,dm,rel,sl,e⟩:=u
 rename_i B s
 have hsz:3<ts.size:=(Array.getElem?_eq_some_iff.mp h3).1
 have oth:∀b,b≠T->(s'.heap.update T (Obj.mapFields (·.setIfInBounds 3 (rawInt L)))).get? b=s'.heap.get? b:=λb hb=>Heap.get?_update_other _ _ (aM hb)
 have nr:∀b o,s'.heap.get? b=some o->(∀vs,o.data≠ .fields vs)->b≠T:=λb o hb hnf q=>by
  subst q;rw[hT]at hb;cases hb;exact hnf ts hdT
 refine wpAny_bind (wpAny_field he hd h1 ?_)
 rw[if_neg (show¬((Value.ref T==Value.none)=true) by simp)]
 unfold setFlight
 refine wpAny_bind (wpAny_field he hd h1 ?_)
 rw[if_pos (show(Value.ref T !=Value.none)=true by simp)]
 refine wpAny_setField hT hdT hsz (hQ _ ⟨I,os,bare,⟨λb o hb=>(oth b λq=>by subst q;rw[hnT]at hb;cases hb).trans (w1 b o hb),w2,
  w3.of_keeps λb o hb hn=>⟨o,(oth b (nr b o hb hn)).trans hb,rfl⟩⟩,⟨a0,oe,vs,T,_,_,(oth a (aM hTe)).trans he,hcls,hd,h1,hnT,hTe,
   Heap.get?_update_self _ hT (Obj.isFreed_of_fields (Obj.data_mapFields hdT _)),Obj.data_mapFields hdT _,by simp[hsz]⟩,dm,rel,sl.up w3 λb o hb hn=>⟨o.slots,(oth b (nr b o hb hn)).trans hb⟩,e⟩)
end
section
variable{X:Cx}{E:St->XK}{a L:Addr}{cls:Value}{s s':Shared}{pins:List (Addr×Obj)}{σ:St}{H H':Hp}{B:Heap}
theorem EK(way:Af B X.stack a s'.heap)(rel:Ae (lG X.stack) H H' s.heap B)(sl:BP (lG X.stack) s.heap s'.heap):Un (lG X.stack) [] H H' s.heap s'.heap where
 keep:=λb o e n hb _=>way.stays b o (rel.keep b o e n hb).1
 slot:=λb o e _ hb _=>sl b o e hb
 free:=λb o e n _=>by
  by_cases hb:b∈lG X.stack
  ·exact rel.fr b hb
  ·exact(rel.keep b o e n hb).2
 there:=λb o e _=>by
  rcases rel.there b o e with hb|⟨o',q⟩
  ·obtain⟨_,o1,q1,_⟩:=way.lR.mem hb
   exact⟨o1,q1⟩
  ·exact⟨o',way.stays b o' q⟩
 kb:=rel.kb
 jS:=rel.jS
 ka:=rel.ka
theorem Cj(I:Inv X pins σ H s)(os:s'.os=s.os)(bare:AllBare s'.gens)(way:Af B X.stack a s'.heap)(dm:lH X.prog X.w H' B)(rel:Ae (lG X.stack) H H' s.heap B)
  (sl:BP (lG X.stack) s.heap s'.heap):Inv X pins σ H' s':=
 I.yt (ch:=[]) os (EK way rel sl) (dm.kept way.stays) bare λb hb=>absurd hb (by simp)
theorem Inv.adopt{o:HO}(I:Inv X pins σ H s)(hn:H a=none)(new:eh X.prog X.w (upd H a o) s.heap a o)(h0:X.s₀.heap.get? a=none)(hL:a≠X.env.locals)
  (hc:∀x c,X.env.cells.lookup x=some c->c≠a) (hp:∀p∈X.pn++pins,p.1≠a):Inv X pins σ (upd H a o) s where
 ok:=I.ok
 os:=I.os
 bare:=I.bare
 base:={
  keep:=I.base.keep
  slot:=I.base.slot
  free:=λb ob e n hb=>by
   rw[cO λz=>by subst z;rw[h0]at e;cases e]
   exact I.base.free b ob e n hb
  there:=I.base.there
  kb:=λb xs e=>by
   have q:=I.base.kb b xs e
   rw[cO (du q hn)];exact q
  jS:=λb ob u e=>by
   have q:=I.base.jS b ob u e
   rw[cO (du q hn)];exact q
  ka:=λb ps e=>by
   obtain⟨m,q⟩:=I.base.ka b ps e
   exact⟨m,by rw[cO (du q hn)];exact q⟩}
 loc:=I.loc
 cell:=I.cell
 free:=by rw[cO (aM hL)];exact I.free
 iQ:=λx c e=>by rw[cO (hc x c e)];exact I.iQ x c e
 pin:=λp m=>by
  obtain⟨p1,p2,p3⟩:=I.pin p m
  exact⟨p1,by rw[cO (hp p m)];exact p2,p3⟩
 dm:=λb u e=>by
  by_cases hb:b=a
  ·subst hb;rw[cg]at e;cases e;exact new
  ·rw[cO hb]at e
   exact(I.dm b u e).qC (λ_ _ _ q=>q) (λc q=>by rw[cO (du q hn)];exact q) λc xs q=>by rw[cO (du q hn)];exact q
 len:=I.len
theorem uV{fl:Value}{h:Heap}(p:zz fl B a cls h):∃o vs,h.get? a=some o/\o.cls=cls/\o.data= .fields vs:=by
 obtain⟨a0,oe,vs,T,oT,ts,he,hc,hd,_⟩:=p
 exact⟨oe,vs,he,hc.1,hd⟩
theorem jW.adopt{fl:Value}(u:jW X E (zz fl) a cls s')(hex:X.ex=[]):
  ∃pins σ H',Inv X pins σ (upd H' a (HO.exc cls)) s'/\Inv X pins σ H' s'/\E σ cls none H'/\H' a=none:=by
 obtain⟨I,os,bare,way,p,dm,rel,sl,e⟩:=u
 rename_i pins σ H H' B s
 have I':=Cj I os bare way dm rel sl
 obtain⟨o,vs,ho,hc,hd⟩:=uV p
 have hn:H' a=none:=by
  cases q:H' a with
  |none=>rfl
  |some u=>
   have z:=dm.lt q
   obtain⟨ob,hb⟩:∃ob,B.get? a=some ob:=by
    have t:=(dm a u q)
    cases q2:B.get? a with
    |some ob=>exact⟨ob,rfl⟩
    |none=>
     exfalso
     cases u with
     |lst xs=>obtain⟨_,_,_,_,e⟩:=t;rw[q2]at e;cases e
     |tup xs=>obtain⟨_,_,_,_,e,_⟩:=t;rw[q2]at e;cases e
     |dK kvs=>obtain⟨_,_,_,_,o,_,_,e,_⟩:=t;rw[q2]at e;cases e
     |dT kvs=>obtain⟨_,_,_,_,o,_,_,e,_⟩:=t;rw[q2]at e;cases e
     |set S n=>obtain⟨o,_,_,_,e,_⟩:=t;rw[q2]at e;cases e
     |ins C dx fs=>obtain⟨_,_,_,e,_⟩:=t;rw[q2]at e;cases e
     |own y=>obtain⟨_,e⟩:=t;rw[q2]at e;cases e
     |xd fs=>obtain⟨_,⟨_,_,_,e,_⟩,_⟩:=t;rw[q2]at e;cases e
     |EI lo hi=>obtain⟨_,_,_,e⟩:=t;rw[q2]at e;cases e
     |ro ob u=>obtain⟨e,_⟩:=t;rw[q2]at e;cases e
     |Aa ps=>have e:B.get? a=some _:=t;rw[q2]at e;cases e
     |met f y=>have e:B.get? a=some _:=t;rw[q2]at e;cases e
     |ext φ=>obtain⟨_,⟨_,e⟩,_⟩:=t;rw[q2]at e;cases e
     |exc c=>obtain⟨_,_,e,_⟩:=t;rw[q2]at e;cases e
   rw[way.new]at hb;cases hb
 have nfr:a∉lG X.stack:=λhm=>by
  obtain⟨_,o1,q1,nf⟩:=way.lR.mem hm
  rw[ho]at q1;cases q1;exact nf vs hd
 have h0:X.s₀.heap.get? a=none:=by
  cases q:X.s₀.heap.get? a with
  |none=>rfl
  |some o1=>
   obtain⟨o2,q2⟩:=I.base.there a o1 q (by rw[hex];simp)
   rcases rel.there a o2 q2 with z|⟨o3,z⟩
   ·exact absurd z nfr
   ·rw[way.new]at z;cases z
 refine⟨pins,σ,H',I'.adopt hn ⟨o,vs,ho,hc,hd⟩ h0 (λz=> ?_) (λx c ec z=> ?_) (λp' hp z=> ?_),I',e,hn⟩
 ·obtain⟨m,⟨ob,es,ep,q,qd,_⟩,_⟩:=I'.loc
  rw[←z,ho]at q;cases q;rw[hd]at qd;cases qd
 ·obtain⟨v,ob,q,qd⟩:=I'.cell x c ec
  rw[z,ho]at q;cases q;rw[hd]at qd;cases qd
 ·obtain⟨p1,p2,p3,p4,_⟩:=I.pin p' hp
  have z2:=(rel.keep p'.1 p'.2 p1 p2 λhm=>by
   rcases List.mem_cons.mp (I.pU _ hm) with q|q
   ·exact p3 q
   ·exact p4 q).1
  rw[z,way.new]at z2;cases z2
theorem jW.out{E0:XK}(u:jW X (λ_=>E0) uU a cls s')(hst:X.stack=X.env::X.outer)(hf:X.env.frame=some X.env.locals)(hex:X.ex=[]):
  kF X.prog X.w X.outer X.H₀ X.s₀ E0 (.ref a) s':=by
 obtain⟨I,os,bare,way,p,dm,rel,sl,e⟩:=u
 rename_i pins σ H H' B s
 have pJ:∀b,b∉X.ex:=λb=>by rw[hex];simp
 have hfs:∀b,b∈lG X.stack↔b=X.env.locals∨b∈X.fs:=λb=>by
  rw[hst];unfold lG;rw[bH,hf];exact List.mem_cons
 have nloc:∀b o,X.s₀.heap.get? b=some o->b≠X.env.locals:=λb o q z=>by
  have:=Heap.lt_size q
  have h2:=I.ok.above
  rw[z]at this
  exact absurd (aB this h2) (aT _)
 obtain⟨w1,w2,w3⟩:=way
 have w3':s'.heap.FunFrames B X.outer:=by rw[hst]at w3;exact w3.2.2
 refine⟨a,cls,H',B,rfl,os.trans I.os,bare,⟨w1,w2,w3'⟩,p,dm,⟨λb o q n hb=> ?_,λb hb=>rel.fr b ((hfs b).mpr (.inr hb)),λb o q=> ?_,λb xs q=>rel.kb b xs (I.base.kb b xs q),
  λb o u q=>rel.jS b o u (I.base.jS b o u q),λb ps q=> ?_⟩,λb o q hb=> ?_,e⟩
 ·refine rel.keep b o (I.base.keep b o q n hb (pJ b)) (I.base.free b o q n (pJ b)) λz=> ?_
  rcases (hfs b).mp z with z|z
  ·exact nloc b o q z
  ·exact hb z
 ·obtain⟨o1,q1⟩:=I.base.there b o q (pJ b)
  rcases rel.there b o1 q1 with z|z
  ·rcases (hfs b).mp z with z|z
   ·exact absurd z (nloc b o q)
   ·exact .inl z
  ·exact .inr z
 ·obtain⟨m1,q1⟩:=I.base.ka b ps q
  obtain⟨m2,q2⟩:=rel.ka b _ q1
  exact⟨m1++m2,by rw[q2,bT]⟩
 ·obtain⟨s1,q1⟩:=I.base.slot b o q (I.ok.x9 b hb) hb (pJ b)
  obtain⟨s2,q2⟩:=sl b _ q1 ((hfs b).mpr (.inr hb))
  exact⟨s2,q2⟩
end
structure Exc(X:Cx)(E:St->XK):Prop where
 pass:∀(pins:List (Addr×Obj)) (σ:St) (H:Hp) (s:Shared) (e:Value) (s':Shared),Inv X pins σ H s->kF X.prog X.w X.stack H s (E σ) e s'->X.xe e s'
 De:∀(pins:List (Addr×Obj)) (σ:St) (H:Hp) (s s':Shared) (a C:Addr) (args:List Value),Inv X pins σ H s->Heap.MadeExcOf s.heap s'.heap a (.ref C) args->s'.os=s.os->s'.gens=s.gens->
  E σ (.ref C) none H->X.xe (.ref a) s'
 own:PassesOwn (model X.prog X.w) X.A X.env X.xe
theorem yE{X:Cx}{E:St->XK}(hst:X.stack=X.env::X.outer)(hf:X.env.frame=some X.env.locals):Exc (X.fV (vm X E X.env.locals)) E where
 pass:=λpins σ H s e s' I ⟨a,cls,H',B,ee,os,bare,way,p,dm,rel,sl,q⟩=>⟨a,cls,ee,⟨I.fJ,os,bare,way,.inr (.inl p),dm,rel,sl,q⟩⟩
 De:=λpins σ H s s' a C args I hm os hg q=>by
  have I:=I.fJ
  obtain⟨t,he,htn,ht⟩:=hm.there
  have hB:(PySem.W.hideAll s.heap (lG X.stack)).get? a=none:=by
   cases z:(PySem.W.hideAll s.heap (lG X.stack)).get? a with
   |none=>rfl
   |some o=>have:=bF _ z;rw[hm.new]at this;cases this
  refine⟨a,.ref C,rfl,⟨I,os,by rw[hg];exact I.bare,⟨λb o z=>hm.keeps b o (bF _ z),hB,?_⟩,.inl ⟨_,_,_,he,rfl,rfl,rfl,rfl⟩,I.dm.hide I.nE,⟨λb o z n hb=>⟨bA _ z hb,n⟩,I.nE,
   λb o z=> ?_,λ_ _ z=>z,λ_ _ _ z=>z,λ_ ps z=>⟨#[],by rw[Array.append_empty];exact z⟩⟩,λb o z _=>⟨o.slots,hm.keeps b o z⟩,q⟩⟩
  ·exact(PySem.W.funFrames_hide I.stack λenv he b hb=>List.mem_filterMap.mpr ⟨env,he,hb⟩).of_keeps λb o z _=>⟨o,hm.keeps b o z,rfl⟩
  ·by_cases hb:b∈lG X.stack
   ·exact .inl hb
   ·exact .inr ⟨o,bA _ z hb⟩
 own:=λe s' ⟨a,cls,ee,u⟩=>by
  subst ee
  refine u.note rfl hst hf λh' u'=> ?_
  unfold cameBackBy
  rw[show(X.fV (vm X E X.env.locals)).env.frame=some X.env.locals from hf]
  refine u'.hold λh2 u2=> ?_
  obtain⟨I,os,bare,way,p,dm,rel,sl,q⟩:=u2
  exact⟨a,cls,rfl,⟨I,os,bare,way,.inr (.inr p),dm,rel,sl,q⟩⟩
theorem sD.fV{X:Cx}{st:List Stmt}{t:TS}{E:Value->Shared->Prop}(h:sD (X.fV E) st t)(he:∀e s,E e s->X.xe e s):sD X st t:=λpins s σ H D I hw=>
 wpAny_mono (h pins s σ H D (I.fV E) hw) (λ_ _ z=>SP.fJ z) he
noncomputable abbrev FX (ca:Bool) (P:Program) (w:World) (K:PySem.W.Frag) (mg:Str->Option Value) (base:Heap) (N:List Str) (qual:Str) (scope:Scope) (f:Addr) (cd:Value) (A:Around) (outer:List Env) (s:Shared) (H:Hp) (E:XK):Cx:=
 (tL (kF P w) ca P w K mg base N qual scope f cd A outer s H E).fV (vm (tL (kF P w) ca P w K mg base N qual scope f cd A outer s H E) (λ_=>E) s.heap.objs.size)
section
variable{P:Program}{w:World}{K:PySem.W.Frag}{mg:Str->Option Value}{base:Heap}
theorem mx.o_{x qual:Str}{st:Stmt}{f:Addr}{fd:FuncData}{N ps:List Str}{ca:Bool}{k:Nat}{sp:Sp}(F:mx K x qual st f fd)(S:cX N ps (cH st))(len:∀vs H Q E,sp vs H Q E->vs.length=ps.length)
  (hbody:∀(cdv:Value) (A:Around) (outer:List Env) (s:Shared) (H:Hp) (vs:List V) (Q:VK) (E:XK),iz ca k (A.deeper (envOfC qual (cH st) s.heap.objs.size f cdv))->
   Exc (FX ca P w K mg base N qual (cH st) f cdv A outer s H E) (λ_=>E)->sp vs H Q E->
   ∃t,sD (FX ca P w K mg base N qual (cH st) f cdv A outer s H E) (jX st) t/\t {nx:=λ_ H'=>Q .gm H',rt:=Q} (start N vs) H):eg P w K mg base (kF P w) ca (k+1) f fd ps sp:=by
 obtain⟨oc,od,kV,doc,pm,an,cdv,ct,osl,rfl,lk,hcd⟩:=F.ex
 refine Bt (CX:=kF P w) lk hcd S len λA outer s H vs Q E hr hsp=> ?_
 obtain⟨t,h,q⟩:=hbody cdv A outer s H vs Q E hr (yE rfl rfl) hsp
 refine⟨t,h.fV λe s2 ⟨a,cls,ee,u⟩=> ?_,q⟩
 subst ee
 show wpAny _ _ (leaving _ _) _ _ _
 unfold leaving
 exact wpAny_bind (u.note rfl rfl rfl λh' u'=>u'.Fq λh'' u''=>u''.out rfl rfl rfl)
end
noncomputable def rm (H:Hp) (p:Addr):Hp:=λb=>if b=p then none else H b
theorem w_{H:Hp}{p:Addr}:rm H p p=none:=by unfold rm;rw[if_pos rfl]
theorem w9{H:Hp}{p b:Addr}(h:b≠p):rm H p b=H b:=by unfold rm;rw[if_neg h]
theorem pM{H:Hp}{p:Addr}{o:HO}(h:H p=none):rm (upd H p o) p=H:=by
 funext b
 by_cases hb:b=p
 ·subst hb;rw[w_,h]
 ·rw[w9 hb,cO hb]
noncomputable def Loose:Option HO->Prop
 |some (.lst _)=>True
 |some (.exc _)=>True
 |some (.EI _ _)=>True
 |_=>False
theorem Inv.rm{X:Cx}{pins:List (Addr×Obj)}{σ:St}{H:Hp}{s:Shared}{p:Addr}(I:Inv X pins σ H s)(hp:Loose (H p)):Inv X pins σ (rm H p) s:=by
 have no:∀{b:Addr},H b=none->L2.rm H p b=none:=λ{b} e=>by
  unfold L2.rm;split
  ·rfl
  ·exact e
 have yes:∀{b:Addr} {o:HO},H b=some o->¬Loose (some o)->L2.rm H p b=some o:=λ{b o} e n=>by
  rw[w9 λz=>by subst z;rw[e]at hp;exact n hp];exact e
 refine⟨I.ok,I.os,I.bare,⟨I.base.keep,I.base.slot,λb o e n hb=>no (I.base.free b o e n hb),I.base.there,λb xs e=>yes (I.base.kb b xs e) (λz=>z),λb o u e=>yes (I.base.jS b o u e) (λz=>z),λb ps e=> ?_⟩,I.loc,I.cell,
  no I.free,λx c e=>no (I.iQ x c e),λq m=> ?_,λb u e=> ?_,I.len⟩
 ·obtain⟨m,q⟩:=I.base.ka b ps e
  exact⟨m,yes q λz=>z⟩
 ·obtain⟨p1,p2,p3⟩:=I.pin q m
  exact⟨p1,no p2,p3⟩
 ·by_cases hb:b=p
  ·subst hb;rw[w_]at e;cases e
  ·rw[w9 hb]at e
   exact(I.dm b u e).qC (λ_ _ _ q=>q) (λc q=>yes q λz=>z) λc xs q=>yes q λz=>z
end L2
namespace L2
open PySem PySem.Spec PyProof.Rows
section
variable{X:Cx}{pins:List (Addr×Obj)}{σ:St}{H:Hp}{s:Shared}
theorem qJ{M:Model}{A:Around}{E:Value->Shared->Prop}{i:Nat}{x:Str}{pos:Pos}{Q:Unit->Shared->Prop}(I:Inv X pins σ H s)(hN:X.N.Nodup)(hi:X.N[i]? =some x)(hk:X.env.scope.names.lookup x=some .local)
  (h:∀s',Inv X pins (σ.set i none) H s'->Q () s'):wpAny M A (do bindName X.env x .none;unbindBehindTheSuite X.env x pos) Q E s:=by
 obtain⟨m,hn,hl⟩:=id I.loc
 have hcls:(X.env.scope.kind== .class ||(X.env.scope.kind== .module&&X.env.locals !=X.env.globals))=false:=by rw[I.ok.kind];rfl
 have nl:∀b o,X.s₀.heap.get? b=some o->b≠X.env.locals:=λb o e=>aK (aB (Heap.lt_size e) I.ok.above)
 refine wpAny_nameGoes_keeps hk hn hcls λh' v hn' hs=>h _ ⟨I.ok,I.os,I.bare,⟨λb o e n hb hx=>(hs.2 b (nl b o e)).trans (I.base.keep b o e n hb hx),λb o e n hb hx=> ?_,I.base.free,λb o e hx=> ?_,
  I.base.kb,I.base.jS,I.base.ka⟩,⟨_,hn',λj y v' e1 e2 e3=> ?_⟩,λy c e=> ?_,I.free,I.iQ,λp hp=> ?_,λb ob e=> ?_,by simpa using I.len⟩
 ·obtain⟨sl,e1⟩:=I.base.slot b o e n hb hx
  exact⟨sl,(hs.2 b (nl b o e)).trans e1⟩
 ·obtain⟨o',e1⟩:=I.base.there b o e hx
  exact⟨o',(hs.2 b (nl b o e)).trans e1⟩
 ·by_cases hj:j=i
  ·subst hj
   have z:(σ.set j none)[j]? =some none∨(σ.set j none)[j]? =none:=by
    rw[List.getElem?_set]
    simp only[if_true]
    split<;>simp
   rcases z with z|z<;>(rw[z]at e2;cases e2)
  ·rw[List.getElem?_set_ne (aM hj)]at e2
   obtain⟨u',r',q⟩:=hl j y v' e1 e2 e3
   refine⟨u',r',?_⟩
   rcases q with ⟨k,e⟩|⟨k,c,e,z⟩
   ·have ny:y≠x:=λe=>hj (rK hN e1 (e▸hi))
    exact .inl ⟨k,by simp[ny,e]⟩
   ·exact .inr ⟨k,c,e,z.sameBut hs (I.Aw y c e)⟩
 ·obtain⟨w',z⟩:=I.cell y c e
  exact⟨w',z.sameBut hs (I.Aw y c e)⟩
 ·obtain⟨e,n,ne,nf,d⟩:=I.pin p hp
  exact⟨(hs.2 p.1 ne).trans e,n,ne,nf,d⟩
 ·refine(I.dm b ob e).qC (λc w' hc q=>(hs.2 c ?_).trans q) (λ_ q=>q) λ_ _ q=>q
  rintro rfl
  rcases hc with rfl|hc
  ·have:=I.free;rw[e]at this;cases this
  ·have:=I.free;rw[hc]at this;cases this
end
noncomputable def cN (sp:Sp) (E:St->XK) (t:TA):TE:=λσ H Q=>t σ H λvs H1=>sp vs H1 Q (E σ)
section
variable{X:Cx}{ca:Bool}{k:Nat}{f C:Addr}{fd:FuncData}{ps:List Str}{sp:Sp}{E:St->XK}{x m:Str}{p pos apos:Pos}{e o:Expr}{es:List Expr}{ta:TE}{t:TA}
theorem Bb{pins:List (Addr×Obj)}{σ:St}{H:Hp}{s:Shared}{Q:VK}{us:List Value}{vs:List V}(F:eg X.prog X.w X.K X.mg X.base (kF X.prog X.w) ca k f fd ps sp)(hr:iz ca k X.A)(hb:Binds X.K fd ps [])(hx:Exc X E)
  (I:Inv X pins σ H s) (r:Vals vs us) (h:sp vs H Q (E σ)):wpAny (model X.prog X.w) X.A (call (.ref f) us) (EP X pins σ Q) X.xe s:=by
 have hl:(us++[]).length=ps.length:=by rw[aR,←r.length];exact F.len _ _ _ _ h
 have hb':=hb s us I.rF hl
 rw[aR]at hb'
 refine wpAny_call (codeAny_mono (F.run X.A X.stack s H ⟨us,[]⟩ us vs Q (E σ) hr I.Fp hb' r h) λr s' hq=> ?_)
 cases r with
 |error e=>exact hx.pass pins σ H s e s' I hq
 |ok fl=>
  cases fl with
  |ret u=>exact I.after hq
  |next=>exact False.elim hq
  |brk=>exact False.elim hq
  |cont=>exact False.elim hq
theorem zi(F:eg X.prog X.w X.K X.mg X.base (kF X.prog X.w) ca k f fd ps sp)(hr:iz ca k X.A)(hg:Gl X x)(hm:X.mg x=some (.ref f))(hk:PySem.W.keepIn X.K (.ref f)=true)(hb:Binds X.K fd ps [])(hx:Exc X E)
  (ha:PA X (e::es) t) (hdb:(x==("__debug__":Str))=false:=by decide) (he:starEach (e::es) X.env=(false,eval e X.env)::starEach es X.env:=by rfl) (hpl:(backTo pos (starEach es X.env)).any (·.1)=false:=by rfl):
  PE X (.Call (.Name x p) (e::es) [] pos) (cN sp E t):=by
 intro pins s σ H Q I h
 refine wpAny_Call_Name_kw (qO I hg hm ?_ hdb)
 refine PySem.W.callWith_K (h₀:=X.base) I.ok.mod.E4 hk (g9 (ha pos pins s σ H _ I h) λus s1 ⟨vs,H1,I1,r,q⟩=>⟨I1.rF,?_⟩) he hpl
 exact Bb F hr hb hx I1 r q
end
abbrev Fg:List Value:=[.type "ValueError",.type "Exception",.type "BaseException",.type "object"]
noncomputable def vi (K:PySem.W.Frag) (C:Addr):Prop:=PySem.W.excIn K C Fg "ValueError.__new__"=true
theorem vi.obj{K:PySem.W.Frag}{h:Heap}{C:Addr}(X:K.In h)(q:vi K C):∃bm N nm qn bs hd sn sub ab col dd k0 k1 k2 k3 k5 mN,h.get? C=some (excClassObj nm qn C N bs bm hd sn sub ab col dd k0 k1 k2 k3 k5 "ValueError.__new__")/\
  h.Ns N mN/\mN "__init__"=none/\OwnTail h Fg bm:=by
 unfold vi PySem.W.excIn at q
 split at q
 ·rename_i dd cd sl ho
  split at q
  ·rename_i C' bm k0 k1 k2 k3 n k5 hm hs
   rw[aw,aw,aw,aw,aw,beq_iff_eq,beq_iff_eq,beq_iff_eq,aG]at q
   obtain⟨⟨⟨⟨⟨q1,q2⟩,q3⟩,q4⟩,q5⟩,q6⟩:=q
   subst q1 q2
   obtain⟨nm,bs,mro,ns,qn,hd,sn,sub,ab,col,del⟩:=cd
   have q3:del=false:=q3
   have hm:mro=_:=hm
   subst q3 hm
   obtain⟨l⟩:=sl
   have hs:l=_:=hs
   subst hs
   exact⟨bm,ns,nm,qn,bs,hd,sn,sub,ab,col,dd,k0,k1,k2,k3,k5,_,X _ _ ho,.of_isNs (PySem.W.isNs_of_in X q5),PySem.W.nsMap_none_of_in X q5 q6,PySem.W.tail_of_in X q4⟩
  ·cases q
 ·cases q
noncomputable def gA (C:Addr) (E:St->XK) (t:TA):TS:=λ_ σ H=>t σ H λvs H1=>vs.length<=sizeLine/\E σ (.ref C) none H1
section
variable{X:Cx}{C:Addr}{E:St->XK}{x:Str}{np cpos pos:Pos}{e:Expr}{es:List Expr}{t:TA}
theorem zE(hx:Exc X E)(hg:Gl X x)(hm:X.mg x=some (.ref C))(hq:vi X.K C)(hc:X.calm=true)(ha:PA X (e::es) t)
  (he:starEach (e::es) X.env=(false,eval e X.env)::starEach es X.env:=by rfl) (hpl:(backTo cpos (starEach es X.env)).any (·.1)=false:=by rfl) (hdb:(x==("__debug__":Str))=false:=by decide):
  PS X (.Raise (some (.Call (.Name x np) (e::es) [] cpos)) none pos) (gA C E t):=by
 intro pins s σ H D I h
 obtain⟨bm,N,nm,qn,bs,hd,sn,sub,ab,col,dd,k0,k1,k2,k3,k5,mN,hC,hN,hni,T⟩:=hq.obj I.mod.E4
 refine wpAny_Raise_call_subT (C:=C) (nm:=nm) (q:=qn) (N:=N) (bs:=bs) (bm:=bm) (hdct:=hd) (sn:=sn) (sub:=sub) (ab:=ab) (col:=col) (dd:=dd) (k0:=k0) (k1:=k1) (k2:=k2) (k3:=k3) (k5:=k5)
  PySem.F.excBase_ValueError (mN:=mN) (T.hasType PySem.F.excBase_ValueError.hasBase) (I.ok.hd hc) (by rw[he];show(false ||(backTo cpos (starEach es X.env)).any λx=>x.1)=false;rw[hpl];rfl) hni (qO I hg hm ⟨rfl,?_⟩ hdb)
 have h2:=ha cpos pins s σ H _ I h
 rw[he]at h2⊢
 exact Calls.evalArgs_plain (wpAny_mono h2 (λus s2 ⟨vs,H1,I1,r,hl,q⟩=>⟨rfl,by rw[←r.length];exact hl,I1.bk _ _ hC,hN.keeps I1.bk,T.keeps I1.bk,
  λh' e hm'=>hx.De pins σ H1 s2 {s2 with heap:=h'} e C us I1 hm' rfl rfl q⟩) λ_ _ y=>y)
end
noncomputable abbrev Cx.uG (X:Cx) (a:Addr):Cx:={X with A:=X.A.mark (some (.ref a)),calm:=false,xe:=λ_ _=>False}
noncomputable abbrev Cx.pinned (X:Cx) (pins:List (Addr×Obj)):Cx:={X with pn:=X.pn++pins}
section
variable{X:Cx}{pins pins':List (Addr×Obj)}{σ:St}{H:Hp}{s:Shared}{a:Addr}{E:Value->Shared->Prop}
theorem Cx.Ok.uG(ok:X.Ok):(X.uG a).Ok:=⟨ok.mod,ok.kind,ok.glob,ok.blt,ok.above,ok.inj,ok.has,ok.Bo,(λz=>Bool.noConfusion z),ok.frames,ok.Dm,ok.Ed,ok.bs,ok.wq,ok.pJ,ok.vC,ok.lR,ok.x9⟩
theorem Cx.Ok.pinned(ok:X.Ok)(pins:List (Addr×Obj)):(X.pinned pins).Ok:=⟨ok.mod,ok.kind,ok.glob,ok.blt,ok.above,ok.inj,ok.has,ok.Bo,ok.hd,ok.frames,ok.Dm,ok.Ed,ok.bs,ok.wq,ok.pJ,ok.vC,ok.lR,ok.x9⟩
theorem Inv.uG(I:Inv X pins σ H s):Inv (X.uG a) pins σ H s:=⟨I.ok.uG,I.os,I.bare,I.base,I.loc,I.cell,I.free,I.iQ,I.pin,I.dm,I.len⟩
theorem Inv.xg(ok:X.Ok)(I:Inv (X.uG a) pins σ H s):Inv X pins σ H s:=⟨ok,I.os,I.bare,I.base,I.loc,I.cell,I.free,I.iQ,I.pin,I.dm,I.len⟩
theorem Inv.A2(I:Inv X pins σ H s):Inv (X.pinned pins) [] σ H s:=⟨I.ok.pinned pins,I.os,I.bare,I.base,I.loc,I.cell,I.free,I.iQ,λp hp=>I.pin p (by simpa using hp),I.dm,I.len⟩
theorem Inv.kl(ok:X.Ok)(I:Inv (X.pinned pins) pins' σ H s):Inv X pins σ H s:=⟨ok,I.os,I.bare,I.base,I.loc,I.cell,I.free,I.iQ,λp hp=>I.pin p (bK _ hp),I.dm,I.len⟩
end
noncomputable abbrev TH:=Ends->St->Hp->Value->Prop
noncomputable def PH (X:Cx) (hs:List ExceptHandler) (t:TH):Prop:=
 ∀(pins:List (Addr×Obj)) (D:Ends) (a:Addr) (cls:Value) (s:Shared),X.Ok->jW (X.pinned pins) (λσ cls _ H=>t D σ H cls) uU a cls s->
  wpAny (model X.prog X.w) X.A (handleBy (.ref a) X.env hs) (SP X pins D) X.xe s
noncomputable def Eh:TH:=λ_ _ _ _=>False
noncomputable abbrev Ends.gone (D:Ends) (i:Nat) (a:Addr) (cls:Value):Ends:={nx:=λσ H=>H a=some (.exc cls)/\D.nx (σ.set i none) (rm H a),rt:=λv H=>H a=some (.exc cls)/\D.rt v (rm H a),bk:=λσ H=>H a=some (.exc cls)/\D.bk (σ.set i none) (rm H a),ct:=λσ H=>H a=some (.exc cls)/\D.ct (σ.set i none) (rm H a)}
noncomputable def z9 (K:PySem.W.Frag) (c:Value) (i:Nat) (th:TS) (tr:TH):TH:=λD σ H cls=>match PySem.W.exmOne K cls c with
 |some true=>∀a,H a=none->th (D.gone i a cls) (σ.set i (some (.ref a))) (upd H a (HO.exc cls))
 |some false=>tr D σ H cls
 |none=>False
section
variable{X:Cx}{c:Value}{i:Nat}{x n:Str}{np pos:Pos}{b₀:Stmt}{suite:List Stmt}{th:TS}{tr:TH}{rest:List ExceptHandler}
theorem rW{M:Model}{h:Heap}{a:Addr}{cls:Value}(e:∃o vs,h.get? a=some o/\o.cls=cls/\o.data= .fields vs):PySem.W.Looks M h (typeOf (.ref a)) cls:=by
 obtain⟨o,_,ho,hc,_⟩:=e
 subst hc
 exact(PySem.W.Looks.ld ho).andThen .now
theorem C3:PH X [] Eh:=λpins D a cls s ok u=>by
 obtain⟨_,_,_,_,_,_,_,_,h⟩:=u
 exact False.elim h
theorem EE(hex:X.ex=[])(hg:Gl X x)(hm:X.mg x=some c)(hN:X.N.Nodup)(hi:X.N[i]? =some n)(hn:X.env.scope.names.lookup n=some .local)(hs:∀a,sD (X.uG a) (b₀::suite) th)(hr:PH X rest tr)
  (hdb:(x==("__debug__":Str))=false:=by decide):PH X (.ExceptHandler (some (.Name x np)) (some n) (b₀::suite) pos::rest) (z9 X.K c i th tr):=by
 intro pins D a cls s ok u
 refine wpAny_handleBy_cons (codeAny_handlers_test ?_) (by intro q;cases q)
 obtain⟨pins',σ,H',_,I,e,hna⟩:=u.adopt hex
 have LT:PySem.W.Looks (model X.prog X.w) s.heap (typeOf (.ref a)) cls:=by obtain⟨_,_,_,_,p,_,_,_,_⟩:=u;exact rW (uV p)
 have I1:Inv (X.uG a) pins σ H' s:=(I.kl ok).uG
 refine qO (X:=X.uG a) I1 hg hm ?_ hdb
 have e:z9 X.K c i th tr D σ H' cls:=e
 unfold z9 at e
 cases q:PySem.W.exmOne X.K cls c with
 |none=>rw[q]at e;exact False.elim e
 |some b=>
  refine(PySem.W.exm_one I.rF LT q).here ?_
  cases b with
  |false=>
   refine hr pins D a cls s ok ?_
   obtain⟨I,os,bare,way,p,dm,rel,sl,e⟩:=u
   refine⟨I,os,bare,way,p,dm,rel,sl,?_⟩
   have e:z9 X.K c i th tr D _ _ cls:=e
   unfold z9 at e
   rw[q]at e
   exact e
  |true=>
   refine codeAny_handlers_suite_as (u.Fq λh' u'=> ?_)
   obtain⟨pins2,σ2,H2,Ia,_,e2,hn2⟩:=u'.adopt hex
   have e2:z9 X.K c i th tr D σ2 H2 cls:=e2
   unfold z9 at e2
   rw[q]at e2
   have Ia1:Inv (X.uG a) pins σ2 (upd H2 a (HO.exc cls)) {s with heap:=h'}:=(Ia.kl ok).uG
   refine rT (X:=X.uG a) (v:= .ref a) Ia1 hN hi (Or.inl hn) rfl (λs3 I3=> ?_) (br hn)
   refine wpAny_mono (hs a pins s3 _ _ (D.gone i a cls) I3 (e2 a hn2)) (λf s4 z=> ?_) λ_ _ z=>False.elim z
   cases f with
   |next=>obtain⟨σ4,H4,I4,e4,q4⟩:=z;exact qJ ((I4.xg ok).rm (p:=a) (by rw[e4];exact aU)) hN hi hn λs5 I5=>⟨_,_,I5,q4⟩
   |brk=>obtain⟨σ4,H4,I4,e4,q4⟩:=z;exact qJ ((I4.xg ok).rm (p:=a) (by rw[e4];exact aU)) hN hi hn λs5 I5=>⟨_,_,I5,q4⟩
   |cont=>obtain⟨σ4,H4,I4,e4,q4⟩:=z;exact qJ ((I4.xg ok).rm (p:=a) (by rw[e4];exact aU)) hN hi hn λs5 I5=>⟨_,_,I5,q4⟩
   |ret v=>obtain⟨v',σ4,H4,I4,rv,e4,q4⟩:=z;exact qJ ((I4.xg ok).rm (p:=a) (by rw[e4];exact aU)) hN hi hn λs5 I5=>⟨v',_,_,I5,rv,q4⟩
noncomputable def Dq (tb:(St->XK)->TS) (t:TH):TS:=λD σ H=>tb (λσ cls _ H=>t D σ H cls) D σ H
theorem C8{body:List Stmt}{h₀:ExceptHandler}{hs:List ExceptHandler}{tb:(St->XK)->TS}{t:TH}(hst:X.stack=X.env::X.outer)(hf:X.env.frame=some X.env.locals)
  (hb:∀(E:St->XK) (W:Value->Shared->Prop) (pins:List (Addr×Obj)),Exc ((X.pinned pins).fV W) E->sD ((X.pinned pins).fV W) body (tb E)) (hh:PH X (h₀::hs) t):
  PS X (.Try body (h₀::hs) [] [] pos) (Dq tb t):=by
 intro pins s σ H D I h
 have ex:Exc ((X.pinned pins).fV (vm (X.pinned pins) (λσ cls _ H=>t D σ H cls) X.env.locals)) (λσ cls _ H=>t D σ H cls):=yE hst hf
 refine wpAny_Try_except (wpAny_mono (hb _ _ pins ex [] s σ H D (I.A2.fV _) h) (λf s1 z=> ?_) λe s1 ⟨a,cls,ee,u⟩=> ?_)
 ·cases f with
  |next=>obtain⟨σ4,H4,I4,q4⟩:=z;exact wpAny_execs_nil ⟨_,_,(I4.fJ).kl I.ok,q4⟩
  |brk=>obtain⟨σ4,H4,I4,q4⟩:=z;exact⟨_,_,(I4.fJ).kl I.ok,q4⟩
  |cont=>obtain⟨σ4,H4,I4,q4⟩:=z;exact⟨_,_,(I4.fJ).kl I.ok,q4⟩
  |ret v=>obtain⟨v',σ4,H4,I4,rv,q4⟩:=z;exact⟨v',_,_,(I4.fJ).kl I.ok,rv,q4⟩
 ·subst ee
  exact u.note rfl hst hf λh' u'=>u'.Fq λh'' u''=>hh pins D a cls _ I.ok u''
end
end L2
namespace L2
open PySem PySem.Spec PyProof.Rows
section
variable{X:Cx}
theorem PE.mono{e:Expr}{t t':TE}(h:PE X e t)(k:∀σ H Q,t' σ H Q->t σ H Q):PE X e t':=λpins s σ H Q I q=>h pins s σ H Q I (k _ _ _ q)
theorem PT.mono{e:Expr}{t t':TT}(h:PT X e t)(k:∀σ H Q,t' σ H Q->t σ H Q):PT X e t':=λpins s σ H Q I q=>h pins s σ H Q I (k _ _ _ q)
theorem PS.mono{e:Stmt}{t t':TS}(h:PS X e t)(k:∀D σ H,t' D σ H->t D σ H):PS X e t':=λpins s σ H D I q=>h pins s σ H D I (k _ _ _ q)
theorem iy.mono{f:Value->Value->Sem Value}{r r':R2}(h:iy X f r)(k:∀x y H Q,r' x y H Q->r x y H Q):iy X f r':=λpins s σ H x y v u Q I rx ry q=>h pins s σ H x y v u Q I rx ry (k _ _ _ _ q)
theorem fh.mono{f:Value}{r r':List V->Hp->VK->Prop}(h:fh X f r)(k:∀xs H Q,r' xs H Q->r xs H Q):fh X f r':=λpins s σ H xs us Q I rx q=>h pins s σ H xs us Q I rx (k _ _ _ q)
theorem vg.mono{r r':R2}(h:vg X r)(k:∀x y H Q,r' x y H Q->r x y H Q):vg X r':=λvalue slice pins s σ H x y v u Q I rx ry q=>h value slice pins s σ H x y v u Q I rx ry (k _ _ _ _ q)
end
noncomputable def cI (i:Nat):TE:=λσ H Q=>match σ[i]? with
 |some (some v)=>Q v H
 |_=>False
section
variable{X:Cx}
theorem cv(i:Nat){x:Str}{pos:Pos}(hN:X.N[i]? =some x:=by rfl)(hv:EZ X.env.scope x:=by first|exact Or.inl rfl|exact br (Or.inl rfl)|exact br (br rfl))(hd:(x==("__debug__":Str))=false:=by decide)
  (hcd:(x==("__classdict__":Str))=false:=by decide):PE X (.Name x pos) (cI i):=(C1 hN hv hd hcd).mono λσ H Q h=>by
 unfold cI at h
 split at h
 ·rename_i v e;exact⟨v,e,h⟩
 ·exact h.elim
noncomputable def Gv (mg:Str->Option Value) (x:Str) (v:V):Prop:=∃u,mg x=some u/\RelV v u
theorem Ez{x:Str}{v:V}{pos:Pos}(h:Gv X.mg x v)(hg:Gl X x:=by rfl)(hd:(x==("__debug__":Str))=false:=by decide):PE X (.Name x pos) (tC v):=by
 obtain⟨u,hm,r⟩:=h
 exact AX hg hm r hd
theorem EC{x:Str}{T:String}{pos:Pos}(hm:X.mg x=none)(hv:bootBuiltins x=some (.type T))(hg:Gl X x:=by rfl)(hn:x≠"__name__":=by decide)(hd:(x==("__debug__":Str))=false:=by decide):
  PE X (.Name x pos) (tC (.ty T)):=AS hg hm hv rfl hn hd
end
noncomputable def jP:R2:=λx y H Q=>match x,y with
 | .int i,.int j=>Q (.int (i+j)) H
 | .str i,.str j=>i.length+j.length<=sizeLine/\Q (.str (i++j)) H
 |_,_=>False
noncomputable def uy:R2:=λx y H Q=>match x,y with
 | .int i,.int j=>Q (.int (i-j)) H
 |_,_=>False
noncomputable def vv:R2:=λx y H Q=>match x,y with
 | .int i,.int j=>ur i j/\Q (.int (i*j)) H
 | .str z,.int n=>z.length<=1000/\(n=0∨n=1)/\Q (.str (if n=1 then z else Str.empty)) H
 |_,_=>False
noncomputable def g_:R2:=λx y H Q=>match x,y with
 | .int i,.int j=>la i j/\Q (.int (i/j)) H
 |_,_=>False
noncomputable def gj:R2:=λx y H Q=>match x,y with
 | .int i,.int j=>0<j/\Q (.int (i%j)) H
 |_,_=>False
noncomputable def lh (p:Int->Int->Bool):R2:=λx y H Q=>match x,y with
 | .int i,.int j=>Q (.bl (p i j)) H
 |_,_=>False
noncomputable abbrev E3:R2:=lh λi j=>decide (i<j)
noncomputable abbrev Bm:R2:=lh λi j=>decide (i<=j)
noncomputable abbrev Ak:R2:=lh λi j=>decide (j<i)
noncomputable def eqv:V->V->Option Bool
 | .int i,.int j=>some (decide (i=j))
 | .str i,.str j=>some (decide (i=j))
 | .bl i,.bl j=>some (decide (i=j))
 | .gm,.gm=>some true
 | .gm,.int _=>some false| .int _,.gm=>some false| .gm,.bl _=>some false| .bl _,.gm=>some false| .gm,.str _=>some false| .str _,.gm=>some false
 | .int _,.str _=>some false| .str _,.int _=>some false| .bl _,.str _=>some false| .str _,.bl _=>some false
 |_,_=>none
noncomputable def sd:R2:=λx y H Q=>match eqv x y with
 |some b=>Q (.bl b) H
 |none=>False
noncomputable def BY:R2:=λx y H Q=>match eqv x y with
 |some b=>Q (.bl (!b)) H
 |none=>False
noncomputable def rq:V->Bool
 | .gm=>true
 |_=>false
noncomputable def Dv:R2:=λx y H Q=>match y with
 | .gm=>Q (.bl (rq x)) H
 |_=>False
noncomputable def An:V->Hp->VK->Prop:=λx H Q=>match x with
 | .int i=>Q (.int (-i)) H
 |_=>False
theorem uD{x y:V}{b:Bool}(h:eqv x y=some b):Dj x y=true/\decide (x=y)=b:=by
 cases x<;>cases y<;>first
  |exact⟨rfl,(decide_eq_decide.mpr ⟨λz=>by cases z;rfl,λz=>by cases z;rfl⟩).trans (aW h)⟩
  |exact⟨rfl,(decide_eq_false λz=>by cases z).trans (aW h)⟩
  |exact⟨rfl,(decide_eq_true rfl).trans (aW h)⟩
  |exact nomatch h
section
variable{X:Cx}
theorem DH:iy X (binaryOp .Add) jP:=by
 intro pins s σ H x y v u Q I rx ry h
 unfold jP at h
 split at h
 ·exact CL pins s σ H _ _ v u Q I rx ry ⟨_,_,rfl,rfl,h⟩
 ·exact vS pins s σ H _ _ v u Q I rx ry ⟨_,_,rfl,rfl,h.1,h.2⟩
 ·exact h.elim
theorem D6:iy X (binaryOp .Sub) uy:=CT.mono λx y H Q h=>by
 unfold uy at h
 split at h
 ·exact⟨_,_,rfl,rfl,h⟩
 ·exact h.elim
theorem DW:iy X (binaryOp .Mult) vv:=by
 intro pins s σ H x y v u Q I rx ry h
 unfold vv at h
 split at h
 ·exact CP pins s σ H _ _ v u Q I rx ry ⟨_,_,rfl,rfl,h.1,h.2⟩
 ·rename_i z n
  obtain⟨t,rfl⟩:=(show∃t,v=Value.str z t from rx)
  obtain⟨t',rfl⟩:=(show∃t,u=Value.int n t from ry)
  obtain⟨hz,hn,h⟩:=h
  refine SB.mul (mulOk_of 1000 16 hz (by omega) (by omega) (by decide) (by decide)) λt2 k=> ?_
  rcases hn with rfl|rfl
  ·exact⟨.str Str.empty,H,I.tok _,⟨t2,rfl⟩,h⟩
  ·exact⟨.str z,H,I.tok _,⟨t2,rfl⟩,h⟩
 ·exact h.elim
theorem B3:iy X (binaryOp .FloorDiv) g_:=AR.mono λx y H Q h=>by
 unfold g_ at h
 split at h
 ·exact⟨_,_,rfl,rfl,h.1,h.2⟩
 ·exact h.elim
theorem DV:iy X (binaryOp .Mod) gj:=CO.mono λx y H Q h=>by
 unfold gj at h
 split at h
 ·exact⟨_,_,rfl,rfl,h.1,h.2⟩
 ·exact h.elim
theorem yl{op:CmpOp}{p:Int->Int->Bool}(h:iy X (compareOp op) (BE λi j=> .bl (p i j))):iy X (compareOp op) (lh p):=h.mono λx y H Q h=>by
 unfold lh at h
 split at h
 ·exact⟨_,_,rfl,rfl,h⟩
 ·exact h.elim
theorem Fn:iy X (compareOp .Lt) E3:=yl Eu
theorem Fm:iy X (compareOp .LtE) Bm:=yl Et
theorem Fi:iy X (compareOp .Gt) Ak:=yl Es
theorem DM:iy X (compareOp .Eq) sd:=Er.mono λx y H Q h=>by
 unfold sd at h
 split at h
 ·rename_i b e
  obtain⟨e1,e2⟩:=uD e
  exact⟨e1,by rw[e2];exact h⟩
 ·exact h.elim
theorem DX:iy X (compareOp .NotEq) BY:=Ew.mono λx y H Q h=>by
 unfold BY at h
 split at h
 ·rename_i b e
  obtain⟨e1,e2⟩:=uD e
  exact⟨e1,by rw[e2];exact h⟩
 ·exact h.elim
theorem xw(x:V):decide (x= .gm)=rq x:=by cases x<;>simp[rq]
theorem Fj:iy X (compareOp .Is) Dv:=CN.mono λx y H Q h=>by
 unfold Dv at h
 split at h
 ·exact⟨rfl,by rw[xw];exact h⟩
 ·exact h.elim
theorem D0:DF X (unaryOp .USub) An:=λpins s σ H x v Q I rx h=>by
 unfold An at h
 split at h
 ·exact Dt pins s σ H _ v Q I rx ⟨_,rfl,h⟩
 ·exact h.elim
end
end L2
namespace L2
open PySem PySem.Spec PyProof.Rows
noncomputable def ub:R2:=λx y H Q=>match x,y with
 | .ref p,.int i=>(match H p with
  |some (.lst xs)=>(match mD xs i with
   |some v=>Q v (rm H p)
   |none=>False)
  |_=>False)
 |_,_=>False
section
variable{X:Cx}{es:List Expr}{e:Expr}{t:TA}{ti:TE}{pos p2:Pos}
theorem AF:vg X ub:=by
 intro value slice pins s σ H x y v u Q I rx ry h hsub
 unfold ub at h
 split at h
 case h_2=>exact h.elim
 rename_i p i
 split at h
 case h_2=>exact h.elim
 rename_i xs hp
 split at h
 case h_2=>exact h.elim
 rename_i v' ha
 have q:=h
 refine g9 (tQ value slice pins s σ H _ _ v u (λz H'=>z=v'/\H'=H) I rx ry ⟨p,xs,i,v',rfl,rfl,fb.of hp,ha,rfl,rfl⟩ hsub) λu s' ⟨z,H',I',r,e1,e2⟩=> ?_
 subst e1 e2
 exact⟨z,rm H' p,I'.rm (by rw[hp];exact aU),r,q⟩
theorem AY(ha:PA X es t)(hi:PE X e ti)(hs:qE e):PE X (.Subscript (.List es p2) e pos) (dD ub (eY t) ti):=BD AF (zu ha) hi hs
end
noncomputable def oI:R2:=λx y H Q=>match x,y with
 | .ref p,.int i=>(match H p with
  |some (.lst xs)=>(match mD xs i with
   |some v=>Q v H
   |none=>False)
  |some (.tup xs)=>(match mD xs i with
   |some v=>Q v H
   |none=>False)
  |_=>False)
 |_,_=>False
noncomputable def lM:List V->Hp->VK->Prop:=λxs H Q=>match xs with
 | [.ref p]=>(match H p with
  |some (.lst ys)=>Q (.int ys.length) H
  |some (.tup ys)=>Q (.int ys.length) H
  |_=>False)
 |_=>False
noncomputable def Am (K:PySem.W.Frag):R2:=λx y H Q=>match x,y with
 | .ref p,.int i=>∃xs,fb K H p xs/\(match mD xs i with
   |some v=>Q v H
   |none=>False)
 |_,_=>False
noncomputable def wz (K:PySem.W.Frag):List V->Hp->VK->Prop:=λxs H Q=>match xs with
 | [.ref p]=>∃ys,fb K H p ys/\Q (.int ys.length) H
 |_=>False
noncomputable def cInt:List V->Hp->VK->Prop:=λxs H Q=>match xs with
 | [.int i]=>Q (.int i) H
 | [.bl k]=>Q (.int (if k then 1 else 0)) H
 |_=>False
section
variable{X:Cx}
theorem Fl:vg X oI:=by
 intro value slice pins s σ H x y v u Q I rx ry h hsub
 unfold oI at h
 split at h
 case h_2=>exact h.elim
 split at h
 ·rename_i xs hp
  split at h
  case h_2=>exact h.elim
  rename_i v' ha
  exact tQ value slice pins s σ H _ _ v u Q I rx ry ⟨_,xs,_,v',rfl,rfl,fb.of hp,ha,h⟩ hsub
 ·rename_i xs hp
  split at h
  case h_2=>exact h.elim
  rename_i v' ha
  exact Cn value slice pins s σ H _ _ v u Q I rx ry ⟨_,xs,_,v',rfl,rfl,nh.of hp,ha,h⟩ hsub
 ·exact h.elim
theorem DS:vg X (Am X.K):=by
 intro value slice pins s σ H x y v u Q I rx ry h hsub
 unfold Am at h
 split at h
 case h_2=>exact h.elim
 obtain⟨xs,hp,h⟩:=h
 split at h
 case h_2=>exact h.elim
 rename_i v' ha
 exact tQ value slice pins s σ H _ _ v u Q I rx ry ⟨_,xs,_,v',rfl,rfl,hp,ha,h⟩ hsub
theorem DU:fh X (.builtin "len") lM:=lN.mono λxs H Q h=>by
 unfold lM at h
 split at h
 case h_2=>exact h.elim
 split at h
 ·rename_i ys hp;exact⟨_,ys,rfl,.inl (fb.of hp),h⟩
 ·rename_i ys hp;exact⟨_,ys,rfl,.inr (nh.of hp),h⟩
 ·exact h.elim
theorem B9:fh X (.builtin "len") (wz X.K):=lN.mono λxs H Q h=>by
 unfold wz at h
 split at h
 case h_2=>exact h.elim
 obtain⟨ys,hp,h⟩:=h
 exact⟨_,ys,rfl,.inl hp,h⟩
theorem Bn:fh X (.type "int") cInt:=xo.mono λxs H Q h=>by
 unfold cInt at h
 split at h
 ·exact .inl ⟨_,rfl,h⟩
 ·exact .inr ⟨_,rfl,h⟩
 ·exact h.elim
end
theorem dR{CX:we}{ca:Bool}{P:Program}{w:World}{K:PySem.W.Frag}{mg:Str->Option Value}{base:Heap}{N:List Str}{qual:Str}{scope:Scope}{f:Addr}{cd:Value}{A:Around}{outer:List Env}{s:Shared}{H:Hp}{E:XK}:
  (tL CX ca P w K mg base N qual scope f cd A outer s H E).K=K:=rfl
theorem iz.uG{ca:Bool}{k:Nat}{A:Around}{v:Value}(r:iz ca k A):iz false k (A.mark (some v)):=⟨λz=>Bool.noConfusion z,r.dp,r.un⟩
end L2
namespace L2
open PySem PySem.Spec PyProof.Rows
structure x8(K:PySem.W.Frag)(C:Addr):Prop where
 ga:PySem.W.findIn K (.ref C) "__getattribute__"=some (some (.builtin "BaseException.__getattribute__"))
 gt:PySem.W.findIn K (.ref C) "__getattr__"=some none
 cl:PySem.W.findIn K (.ref C) "__class__"=some (some (.builtin "object.__class__"))
 hn:PySem.W.specialIn K (.builtin "object.__class__") "__get__"=some (some (.builtin "getset_descriptor.__get__"))
 tk:PySem.W.takesIn K (.builtin "object.__class__")=some true
 mb:PySem.W.mroIn K C (.type "BaseException")=some true
 mo:PySem.W.mroIn K C (.type "object")=some true
section
open Builtin Builtin.ObjectAttr Builtin.Getset_descriptor
variable{prog:Program}{w:World}{A:Around}{E:Value->Shared->Prop}{s:Shared}{K:PySem.W.Frag}{a C:Addr}
theorem x8.cls(ki:x8 K C):∃cd,PySem.W.clsIn K C=some cd:=by
 have h:=ki.mo
 unfold PySem.W.mroIn at h
 cases q:PySem.W.clsIn K C with
 |none=>rw[q]at h;cases h
 |some cd=>exact⟨cd,rfl⟩
theorem Du{R:Result->Shared->Prop}{tp:Value}(X:K.In s.heap)(I:PySem.W.Looks (model prog w) s.heap (typeOf (.ref a)) (.ref C))(ki:x8 K C)(h:R (.ok (.ret (.ref C))) s):
  codeAny (model prog w) A (.call (.builtin "getset_descriptor.__get__") ⟨[.builtin "object.__class__",.ref a,tp],[]⟩) R s:=by
 obtain⟨hh,g,dr,t,os⟩:=s
 have L1:=PySem.W.looks_mroIn (M:=model prog w) X ki.mo
 refine codeAny_call_builtin PySem.W.KF.slot_gs.plain PySem.W.KF.entry_gs (PySem.W.KF.slot_gs.check _ _ _ _ _ _ _ _ PySem.W.KF.type_class (PySem.W.KF.args_gs _ _ _) ?_)
 unfold Builtin.«getset_descriptor.__get__» descrGet;rw[PySem.W.dga_obj];refine wpAny_bind (wpAny_pure ?_)
 unfold descrGetter descrCheckInstance descrNameAndClass isInstance;simp only[PySem.W.KF.owner_class];repeat lk
 refine⟨Code.quiet_builtin _ (by decide+kernel),codeAny_builtin PySem.W.KF.entry_class ?_⟩;unfold Builtin.«object.__class__» shownTypeOf;repeat lk
 exact h
theorem zV{tk:Tok}{Q:Fin->Shared->Prop}(X:K.In s.heap)(I:PySem.W.Looks (model prog w) s.heap (typeOf (.ref a)) (.ref C))(ki:x8 K C)(h:Q (.done (.ret (.ref C))) s):
  wpAny (model prog w) A (Builtin.«object.__getattribute__» ⟨[.ref a,.str "__class__" tk],[]⟩) Q E s:=by
 obtain⟨hh,g,d,t,os⟩:=s
 have L1:PySem.W.Looks (model prog w) hh (find (.ref a) (.ref C) "__class__") (.bind (.builtin "getset_descriptor.__get__") (.builtin "object.__class__")):=by
  have LA:=bY (M:=model prog w) X ki.cl
  have LB:PySem.W.Looks (model prog w) hh (getOf (some (.builtin "object.__class__"))) (some (.builtin "getset_descriptor.__get__")):=PySem.W.looks_specialIn X ki.hn
  have LC:=PySem.W.looks_takesIn (M:=model prog w) X ki.tk
  refine LA.andThen (LB.andThen ?_)
  exact(show PySem.W.Looks (model prog w) hh (dataDescriptor? (some (.builtin "object.__class__")) (some (.builtin "getset_descriptor.__get__"))) (some (.builtin "getset_descriptor.__get__",.builtin "object.__class__")) from LC.andThen .now).andThen (PySem.W.Looks.tag .now)
 unfold Builtin.«object.__getattribute__»
 refine wpAny_bind (m:=slotArgs _ _ _) (wpAny_pure ?_)
 refine wpAny_bind (m:=attrName _) (wpAny_pure ?_)
 refine wpAny_bind (I.at (wpAny_bind (L1.at ?_)))
 show wpAny _ _ (bindTo _ _ _ _) _ _ _
 show wpAny _ _ (holding [_] (call _ [_,.ref a,.ref C])>>=ret) _ _ _
 exact wpAny_bind (wpAny_holding (wpAny_call (Du X I ki (wpAny_pure h))))
theorem Bh{tk:Tok}{R:Result->Shared->Prop}(X:K.In s.heap)(I:PySem.W.Looks (model prog w) s.heap (typeOf (.ref a)) (.ref C))(ki:x8 K C)(h:R (.ok (.ret (.ref C))) s):
  codeAny (model prog w) A (.call (.builtin "BaseException.__getattribute__") ⟨[.ref a,.str "__class__" tk],[]⟩) R s:=by
 obtain⟨hh,g,d,t,os⟩:=s
 have L1:=PySem.W.looks_mroIn (M:=model prog w) X ki.mb
 refine codeAny_call_builtin PySem.F.attr_ValueError.ga.plain PySem.F.entry_bexc_ga ?_
 have hk:builtinKind "BaseException.__getattribute__"=some .slot:=by decide+kernel
 have hsplit:splitId "BaseException.__getattribute__"=some ("BaseException","__getattribute__"):=by decide+kernel
 have ha:=PySem.F.args_bexc_ga (.ref a) (.str "__class__" tk)
 simp only[checkBuiltinCall,hk,hsplit]
 refine wpAny_bind (wpAny_bind (I.at (L1.at ?_)))
 rw[if_neg (by decide)]
 unfold argsOk at ha
 exact wpAny_of_eq (a:=()) ha (zV X I ki h)
theorem Bg{Q:Option Value->Shared->Prop}(X:K.In s.heap)(I:PySem.W.Looks (model prog w) s.heap (typeOf (.ref a)) (.ref C))(ki:x8 K C)(h:Q (some (.ref C)) {s with toks:=s.toks+1}):
  wpAny (model prog w) A (getAttr? (.ref a) "__class__") Q E s:=by
 obtain⟨hh,g,d,t,os⟩:=s
 have L1:=bY (M:=model prog w) X ki.ga
 have L2:=bY (M:=model prog w) X ki.gt
 unfold getAttr? getAttrBy? getAttrBy
 refine wpAny_bind (wpAny_mkText (wpAny_bind (wpAny_attempt (wpAny_holding (wpAny_bind (I.at (wpAny_bind (L1.at ?_))))))))
 show wpAny _ _ (getAttrByItsOwn _ _ _ _ _ _) _ _ _
 unfold getAttrByItsOwn
 refine wpAny_bind (m:=hookBefore _) ?_
 show wpAny _ _ (typeLookup (.ref C) "__getattr__") _ _ _
 refine L2.at (wpAny_bind (wpAny_attempt (wpAny_holding ?_)))
 show wpAny _ _ (boundAndCalled _ _ _) _ _ _
 unfold boundAndCalled
 refine wpAny_bind (wpAny_of_eq (PySem.F.attr_ValueError.ga.bind _) ?_)
 refine wpAny_call (Bh X I ki ?_)
 exact PySem.W.handed_on rfl (wpAny_pure h)
theorem uK(ki:x8 K C):PySem.W.KitX K (.ref a) (.ref C) (λh=>∃o vs,h.get? a=some o/\o.cls= .ref C/\o.data= .fields vs) where
 ty:=λM h _ p=>rW p
 it:=λ_ _ X _=>by
  obtain⟨cd,hc⟩:=ki.cls
  unfold PySem.W.clsIn at hc
  split at hc
  ·rename_i c' d' cd' sl' ho
   intro A' Q' E' s' k q;unfold isType loadHead;exact wpAny_bind (wpAny_loadPart (k _ _ (X _ _ ho)) (wpAny_pure q))
  ·cases hc
 ne:=λh tp dd its n sl X htp=>by
  obtain⟨cd,hc⟩:=ki.cls
  refine Bool.eq_false_iff.mpr λq=> ?_
  have e:C=tp:=Value.ref.inj (beq_iff_eq.mp q)
  subst e
  unfold PySem.W.clsIn at hc
  split at hc
  ·rename_i c' d' cd' sl' ho;have z:=(X _ _ ho).symm.trans htp;cases z
  ·cases hc
 ca:=λX p k=>Bg X (rW p) ki k
end
structure F3(K:PySem.W.Frag)(C:Addr):Prop where
 cl:ET K C
 ha:PySem.W.findIn K (.ref C) "__class__"=some (some (.builtin "object.__class__"))
 hn:PySem.W.specialIn K (.builtin "object.__class__") "__get__"=some (some (.builtin "getset_descriptor.__get__"))
 tk:PySem.W.takesIn K (.builtin "object.__class__")=some true
 hm:PySem.W.mroIn K C (.type "object")=some true
noncomputable def uq (H:Hp):V->Option Value
 | .gm=>some (.type "NoneType")
 | .bl _=>some (.type "bool")
 | .int _=>some (.type "int")
 | .str _=>some (.type "str")
 | .ref a=>match H a with
  |some (.lst _)=>some (.type "list")
  |some (.ro _ (.lst _))=>some (.type "list")
  |some (.tup _)=>some (.type "tuple")
  |some (.dK _)=>some (.type "dict")
  |some (.ins C _ _)=>some (.ref C)
  |some (.exc c)=>some c
  |_=>none
 |_=>none
noncomputable def my (K:PySem.W.Frag) (H:Hp):V->Prop
 | .ref a=>match H a with
  |some (.ins C _ _)=>F3 K C
  |some (.exc c)=>∃C,c= .ref C/\x8 K C
  |_=>True
 |_=>True
noncomputable def lq (K:PySem.W.Frag) (t:Value):V->Option Bool
 | .ty n=>PySem.W.kitOne K t (.type n)
 | .ref C=>PySem.W.kitOne K t (.ref C)
 |_=>none
noncomputable def l7 (K:PySem.W.Frag):List V->Hp->VK->Prop:=λxs H Q=>match xs with
 | [x,c]=>(match uq H x with
  |some t=>my K H x/\(match lq K t c with
   |some b=>Q (.bl b) H
   |none=>False)
  |none=>False)
 |_=>False
theorem yu{X:Cx}:fh X (.builtin "isinstance") (l7 X.K):=by
 intro pins s σ H xs us Q I r h
 unfold l7 at h
 split at h
 case h_2=>exact h.elim
 rename_i x c
 obtain⟨u,w',rfl,rx,rc⟩:=vals2 r
 split at h
 case h_2=>exact h.elim
 rename_i t ht
 obtain⟨ok,h⟩:=h
 split at h
 case h_2=>exact h.elim
 rename_i b hk
 have q:=h
 have hc:PySem.W.kitOne X.K t w'=some b:=by
  cases c<;>first|(cases (show w'=Value.type _ from rc);exact hk)|(cases (show w'=Value.ref _ from rc);exact hk)|cases hk
 have fin:∀tk,EP X pins σ Q (.bool b) {s with toks:=tk}:=λtk=>⟨.bl b,H,I.tok tk,rfl,q⟩
 cases x with
 |gm=>cases ht;exact gX I rx .gm hc fin
 |bl y=>cases ht;exact gX I rx (.bl y) hc fin
 |int i=>cases ht;exact gX I rx (.int i) hc fin
 |str y=>cases ht;exact gX I rx (.str y) hc fin
 |byt y=>cases ht
 |Ce y=>cases ht
 |ty n=>cases ht
 |ref a=>
  unfold uq at ht
  unfold my at ok
  dsimp only at ht ok
  cases e:H a with
  |none=>rw[e]at ht;cases ht
  |some o=>
   rw[e]at ht ok
   cases o with
   |lst xs=>cases ht;exact gX I rx (.lst e) hc fin
   |tup xs=>cases ht;exact gX I rx (.tup e) hc fin
   |dK kvs=>cases ht;exact gX I rx (.dK e) hc fin
   |ins C dx fs=>cases ht;exact gX I rx (.ins e ok.cl ok.ha ok.hn ok.tk ok.hm) hc fin
   |ro ob u=>
    cases u with
    |lst xs=>cases ht;exact gX I rx (.ro e) hc fin
    |_=>cases ht
   |exc c=>
    cases ht
    obtain⟨C,rfl,ki⟩:=ok
    cases (show u=Value.ref a from rx)
    exact ba (uK ki) I.rF (show eh X.prog X.w H s.heap a (.exc (.ref C)) from I.dm a _ e) hc (λz=>nomatch z) fin
   |_=>cases ht
theorem v9:(0<=sizeLine)=True:=eq_true (by decide)
theorem ou:(1<=sizeLine)=True:=eq_true (by decide)
theorem x_:(2<=sizeLine)=True:=eq_true (by decide)
theorem E6:(3<=sizeLine)=True:=eq_true (by decide)
theorem FP:(4<=sizeLine)=True:=eq_true (by decide)
theorem FY:(5<=sizeLine)=True:=eq_true (by decide)
theorem F8:(6<=sizeLine)=True:=eq_true (by decide)
theorem FQ:(7<=sizeLine)=True:=eq_true (by decide)
theorem FZ:(9<=sizeLine)=True:=eq_true (by decide)
theorem zL:(10<=sizeLine)=True:=eq_true (by decide)
theorem FO:(16<=sizeLine)=True:=eq_true (by decide)
theorem tY(a b:String):Str.ofString a++Str.ofString b=Str.ofString (a++b):=by
 rw[Str.ofString_eq_toList,Str.ofString_eq_toList,Str.ofString_eq_toList]
 refine congrArg Str.mk ?_
 simp
end L2
namespace L2
open PySem PySem.Spec PyProof.Rows
noncomputable def notStar:Expr->Bool
 | .Starred _ _=>false
 |_=>true
theorem k8{e:Expr}{rest:List Expr}{env:Env}(h:notStar e=true):starEach (e::rest) env=(false,eval e env)::starEach rest env:=by
 cases e<;>first|rfl|cases h
theorem kE{env:Env}{pos:Pos}:∀{es:List Expr},es.all notStar=true->(backTo pos (starEach es env)).any (·.1)=false
 | [],_=>rfl
 |e::es,h=>by
  rw[aP,aw]at h
  rw[k8 h.1]
  show(false ||(backTo pos (starEach es env)).any (·.1))=false
  rw[kE h.2];rfl
section
variable{X:Cx}{ca:Bool}{k:Nat}{f C:Addr}{fd:FuncData}{ps:List Str}{sp:Sp}{E:St->XK}{x m:Str}{p pos apos np cpos:Pos}{e o:Expr}{es:List Expr}{te ta:TE}{t:TA}{id T:String}{r:List V->Hp->VK->Prop}
theorem FC(ha:PE X e te)(hr:PA X es t)(h:notStar e=true:=by rfl):PA X (e::es) (cB te t):=t9 ha hr (k8 h)
theorem zj(F:eg X.prog X.w X.K X.mg X.base (kF X.prog X.w) ca k f fd ps sp)(hr:iz ca k X.A)(hg:Gl X x)(hm:X.mg x=some (.ref f))(hk:PySem.W.keepIn X.K (.ref f)=true)(hb:Binds X.K fd ps [])(hx:Exc X E)
  (ha:PA X (e::es) t) (hdb:(x==("__debug__":Str))=false:=by decide) (h:(e::es).all notStar=true:=by rfl):PE X (.Call (.Name x p) (e::es) [] pos) (cN sp E t):=
 zi F hr hg hm hk hb hx ha hdb (k8 (by rw[aP,aw]at h;exact h.1)) (kE (by rw[aP,aw]at h;exact h.2))
theorem xX(hx:Exc X E)(hg:Gl X x)(hm:X.mg x=some (.ref C))(hq:vi X.K C)(hc:X.calm=true)(ha:PA X (e::es) t)(h:(e::es).all notStar=true:=by rfl)(hdb:(x==("__debug__":Str))=false:=by decide):
  PS X (.Raise (some (.Call (.Name x np) (e::es) [] cpos)) none pos) (gA C E t):=
 zE hx hg hm hq hc ha (k8 (by rw[aP,aw]at h;exact h.1)) (kE (by rw[aP,aw]at h;exact h.2)) hdb
theorem xR(hc:fh X (.builtin id) r)(hg:Gl X x)(hm:X.mg x=none)(hv:bootBuiltins x=some (.builtin id))(ha:PA X (e::es) t)(hn:x≠"__name__":=by decide)(hdb:(x==("__debug__":Str))=false:=by decide)
  (h:(e::es).all notStar=true:=by rfl):PE X (.Call (.Name x p) (e::es) [] pos) (ja r t):=
 zh hc hg hm hv ha hn hdb (k8 (by rw[aP,aw]at h;exact h.1)) (kE (by rw[aP,aw]at h;exact h.2))
theorem vU(hc:fh X (.type T) r)(hg:Gl X x)(hm:X.mg x=none)(hv:bootBuiltins x=some (.type T))(ha:PA X (e::es) t)(hn:x≠"__name__":=by decide)(hdb:(x==("__debug__":Str))=false:=by decide)
  (h:(e::es).all notStar=true:=by rfl):PE X (.Call (.Name x p) (e::es) [] pos) (ja r t):=
 xS hc hg hm hv ha hn hdb (k8 (by rw[aP,aw]at h;exact h.1)) (kE (by rw[aP,aw]at h;exact h.2))
end
end L2
namespace L2
open PySem PySem.Spec PyProof.Rows
noncomputable def fK (J:It) (g:TG) (tb:TS) (D:Ends) (σ:St) (H1:Hp):Prop:=∃W:Nat->Nat->St->Hp->Prop,(∃m,W 0 m σ H1)/\∀i m σ H,W i m σ H->
 (J.stop i H/\D.nx σ H)∨(J.go i H/\∃N:St->Hp->Prop,(∀σ' H',N σ' H'->∃m',m'<m/\W (i+1) m' σ' H')/\∀x H',J.Bi i H x H'->g x σ H' λσ2 H2=>tb {D with nx:=N,ct:=N,bk:=D.nx} σ2 H2)
theorem mi{wi:TI}{g:TG}{tb:TS}:Dp wi g tb=λD σ H=>wi σ H λJ H1=>fK J g tb D σ H1:=rfl
theorem fK.range{lo:Int}{n:Nat}{g:TG}{tb:TS}{D:Ends}{σ:St}{H:Hp}(Pv:Nat->St->Hp->Prop)(h0:Pv 0 σ H)
  (hs:∀i σ H,i<n->Pv i σ H->g (.int (lo+i)) σ H λσ2 H2=>tb {D with nx:=Pv (i+1),ct:=Pv (i+1),bk:=D.nx} σ2 H2) (hd:∀σ H,Pv n σ H->D.nx σ H):fK (zX lo n) g tb D σ H:=
 xq Pv h0 hs hd
theorem fK.list{K:PySem.W.Frag}{a:Addr}{xs:List V}{g:TG}{tb:TS}{D:Ends}{σ:St}{H:Hp}(Pv:Nat->St->Hp->Prop)(h0:Pv 0 σ H)(hl:∀i σ H,i<=xs.length->Pv i σ H->fb K H a xs)
  (hs:∀i x σ H,xs[i]? =some x->Pv i σ H->g x σ H λσ2 H2=>tb {D with nx:=Pv (i+1),ct:=Pv (i+1),bk:=D.nx} σ2 H2) (hd:∀σ H,Pv xs.length σ H->D.nx σ H):fK (yb K a) g tb D σ H:=
 yI Pv h0 hl hs hd
theorem fK.tup{K:PySem.W.Frag}{a:Addr}{xs:List V}{g:TG}{tb:TS}{D:Ends}{σ:St}{H:Hp}(Pv:Nat->St->Hp->Prop)(h0:Pv 0 σ H)(hl:∀i σ H,i<=xs.length->Pv i σ H->nh K H a xs)
  (hs:∀i x σ H,xs[i]? =some x->Pv i σ H->g x σ H λσ2 H2=>tb {D with nx:=Pv (i+1),ct:=Pv (i+1),bk:=D.nx} σ2 H2) (hd:∀σ H,Pv xs.length σ H->D.nx σ H):fK (EU K a) g tb D σ H:=
 AA Pv h0 hl hs hd
theorem oz{α:Type}{xs:List α}{j:Nat}:mD xs (j:Int)=xs[j]? :=by
 cases h:xs[j]? with
 |some v=>exact oA h
 |none=>
  have hl:xs.length<=j:=List.getElem?_eq_none_iff.mp h
  unfold mD xy
  rw[if_pos (by omega),if_neg (by omega)]
  rfl
theorem km{α:Type}{xs:List α}:mD xs 0=xs[0]? :=oz (j:=0)
theorem Bl{α:Type}{xs:List α}:mD xs 1=xs[1]? :=oz (j:=1)
theorem yg{α:Type}{xs:List α}:mD xs 2=xs[2]? :=oz (j:=2)
theorem DG{α:Type}{xs:List α}:mD xs 3=xs[3]? :=oz (j:=3)
theorem Ck{n:Nat}{i:Int}(h0:0<=i)(h1:i<n):xy n i=some i.toNat:=by
 unfold xy
 rw[if_pos h0,if_pos h1]
theorem BU{α:Type}{xs:List α}{i:Int}(h0:0<=i)(h1:i<xs.length):mD xs i=xs[i.toNat]? :=by
 unfold mD
 rw[Ck h0 h1];rfl
noncomputable def Ao:R2:=λx y H Q=>match x,y with
 | .ref l,.int k=>(match H l with
  |some (.lst xs)=> -(2^63)<=k/\k<2^63/\xs.length*k.toNat<=sizeLine/\∀p,H p=none->Q (.ref p) (upd H p (.lst (List.replicate k.toNat xs).flatten))
  |_=>False)
 |_,_=>False
noncomputable def xm:V->Option Int->Option Int->Hp->VK->Prop:=λx lo hi H Q=>match x with
 | .ref a=>(match H a with
  |some (.lst xs)=>∀p,H p=none->Q (.ref p) (upd H p (.lst (nY xs lo hi)))
  |_=>False)
 |_=>False
noncomputable def iO (t:TE):TO:=λσ H Q=>t σ H λx H1=>match x with
 | .int i=>Q (some i) H1
 |_=>False
noncomputable def kK:V->List V->Hp->VK->Prop:=λx vs H Q=>match x,vs with
 | .ref l,[y]=>(match H l with
  |some (.lst xs)=>xs.length<sizeLine/\Q .gm (upd H l (.lst (xs++[y])))
  |_=>False)
 |_,_=>False
noncomputable def vo (r:V->List V->Hp->VK->Prop) (to:TE) (t:TA):TE:=λσ H Q=>to σ H λx H1=>match x with
 | .ref a=>(match H1 a with
  |some (.lst _)=>t σ H1 λxs H2=>r x xs H2 Q
  |_=>False)
 |_=>False
noncomputable def Cr:V->Option Key
 | .int n=>some (.inl n)
 | .str x=>some (.inr x)
 |_=>none
noncomputable def yi (td ty tv:TE):TS:=λD σ H=>tv σ H λv H1=>td σ H1 λx H2=>ty σ H2 λy H3=>match x with
 | .ref a=>(match H3 a,Cr y with
  |some (.dK kvs),some k=>kvs.length<sizeLine/\D.nx σ (upd H3 a (.dK (putK kvs k v)))
  |_,_=>False)
 |_=>False
theorem AN{y:V}{k:Key}(h:Cr y=some k):y=kV k:=by
 cases y<;>cases h<;>rfl
section
variable{X:Cx}{e o i f' value:Expr}{f m:Str}{pos pos' apos cpos p2:Pos}{ta tv td ty tx te:TE}{t:TA}{lo hi:Option Expr}{tl th:TO}
theorem PO.mono{e:Option Expr}{t t':TO}(h:PO X e t)(k:∀σ H Q,t' σ H Q->t σ H Q):PO X e t':=λpins s σ H Q I q=>h pins s σ H Q I (k _ _ _ q)
theorem wg.mono{r r':V->Option Int->Option Int->Hp->VK->Prop}(h:wg X r)(k:∀x lo hi H Q,r' x lo hi H Q->r x lo hi H Q):wg X r':=λpins s σ H x v vl vu lo hi sl Q I rx hs pl pu q=>h pins s σ H x v vl vu lo hi sl Q I rx hs pl pu (k _ _ _ _ _ q)
theorem D2:iy X (binaryOp .Mult) Ao:=CS.mono λx y H Q h=>by
 unfold Ao at h
 split at h
 case h_2=>exact h.elim
 split at h
 case h_2=>exact h.elim
 rename_i xs hp
 exact⟨_,_,xs,rfl,rfl,hp,h.1,h.2.1,h.2.2.1,h.2.2.2⟩
theorem Fo:wg X xm:=Bc.mono λx lo hi H Q h=>by
 unfold xm at h
 split at h
 case h_2=>exact h.elim
 split at h
 case h_2=>exact h.elim
 rename_i xs hp
 exact⟨_,xs,rfl,fb.of hp,h⟩
theorem Cb(h:PE X e te):PO X (some e) (iO te):=by
 intro pins s σ H Q I hw
 rw[evalPart_some]
 refine g9 (h pins s σ H _ I hw) λu s1 ⟨x,H1,I1,r1,q1⟩=> ?_
 try dsimp only at q1
 split at q1
 case h_2=>exact q1.elim
 rename_i i
 obtain⟨t,rfl⟩:=r1
 exact⟨some i,H1,I1,.int i t,q1⟩
theorem yk:BK X "list.append" kK:=λpins s σ H x xs v us Q I rx rxs h=>by
 unfold kK at h
 split at h
 case h_2=>exact h.elim
 split at h
 case h_2=>exact h.elim
 rename_i ys hp
 exact xK pins s σ H _ _ v us Q I rx rxs ⟨_,ys,_,rfl,rfl,hp,h.1,h.2⟩
theorem B2(hu:X.A.units+1<cLine)(ho:PE X o td)(hi:PE X i ty)(hv:PE X value tv)(hs:swapsWith value (some (.Subscript o i pos')) pos.line X.env=pure false):
  PS X (.Assign [.Subscript o i pos'] value pos) (yi td ty tv):=by
 intro pins s σ H D I h
 refine wpAny_Assign_Subscript (g9 (hv pins s σ H _ I h) λr s1 ⟨v,H1,I1,rv,q1⟩=>g9 (ho pins s1 σ H1 _ I1 q1) λu s2 ⟨x,H2,I2,rx,q2⟩=>g9 (hi pins s2 σ H2 _ I2 q2) λiv s3 ⟨y,H3,I3,ry,q3⟩=> ?_) hs
 try dsimp only at q3
 split at q3
 case h_2=>exact q3.elim
 rename_i a _
 split at q3
 case h_2=>exact q3.elim
 rename_i kvs k ea ek
 have ey:=AN ek
 subst ey
 obtain rfl:u=Value.ref a:=rx
 exact xp hu I3 (xh.k ea q3.1) ry rv λs4 I4=>⟨σ,_,I4,q3.2⟩
end
section
variable{X:Cx}{e o:Expr}{es:List Expr}{to:TE}{t:TA}{apos cpos:Pos}{r:V->List V->Hp->VK->Prop}
theorem Fh{id:String}{name:Str}(slot:Slot "list" name id)(hty:typeOf (.builtin id)=pure (.type "method_descriptor"))(hm:yc X id r)(ho:PE X o to)(ha:PA X (e::es) t)(hns:(e::es).all notStar=true:=by rfl)
  (hbase:attributeBase o name X.env (eval o X.env)=eval o X.env:=by rfl)
  (hfew:((backTo cpos (starEach (e::es) X.env)).all (λx=> !x.1)&&(backToKw cpos (keywordEach [] X.env)).all (λx=>x.1.isSome)
   &&decide ((e::es).length+([]:List Keyword).length+(if ([]:List Keyword).isEmpty then 0 else 1)<30))=true:=by rfl)
  (hline:(apos.endLine==cpos.line)=true:=by rfl):PE X (.Call (.Attribute o name apos) (e::es) [] cpos) (vo r to t):=by
 intro pins s σ H Q I h
 have hs:starEach (e::es) X.env=(false,eval e X.env)::starEach es X.env:=k8 (by rw[aP,aw]at hns;exact hns.1)
 have hplain:(backTo cpos (starEach es X.env)).any (·.1)=false:=kE (by rw[aP,aw]at hns;exact hns.2)
 refine wpAny_Call_method_late hbase hfew hline rfl (g9 (ho pins s σ H _ I h) λv s1 ⟨x,H1,I1,r1,q1⟩=> ?_)
 try dsimp only at q1
 split at q1
 case h_2=>exact q1.elim
 rename_i a
 split at q1
 case h_2=>exact q1.elim
 rename_i ys ea
 have ty:E9 X.K "list" (.ref a) H1:= .inl ⟨rfl,ys,fb.of ea⟩
 obtain⟨h1,h2⟩:=wc I1 r1 ty
 refine⟨"list",id,PySem.F.plainAttrs_list,slot,hty,h1,h2,?_⟩
 have hA:=ha cpos pins s1 σ H1 _ I1 q1
 rw[hs]at hA⊢
 refine Calls.callWith_builtin (by show(false ||(backTo cpos (starEach es X.env)).any (·.1))=false;rw[hplain]<;>rfl) (Calls.evalArgs_plain ?_)
 exact g9 hA λus s2 ⟨vs,H2,I2,r2,q2⟩=>hm pins s2 σ H2 _ vs v us Q I2 r1 r2 q2
end
section
variable{X:Cx}{ca:Bool}{k:Nat}{f C:Addr}{fd:FuncData}{ps:List Str}{sp:Sp}{E:St->XK}{m:Str}{pos apos:Pos}{e o:Expr}{es:List Expr}{ta:TE}{t:TA}
end
theorem cq.upd{H:Hp}{p:Addr}{o:HO}(h:H p=none):cq H (L2.upd H p o):=λb u e=>by rw[cO (du e h)];exact e
theorem cq.own{H:Hp}{p dx:Addr}{o u:HO}(h1:H p=none)(h2:H dx=none):cq H (L2.upd (L2.upd H dx u) p o):=λb w e=>by rw[cO (du e h1),cO (du e h2)];exact e
theorem cq.put{H H':Hp}{q:Addr}{o:HO}(s:cq H H')(h:H q=none):cq H (L2.upd H' q o):=λb u e=>by rw[cO (du e h)];exact s b u e
end L2
namespace L2
open PySem PySem.Spec PyProof.Rows
section
variable{prog:Program}{w:World}{A:Around}{R:Result->Shared->Prop}{s:Shared}
theorem mJ{elt target iter:Expr}{ifs:List Expr}{scope:Scope}{pos:Pos}{it acc:Value}{env:Env}(I:Nat->Shared->Prop)
  (turn:∀n s,I n s->wpAny (model prog w) A (pyNext it) (λr s₁=>match r with
   |none=>R (.ok .next) s₁
   |some v=>wpAny (model prog w) A (letOwnedTupleGo target it v) (λ_ s₁'=>wpAny (model prog w) A (assign target env v) (λ_ s₂=>
     wpAny (model prog w) A (forIn ifs true λc r=>if r=true then do let ok←isTrue c env (eval c env);pure (ForInStep.yield ok) else pure (ForInStep.yield r)) (λok s₃=>
      if ok=true then wpAny (model prog w) A (eval elt env) (λx s₄=>
       wpAny (model prog w) A (call (.builtin "list.append") [acc,x]) (λ_ s₅=>∃m,m<n/\I m s₅) (λ_ _=>False) s₄) (λ_ _=>False) s₃
      else∃m,m<n/\I m s₃) (λ_ _=>False) s₂) (λ_ _=>False) s₁') (λ_ _=>False) s₁) (λ_ _=>False) s)
  (n:Nat) (h:I n s):
  codeAny (model prog w) A (.compLoop (.ListComp elt [⟨target,iter,ifs,0⟩] scope pos) 0 it acc env) R s:=by
 refine codeAny_loop rfl I (λn s hI=> ?_) n h
 show wpAny _ A ((compTurn (.ListComp elt [⟨target,iter,ifs,0⟩] scope pos) 0 it acc env).onRaise (λx=>do noteFrame x env;theTreesLotGoes x)) _ _ s
 refine wpAny_noted ?_
 rw[compTurn_list]
 refine wpAny_bind (wpAny_standAt (wpAny_bind (wpAny_mono (turn n s hI) (λr s₁ h₁=> ?_) λ_ _ h'=>h'.elim)))
 cases r with
 |none=>exact wpAny_pure h₁
 |some v=>
  refine wpAny_bind (wpAny_mono h₁ (λ_ s₁' h₁'=> ?_) λ_ _ h'=>h'.elim)
  refine wpAny_bind (wpAny_mono h₁' (λ_ s₂ h₂=>wpAny_bind (wpAny_mono h₂ (λok s₃ h₃=> ?_) λ_ _ h'=>h'.elim)) λ_ _ h'=>h'.elim)
  cases ok with
  |false=>exact wpAny_pure ⟨rfl,h₃⟩
  |true=>
   exact wpAny_bind (wpAny_bind (wpAny_mono h₃ (λx s₄ h₄=>wpAny_bind (wpAny_mono h₄ (λ_ s₅ h₅=>wpAny_pure (wpAny_pure ⟨rfl,h₅⟩)) λ_ _ h'=>h'.elim)) λ_ _ h'=>h'.elim))
end
noncomputable def q_ (env:Env) (cs:List (Str×Addr)):List (Str×NameKind)->List (Str×Addr)
 | []=>cs
 |(n,k)::r=>q_ env (if k== .free then(n,(env.cells.lookup n).getD 0)::cs else cs) r
noncomputable abbrev ra (scope:Scope) (env:Env):List (Str×Addr):=q_ env [] scope.names
theorem rb{scope:Scope}{env:Env}(h:∀y∈scope.names,y.2= .free->∃c,env.cells.lookup y.1=some c):closureFor scope env=pure (ra scope env):=by
 have go:∀(l:List (Str×NameKind)) (cs:List (Str×Addr)),(∀y∈l,y.2= .free->∃c,env.cells.lookup y.1=some c)->
   (forIn l cs λ(x:Str×NameKind) (r:List (Str×Addr))=>match x with
    |(name,kind)=>if (kind== .free)=true then do let c←cellOf env name;pure (ForInStep.yield ((name,c)::r)) else pure (ForInStep.yield r):Sem (List (Str×Addr)))=pure (q_ env cs l):=by
  intro l
  induction l with
  |nil=>intro cs _;rfl
  |cons y l ih=>
   intro cs hy
   obtain⟨n,k⟩:=y
   rw[List.forIn_cons]
   cases hk:(k==NameKind.free) with
   |true=>
    obtain⟨c,hc⟩:=hy (n,k) aA (by simpa using hk)
    have e:cellOf env n=pure c:=by unfold cellOf;rw[show env.cells.lookup n=some c from hc]
    simp only[if_true,e,pure_bind,q_,hk,show env.cells.lookup n=some c from hc,Option.getD_some]
    exact ih _ λz hz=>hy z (aD _ hz)
   |false=>
    simp only[if_false,aN,pure_bind,q_,hk]
    exact ih _ λz hz=>hy z (aD _ hz)
 unfold closureFor
 have:=go scope.names [] h
 simp only[bind_pure_comp,pure_bind]at this⊢
 first|exact this|(rw[this];rfl)|(simpa using this)
theorem nX{env:Env}{y:Str}{c:Addr}:∀{l:List (Str×NameKind)} {cs:List (Str×Addr)},(q_ env cs l).lookup y=some c->cs.lookup y=some c∨((y,NameKind.free)∈l/\c=(env.cells.lookup y).getD 0)
 | [],cs,h=> .inl h
 |(n,k)::r,cs,h=>by
  rcases nX (l:=r) h with h1|⟨h1,e⟩
  ·cases hk:(k==NameKind.free) with
   |true=>
    rw[hk,if_pos rfl,bp]at h1
    cases hy:y==n with
    |true=>
     rw[hy]at h1
     have e1:y=n:=by simpa using hy
     have e2:k= .free:=by simpa using hk
     subst e1 e2
     exact .inr ⟨aA,(aW h1).symm⟩
    |false=>rw[hy]at h1;exact .inl h1
   |false=>rw[hk]at h1;exact .inl (by simpa using h1)
  ·exact .inr ⟨aD _ h1,e⟩
theorem pB{env:Env}{y:Str}:∀{l:List (Str×NameKind)} {cs:List (Str×Addr)},((y,NameKind.free)∈l∨∃c,cs.lookup y=some c)->∃c,(q_ env cs l).lookup y=some c
 | [],cs,h=>h.elim (λz=>by cases z) id
 |(n,k)::r,cs,h=>by
  refine pB (l:=r) ?_
  rcases h with h|⟨c,h⟩
  ·rcases List.mem_cons.mp h with e|h
   ·cases e
    exact .inr ⟨(env.cells.lookup y).getD 0,by rw[if_pos (by decide),bp];simp⟩
   ·exact .inl h
  ·refine .inr ?_
   cases hk:(k==NameKind.free) with
   |false=>exact⟨c,by simpa using h⟩
   |true=>
    rw[if_pos rfl,bp]
    cases hy:y==n with
    |true=>exact⟨_,rfl⟩
    |false=>exact⟨c,h⟩
theorem lookup_mem{y:Str}{k:NameKind}:∀{l:List (Str×NameKind)},l.lookup y=some k->(y,k)∈l
 | [],h=>by cases h
 |(n,k')::r,h=>by
  rw[bp]at h
  cases hy:y==n with
  |true=>
   rw[hy]at h
   have e1:y=n:=by simpa using hy
   subst e1
   cases h
   exact aA
  |false=>rw[hy]at h;exact aD _ (lookup_mem h)
structure ix(fsc scope:Scope)(x:List Str)(N2:List Str):Prop where
 kind:scope.kind= .function
 Eg:fsc.kind= .function
 own:∀z∈x,scope.names.lookup z=some .local
 vO:∀y∈scope.names,y.2≠ .cell
 locs:∀y∈scope.names,y.2= .local->scope.names.lookup y.1=some .local
 EN:∀y∈scope.names,y.2= .free->¬y.1∈x
 cells:∀y∈scope.names,y.2= .free->fsc.names.lookup y.1=some .cell
 nd:(x++N2).Nodup
 kG:∀y∈N2,scope.names.lookup y=some .free
theorem pj{env:Env}(hk:env.scope.kind= .function):∀{names:List (Str×NameKind)} {y:Str},names.lookup y=some .free->env.kindOf y=some .cell->
  (names.map λ(n,k)=>if (k==NameKind.free&&env.scope.kind== .function&&env.kindOf n==some .cell) then(n,NameKind.cell) else(n,k)).lookup y=some .cell
 | [],_,h,_=>by simp at h
 |(n,k)::r,y,h,hc=>by
  have ih:= @pj env hk r y
  show List.lookup y ((if (k==NameKind.free&&env.scope.kind== .function&&env.kindOf n==some .cell)=true then(n,NameKind.cell) else(n,k))::_)=_
  cases hy:y==n with
  |true=>
   have e1:y=n:=by simpa using hy
   subst e1
   simp only[bp,hy]at h
   cases h
   simp[hk,hc]
  |false=>
   simp only[bp,hy]at h
   by_cases hq:(k==NameKind.free&&env.scope.kind== .function&&env.kindOf n==some .cell)=true
   ·rw[if_pos hq];simp only[bp,hy];exact ih h hc
   ·rw[if_neg hq];simp only[bp,hy];exact ih h hc
theorem uY{scope:Scope}{env:Env}{y:Str}(hn:∀z∈scope.names,z.2≠ .cell)(h:(relabel scope env).names.lookup y=some .cell∨(relabel scope env).names.lookup y=some .free):(y,NameKind.free)∈scope.names:=by
 have go:∀{k:NameKind},(y,k)∈(relabel scope env).names->k= .cell∨k= .free->(y,NameKind.free)∈scope.names:=λ{k} hm hk=>by
  obtain⟨⟨n,k0⟩,hz,e⟩:=List.mem_map.mp hm
  dsimp only at e
  split at e
  ·rename_i hq
   have e1:n=y:=congrArg Prod.fst e
   rw[aw,aw]at hq
   have e2:k0= .free:=by simpa using hq.1.1
   rw[←e1,←e2];exact hz
  ·have e1:n=y:=congrArg Prod.fst e
   have e2:k0=k:=congrArg Prod.snd e
   rcases hk with rfl|rfl
   ·exact absurd e2 (hn _ hz)
   ·rw[←e1,←e2];exact hz
 rcases h with h|h
 ·exact go (lookup_mem h) (.inl rfl)
 ·exact go (lookup_mem h) (.inr rfl)
noncomputable def je (σ:St) (js:List Nat):St:=js.map λj=>(σ[j]?).join
noncomputable abbrev Cx.jA (X:Cx) (scope:Scope) (N:List Str) (x:List Str) (s:Shared) (H:Hp) (C:Addr) (ex:List Addr):Cx:=
 {X with N:=N,s₀:=s,H₀:=H,env:=compEnvC scope (ra scope X.env) C X.env,outer:=X.stack,ex:=ex,fn:=λy=>x.contains y,pn:=[],xe:=λ_ _=>False}
noncomputable def gC (J:It) (kG:St) (tt:TT) (te:TE) (H1:Hp) (Q:VK):Prop:=
 ∃W:Nat->Nat->List V->Hp->Prop,(∃m,W 0 m [] H1)/\∀i m ys H,W i m ys H->ys.length<=sizeLine/\
  ((J.stop i H/\∀p,H p=none->Q (.ref p) (upd H p (.lst ys)))∨
   (J.go i H/\∀x H',J.Bi i H x H'->tt (some x::kG) H' λb H2=>if b=true then te (some x::kG) H2 λy H3=>∃m',m'<m/\W (i+1) m' (ys++[y]) H3 else∃m',m'<m/\W (i+1) m' ys H2))
noncomputable def jO (js:List Nat) (wi:TI) (tt:TT) (te:TE):TE:=λσ H Q=>wi σ H λJ H1=>gC J (je σ js) tt te H1 Q
noncomputable def qU (X:Cx) (ifs:List Expr) (tt:TT):Prop:=
 ∀(pins:List (Addr×Obj)) (s:Shared) (σ:St) (H:Hp) (Q:Bool->Hp->Prop),Inv X pins σ H s->tt σ H Q->
  wpAny (model X.prog X.w) X.A (forIn ifs true λc r=>if r=true then do let ok←isTrue c X.env (eval c X.env);pure (ForInStep.yield ok) else pure (ForInStep.yield r)) (TP X pins σ Q) X.xe s
noncomputable def ui:TT:=λ_ H Q=>Q true H
theorem zB{X:Cx}:qU X [] ui:=λpins s σ H Q I h=>wpAny_tests_nil ⟨H,I,h⟩
theorem zC{X:Cx}{c:Expr}{tt:TT}(h:PT X c tt):qU X [c] tt:=λpins s σ H Q I q=>wpAny_tests_one (h pins s σ H Q I q)
section
variable{X:Cx}{pins:List (Addr×Obj)}{σ:St}{H:Hp}{s:Shared}{scope fsc:Scope}{x:List Str}{N2:List Str}{js:List Nat}{fp:List Addr}{C:Addr}
theorem mI(S:ix fsc scope x N2)(hf:X.env.scope=fsc)(ok:X.Ok){y:Str}{c:Addr}(e:(ra scope X.env).lookup y=some c):X.env.cells.lookup y=some c:=by
 rcases nX e with z|⟨z,e2⟩
 ·cases z
 ·obtain⟨c',hc⟩:=ok.has y (.inl (show X.env.scope.names.lookup y=some .cell by rw[hf];exact S.cells _ z rfl))
  rw[hc]at e2
  rw[hc,e2];rfl
theorem BX(S:ix fsc scope x N2)(hf:X.env.scope=fsc)(I:Inv X pins σ H s)(hC:s.heap.objs.size<=C)(f:∀b∈fp,nJ X pins H b)(ho:∀b∈fp,∃o,s.heap.get? b=some o):(X.jA scope (x++N2) x s H C fp).Ok where
 mod:=I.ok.mod
 kind:=S.kind
 glob:=I.ok.glob
 blt:=I.ok.blt
 above:=hC
 inj:=λy z c e1 e2=>I.ok.inj y z c (mI S hf I.ok e1) (mI S hf I.ok e2)
 has:=λy h=>pB (.inl (uY S.vO h))
 Bo:=λy c h e=>by
  have ey:y∈x:=by simpa using h
  rcases nX e with z|⟨z,_⟩
  ·cases z
  ·exact absurd ey (S.EN _ z rfl)
 hd:=I.ok.hd
 frames:=I.ok.frames
 Dm:= .inl rfl
 Ed:=λb hb=>by
  obtain⟨o,e⟩:=ho b hb
  exact⟨aK (aB (Heap.lt_size e) hC),λy c ec=>(f b hb).2.2.2.2.1 y c (mI S hf I.ok ec)⟩
 bs:=I.bs
 wq:=av I.ok.wq I.sz
 pJ:=λb o e hb=>by
  rcases (f b hb).2.2.2.1 with z|z
  ·exact I.ok.pJ b o e z
  ·exact absurd (aB (Heap.lt_size e) (av I.ok.wq z)) (aT _)
 vC:=λb hb hm=>by
  rcases List.mem_cons.mp (I.pU b hm) with z|z
  ·exact(f b hb).2.1 z
  ·exact(f b hb).2.2.1 z
 lR:=I.stack
 x9:=I.nE
theorem wm(S:ix fsc scope x N2)(hf:X.env.scope=fsc)(hjs:js.map (λj=>X.N[j]?)=N2.map some)(I:Inv X pins σ H s)(hC:s.heap.objs.size<=C)(f:∀b∈fp,nJ X pins H b)(ho:∀b∈fp,∃o,s.heap.get? b=some o)
  {h':Heap} {t':Nat} {m:Str->Option Value} (hm:h'.Ns C m) (k:∀b o,s.heap.get? b=some o->h'.get? b=some o):Inv (X.jA scope (x++N2) x s H C fp) [] (List.replicate x.length none++je σ js) H {s with heap:=h',toks:=t'} where
 ok:=BX S hf I hC f ho
 os:=rfl
 bare:=I.bare
 base:=Un.kept k
 loc:=⟨m,hm,λi y v e1 e2 e3=>by
  by_cases hi:i<x.length
  ·have e2:(List.replicate x.length none++je σ js)[i]? =some (some v):=e2
   rw[List.getElem?_append_left (by rw[bo];exact hi),b8,if_pos hi]at e2
   cases e2
  ·have e1:(x++N2)[i]? =some y:=e1
   have e2:(List.replicate x.length none++je σ js)[i]? =some (some v):=e2
   rw[bU (by omega)]at e1
   rw[bU (by rw[bo];omega),bo]at e2
   generalize i-x.length=i at e1 e2
   unfold je at e2
   rw[aS]at e2
   obtain⟨j,hj,e2⟩:=Option.map_eq_some_iff.mp e2
   have e4:X.N[j]? =some y:=by
    have q:=congrArg (λl=>l[i]?) hjs
    simp only[aS,hj,e1,Option.map_some]at q
    exact aW q
   have hy:y∈N2:=aZ e1
   have hfree:=S.kG y hy
   have hcell:X.env.scope.names.lookup y=some .cell:=by rw[hf];exact S.cells _ (lookup_mem hfree) rfl
   have e5:σ[j]? =some (some v):=by
    cases q:σ[j]? with
    |none=>rw[q]at e2;cases e2
    |some o=>rw[q]at e2;have:o=some v:=e2;rw[this]
   obtain⟨m0,_,hl⟩:=I.loc
   obtain⟨u,r,l⟩:=hl j y v e4 e5 (.inr (.inl hcell))
   refine⟨u,r,.inr ⟨.inl (pj (by rw[hf];exact S.Eg) hfree hcell),?_⟩⟩
   rcases l with ⟨z,_⟩|⟨_,c,ec,o,eo,ed⟩
   ·have z':X.env.scope.names.lookup y=some .local:=z
    rw[hcell]at z';cases z'
   ·obtain⟨c',hc'⟩:=pB (env:=X.env) (cs:=[]) (.inl (lookup_mem hfree))
    have e6:=mI S hf I.ok hc'
    rw[ec]at e6;cases e6
    exact⟨c,hc',o,k _ _ eo,ed⟩⟩
 cell:=λy c e=>by
  obtain⟨v,o,eo,ed⟩:=I.cell y c (mI S hf I.ok e)
  exact⟨v,o,k _ _ eo,ed⟩
 free:=I.dm.fresh hC
 iQ:=λy c e=>I.iQ y c (mI S hf I.ok e)
 pin:=λp hp=>by simp at hp
 dm:=I.dm.kept k
 len:=by
  have q:=congrArg List.length hjs
  simp only[ah]at q
  simp[je,q]
noncomputable def tB (J:It) (k:Nat) (g:TG) (kG:St) (tt:TT) (te:TE) (H1:Hp) (Q:VK):Prop:=
 ∃W:Nat->Nat->List V->Hp->Prop,(∃m,W 0 m [] H1)/\∀i m ys H,W i m ys H->ys.length<=sizeLine/\
  ((J.stop i H/\∀p,H p=none->Q (.ref p) (upd H p (.lst ys)))∨
   (J.go i H/\∀x H',J.Bi i H x H'->∀os:St,os.length=k->g x (os++kG) H' λσ2 H2=>(∃os':St,os'.length=k/\σ2=os'++kG)/\
    tt σ2 H2 λb H3=>if b=true then te σ2 H3 λy H4=>∃m',m'<m/\W (i+1) m' (ys++[y]) H4 else∃m',m'<m/\W (i+1) m' ys H3))
theorem wC{J:It}{kG:St}{tt:TT}{te:TE}{H1:Hp}{Q:VK}(h:gC J kG tt te H1 Q):tB J 1 (cJ 0) kG tt te H1 Q:=by
 obtain⟨W,w0,turn⟩:=h
 refine⟨W,w0,λi m ys H hw=> ?_⟩
 obtain⟨hz,alt⟩:=turn i m ys H hw
 refine⟨hz,alt.imp id λ⟨go,step⟩=>⟨go,λx H' hy os ho=> ?_⟩⟩
 match os,ho with
 | [o],_=>exact⟨⟨[some x],rfl,rfl⟩,step x H' hy⟩
noncomputable def vh (K:PySem.W.Frag) (J:It) (kG:St) (tt:TT) (te:TE) (H1:Hp) (Q:VK):Prop:=
 ∃W:Nat->Nat->List V->Hp->Prop,(∃m,W 0 m [] H1)/\∀i m ys H,W i m ys H->ys.length<=sizeLine/\
  ((J.stop i H/\∀p,H p=none->Q (.ref p) (upd H p (.lst ys)))∨
   (J.go i H/\∀x H',J.Bi i H x H'->∃a u v,x= .ref a/\nh K H' a [u,v]/\
    tt (some u::some v::kG) H' λb H3=>if b=true then te (some u::some v::kG) H3 λy H4=>∃m',m'<m/\W (i+1) m' (ys++[y]) H4 else∃m',m'<m/\W (i+1) m' ys H3))
noncomputable abbrev g2 (K:PySem.W.Frag):TG:=Ci K 2 (sP (cJ 0) (sP (cJ 1) Cg))
theorem uA{K:PySem.W.Frag}{J:It}{kG:St}{tt:TT}{te:TE}{H1:Hp}{Q:VK}(h:vh K J kG tt te H1 Q):tB J 2 (g2 K) kG tt te H1 Q:=by
 obtain⟨W,w0,turn⟩:=h
 refine⟨W,w0,λi m ys H hw=> ?_⟩
 obtain⟨hz,alt⟩:=turn i m ys H hw
 refine⟨hz,alt.imp id λ⟨go,step⟩=>⟨go,λx H' hy os ho=> ?_⟩⟩
 obtain⟨a,u,v,ex,sq,st⟩:=step x H' hy
 match os,ho with
 | [o,o'],_=>exact⟨a,[u,v],ex,sq,rfl,u,[v],rfl,v,[],rfl,rfl,⟨[some u,some v],rfl,rfl⟩,st⟩
noncomputable def pX (K:PySem.W.Frag) (js:List Nat) (wi:TI) (tt:TT) (te:TE):TE:=λσ H Q=>wi σ H λJ H1=>vh K J (je σ js) tt te H1 Q
theorem pk{C:Addr}{h h':Heap}(hs:Heap.SameBut C h h'){b:Addr}{o:Obj}(hb:b≠C)(e:h.get? b=some o):h'.get? b=some o:=(hs.2 b hb).trans e
theorem qG{Y:Cx}{pl:List (Addr×Obj)}{σ':St}{H3:Hp}{s4:Shared}{h':Heap}{D:Addr}{ys:List V}{its:List Value}{n:Nat}(I:Inv X pins σ H s)(f:∀b∈fp,nJ X pins H b)
  (hY:Y=X.jA scope (x++N2) x s H C fp) (hC:s.heap.objs.size<=C) (hD:s.heap.objs.size<=D) (hDC:D≠C) (I4:Inv Y pl σ' H3 s4) (hs:Heap.SameBut C s4.heap h') (hD3:H3 D=none)
  (eD:s4.heap.get? D=some {cls:= .type "list",data:= .seq its.toArray n}) (rv:Vals ys its) (hz:ys.length<=sizeLine):Inv X pins σ (upd H3 D (.lst ys)) {s4 with heap:=h'}:=by
 subst hY
 have ne:∀b o,s.heap.get? b=some o->b≠C:=λb o e=>aK (aB (Heap.lt_size e) hC)
 have neD:∀b o,s.heap.get? b=some o->b≠D:=λb o e=>aK (aB (Heap.lt_size e) hD)
 have fC:H3 C=none:=I4.free
 have un:Un (lG X.stack) fp H H3 s.heap h':=⟨λb o e n hb hx=>pk hs (ne b o e) (I4.base.keep b o e n hb hx),λb o e n hb hx=>by
   obtain⟨sl,e1⟩:=I4.base.slot b o e n hb hx
   exact⟨sl,pk hs (ne b o e) e1⟩,I4.base.free,λb o e hx=>by
   obtain⟨o',e1⟩:=I4.base.there b o e hx
   exact⟨o',pk hs (ne b o e) e1⟩,I4.base.kb,I4.base.jS,I4.base.ka⟩
 have dm:lH X.prog X.w H3 h':=λb ob e=>(I4.dm b ob e).qC (λc w' hc q=>by
  refine(hs.2 c ?_).trans q
  rintro rfl
  rcases hc with rfl|hc
  ·rw[fC]at e;cases e
  ·rw[fC]at hc;cases hc) (λ_ q=>q) λ_ _ q=>q
 have I6:Inv X pins σ H3 {s4 with heap:=h'}:=I.yt (ch:=fp) I4.os un dm I4.bare λb hb=>⟨(f b hb).2.2.2.1,(f b hb).2.1,(f b hb).2.2.2.2.1,(f b hb).2.2.2.2.2⟩
 have h0:X.s₀.heap.get? D=none:=by
  cases z:X.s₀.heap.get? D with
  |none=>rfl
  |some o=>exact absurd (aB (Heap.lt_size z) (av I.sz hD)) (aT _)
 exact I6.adopt (a:=D) (o:= .lst ys) hD3 ⟨hz,its,n,rv,pk hs hDC eD⟩ h0 (aM (aK (aB I.lt hD))) (λy c ec z=>by
  obtain⟨v,o,eo,_⟩:=I.cell y c ec
  exact neD c o eo z) λp hp z=>neD p.1 p.2 (I.pin p hp).1 z
theorem pC{elt iter tg:Expr}{pos p0:Pos}{g:TG}{CW:It->Hp->Prop}{ifs:List Expr}{wi:TI}{tt:TT}{te:TE}{use:Option (Value->Sem Unit)}{R:Value->Shared->Prop}{Q:VK}(S:ix fsc scope x N2)(hf:X.env.scope=fsc)(hjs:js.map (λj=>X.N[j]?)=N2.map some)(hc:X.calm=true)(hi:PI X tg iter wi)(hg:∀s H C ex,PG (X.jA scope (x++N2) x s H C ex) tg g)
  (ht:∀s H C ex,qU (X.jA scope (x++N2) x s H C ex) ifs tt) (he:∀s H C ex,PE (X.jA scope (x++N2) x s H C ex) elt te) (hs:∀v,foldedSetIterable iter X.env v=pure v) (I:Inv X pins σ H s) (hCW:∀J H1,CW J H1->tB J x.length g (je σ js) tt te H1 Q) (h:wi σ H CW)
  (fin:∀(fp:List Addr) (s2 s4:Shared) (H2 H3:Hp) (C D:Addr) (Y:Cx) (pl:List (Addr×Obj)) (σ':St) (ys:List V) (its:List Value) (n:Nat),Inv X pins σ H2 s2->(∀b∈fp,nJ X pins H2 b)->Y=X.jA scope (x++N2) x s2 H2 C fp->s2.heap.objs.size<=C->s2.heap.objs.size<=D->D≠C->
   Inv Y pl σ' H3 s4->H3 D=none->s4.heap.get? D=some {cls:= .type "list",data:= .seq its.toArray n}->Vals ys its->ys.length<=sizeLine->Q (.ref D) (upd H3 D (.lst ys))->compPost (model X.prog X.w) X.A X.xe use R (.ref D) C (.ok .next) s4):
  wpAny (model X.prog X.w) X.A (comprehension (.ListComp elt [⟨tg,iter,ifs,0⟩] scope pos) scope X.env p0 (newList []) false (eval iter X.env) use) R X.xe s:=by
 refine wpAny_comprehension_free (use:=use) (cl:=ra scope X.env) rfl hs (rb λy hy e=>I.ok.has y.1 (.inl (show X.env.scope.names.lookup y.1=some .cell by rw[hf];exact S.cells y hy e))) S.kind S.locs ?_
 refine wpAny_mono (hi pins s σ H _ I h) (λv s1 h1=>wpAny_mono h1 (λitv s2 h2=> ?_) λ_ _ z=>z) λ_ _ z=>z
 obtain⟨it,fp,tn,J,H2,e,I2,T,st2,f2,hcw⟩:=h2
 obtain⟨W,⟨m0,w0⟩,turn⟩:=hCW _ _ hcw
 subst e
 have ho2:∀b∈fp,∃o,s2.heap.get? b=some o:=λb hb=>let ⟨o,e,_⟩:=T.obj _ _ st2 b hb;⟨o,e⟩
 refine wpAny_newObj_type (wpAny_newFunctionEnv S.vO (by intro y hy;simp at hy) (λh₁ hns₁ hsb₁=> ?_) S.kind)
 dsimp only at hns₁ hsb₁⊢
 generalize hH2:s2.heap.push {cls:= .type "list",dict:=none,data:= .seq ([]:List Value).toArray}=G at hns₁ hsb₁⊢
 have hGs:G.objs.size=s2.heap.objs.size+1:=by rw[←hH2,Heap.size_push]
 generalize hCe:G.objs.size=C at hns₁ hsb₁⊢
 have hCs:C=s2.heap.objs.size+1:=hCe.symm.trans hGs
 generalize hDe:s2.heap.objs.size=D at*
 have hC:s2.heap.objs.size<=C:=by omega
 have hDC:D≠C:=by omega
 have leDC:D<=C:=by omega
 have old:∀b o,s2.heap.get? b=some o->h₁.get? b=some o:=λb o e=>by
  have hb:b<D:=hDe▸Heap.lt_size e
  exact hsb₁.extBut b o (aK (aB hb leDC)) (Heap.get?_push_of_some _ (hH2▸Heap.get?_push_of_some _ e))
 have eD1:h₁.get? D=some {cls:= .type "list",data:= .seq ([]:List Value).toArray}:=by
  refine hsb₁.extBut _ _ hDC (Heap.get?_push_of_some _ ?_)
  rw[←hH2,←hDe]
  exact Heap.get?_push_size _ rfl
 have I4:=wm (C:=C) (h':=h₁) (t':=s2.toks+([]:List (Str×Value)).length) S hf hjs I2 hC f2 ho2 hns₁ old
 generalize hY:X.jA scope (x++N2) x s2 H2 C fp=Y at I4
 have hYA:Y.A=X.A:=by rw[←hY]
 have hYp:Y.prog=X.prog:=by rw[←hY]
 have hYw:Y.w=X.w:=by rw[←hY]
 have hYK:Y.K=X.K:=by rw[←hY]
 have hYc:Y.calm=true:=by rw[←hY];exact hc
 have hYL:Y.env.locals=C:=hY▸rfl
 have hYx:Y.xe=λ_ _=>False:=by rw[←hY]
 have hYe:Y.env=compEnvC scope (ra scope X.env) C X.env:=by rw[←hY]
 have hYs:Y.s₀.heap.objs.size=D:=by rw[←hY];exact hDe
 have hYpn:Y.pn=[]:=by rw[←hY]
 have fpD:∀b∈fp,b<D:=λb hb=>by
  obtain⟨o,e⟩:=ho2 b hb
  exact hDe▸Heap.lt_size e
 have cel:∀y c,Y.env.cells.lookup y=some c->X.env.cells.lookup y=some c:=λy c e=>by
  rw[hYe]at e
  exact mI S hf I2.ok e
 have celD:∀y c,Y.env.cells.lookup y=some c->c≠D:=λy c e z=>by
  obtain⟨v,o,eo,_⟩:=I2.cell y c (cel y c e)
  have q:=Heap.lt_size eo
  rw[hDe,z]at q
  exact aT _ q
 have Dfs:D∉Y.fs:=by
  rw[←hY]
  intro hm
  obtain⟨_,o,eo,_⟩:=I2.stack.mem hm
  have q:=Heap.lt_size eo
  rw[hDe]at q
  exact aT _ q
 have stat:∀{H':Hp} {pl:List (Addr×Obj)},(∀b∈fp,H' b=none)->(∀p∈pl,p.1=D)->∀b∈fp,nJ Y pl H' b:=λ{H' pl} hn hp b hb=>by
  refine⟨hn b hb,by rw[hYL];exact aK (aB (fpD b hb) leDC),?_,.inl (by rw[←hY];exact hb),λy c e=>(f2 b hb).2.2.2.2.1 y c (cel y c e),λp hm=> ?_⟩
  ·rw[←hY]
   intro hm
   rcases List.mem_cons.mp (I2.pU b hm) with z|z
   ·exact(f2 b hb).2.1 z
   ·exact(f2 b hb).2.2.1 z
  ·rw[hYpn,bg]at hm
   rw[hp p hm]
   exact(aK (fpD b hb)).symm
 have pinD:∀{σ':St} {H':Hp} {s':Shared} {o:Obj},Inv Y [] σ' H' s'->s'.heap.get? D=some o->(∀v,o.data≠ .cell v)->H' D=none->Inv Y [(D,o)] σ' H' s':=λ{σ' H' s' o} Iy e d n=>
  Iy.kY λp hp=>by
   rw[bf]at hp
   subst hp
   exact⟨e,n,by rw[hYL];exact hDC,Dfs,d⟩
 have pg:PG Y tg g:=by rw[←hY];exact hg _ _ _ _
 have ht':qU Y ifs tt:=by rw[←hY];exact ht _ _ _ _
 have he':PE Y elt te:=by rw[←hY];exact he _ _ _ _
 have loop:∀s₃:Shared,s₃={s2 with heap:=h₁,toks:=s2.toks+([]:List (Str×Value)).length}->
   codeAny (model X.prog X.w) X.A (.compLoop (.ListComp elt [⟨tg,iter,ifs,0⟩] scope pos) 0 (.ref it) (.ref D) (compEnvC scope (ra scope X.env) C X.env))
    (compPost (model X.prog X.w) X.A X.xe use R (.ref D) C) s₃:=by
  rintro s₃ rfl
  refine mJ (λn s'=>∃i ys os its k H',List.length os=x.length/\Inv Y [] (os++je σ js) H' s'/\tn i s'.heap/\(∀b∈fp,H' b=none)/\H' D=none/\s'.heap.get? D=some {cls:= .type "list",data:= .seq (its:List Value).toArray k}/\Vals ys its/\W i n ys H') ?_ m0
   ⟨0,[],List.replicate x.length none,[],0,H2,bo,I4,T.keep _ _ _ st2 λb _ o e=>old b o e,λb hb=>(f2 b hb).1,I2.dm.fresh (by omega),eD1,.nil,w0⟩
  rintro n s3 ⟨i,ys,os,its,k,H3,hos,I3,st3,fr3,hD3,eD3,rv3,w3⟩
  obtain⟨hz,alt⟩:=turn i n ys H3 w3
  have I3p:=pinD I3 eD3 (λv z=>by cases z) hD3
  rcases alt with ⟨stop,q⟩|⟨go,step⟩
  ·have h4:=T.done Y hYp hYw hYK hYc i _ s3 _ H3 (λ_ _=>False) I3p (stat fr3 λp hp=>by rw[bf]at hp;subst hp;rfl) st3 stop
   rw[hYA]at h4
   refine wpAny_mono h4 (λr s4 ⟨hr,I4'⟩=> ?_) λ_ _ z=>z
   subst hr
   have pD:=I4'.pin (D,{cls:= .type "list",data:= .seq its.toArray k}) (aQ _ (List.mem_singleton.mpr rfl))
   exact fin fp s2 s4 H2 H3 C D Y _ _ ys its k I2 f2 hY.symm hC (by omega) hDC I4' pD.2.1 pD.1 rv3 hz (q D pD.2.1)
  ·have h4:=T.item Y hYp hYw hYK hYc i _ s3 _ H3 (λ_ _=>False) I3p (stat fr3 λp hp=>by rw[bf]at hp;subst hp;rfl) st3 go
   rw[hYA]at h4
   refine wpAny_mono h4 (λr s4 ⟨u,hr,h4'⟩=> ?_) λ_ _ z=>z
   subst hr
   refine wpAny_mono h4' (λ_ s5 ⟨xv,H5,I5,r5,y5,st5,fr5⟩=> ?_) λ_ _ z=>z
   have I5':=I5.pinned (stat fr5 λp hp=>by rw[bf]at hp;subst hp;rfl) (T.obj _ _ st5)
   have keepT:∀{σ7:St} {H7:Hp} {s7:Shared},Inv Y ([(D,{cls:= .type "list",data:= .seq its.toArray k})]++pL fp s5.heap) σ7 H7 s7->tn (i+1) s7.heap/\(∀b∈fp,H7 b=none)/\H7 D=none/\
     s7.heap.get? D=some {cls:= .type "list",data:= .seq its.toArray k}:=λ{σ7 H7 s7} I7=>by
    have pD:=I7.pin (D,{cls:= .type "list",data:= .seq its.toArray k}) (aQ _ (bK _ (List.mem_singleton.mpr rfl)))
    refine⟨T.keep _ _ _ st5 λb hb o e=>(I7.pin (b,o) (aQ _ (aQ _ (jw hb e)))).1,λb hb=> ?_,pD.2.1,pD.1⟩
    obtain⟨o,e,d⟩:=T.obj _ _ st5 b hb
    exact(I7.pin (b,o) (aQ _ (aQ _ (jw hb e)))).2.1
   have h6:=pg _ s5 _ H5 xv u _ I5' r5 (step xv H5 y5 os hos)
   rw[hYA,hYe,hYp,hYw,hYx]at h6
   refine wpAny_mono h6 (λ_ s6 ⟨σ6,H6,I6,⟨os',hos',e6⟩,q6⟩=> ?_) λ_ _ z=>z
   subst e6
   have h7:=ht' _ s6 _ H6 _ I6 q6
   rw[hYA,hYe,hYp,hYw,hYx]at h7
   refine wpAny_mono h7 (λb s7 ⟨H7,I7,q7⟩=> ?_) λ_ _ z=>z
   cases b with
   |false=>
    rw[if_neg aL]at q7⊢
    obtain⟨m',hm,w7⟩:=q7
    obtain⟨k1,k2,k3,k4⟩:=keepT I7
    exact⟨m',hm,i+1,ys,os',its,k,H7,hos',I7.kY λp hp=>by simp at hp,k1,k2,k3,k4,rv3,w7⟩
   |true=>
    rw[if_pos rfl]at q7⊢
    have h8:=he' _ s7 _ H7 _ I7 q7
    rw[hYA,hYe,hYp,hYw,hYx]at h8
    refine wpAny_mono h8 (λy s8 ⟨yv,H8,I8,r8,m',hm,w8⟩=> ?_) λ_ _ z=>z
    obtain⟨k1,k2,k3,k4⟩:=keepT I8
    refine wpAny_list_append_plain (l:=D) (items:=its.toArray) ⟨k,k4⟩ (λh9 pl9 sb9=> ?_) (by rw[aI,←rv3.length];exact hz)
    obtain⟨k9,e9⟩:=pl9
    have I9:Inv Y [] (os'++je σ js) H8 {s8 with heap:=h9}:=(I8.kY (pins':=[]) λp hp=>by simp at hp).turned (it:=D) (t':=s8.toks) (λb o hb e=>(sb9.2 b hb).trans e) k3 (by rw[hYL];exact hDC)
     (.inr (by rw[hYs];exact ao _)) celD (by rw[hYpn];intro p hp;simp at hp)
    exact⟨m',hm,i+1,ys++[yv],os',its++[y],k9,H8,hos',I9,T.keep _ _ _ k1 λb hb o e=>(sb9.2 b (aK (fpD b hb))).trans e,k2,k3,by rw[e9,List.push_toArray],rv3.snoc r8,w8⟩
 exact codeAny_compStart_list (loop _ rfl) (T.self _ 0 _ _ _ (T.keep _ _ _ st2 λb _ o e=>old b o e) (loop _ rfl))
theorem zx{x:Str}{px:Pos}(S:ix fsc scope [x] N2){s:Shared}{H:Hp}{C:Addr}{ex:List Addr}:PG (X.jA scope (x::N2) [x] s H C ex) (.Name x px) (cJ 0):=
 qP (i:=0) S.nd rfl (.inl (lookup_relabel_local (S.own x aA))) (.inl (by show [x].contains x=true;simp))
theorem AV{x:Str}{elt iter:Expr}{px pos:Pos}{ifs:List Expr}{wi:TI}{tt:TT}{te:TE}(S:ix fsc scope [x] N2)(hf:X.env.scope=fsc)(hjs:js.map (λj=>X.N[j]?)=N2.map some)(hc:X.calm=true)(hi:PI X (.Name x px) iter wi)
  (ht:∀s H C ex,qU (X.jA scope (x::N2) [x] s H C ex) ifs tt) (he:∀s H C ex,PE (X.jA scope (x::N2) [x] s H C ex) elt te) (hs:∀v,foldedSetIterable iter X.env v=pure v:=by intro _;rfl):
  PE X (.ListComp elt [⟨.Name x px,iter,ifs,0⟩] scope pos) (jO js wi tt te):=by
 intro pins s σ H Q I h
 rw[eval_ListComp]
 refine pC (x:=[x]) (g:=cJ 0) (use:=none) S hf hjs hc hi (λ_ _ _ _=>zx S) ht he hs I (λ_ _=>wC) h λfp s2 s4 H2 H3 C D Y pl σ' ys its n I2 f2 hY hC hD hDC I4 hD3 eD rv hz q=> ?_
 obtain⟨m,hn,_⟩:=I4.loc
 rw[show Y.env.locals=C from hY▸rfl]at hn
 exact⟨m,hn,λh' hs'=>⟨.ref D,_,qG (scope:=scope) (x:=[x]) (N2:=N2) I2 f2 hY hC hD hDC I4 hs' hD3 eD rv hz,rfl,q⟩⟩
theorem w6{x1 x2:Str}{p1 p2 pt:Pos}{k:Nat}(hc:X.calm=true)(S:ix fsc scope [x1,x2] N2){s:Shared}{H:Hp}{C:Addr}{ex:List Addr}:PG (X.jA scope (x1::x2::N2) [x1,x2] s H C ex) (.Tuple [.Name x1 p1,.Name x2 p2] k pt) (g2 X.K):=
 C2 (X:=X.jA scope (x1::x2::N2) [x1,x2] s H C ex) hc
  (uT (qP (i:=0) S.nd rfl (.inl (lookup_relabel_local (S.own x1 aA))) (.inl (by show [x1,x2].contains x1=true;simp)))
   (uT (qP (i:=1) S.nd rfl (.inl (lookup_relabel_local (S.own x2 (aD _ aA)))) (.inl (by show [x1,x2].contains x2=true;simp))) AZ))
theorem zm{x1 x2:Str}{elt iter:Expr}{p1 p2 pt pos:Pos}{k:Nat}{ifs:List Expr}{wi:TI}{tt:TT}{te:TE}(S:ix fsc scope [x1,x2] N2)(hf:X.env.scope=fsc)(hjs:js.map (λj=>X.N[j]?)=N2.map some)(hc:X.calm=true)(hi:PI X (.Tuple [.Name x1 p1,.Name x2 p2] k pt) iter wi)
  (ht:∀s H C ex,qU (X.jA scope (x1::x2::N2) [x1,x2] s H C ex) ifs tt) (he:∀s H C ex,PE (X.jA scope (x1::x2::N2) [x1,x2] s H C ex) elt te) (hs:∀v,foldedSetIterable iter X.env v=pure v:=by intro _;rfl):
  PE X (.ListComp elt [⟨.Tuple [.Name x1 p1,.Name x2 p2] k pt,iter,ifs,0⟩] scope pos) (pX X.K js wi tt te):=by
 intro pins s σ H Q I h
 rw[eval_ListComp]
 refine pC (x:=[x1,x2]) (g:=g2 X.K) (use:=none) S hf hjs hc hi (λ_ _ _ _=>w6 hc S) ht he hs I (λ_ _=>uA) h λfp s2 s4 H2 H3 C D Y pl σ' ys its n I2 f2 hY hC hD hDC I4 hD3 eD rv hz q=> ?_
 obtain⟨m,hn,_⟩:=I4.loc
 rw[show Y.env.locals=C from hY▸rfl]at hn
 exact⟨m,hn,λh' hs'=>⟨.ref D,_,qG (scope:=scope) (x:=[x1,x2]) (N2:=N2) I2 f2 hY hC hD hDC I4 hs' hD3 eD rv hz,rfl,q⟩⟩
theorem vW{x:Str}{elt iter:Expr}{px py pos spos:Pos}{ifs:List Expr}{wi:TI}{tt:TT}{te:TE}{i:Nat}{y:Str}(hN:X.N.Nodup)(hy:X.N[i]? =some y)(hl:Loc X.env.scope y)
  (S:ix fsc scope [x] N2) (hf:X.env.scope=fsc) (hjs:js.map (λj=>X.N[j]?)=N2.map some) (hc:X.calm=true) (hi:PI X (.Name x px) iter wi)
  (ht:∀s H C ex,qU (X.jA scope (x::N2) [x] s H C ex) ifs tt) (he:∀s H C ex,PE (X.jA scope (x::N2) [x] s H C ex) elt te) (hs:∀v,foldedSetIterable iter X.env v=pure v:=by intro _;rfl)
  (hsw:swapsWith (.ListComp elt [⟨.Name x px,iter,ifs,0⟩] scope pos) (some (.Name y py)) spos.line X.env=pure true:=by rfl)
  (hfn:X.fn y=true∨X.env.scope.names.lookup y=some .local:=by first|exact .inl rfl|exact .inr rfl|assumption):
  PS X (.Assign [.Name y py] (.ListComp elt [⟨.Name x px,iter,ifs,0⟩] scope pos) spos) (c5 (jO js wi tt te) (cJ i)):=by
 intro pins s σ H Dn I h
 rw[exec_Assign_Name_used _ _ _ _ hsw]
 refine wpAny_bind (wpAny_standAt (wpAny_bind ?_))
 show wpAny _ _ (do let _←comprehension (.ListComp elt [⟨.Name x px,iter,ifs,0⟩] scope pos) scope X.env _ (newList []) false (eval iter X.env) (some (assign (.Name y py) X.env))) _ _ s
 refine wpAny_bind (wpAny_mono (pC (x:=[x]) (g:=cJ 0) (use:=some (assign (.Name y py) X.env)) (R:=λ_ s'=>SP X pins Dn .next s') S hf hjs hc hi (λ_ _ _ _=>zx S) ht he hs I (λ_ _=>wC) h λfp s2 s4 H2 H3 C D Y pl σ' ys its n I2 f2 hY hC hD hDC I4 hD3 eD rv hz q=> ?_)
  (λ_ s' hq=>wpAny_pure (wpAny_pure hq)) λ_ _ e=>e)
 show wpAny _ _ (assign (.Name y py) X.env (.ref D)) _ _ s4
 have I7:Inv X pins σ (upd H3 D (.lst ys)) s4:=qG (scope:=scope) (x:=[x]) (N2:=N2) (h':=s4.heap) I2 f2 hY hC hD hDC I4 (Heap.SameBut.refl ..) hD3 eD rv hz
 have nC:∀b o,s2.heap.get? b=some o->b≠C:=λb o e=>aK (aB (Heap.lt_size e) hC)
 have cC:∀z c,X.env.cells.lookup z=some c->c≠C:=λz c e=>by
  obtain⟨v,o,eo,_⟩:=I2.cell z c e
  exact nC c o eo
 have lC:X.env.locals≠C:=aK (aB I2.lt hC)
 obtain⟨m,hn,_⟩:=I4.loc
 have eL:Y.env.locals=C:=hY▸rfl
 have fC:upd H3 D (HO.lst ys) C=none:=by rw[cO (aM hDC)];exact eL▸I4.free
 rw[eL]at hn
 refine wpAny_assign_Name (pW I7 hN hy hl (v:= .ref D) rfl (λs'' I8 ⟨a,sb,ha⟩=> ?_) hfn)
 have na:C≠a:=by
  rcases ha with rfl|ha
  ·exact aM lC
  ·exact aM (cC _ _ ha)
 refine⟨m,hn.sameBut sb na,λh' hs'=>⟨_,_,I8.turned (it:=C) (t':=s''.toks) (λb o hb e=>(hs'.2 b hb).trans e) fC (aM lC) (.inr (av I2.sz hC)) cC λp hp=> ?_,q⟩⟩
 exact nC p.1 p.2 (I2.pin p hp).1
end
end L2
namespace L2
open PySem PySem.Spec PyProof.Rows
section
variable{X:Cx}{tg:Expr}
end
end L2
namespace L2
open PySem PySem.Spec PyProof.Rows
noncomputable def tE:List (Option Bool)->Option Bool
 | []=>some true
 |none::_=>none
 |some b::r=>(tE r).map λc=>b&&c
noncomputable def sh (H:Hp):Nat->V->V->Option Bool
 |0,x,y=>if iP x=true/\iP y=true then some (wK x y) else none
 |d+1,x,y=>match x,y with
  | .ref a,.ref b=>(match H a,H b with
   |some (.lst xs),some (.lst ys)=>if xs.length=ys.length then tE (List.zipWith (sh H d) xs ys) else some false
   |some (.tup xs),some (.tup ys)=>if xs.length=ys.length then tE (List.zipWith (sh H d) xs ys) else none
   |_,_=>none)
  |x,y=>if iP x=true/\iP y=true then some (wK x y) else none
theorem ni{l:List (Option Bool)}{b:Bool}:tE l=some b->∃e:Nat->Bool,(∀j o,l[j]? =some o->o=some (e j))/\(List.range l.length).all e=b:=by
 induction l generalizing b with
 |nil=>intro h;cases h;exact⟨λ_=>true,λj o z=>by simp at z,rfl⟩
 |cons o r ih=>
  intro h
  cases o with
  |none=>cases h
  |some b0=>
   obtain⟨c,hc,rfl⟩:=Option.map_eq_some_iff.mp h
   obtain⟨e,h1,h2⟩:=ih hc
   refine⟨λj=>match j with|0=>b0|j+1=>e j,λj o z=> ?_,?_⟩
   ·cases j with
    |zero=>simp at z;exact z.symm
    |succ j=>exact h1 j o (by simpa using z)
   ·rw[ag,b9,aP,List.all_map,←h2]
    rfl
theorem oR{x:V}(h:iP x=true):wK x x=true:=by
 cases x<;>first|rfl|exact decide_eq_true rfl|exact nomatch h
theorem rg{H:Hp}:∀(d:Nat) {x:V} {b:Bool},sh H d x x=some b->b=true
 |0,x,b,h=>by
  unfold sh at h
  split at h
  ·rename_i z;cases h;exact oR z.1
  ·cases h
 |d+1,x,b,h=>by
  unfold sh at h
  split at h
  ·split at h
   ·rename_i xs ys e1 e2
    rw[e1]at e2
    cases e2
    rw[if_pos rfl]at h
    obtain⟨e,h1,h2⟩:=ni h
    rw[←h2,List.all_eq_true]
    intro j hj
    rw[List.mem_range,aY,bz]at hj
    have z:=h1 j (sh H d xs[j] xs[j]) (by rw[bj,aE hj])
    exact rg d z
   ·rename_i xs ys e1 e2
    rw[e1]at e2
    cases e2
    rw[if_pos rfl]at h
    obtain⟨e,h1,h2⟩:=ni h
    rw[←h2,List.all_eq_true]
    intro j hj
    rw[List.mem_range,aY,bz]at hj
    have z:=h1 j (sh H d xs[j] xs[j]) (by rw[bj,aE hj])
    exact rg d z
   ·cases h
  ·split at h
   ·rename_i z;cases h;exact oR z.1
   ·cases h
section
variable{X:Cx}
theorem oQ{pins:List (Addr×Obj)}{σ:St}{H:Hp}{s:Shared}(I:Inv X pins σ H s):∀(d:Nat) (A:Around) {x y:V} {u v:Value} {b:Bool},A.units+d<cLine->RelV x u->RelV y v->sh H d x y=some b->SeqAt.EqAt A s u v b
 |0,A,x,y,u,v,b,hu,rx,ry,h=>by
  unfold sh at h
  split at h
  ·rename_i z;cases h;exact vz rx ry z.1 z.2
  ·cases h
 |d+1,A,x,y,u,v,b,hu,rx,ry,h=>by
  by_cases hs:∃a,x= .ref a/\y= .ref a
  ·obtain⟨a,rfl,rfl⟩:=hs
   cases (show u=Value.ref a from rx)
   cases (show v=Value.ref a from ry)
   rw[rg (d+1) h]
   exact SeqAt.EqAt.same _
  ·unfold sh at h
   split at h
   ·rename_i a c
    split at h
    ·rename_i xs ys e1 e2
     cases (show u=Value.ref a from rx)
     cases (show v=Value.ref c from ry)
     have hne:a≠c:=λz=>hs ⟨a,rfl,by rw[z]⟩
     obtain⟨i1,r1,p1,_⟩:=I.list (fb.of e1)
     obtain⟨i2,r2,p2,_⟩:=I.list (fb.of e2)
     refine SeqAt.EqAt.of_refs hne ?_
     have l1:=r1.length
     have l2:=r2.length
     split at h
     ·rename_i hl
      obtain⟨e,h1,h2⟩:=ni h
      rw[aY,←hl,bz]at h2
      have z:=SeqAt.RcAt.lists (A:=A) (s:=s) (e:=e) p1.isList p2.isList (by simp;omega) (by omega) λj j1 j2=> ?_
      ·have e3:i1.toArray.size=xs.length:=by simp[l1]
       rw[e3,h2]at z
       exact z
      ·simp only[aI]at j1 j2
       have k1:j<xs.length:=by omega
       have k2:j<ys.length:=by omega
       obtain⟨w1,g1,q1⟩:=r1.get (aE k1)
       obtain⟨w2,g2,q2⟩:=r2.get (aE k2)
       have z:=h1 j (sh H d xs[j] ys[j]) (by rw[bj,aE k1,aE k2])
       have e4:i1.toArray[j]=w1:=by simpa [j1] using g1
       have e5:i2.toArray[j]=w2:=by simpa [j2] using g2
       rw[e4,e5]
       exact oQ I d A.in1 (by rw[Around.in1_units];omega) q1 q2 z
     ·rename_i hl
      cases h
      exact SeqAt.RcAt.lists_lengths p1.isList p2.isList (by simp;omega) (by omega)
    ·rename_i xs ys e1 e2
     cases (show u=Value.ref a from rx)
     cases (show v=Value.ref c from ry)
     have hne:a≠c:=λz=>hs ⟨a,rfl,by rw[z]⟩
     obtain⟨i1,r1,p1,_⟩:=I.tuple (.inl (.inl e1))
     obtain⟨i2,r2,p2,_⟩:=I.tuple (.inl (.inl e2))
     refine SeqAt.EqAt.of_refs hne ?_
     have l1:=r1.length
     have l2:=r2.length
     split at h
     ·rename_i hl
      obtain⟨e,h1,h2⟩:=ni h
      rw[aY,←hl,bz]at h2
      have z:=SeqAt.RcAt.tuples (A:=A) (s:=s) (e:=e) p1 p2 (by omega) λj j1 j2=> ?_
      ·have e3:i1.toArray.size=xs.length:=by simp[l1]
       have e4:i2.toArray.size=xs.length:=by simp[←l2,hl]
       rw[e3,e4,bz,h2,beq_self_eq_true,Bool.and_true]at z
       exact z
      ·simp only[aI]at j1 j2
       have k1:j<xs.length:=by omega
       have k2:j<ys.length:=by omega
       obtain⟨w1,g1,q1⟩:=r1.get (aE k1)
       obtain⟨w2,g2,q2⟩:=r2.get (aE k2)
       have z:=h1 j (sh H d xs[j] ys[j]) (by rw[bj,aE k1,aE k2])
       have e4:i1.toArray[j]=w1:=by simpa [j1] using g1
       have e5:i2.toArray[j]=w2:=by simpa [j2] using g2
       rw[e4,e5]
       exact oQ I d A.in1 (by rw[Around.in1_units];omega) q1 q2 z
     ·cases h
    ·cases h
   ·split at h
    ·rename_i z;cases h;exact vz rx ry z.1 z.2
    ·cases h
noncomputable def ux:R2:=λx y H Q=>match x,y with
 | .ref a,.ref b=>(match H a,H b with
  |some (.lst xs),some (.lst ys)=>if xs.length=ys.length then(match tE (List.zipWith (sh H 2) xs ys) with
    |some k=>Q (.bl k) H
    |none=>False) else Q (.bl false) H
  |_,_=>False)
 |_,_=>False
noncomputable def q8:R2:=λx y H Q=>match x,y with
 | .ref a,.ref b=>(match H a,H b with
  |some (.lst xs),some (.lst ys)=>if xs.length=ys.length then(match tE (List.zipWith (sh H 2) xs ys) with
    |some k=>Q (.bl (!k)) H
    |none=>False) else Q (.bl true) H
  |_,_=>False)
 |_,_=>False
theorem DO(hu:X.A.units+8<cLine):iy X (compareOp .Eq) ux:=by
 intro pins s σ H x y v u Q I rx ry h
 unfold ux at h
 split at h
 case h_2=>exact h.elim
 rename_i a b
 split at h
 case h_2=>exact h.elim
 rename_i xs ys e1 e2
 cases (show v=Value.ref a from rx)
 cases (show u=Value.ref b from ry)
 obtain⟨i1,r1,p1,_⟩:=I.list (fb.of e1)
 obtain⟨i2,r2,p2,_⟩:=I.list (fb.of e2)
 have l1:=r1.length
 have l2:=r2.length
 split at h
 ·rename_i hl
  split at h
  case h_2=>exact h.elim
  rename_i k hk
  obtain⟨e,h1,h2⟩:=ni hk
  rw[aY,←hl,bz]at h2
  refine SeqAt.eq_listAt (e:=e) p1.isList p2.isList (by simp;omega) (by omega) (λj j1 j2=> ?_) ⟨.bl k,H,I,?_,h⟩
  ·simp only[aI]at j1 j2
   have k1:j<xs.length:=by omega
   have k2:j<ys.length:=by omega
   obtain⟨w1,g1,q1⟩:=r1.get (aE k1)
   obtain⟨w2,g2,q2⟩:=r2.get (aE k2)
   have z:=h1 j (sh H 2 xs[j] ys[j]) (by rw[bj,aE k1,aE k2])
   have e4:i1.toArray[j]=w1:=by simpa [j1] using g1
   have e5:i2.toArray[j]=w2:=by simpa [j2] using g2
   rw[e4,e5]
   exact oQ I 2 X.A.in1 (by rw[Around.in1_units];omega) q1 q2 z
  ·have e3:i1.toArray.size=xs.length:=by simp[l1]
   rw[e3,h2]
   exact rfl
 ·exact SeqAt.eq_list_lengthsAt p1.isList p2.isList (by simp;omega) (by omega) ⟨.bl false,H,I,rfl,h⟩
end
section
variable{X:Cx}
theorem DZ(hu:X.A.units+8<cLine):iy X (compareOp .NotEq) q8:=by
 intro pins s σ H x y v u Q I rx ry h
 unfold q8 at h
 split at h
 case h_2=>exact h.elim
 rename_i a b
 split at h
 case h_2=>exact h.elim
 rename_i xs ys e1 e2
 cases (show v=Value.ref a from rx)
 cases (show u=Value.ref b from ry)
 obtain⟨i1,r1,p1,_⟩:=I.list (fb.of e1)
 obtain⟨i2,r2,p2,_⟩:=I.list (fb.of e2)
 have l1:=r1.length
 have l2:=r2.length
 split at h
 ·rename_i hl
  split at h
  case h_2=>exact h.elim
  rename_i k hk
  obtain⟨e,h1,h2⟩:=ni hk
  rw[aY,←hl,bz]at h2
  refine SeqAt.RcNeAt.lists (e:=e) p1.isList p2.isList (by simp;omega) (by omega) (λj j1 j2=> ?_) X.prog X.w X.xe _ ⟨.bl (!k),H,I,?_,h⟩
  ·simp only[aI]at j1 j2
   have k1:j<xs.length:=by omega
   have k2:j<ys.length:=by omega
   obtain⟨w1,g1,q1⟩:=r1.get (aE k1)
   obtain⟨w2,g2,q2⟩:=r2.get (aE k2)
   have z:=h1 j (sh H 2 xs[j] ys[j]) (by rw[bj,aE k1,aE k2])
   have e4:i1.toArray[j]=w1:=by simpa [j1] using g1
   have e5:i2.toArray[j]=w2:=by simpa [j2] using g2
   rw[e4,e5]
   exact oQ I 2 X.A.in1 (by rw[Around.in1_units];omega) q1 q2 z
  ·have e3:i1.toArray.size=xs.length:=by simp[l1]
   rw[e3,h2]
   exact rfl
 ·exact SeqAt.RcNeAt.lists_lengths p1.isList p2.isList (by simp;omega) (by omega) X.prog X.w X.xe _ ⟨.bl true,H,I,rfl,h⟩
end
noncomputable def qj (K:PySem.W.Frag) (t:Value):List V->Option Bool
 | []=>some false
 |c::r=>match lq K t c with
  |some true=>some true
  |some false=>qj K t r
  |none=>none
theorem sT{K:PySem.W.Frag}{t:Value}{b:Bool}:∀{cs:List V} {us:List Value},Vals cs us->qj K t cs=some b->PySem.W.kitAny K t us=some b
 |_,_,.nil,h=>h
 |c::cs,u::us,.cons r rs,h=>by
  have e:∀k,lq K t c=some k->PySem.W.kitOne K t u=some k:=λk hk=>by
   cases c<;>first|(cases (show u=Value.type _ from r);exact hk)|(cases (show u=Value.ref _ from r);exact hk)|cases hk
  unfold qj at h
  unfold PySem.W.kitAny
  split at h
  ·rename_i z;rw[e _ z];exact h
  ·rename_i z;rw[e _ z];exact sT rs h
  ·cases h
noncomputable def xY (K:PySem.W.Frag):List V->Hp->VK->Prop:=λxs H Q=>match xs with
 | [.ref a,.ref p]=>(match H a,H p with
  |some (.exc (.ref C)),some (.tup cs)=>x8 K C/\(match qj K (.ref C) cs with
   |some b=>Q (.bl b) H
   |none=>False)
  |_,_=>False)
 |_=>False
theorem yw{X:Cx}:fh X (.builtin "isinstance") (xY X.K):=by
 intro pins s σ H xs us Q I r h
 unfold xY at h
 split at h
 case h_2=>exact h.elim
 rename_i a p
 obtain⟨u,w',rfl,rx,rc⟩:=vals2 r
 split at h
 case h_2=>exact h.elim
 rename_i C cs ea ep
 obtain⟨ki,h⟩:=h
 split at h
 case h_2=>exact h.elim
 rename_i b hk
 cases (show u=Value.ref a from rx)
 cases (show w'=Value.ref p from rc)
 obtain⟨_,its,rv,tp⟩:=(show eh X.prog X.w H s.heap p (.tup cs) from I.dm p _ ep)
 obtain⟨o,h1,h2,n,h3⟩:=tp
 obtain⟨oc,od,dt,sl⟩:=o
 have h2:oc= .type "tuple":=h2
 have h3:dt= .seq its.toArray n:=h3
 subst h2 h3
 exact PySem.W.kia_tup (uK ki) I.rF (show eh X.prog X.w H s.heap a (.exc (.ref C)) from I.dm a _ ea) h1 (sT rv hk) (λz=>nomatch z) λtk=>⟨.bl b,H,I.tok tk,rfl,h⟩
theorem gC.Ee{K:PySem.W.Frag}{a:Addr}{xs:List V}{kG:St}{tt:TT}{te:TE}{H:Hp}{Q:VK}(p:V->Bool)(f:V->V)(hS:fb K H a xs)(hz:xs.length<=sizeLine)
  (ht:∀x∈xs,∀K':Bool->Hp->Prop,K' (p x) H->tt (some x::kG) H K') (he:∀x∈xs,p x=true->∀K':VK,K' (f x) H->te (some x::kG) H K')
  (q:∀l,H l=none->Q (.ref l) (upd H l (.lst ((xs.filter p).map f)))):gC (yb K a) kG tt te H Q:=by
 refine⟨λi m ys H'=>H'=H/\i<=xs.length/\m=xs.length-i/\ys=((xs.take i).filter p).map f,⟨xs.length,rfl,aO _,rfl,by simp⟩,λi m ys H' ⟨e1,hi,em,ey⟩=> ?_⟩
 subst e1 ey
 refine⟨av (by rw[ah];exact av (bE _ _) (by rw[aH];omega)) hz,?_⟩
 by_cases z:i<xs.length
 ·have hx:xs[i]? =some xs[i]:=aE z
  refine .inr ⟨⟨xs,xs[i],hS,hx⟩,λx H2 ⟨e2,e3⟩=> ?_⟩
  have ex:x=xs[i]:=by have:=e3 xs hS;rw[hx]at this;exact(aW this).symm
  rw[e2,ex]
  have tk:xs.take (i+1)=xs.take i++[xs[i]]:=by rw[a_,hx];rfl
  refine ht _ (bI z) _ ?_
  cases hp:p xs[i] with
  |true=>
   rw[if_pos rfl]
   refine he _ (bI z) hp _ ⟨xs.length-(i+1),by omega,rfl,z,rfl,?_⟩
   rw[tk,bh,aF];simp[hp]
  |false=>
   rw[if_neg aL]
   refine⟨xs.length-(i+1),by omega,rfl,z,rfl,?_⟩
   rw[tk,bh,aF];simp[hp]
 ·have e:i=xs.length:=by omega
  subst e
  rw[bb]
  exact .inl ⟨⟨xs,hS,ao _⟩,q⟩
theorem kL{X:Cx}{scope:Scope}{N:List Str}{x:List Str}{s:Shared}{H:Hp}{C:Addr}{ex:List Addr}:Exc (X.jA scope N x s H C ex) (λ_ _ _ _=>False):=
 ⟨λ_ _ _ _ _ _ _ ⟨_,_,_,_,_,_,_,_,_,_,_,_,h⟩=>h,λ_ _ _ _ _ _ _ _ _ _ _ _ h=>h,PassesOwn.never⟩
noncomputable def bools:List V->Option (List Bool)
 | []=>some []
 | .bl b::r=>(bools r).map λbs=>b::bs
 |_::_=>none
theorem uw:∀{ys:List V} {bs:List Bool},bools ys=some bs->ys=bs.map V.bl
 | [],bs,h=>by cases h;rfl
 |y::r,bs,h=>by
  cases y with
  |bl b=>
   obtain⟨cs,hc,rfl⟩:=Option.map_eq_some_iff.mp h
   rw[ax,←uw hc]
  |_=>cases h
noncomputable def xk:List V->Hp->VK->Prop:=λxs H Q=>match xs with
 | [.ref a]=>(match H a with
  |some (.lst ys)=>(match bools ys with
   |some bs=>Q (.bl (bs.all id)) H
   |none=>False)
  |_=>False)
 |_=>False
noncomputable def mz:R2:=λx y H Q=>match eqv x y with
 |some b=>Q (.bl b) H
 |none=>ux x y H Q
noncomputable def oK:R2:=λx y H Q=>match eqv x y with
 |some b=>Q (.bl (!b)) H
 |none=>q8 x y H Q
section
variable{X:Cx}
theorem DN(hu:X.A.units+8<cLine):iy X (compareOp .Eq) mz:=by
 intro pins s σ H x y v u Q I rx ry h
 unfold mz at h
 split at h
 ·rename_i b e
  exact DM pins s σ H x y v u Q I rx ry (by unfold sd;rw[e];exact h)
 ·exact DO hu pins s σ H x y v u Q I rx ry h
theorem DY(hu:X.A.units+8<cLine):iy X (compareOp .NotEq) oK:=by
 intro pins s σ H x y v u Q I rx ry h
 unfold oK at h
 split at h
 ·rename_i b e
  exact DX pins s σ H x y v u Q I rx ry (by unfold BY;rw[e];exact h)
 ·exact DZ hu pins s σ H x y v u Q I rx ry h
theorem ox{ca:Bool}{k:Nat}{A:Around}(hr:iz ca k A):A.units+8<cLine:=bq (Nat.add_le_add_left (by decide:8<=64) _) hr.units
theorem all_range{bs:List Bool}{tr:Nat->Bool}(h:∀j b,bs[j]? =some b->tr j=b):(List.range bs.length).all tr=bs.all id:=by
 induction bs generalizing tr with
 |nil=>rfl
 |cons b r ih=>
  rw[ag,b9,aP,List.all_map,aP,h 0 b rfl,ih (tr:=tr∘Nat.succ) λj c z=>h (j+1) c (by simpa using z)]
  rfl
theorem DI(hc:X.calm=true):fh X (.builtin "all") xk:=by
 intro pins s σ H xs us Q I r h
 unfold xk at h
 split at h
 case h_2=>exact h.elim
 rename_i a
 obtain⟨u,rfl,rx⟩:=vals1 r
 cases (show u=Value.ref a from rx)
 split at h
 case h_2=>exact h.elim
 rename_i ys ea
 split at h
 case h_2=>exact h.elim
 rename_i bs hb
 have ey:=uw hb
 subst ey
 obtain⟨its,rv,pl,hz⟩:=I.list (fb.of ea)
 have hlen:=rv.length
 rw[ah]at hlen
 have hat:∀(i:Nat) (v:Value),its.toArray[i]? =some v->∃b,bs[i]? =some b/\v= .bool b:=λi v hv=>by
  have hv':its[i]? =some v:=by simpa using hv
  have hi:i<bs.length:=by rw[hlen];exact(List.getElem?_eq_some_iff.mp hv').1
  obtain⟨w,g,q⟩:=rv.get (show(bs.map V.bl)[i]? =some (V.bl bs[i]) by rw[aS,aE hi];rfl)
  rw[hv']at g
  cases g
  exact⟨bs[i],aE hi,q⟩
 refine call_all_walk (wpAny_pyIter_list pl.isList ?_)
 have hne:a≠s.heap.objs.size:=by
  obtain⟨o,n,ho,_⟩:=pl
  exact aK (Heap.lt_size ho)
 refine⟨s.heap.objs.size,_,_,_,_,_,λi=>(bs[i]?).getD true,rfl,Walks.list (by show X.A.handled=none;exact I.ok.hd hc) s.heap.objs.size a hne its.toArray,⟨⟨_,Heap.get?_push_size _ rfl,rfl,rfl⟩,pl.isList.push _⟩,λi v s' Q' E' hP hQ=> ?_,λh' tk hk=> ?_⟩
 ·obtain⟨b,e1,rfl⟩:=hat i v hP
  dsimp only at hQ
  rw[e1]at hQ
  exact wpAny_truthy_bool hQ
 ·rw[show its.toArray.size=bs.length by simp[hlen],all_range (λj b z=>by rw[z];rfl)]
  refine⟨.bl _,H,?_,rfl,h⟩
  have I1:Inv X pins σ H {s with heap:=s.heap.push {cls:= .type "list_iterator",data:= .fields #[.ref a,.int 0 0]}}:=I.kept (t':=s.toks) λb o q=>Heap.get?_push_of_some _ q
  have fp:=I.yJ (H':=H) (ao _) (I.dm.fresh (ao _))
  exact I1.turned (it:=s.heap.objs.size) (λb o hb e=>hk b o (by simpa using hb) e) fp.1 fp.2.1 fp.2.2.2.1 fp.2.2.2.2.1 fp.2.2.2.2.2
end
theorem qh{K:PySem.W.Frag}{a:Addr}{xs:List V}{kG:St}{tt:TT}{te:TE}{H:Hp}{Q:VK}(P:Nat->List V->Hp->Prop)(h0:P 0 [] H)(hS:∀i ys H',P i ys H'->fb K H' a xs)(hz:xs.length<=sizeLine)(hlen:∀i ys H',P i ys H'->ys.length<=i)
  (step:∀i x ys H',xs[i]? =some x->P i ys H'->∀K1:List V->Hp->Prop,(∀ys' H3,P (i+1) ys' H3->K1 ys' H3)->tt (some x::kG) H' λb H2=>if b=true then te (some x::kG) H2 (λy H3=>K1 (ys++[y]) H3) else K1 ys H2)
  (q:∀ys H',P xs.length ys H'->∀l,H' l=none->Q (.ref l) (upd H' l (.lst ys))):gC (yb K a) kG tt te H Q:=by
 refine⟨λi m ys H'=>P i ys H'/\i<=xs.length/\m=xs.length-i,⟨xs.length,h0,aO _,rfl⟩,λi m ys H' ⟨hP,hi,em⟩=> ?_⟩
 refine⟨av (av (hlen _ _ _ hP) hi) hz,?_⟩
 have hS':=hS _ _ _ hP
 by_cases z:i<xs.length
 ·have hx:xs[i]? =some xs[i]:=aE z
  refine .inr ⟨⟨xs,xs[i],hS',hx⟩,λx H2 ⟨e2,e3⟩=> ?_⟩
  have ex:x=xs[i]:=by have:=e3 xs hS';rw[hx]at this;exact(aW this).symm
  rw[e2,ex]
  exact step i _ ys H' hx hP (λys' H3=>∃m',m'<m/\(P (i+1) ys' H3/\i+1<=xs.length/\m'=xs.length-(i+1))) λys' H3 h=>⟨_,by omega,h,z,rfl⟩
 ·have e:i=xs.length:=by omega
  subst e
  exact .inl ⟨⟨xs,hS',ao _⟩,q _ _ hP⟩
end L2
namespace L2
open PySem PySem.Spec PyProof.Rows
theorem uB{H:Hp}{d:Nat}:∀{xs:List V},(∀x∈xs,iP x=true)->tE (List.zipWith (sh H d) xs xs)=some true
 | [],_=>rfl
 |x::r,h=>by
  have hx:=h x aA
  have e:sh H d x x=some true:=by
   cases d with
   |zero=>unfold sh;rw[if_pos ⟨hx,hx⟩,oR hx]
   |succ d=>cases x<;>first|(simp only[sh];rw[if_pos ⟨hx,hx⟩,oR hx])|(cases hx)
  simp only[List.zipWith_cons_cons,e,tE,uB λy hy=>h y (aD _ hy)]
  rfl
section
variable{X:Cx}
noncomputable def lL:R2:=λx y H Q=>match x,y with
 | .ref l,.ref b=>(match H l,H b with
  |some (.lst xs),some (.lst zs)=>xs.length+zs.length<=sizeLine/\∀p,H p=none->Q (.ref p) (upd H p (.lst (xs++zs)))
  |_,_=>False)
 |_,_=>False
theorem DL:iy X (binaryOp .Add) lL:=CM.mono λx y H Q h=>by
 unfold lL at h
 split at h
 case h_2=>exact h.elim
 split at h
 case h_2=>exact h.elim
 rename_i xs zs e1 e2
 exact⟨_,_,xs,zs,rfl,rfl,e1,e2,h.1,h.2⟩
end
section
variable{X:Cx}{o e:Expr}{td ty:TE}{apos cpos:Pos}
end
section
variable{X:Cx}{a b:Expr}{ta:TA}{p pos p2 pos2:Pos}
end
end L2
namespace L2
open PySem PySem.Spec PyProof.Rows
section
variable{X:Cx}{pins:List (Addr×Obj)}{σ:St}{H:Hp}{s:Shared}{h':Heap}
end
section
variable{X:Cx}
end
theorem oO{lo:Int}{n:Nat}{kG:St}{tt:TT}{te:TE}{H:Hp}{Q:VK}(P:Nat->List V->Hp->Prop)(h0:P 0 [] H)(hz:n<=sizeLine)(hlen:∀i ys H',P i ys H'->ys.length<=i)
  (step:∀(i:Nat) ys H',i<n->P i ys H'->∀K1:List V->Hp->Prop,(∀ys' H3,P (i+1) ys' H3->K1 ys' H3)->tt (some (.int (lo+i))::kG) H' λb H2=>if b=true then te (some (.int (lo+i))::kG) H2 (λy H3=>K1 (ys++[y]) H3) else K1 ys H2)
  (q:∀ys H',P n ys H'->∀l,H' l=none->Q (.ref l) (upd H' l (.lst ys))):gC (zX lo n) kG tt te H Q:=by
 refine⟨λi m ys H'=>P i ys H'/\i<=n/\m=n-i,⟨n,h0,aO _,rfl⟩,λi m ys H' ⟨hP,hi,em⟩=> ?_⟩
 refine⟨av (av (hlen _ _ _ hP) hi) hz,?_⟩
 by_cases z:i<n
 ·refine .inr ⟨z,λx H2 ⟨e2,e3⟩=> ?_⟩
  rw[e2,e3]
  exact step i ys H' z hP (λys' H3=>∃m',m'<m/\(P (i+1) ys' H3/\i+1<=n/\m'=n-(i+1))) λys' H3 h=>⟨_,by omega,h,z,rfl⟩
 ·have e:i=n:=by omega
  subst e
  exact .inl ⟨ao _,q _ _ hP⟩
section
variable{X:Cx}
noncomputable def wu:R2:=λx y H Q=>match x,y with
 | .ref a,.ref b=>(match H a,H b with
  |some (.tup xs),some (.tup ys)=>xs≠ []/\ys≠ []/\xs.length+ys.length<=sizeLine/\∀p,H p=none->Q (.ref p) (upd H p (.tup (xs++ys)))
  |_,_=>False)
 |_,_=>False
theorem BZ:iy X (binaryOp .Add) wu:=AQ.mono λx y H Q h=>by
 unfold wu at h
 split at h
 case h_2=>exact h.elim
 split at h
 case h_2=>exact h.elim
 rename_i xs zs e1 e2
 exact⟨_,_,xs,zs,rfl,rfl,.of e1,.of e2,h.1,h.2.2.1,λz=>absurd z h.2.1,λ_=>h.2.2.2⟩
end
end L2
namespace L2
open PySem PySem.Spec PyProof.Rows
structure JE(X:Cx)(e:Expr)(t:TE):Prop where
 run:PE X e t
structure JT(X:Cx)(e:Expr)(t:TT):Prop where
 run:PT X e t
structure JW(X:Cx)(e:Expr)(t:TT):Prop where
 run:PW X e t
structure JA(X:Cx)(e:List Expr)(t:TA):Prop where
 run:PA X e t
structure JS(X:Cx)(e:Stmt)(t:TS):Prop where
 run:PS X e t
structure zZ(X:Cx)(e:List Stmt)(t:TS):Prop where
 run:sD X e t
structure JG(X:Cx)(e:Expr)(t:TG):Prop where
 run:PG X e t
structure Ga(X:Cx)(e:List Expr)(t:Bk):Prop where
 run:DA X e t
structure JI(X:Cx)(tg e:Expr)(t:TI):Prop where
 run:PI X tg e t
structure JO(X:Cx)(e:Option Expr)(t:TO):Prop where
 run:PO X e t
structure JH(X:Cx)(e:List ExceptHandler)(t:TH):Prop where
 run:PH X e t
structure xi(X:Cx)(e:List Expr)(t:TT):Prop where
 run:qU X e t
structure ow(X:Cx)(f:Value->Value->Sem Value)(r:R2):Prop where
 run:iy X f r
structure FV(X:Cx)(f:Value->Sem Value)(r:V->Hp->VK->Prop):Prop where
 run:DF X f r
structure jH(X:Cx)(f:Value)(r:List V->Hp->VK->Prop):Prop where
 run:fh X f r
structure EV(X:Cx)(r:R2):Prop where
 run:vg X r
structure EY(X:Cx)(r:V->Option Int->Option Int->Hp->VK->Prop):Prop where
 run:wg X r
structure F2(X:Cx)(t:DE):Prop where
 run:Fd X t
structure zY(X:Cx)(id:String)(r:V->List V->Hp->VK->Prop):Prop where
 run:yc X id r
section
variable{X:Cx}{rest:List Expr}{lo hi:Option Expr}{id T:String}{op:Operator}{st:Stmt}{srest:List Stmt}{hrest:List ExceptHandler}
theorem cj(i:Nat){x:Str}{pos:Pos}(hN:X.N[i]? =some x:=by rfl)(hv:EZ X.env.scope x:=by first|exact Or.inl rfl|exact br (Or.inl rfl)|exact br (br rfl))(hd:(x==("__debug__":Str))=false:=by decide)(hcd:(x==("__classdict__":Str))=false:=by decide):JE X (.Name x pos) (cI i):=⟨cv i hN hv hd hcd⟩
theorem dq{x:Str}{v:V}{pos:Pos}(h:Gv X.mg x v)(hg:Gl X x:=by rfl)(hd:(x==("__debug__":Str))=false:=by decide):JE X (.Name x pos) (tC v):=⟨Ez h hg hd⟩
theorem j5{x:Str}{T:String}{pos:Pos}(hm:X.mg x=none)(hv:bootBuiltins x=some (.type T))(hg:Gl X x:=by rfl)(hn:x≠"__name__":=by decide)(hd:(x==("__debug__":Str))=false:=by decide):JE X (.Name x pos) (tC (.ty T)):=⟨EC hm hv hg hn hd⟩
theorem iX{j pos}:JE X (.Constant .none j pos) (tC .gm):=⟨CV⟩
theorem e_{b j pos}:JE X (.Constant (.bool b) j pos) (tC (.bl b)):=⟨Ey⟩
theorem cf{i j pos}:JE X (.Constant (.int i) j pos) (tC (.int i)):=⟨zt⟩
theorem cw{x j pos}:JE X (.Constant (.str x) j pos) (tC (.str x)):=⟨zw⟩
theorem cm{op:Operator}{r:R2}(ho:ow X (binaryOp op) r)(ha:JE X a ta)(hb:JE X b tb):JE X (.BinOp a op b pos) (dD r ta tb):=⟨EA ho.run ha.run hb.run⟩
theorem AL{op:UnaryOp}{r:V->Hp->VK->Prop}(ho:FV X (unaryOp op) r)(ha:JE X a ta):JE X (.UnaryOp op a pos) (FR r ta):=⟨ED ho.run ha.run⟩
theorem uI(ha:JE X a ta):JE X (.UnaryOp .Not a pos) (u6 ta):=⟨CY ha.run⟩
theorem iW(ha:JE X a ta)(hb:JE X (.BoolOp .And (b::rest) pos) tb):JE X (.BoolOp .And (a::b::rest) pos) (m_ ta tb):=⟨CU ha.run hb.run⟩
theorem qM(ha:JE X a ta)(hb:JE X (.BoolOp .Or (b::rest) pos) tb):JE X (.BoolOp .Or (a::b::rest) pos) (wa ta tb):=⟨EB ha.run hb.run⟩
theorem gK{op}{t:TE}(h:JE X a t):JE X (.BoolOp op [a] pos) t:=⟨CZ h.run⟩
theorem de{op:CmpOp}{r:R2}(ho:ow X (compareOp op) r)(ha:JE X a ta)(hb:JE X b tb)(hm:behindInMarks op b=false):JE X (.Compare a [op] [b] pos) (dD r ta tb):=⟨AU ho.run ha.run hb.run hm⟩
theorem vH{op op':CmpOp}{r r':R2}(ho:ow X (compareOp op) r)(ho':ow X (compareOp op') r')(ha:JE X a ta)(hb:JE X b tb)(hc:JE X c tc)(hm:lastMarks [op,op'] [b,c]=false:=by with_unfolding_all rfl):JE X (.Compare a [op,op'] [b,c] pos) (mh r r' ta tb tc):=⟨zk ho.run ho'.run ha.run hb.run hc.run hm⟩
theorem rD{c:Expr}(hc:JT X c tA)(ha:JE X a ta)(hb:JE X b tb):JE X (.IfExp c a b pos) (E7 tA ta tb):=⟨zr hc.run ha.run hb.run⟩
theorem cE(h:JA X es t):JE X (.List es pos) (eY t):=⟨zu h.run⟩
theorem kx{x1}(h:JA X es t):JE X (.Tuple es x1 pos) (sy t):=⟨C0 h.run⟩
theorem vJ  :JE X (.Dict [] [] pos) v_:=⟨zp⟩
theorem cQ{r:V->Option Int->Option Int->Hp->VK->Prop}(hr:EY X r)(he:JE X e te)(hl:JO X lo tl)(hu:JO X hi th):JE X (.Subscript e (.Slice lo hi none p2) pos) (uh r te tl th):=⟨zv hr.run he.run hl.run hu.run⟩
theorem kj(ha:JA X es t)(hi:JE X e ti)(hs:qE e):JE X (.Subscript (.List es p2) e pos) (dD ub (eY t) ti):=⟨AY ha.run hi.run hs⟩
theorem cU{r:R2}(hr:EV X r)(ha:JE X a ta)(hb:JE X b tb)(hs:qE b):JE X (.Subscript a b pos) (dD r ta tb):=⟨BD hr.run ha.run hb.run hs⟩
theorem cx(F:eg X.prog X.w X.K X.mg X.base (kF X.prog X.w) ca k f fd ps sp)(hr:iz ca k X.A)(hg:Gl X x)(hm:X.mg x=some (.ref f))(hk:PySem.W.keepIn X.K (.ref f)=true)(hb:Binds X.K fd ps [])(hx:Exc X E)(ha:JA X (e::es) t)(hdb:(x==("__debug__":Str))=false:=by decide)(h:(e::es).all notStar=true:=by rfl):JE X (.Call (.Name x p) (e::es) [] pos) (cN sp E t):=⟨zj F hr hg hm hk hb hx ha.run hdb h⟩
theorem cG(hc:jH X (.builtin id) r)(hg:Gl X x)(hm:X.mg x=none)(hv:bootBuiltins x=some (.builtin id))(ha:JA X (e::es) t)(hn:x≠"__name__":=by decide)(hdb:(x==("__debug__":Str))=false:=by decide)(h:(e::es).all notStar=true:=by rfl):JE X (.Call (.Name x p) (e::es) [] pos) (ja r t):=⟨xR hc.run hg hm hv ha.run hn hdb h⟩
theorem c_(hc:jH X (.type T) r)(hg:Gl X x)(hm:X.mg x=none)(hv:bootBuiltins x=some (.type T))(ha:JA X (e::es) t)(hn:x≠"__name__":=by decide)(hdb:(x==("__debug__":Str))=false:=by decide)(h:(e::es).all notStar=true:=by rfl):JE X (.Call (.Name x p) (e::es) [] pos) (ja r t):=⟨vU hc.run hg hm hv ha.run hn hdb h⟩
theorem n9{id:String}{name:Str}(slot:Slot "list" name id)(hty:typeOf (.builtin id)=pure (.type "method_descriptor"))(hm:zY X id r)(ho:JE X o to)(ha:JA X (e::es) t)(hns:(e::es).all notStar=true:=by rfl)(hbase:attributeBase o name X.env (eval o X.env)=eval o X.env:=by rfl)(hfew:((backTo cpos (starEach (e::es) X.env)).all (λx=> !x.1)&&(backToKw cpos (keywordEach [] X.env)).all (λx=>x.1.isSome)
   &&decide ((e::es).length+([]:List Keyword).length+(if ([]:List Keyword).isEmpty then 0 else 1)<30))=true:=by rfl) (hline:(apos.endLine==cpos.line)=true:=by rfl):JE X (.Call (.Attribute o name apos) (e::es) [] cpos) (vo r to t):=⟨Fh slot hty hm.run ho.run ha.run hns hbase hfew hline⟩
theorem cT  :JO X none eK:=⟨A3⟩
theorem cZ(h:JE X e te):JO X (some e) (iO te):=⟨Cb h.run⟩
theorem b_  :JA X [] cL:=⟨zg⟩
theorem cb(ha:JE X e te)(hr:JA X es t)(h:notStar e=true:=by rfl):JA X (e::es) (cB te t):=⟨FC ha.run hr.run h⟩
theorem dw(ha:JT X a tA):JT X (.UnaryOp .Not a pos) (jy tA):=⟨C9 ha.run⟩
theorem fo{X:Cx}{e:Expr}{t:TT}(h:JW X e t):JT X e t:=⟨PW.pt h.run⟩
theorem cA{op:CmpOp}{r:R2}(ho:ow X (compareOp op) r)(ha:JE X a ta)(hb:JE X b tb)(hm:behindInMarks op b=false):JT X (.Compare a [op] [b] pos) (cV (dD r ta tb)):=⟨A9 ho.run ha.run hb.run hm⟩
theorem lX{op op':CmpOp}{r r':R2}(ho:ow X (compareOp op) r)(ho':ow X (compareOp op') r')(ha:JE X a ta)(hb:JE X b tb)(hc:JE X c tc)(hm:lastMarks [op,op'] [b,c]=false:=by with_unfolding_all rfl):JT X (.Compare a [op,op'] [b,c] pos) (cV (mh r r' ta tb tc)):=⟨zG ho.run ho'.run ha.run hb.run hc.run hm⟩
theorem c9(ha:JE X a ta)(he:∀whole,isTrue a X.env whole=(do let v←whole;standAt a.pos;holding [v] (truthy v))):JT X a (λσ H Q=>ta σ H λx H'=>∃k,jd X.K x H' k/\Q k H'):=⟨zH ha.run he⟩
theorem ju(ha:JT X a tA):JW X (.BoolOp .And [a] pos) tA:=⟨A_ ha.run⟩
theorem hZ(ha:JT X a tA):JW X (.BoolOp .Or [a] pos) tA:=⟨Dc ha.run⟩
theorem ky(ha:JT X a tA)(hb:JW X (.BoolOp .And (b::rest) pos) tB'):JW X (.BoolOp .And (a::b::rest) pos) (sv tA tB'):=⟨C_ ha.run hb.run⟩
theorem ik(ha:JT X a tA)(hb:JW X (.BoolOp .Or (b::rest) pos) tB'):JW X (.BoolOp .Or (a::b::rest) pos) (ya tA tB'):=⟨EG ha.run hb.run⟩
theorem cD  :zZ X [] cW:=⟨A7⟩
theorem ck(h1:JS X st t):zZ X [st] t:=⟨A8 h1.run⟩
theorem cc(h1:JS X st t)(h2:zZ X srest u):zZ X (st::srest) (gh t u):=⟨zF h1.run h2.run⟩
theorem gZ{i:Nat}{x:Str}(hN:X.N.Nodup)(hi:X.N[i]? =some x)(hx:Loc X.env.scope x)(hf:X.fn x=true∨X.env.scope.names.lookup x=some .local:=by first|exact .inl rfl|exact .inr rfl|assumption):JG X (.Name x pos) (cJ i):=⟨qP hN hi hx hf⟩
theorem cF(he:JE X e te):JS X (.Return (some e) pos) (dj te):=⟨C6 he.run⟩
theorem xF  :JS X (.Return none pos) zN:=⟨A6⟩
theorem fS(he:JE X e te)(hs:swapsWith e none pos.line X.env=pure false:=by rfl):JS X (.Expr e pos) (lF te):=⟨A5 he.run hs⟩
theorem cK{c:Expr}{a b:List Stmt}{tc:TT}(hc:JT X c tc)(ha:zZ X a t)(hb:zZ X b u):JS X (.If c a b pos) (dA tc t u):=⟨EF hc.run ha.run hb.run⟩
theorem cz{i:Nat}{x:Str}{e:Expr}{te:TE}{pos':Pos}(hN:X.N.Nodup)(hi:X.N[i]? =some x)(hx:Loc X.env.scope x)(he:JE X e te)(hs:swapsWith e (some (.Name x pos')) pos.line X.env=pure false:=by rfl)(hf:X.fn x=true∨X.env.scope.names.lookup x=some .local:=by first|exact .inl rfl|exact .inr rfl|assumption):JS X (.Assign [.Name x pos'] e pos) (c5 te (cJ i)):=⟨C7 hN hi hx he.run hs hf⟩
theorem yR(hu:X.A.units+1<cLine)(ho:JE X o td)(hi:JE X i ty)(hv:JE X value tv)(hs:swapsWith value (some (.Subscript o i pos')) pos.line X.env=pure false):JS X (.Assign [.Subscript o i pos'] value pos) (yi td ty tv):=⟨B2 hu ho.run hi.run hv.run hs⟩
theorem fu(hx:Exc X E)(hg:Gl X x)(hm:X.mg x=some (.ref C))(hq:vi X.K C)(hc:X.calm=true)(ha:JA X (e::es) t)(h:(e::es).all notStar=true:=by rfl)(hdb:(x==("__debug__":Str))=false:=by decide):JS X (.Raise (some (.Call (.Name x np) (e::es) [] cpos)) none pos) (gA C E t):=⟨xX hx hg hm hq hc ha.run h hdb⟩
theorem yZ{body:List Stmt}{h₀:ExceptHandler}{hs:List ExceptHandler}{tb:(St->XK)->TS}{t:TH}(hst:X.stack=X.env::X.outer)(hf:X.env.frame=some X.env.locals)(hb:∀(E:St->XK) (W:Value->Shared->Prop) (pins:List (Addr×Obj)),Exc ((X.pinned pins).fV W) E->zZ ((X.pinned pins).fV W) body (tb E))(hh:JH X (h₀::hs) t):JS X (.Try body (h₀::hs) [] [] pos) (Dq tb t):=⟨C8 hst hf (λE W pins h_0=>(hb E W pins h_0).run) hh.run⟩
theorem AM(hex:X.ex=[])(hg:Gl X x)(hm:X.mg x=some c)(hN:X.N.Nodup)(hi:X.N[i]? =some n)(hn:X.env.scope.names.lookup n=some .local)(hs:∀a,zZ (X.uG a) (b₀::suite) th)(hr:JH X hrest tr)(hdb:(x==("__debug__":Str))=false:=by decide):JH X (.ExceptHandler (some (.Name x np)) (some n) (b₀::suite) pos::hrest) (z9 X.K c i th tr):=⟨EE hex hg hm hN hi hn (λa=>(hs a).run) hr.run hdb⟩
theorem yY  :JH X [] Eh:=⟨C3⟩
theorem kR{a:Expr}{ta:TA}{p pos:Pos}(hg:Gl X "range")(hm:X.mg "range"=none)(ha:JA X [a] ta)(hs:starEach [a] X.env=[(false,eval a X.env)]:=by rfl):JI X tg (.Call (.Name "range" p) [a] [] pos) (sQ ta):=⟨xT hg hm ha.run hs⟩
theorem uJ{a b:Expr}{ta:TA}{p pos:Pos}(hg:Gl X "range")(hm:X.mg "range"=none)(ha:JA X [a,b] ta)(hs:starEach [a,b] X.env=[(false,eval a X.env),(false,eval b X.env)]:=by rfl)(hs2:starEach [b] X.env=[(false,eval b X.env)]:=by rfl):JI X tg (.Call (.Name "range" p) [a,b] [] pos) (yN ta):=⟨xU hg hm ha.run hs hs2⟩
theorem eT{l:Expr}{tl:TE}(hl:JE X l tl):JI X tg l (kQ X.K tl):=⟨A0 hl.run⟩
theorem iY{iter:Expr}{body:List Stmt}{wi:TI}{g:TG}{tb:TS}{pos:Pos}(hp:PassesOwn (model X.prog X.w) X.A X.env X.xe)(hc:X.calm=true)(hi:JI X tg iter wi)(hg:JG X tg g)(hb:zZ X body tb)(hs:∀x,foldedSetIterable iter X.env x=pure x:=by intro _;rfl):JS X (.For tg iter body [] pos) (Dp wi g tb):=⟨C5 hp hc hi.run hg.run hb.run hs⟩
theorem fg{x:Str}{elt iter:Expr}{px pos:Pos}{ifs:List Expr}{wi:TI}{tt:TT}{te:TE}(S:ix fsc scope [x] N2)(hf:X.env.scope=fsc)(hjs:js.map (λj=>X.N[j]?)=N2.map some)(hc:X.calm=true)(hi:JI X (.Name x px) iter wi)(ht:∀s H C ex,xi (X.jA scope (x::N2) [x] s H C ex) ifs tt)(he:∀s H C ex,JE (X.jA scope (x::N2) [x] s H C ex) elt te)(hs:∀v,foldedSetIterable iter X.env v=pure v:=by intro _;rfl):JE X (.ListComp elt [⟨.Name x px,iter,ifs,0⟩] scope pos) (jO js wi tt te):=⟨AV S hf hjs hc hi.run (λs H C ex=>(ht s H C ex).run) (λs H C ex=>(he s H C ex).run) hs⟩
theorem vI{x1 x2:Str}{elt iter:Expr}{p1 p2 pt pos:Pos}{k:Nat}{ifs:List Expr}{wi:TI}{tt:TT}{te:TE}(S:ix fsc scope [x1,x2] N2)(hf:X.env.scope=fsc)(hjs:js.map (λj=>X.N[j]?)=N2.map some)(hc:X.calm=true)(hi:JI X (.Tuple [.Name x1 p1,.Name x2 p2] k pt) iter wi)(ht:∀s H C ex,xi (X.jA scope (x1::x2::N2) [x1,x2] s H C ex) ifs tt)(he:∀s H C ex,JE (X.jA scope (x1::x2::N2) [x1,x2] s H C ex) elt te)(hs:∀v,foldedSetIterable iter X.env v=pure v:=by intro _;rfl):JE X (.ListComp elt [⟨.Tuple [.Name x1 p1,.Name x2 p2] k pt,iter,ifs,0⟩] scope pos) (pX X.K js wi tt te):=⟨zm S hf hjs hc hi.run (λs H C ex=>(ht s H C ex).run) (λs H C ex=>(he s H C ex).run) hs⟩
theorem tT{x:Str}{elt iter:Expr}{px py pos spos:Pos}{ifs:List Expr}{wi:TI}{tt:TT}{te:TE}{i:Nat}{y:Str}(hN:X.N.Nodup)(hy:X.N[i]? =some y)(hl:Loc X.env.scope y)(S:ix fsc scope [x] N2)(hf:X.env.scope=fsc)(hjs:js.map (λj=>X.N[j]?)=N2.map some)(hc:X.calm=true)(hi:JI X (.Name x px) iter wi)(ht:∀s H C ex,xi (X.jA scope (x::N2) [x] s H C ex) ifs tt)(he:∀s H C ex,JE (X.jA scope (x::N2) [x] s H C ex) elt te)(hs:∀v,foldedSetIterable iter X.env v=pure v:=by intro _;rfl)(hsw:swapsWith (.ListComp elt [⟨.Name x px,iter,ifs,0⟩] scope pos) (some (.Name y py)) spos.line X.env=pure true:=by rfl)(hfn:X.fn y=true∨X.env.scope.names.lookup y=some .local:=by first|exact .inl rfl|exact .inr rfl|assumption):JS X (.Assign [.Name y py] (.ListComp elt [⟨.Name x px,iter,ifs,0⟩] scope pos) spos) (c5 (jO js wi tt te) (cJ i)):=⟨vW hN hy hl S hf hjs hc hi.run (λs H C ex=>(ht s H C ex).run) (λs H C ex=>(he s H C ex).run) hs hsw hfn⟩
theorem gL{X:Cx}:xi X [] ui:=⟨zB⟩
theorem iH{X:Cx}{c:Expr}{tt:TT}(h:JT X c tt):xi X [c] tt:=⟨zC h.run⟩
theorem cY  :ow X (binaryOp .Add) jP:=⟨DH⟩
theorem oX  :ow X (binaryOp .Sub) uy:=⟨D6⟩
theorem oW  :ow X (binaryOp .Mult) vv:=⟨DW⟩
theorem c7  :ow X (binaryOp .FloorDiv) g_:=⟨B3⟩
theorem cP  :ow X (binaryOp .Mod) gj:=⟨DV⟩
theorem yV  :ow X (compareOp .Lt) E3:=⟨Fn⟩
theorem ku  :ow X (compareOp .LtE) Bm:=⟨Fm⟩
theorem mP  :ow X (compareOp .Gt) Ak:=⟨Fi⟩
theorem fG  :ow X (compareOp .Eq) sd:=⟨DM⟩
theorem yX  :ow X (compareOp .NotEq) BY:=⟨DX⟩
theorem yS  :ow X (compareOp .Is) Dv:=⟨Fj⟩
theorem AI  :FV X (unaryOp .USub) An:=⟨D0⟩
theorem AJ  :ow X (binaryOp .Mult) Ao:=⟨D2⟩
theorem dh  :EV X oI:=⟨Fl⟩
theorem AH  :EV X (Am X.K):=⟨DS⟩
theorem fM  :jH X (.builtin "len") lM:=⟨DU⟩
theorem yU  :jH X (.builtin "len") (wz X.K):=⟨B9⟩
theorem gc{X:Cx}:jH X (.builtin "isinstance") (l7 X.K):=⟨yu⟩
theorem iG  :EY X xm:=⟨Fo⟩
theorem kr  :zY X "list.append" kK:=⟨yk⟩
theorem tR(hc:X.calm=true):jH X (.builtin "all") xk:=⟨DI hc⟩
theorem fq(hu:X.A.units+8<cLine):ow X (compareOp .Eq) mz:=⟨DN hu⟩
theorem gY(hu:X.A.units+8<cLine):ow X (compareOp .NotEq) oK:=⟨DY hu⟩
theorem vG{X:Cx}:jH X (.builtin "isinstance") (xY X.K):=⟨yw⟩
theorem dW  :ow X (binaryOp .Add) lL:=⟨DL⟩
theorem yQ  :ow X (binaryOp .Add) wu:=⟨BZ⟩
end
section
variable{X:Cx}{scope:Scope}{N2:List Str}{x:List Str}{s:Shared}{Hb:Hp}{C:Addr}{ex:List Addr}
theorem oZ{a:Expr}{ta:TE}(ha:JE (X.jA scope N2 x s Hb C ex) a ta)(he:∀whole,isTrue a (X.jA scope N2 x s Hb C ex).env whole=(do let v←whole;standAt a.pos;holding [v] (truthy v))):JT (X.jA scope N2 x s Hb C ex) a (λσ H Q=>ta σ H λx H'=>∃k,jd X.K x H' k/\Q k H'):=c9 ha he
theorem Co:jH (X.jA scope N2 x s Hb C ex) (.builtin "isinstance") (l7 X.K):=gc
end
end L2
namespace L2
open PySem PySem.Spec PyProof.Rows
variable{X:Cx}
end L2
namespace L2
open PySem PySem.Spec PyProof.Rows
section
variable{X:Cx}{pins:List (Addr×Obj)}{σ:St}{H:Hp}{s:Shared}{h':Heap}
theorem Inv.xf{t':Nat}{ch:List Addr}(I:Inv X pins σ H s)(k:∀b o,b∉ch->s.heap.get? b=some o->h'.get? b=some o)(f:∀b∈ch,nJ X pins H b):Inv X pins σ H {s with heap:=h',toks:=t'}:=by
 have nit:∀b u,H b=some u->b∉ch:=λb u e z=>by rw[(f b z).1]at e;cases e
 refine I.step (g':=s.gens) (d':=s.drawn) (ch:=ch) (λb hb=> ?_) (λb o _ _ hc e _=>k b o hc e) (λb o _ _ hc e _=>⟨o.slots,k b o hc e⟩) (λ_ _ _ _ n=>n)
  (λb o hc e=>⟨o,k b o hc e⟩) (λ_ _ e=>e) (λ_ _ _ e=>e) (λb ps e=>⟨#[],by rw[e];simp⟩) (λm hm=> ?_) (λb u e=> ?_) I.bare
 ·obtain⟨hn,hL,_,h1,h2,h3⟩:=f b hb
  exact⟨h1,hL,h2,h3⟩
 ·obtain⟨o,es,ep,ho,r⟩:=hm
  exact⟨o,es,ep,k _ o (λz=>(f _ z).2.1 rfl) ho,r⟩
 ·refine(I.dm b u e).qC (λc v hc q=>k c v ?_ q) (λ_ q=>q) λ_ _ q=>q
  rcases hc with z|z
  ·rw[z];exact nit b u e
  ·exact nit c _ z
end
noncomputable def F1 (K:PySem.W.Frag) (a b:Addr):It:=
 ⟨λi H=>∃xs x ys y,fb K H a xs/\xs[i]? =some x/\fb K H b ys/\ys[i]? =some y,λi H x H'=>∃p u v,H p=none/\x= .ref p/\H'=upd H p (.tup [u,v])/\(∀xs,fb K H a xs->xs[i]? =some u)/\∀ys,fb K H b ys->ys[i]? =some v,
  λi H=>∃xs ys,fb K H a xs/\fb K H b ys/\(xs.length<=i∨ys.length<=i)⟩
section
variable{X:Cx}
end
theorem fK.zip{K:PySem.W.Frag}{a b:Addr}{xs ys:List V}{g:TG}{tb:TS}{D:Ends}{σ:St}{H:Hp}(Pv:Nat->St->Hp->Prop)(hlen:xs.length=ys.length)(h0:Pv 0 σ H)(hl:∀i σ H,i<=xs.length->Pv i σ H->fb K H a xs/\fb K H b ys)
  (hs:∀i x y σ H p,xs[i]? =some x->ys[i]? =some y->Pv i σ H->H p=none->g (.ref p) σ (upd H p (.tup [x,y])) λσ2 H2=>tb {D with nx:=Pv (i+1),ct:=Pv (i+1),bk:=D.nx} σ2 H2) (hd:∀σ H,Pv xs.length σ H->D.nx σ H):fK (F1 K a b) g tb D σ H:=by
 refine⟨λi m σ H=>Pv i σ H/\i<=xs.length/\m=xs.length-i,⟨_,h0,aO _,rfl⟩,λi m σ H ⟨hP,hi,hm⟩=> ?_⟩
 obtain⟨sa,sb⟩:=hl i σ H hi hP
 by_cases z:i<xs.length
 ·have ex:xs[i]? =some xs[i]:=aE z
  have ey:ys[i]? =some (ys[i]'(by omega)):=aE (by omega)
  refine .inr ⟨⟨xs,_,ys,_,sa,ex,sb,ey⟩,Pv (i+1),λσ' H' hN=>⟨xs.length-(i+1),by omega,hN,z,rfl⟩,?_⟩
  rintro x H' ⟨p,u,v,hp,rfl,rfl,hu,hv⟩
  exact hs i u v σ H p (hu xs sa) (hv ys sb) hP hp
 ·have e:i=xs.length:=by omega
  subst e
  exact .inl ⟨⟨xs,ys,sa,sb,.inl (ao _)⟩,hd σ H hP⟩
theorem y4{X:Cx}{a:Addr}:jH (X.uG a) (.builtin "isinstance") (l7 X.K):=gc
end L2
namespace L2
open PySem PySem.Spec PyProof.Rows
section
variable{X:Cx}{pins:List (Addr×Obj)}{σ:St}{H:Hp}{s:Shared}{d:Addr}{kvs:List (Key×V)}
end
section
variable{X:Cx}
noncomputable def F0 (d:Addr) (o:Obj) (kvs:List (Key×V)):It:=
 ⟨λi H=>H d=some (.ro o (.dK kvs))/\i<kvs.length,λi H x H'=>H'=H/\∃kv,kvs[i]? =some kv/\x=kV kv.1,λi H=>H d=some (.ro o (.dK kvs))/\kvs.length<=i⟩
theorem fK.dict{d:Addr}{o:Obj}{kvs:List (Key×V)}{g:TG}{tb:TS}{D:Ends}{σ:St}{H:Hp}(Pv:Nat->St->Hp->Prop)(h0:Pv 0 σ H)(hl:∀i σ H,i<=kvs.length->Pv i σ H->H d=some (.ro o (.dK kvs)))
  (hs:∀i kv σ H,kvs[i]? =some kv->Pv i σ H->g (kV kv.1) σ H λσ2 H2=>tb {D with nx:=Pv (i+1),ct:=Pv (i+1),bk:=D.nx} σ2 H2) (hd:∀σ H,Pv kvs.length σ H->D.nx σ H):fK (F0 d o kvs) g tb D σ H:=by
 refine⟨λi m σ H=>m+i=kvs.length/\Pv i σ H,⟨kvs.length,by omega,h0⟩,?_⟩
 rintro i m σ H ⟨hm,hP⟩
 by_cases z:i<kvs.length
 ·refine .inr ⟨⟨hl i σ H (by omega) hP,z⟩,Pv (i+1),λσ' H' hN=>⟨kvs.length-(i+1),by omega,by omega,hN⟩,?_⟩
  rintro x H' ⟨rfl,kv,hkv,rfl⟩
  exact hs i kv σ _ hkv hP
 ·have e:i=kvs.length:=by omega
  subst e
  exact .inl ⟨⟨hl _ σ H (ao _) hP,ao _⟩,hd σ H hP⟩
end
end L2
namespace L2
open PySem PySem.Spec PyProof.Rows
section
variable{X:Cx}
noncomputable def vp:R2:=λx y H Q=>match x,y with
 | .str z,.int i=>(match mD z.cps.toList i with
  |some c=>z.length<=sizeLine/\Q (.str ⟨#[c]⟩) H
  |none=>False)
 |_,_=>False
theorem DT:vg X vp:=by
 intro value slice pins s σ H x y v u Q I rx ry h hs
 unfold vp at h
 split at h
 case h_2=>exact h.elim
 rename_i z i
 split at h
 case h_2=>exact h.elim
 rename_i c hc
 exact Cm value slice pins s σ H _ _ v u Q I rx ry ⟨z,i,c,rfl,rfl,h.1,hc,h.2⟩ hs
noncomputable def tH:V->Option Int->Option Int->Hp->VK->Prop:=λx lo hi H Q=>match x with
 | .str z=>(StrLaws.sliceText z lo hi).length<=sizeLine/\Q (.str (StrLaws.sliceText z lo hi)) H
 |_=>False
theorem D3:wg X tH:=by
 intro pins s σ H x v vl vu lo hi sl Q I rx hs pl pu h
 unfold tH at h
 split at h
 case h_2=>exact h.elim
 rename_i z
 obtain⟨t,rfl⟩:=rx
 refine⟨"str",_,slot_str_getitem.lookup,typeIs_str s z t,?_⟩
 have hp:∀{v:Value} {o:Option Int},IsPart v o->∃l:Option (Int×Tok),v=partValue l/\l.map (·.1)=o:=λ{v o} p=>by
  cases p with
  |none=>exact⟨none,rfl,rfl⟩
  |int i t=>exact⟨some (i,t),rfl,rfl⟩
 obtain⟨l,rfl,el⟩:=hp pl
 obtain⟨u,rfl,eu⟩:=hp pu
 refine wpAny_getItem_str_slice (l:=l) (u:=u) (st:=none) hs rfl ?_
 unfold sliceMade
 have e:slicePicked z l u none=Builtin.Str.strSliceIndices lo hi 1 z.length:=by
  unfold slicePicked;rw[el,eu];rfl
 rw[e]
 unfold StrLaws.sliceText at h
 rw[show(Option.map (λ(x:Int×Tok)=>x.fst) none).getD 1=(1:Int) from rfl]
 by_cases c:((1:Int)==1&&(Builtin.Str.strSliceIndices lo hi 1 z.length).length==z.length)=true
 ·rw[if_pos c]at h
  rw[if_pos c]
  exact⟨.str z,H,I,⟨t,rfl⟩,h.2⟩
 ·rw[if_neg c]at h
  rw[if_neg c]
  exact⟨h.1,.str _,H,I.tok _,⟨_,rfl⟩,h.2⟩
theorem pY:∀{ts:List Str} {us:List Value},Vals (ts.map V.str) us->∃l:List (Str×Tok),us=strValues l/\l.map (·.1)=ts
 | [],_,.nil=>⟨[],rfl,rfl⟩
 |x::ts,_::_,.cons r rest=>by
  obtain⟨t,rfl⟩:=r
  obtain⟨l,rfl,e⟩:=pY rest
  exact⟨(x,t)::l,rfl,by rw[ax,e]⟩
noncomputable def qf:V->List V->Hp->VK->Prop:=λx vs H Q=>match x,vs with
 | .str z,[.ref a]=>(match H a with
  |some (.lst ys)=>∃ts:List Str,ys=ts.map V.str/\JoinOk z ts=true/\Q (.str (Txt.join z ts)) H
  |_=>False)
 |_,_=>False
theorem B7:yc X "str.join" qf:=by
 intro pins s σ H x xs v us Q I rx rxs h
 unfold qf at h
 split at h
 case h_2=>exact h.elim
 rename_i z a
 split at h
 case h_2=>exact h.elim
 rename_i ys ea
 obtain⟨ts,rfl,hj,q⟩:=h
 obtain⟨t,rfl⟩:=rx
 obtain⟨u,rfl,ru⟩:=vals1 rxs
 cases (show u=Value.ref a from ru)
 obtain⟨its,rv,p,hz⟩:=I.list (fb.of ea)
 obtain⟨l,rfl,el⟩:=pY rv
 exact SC.join p.isList el hj λt' k=>⟨.str _,H,I.tok _,⟨_,rfl⟩,q⟩
noncomputable def oH:V->List V->Hp->VK->Prop:=λx vs H Q=>match x,vs with
 | .ref a,[.str z]=>(match H a with
  |some (.lst ys)=>∃ts:List Str,ys=ts.map V.str/\z∈ts/\Q (.int (ts.idxOf z:Nat)) H
  |_=>False)
 |_,_=>False
noncomputable def isStr (z:Str):Value->Bool
 | .str a _=>a==z
 |_=>false
theorem yn:yc X "list.index" oH:=by
 intro pins s σ H x xs v us Q I rx rxs h
 unfold oH at h
 split at h
 case h_2=>exact h.elim
 rename_i a z
 split at h
 case h_2=>exact h.elim
 rename_i ys ea
 obtain⟨ts,rfl,hz,q⟩:=h
 cases (show v=Value.ref a from rx)
 obtain⟨u,rfl,t,rfl⟩:=vals1 rxs
 obtain⟨its,rv,p,hl⟩:=I.list (fb.of ea)
 obtain⟨l,rfl,el⟩:=pY rv
 obtain⟨⟨cls,dd,data,sl⟩,ho,hc,n,hd⟩:=id p.isList
 simp only at hc hd
 subst hc hd
 have hlen:l.length=ts.length:=by rw[←el,ah]
 have hj:ts.idxOf z<ts.length:=List.idxOf_lt_length_iff.mpr hz
 have hn:=oa
 rw[ah]at hl
 have at_:∀(m:Nat) (hm:m<(strValues l).length) (hm':m<ts.length),isStr z ((strValues l)[m])=(ts[m]==z):=λm hm hm'=>by
  subst el
  simp[strValues,isStr]
 refine call_meets PySem.F.slot_list_index ⟨_,ho,rfl⟩ PySem.F.entry_list_index (PySem.F.args_list_index_2 _ _)
  (SeqAt.list_indexAt a (strValues l).toArray n dd sl (.str z t) (isStr z) (ts.idxOf z) (by simpa [strValues,hlen] using hj) (by omega) ?_ ?_) ⟨ho,λy hy=> ?_,⟨.int _,H,I.tok _,⟨_,rfl⟩,q⟩⟩
 ·show isStr z ((strValues l)[ts.idxOf z]'(by simpa [strValues,hlen] using hj))=true
  rw[at_ _ _ hj]
  simpa using List.getElem_idxOf hj
 ·intro j hjs hlt
  show isStr z ((strValues l)[j]'(by simpa using hjs))=false
  rw[at_ j _ (by omega)]
  have hf:=List.not_of_lt_findIdx (xs:=ts) (p:=λa=>a==z) hlt
  simpa using hf
 ·have hy':y∈strValues l:=by simpa using hy
  obtain⟨pr,_,rfl⟩:=List.mem_map.mp hy'
  exact(eqGives_str pr.1 z pr.2 t).at _ _
noncomputable def Dy (x:Str):It:=
 ⟨λi _=>i<x.cps.toList.length,λi H v H'=>H'=H/\∃c,x.cps.toList[i]? =some c/\v= .str ⟨#[c]⟩,λi _=>x.cps.toList.length<=i⟩
theorem zR{P:Program}{w:World}{K:PySem.W.Frag}{tg:Expr}(x:Str)(t:Tok)(it:Addr):Turn P w K tg (Dy x) [it] it (λi h=>h.IsStrIter it "str_ascii_iterator" x t i) where
 mem:=by simp
 obj:=λi h st b hb=>by
  have e:b=it:=by simpa using hb
  subst e
  obtain⟨o,e,c,d⟩:=st
  exact⟨o,e,λv z=>by rw[d]at z;cases z⟩
 keep:=λi h h' st k=>by
  obtain⟨o,e,c⟩:=st
  exact⟨o,k it (by simp) o e,c⟩
 item:=by
  intro X hP hw hK hc i pins s σ H E I hf st hg
  subst hP hw hK
  have ex:x.cps.toList[i]? =some (x.cps.toList[i]'hg):=aE hg
  obtain⟨f0,f1,f2,f3,f4,f5⟩:=hf it (by simp)
  refine wpAny_pyNext_ascii_item st (c:=x.cps.toList[i]'hg) (by simpa using ex) λh' st' sb=> ?_
  have I1:Inv X pins σ H {s with heap:=h',toks:=s.toks+1}:=I.turned (t':=s.toks+1) (λb o hb e=>(sb.2 b hb).trans e) f0 f1 f3 f4 f5
  obtain⟨o',e',c',d'⟩:=id st'
  exact⟨_,rfl,yK (s:={s with heap:=h',toks:=s.toks+1}) e' c' d' (by decide) ⟨.str ⟨#[x.cps.toList[i]'hg]⟩,H,I1,⟨_,rfl⟩,⟨rfl,_,ex,rfl⟩,st',λb hb=>(hf b hb).1⟩⟩
 done:=by
  intro X hP hw hK hc i pins s σ H E I hf st hg
  subst hP hw hK
  obtain⟨f0,f1,f2,f3,f4,f5⟩:=hf it (by simp)
  have ex:x.cps.toList[i]? =none:=b7 hg
  exact wpAny_pyNext_ascii_end (I.ok.hd hc) st (by simpa using ex) λh' eb=>⟨rfl,I.turned (t':=s.toks) (λb o hb e=>eb b o hb e) f0 f1 f3 f4 f5⟩
 self:=λ_ _ _ _ _ st h=>wpAny_pyIter_striter_ascii st h
noncomputable def xt (tl:TE):TI:=λσ H R=>tl σ H λx H1=>match x with
 | .str z=>(z.cps.all λc=>decide (c<128))=true/\R (Dy z) H1
 |_=>False
theorem C4{tg l:Expr}{tl:TE}(hl:PE X l tl):PI X tg l (xt tl):=by
 intro pins s σ H R I h
 refine g9 (hl pins s σ H _ I h) λv s1 ⟨x,H1,I1,r1,q1⟩=> ?_
 try dsimp only at q1
 split at q1
 case h_2=>exact q1.elim
 rename_i z
 obtain⟨t,rfl⟩:=r1
 refine wpAny_pyIter_ascii q1.1 ?_
 refine⟨s1.heap.objs.size,[s1.heap.objs.size],_,_,H1,rfl,I1.kept (t':=s1.toks) λb o e=>Heap.get?_push_of_some _ e,zR z t _,⟨_,Heap.get?_push_size _ rfl,rfl,rfl⟩,λb hb=> ?_,q1.2⟩
 have e:b=s1.heap.objs.size:=by simpa using hb
 subst e
 exact I1.yJ (ao _) (I1.dm.fresh (ao _))
theorem gC.En{x:Str}{kG:St}{te:TE}{H:Hp}{Q:VK}(f:Nat->V)(hn:x.cps.toList.length<=sizeLine)(h:∀c∈x.cps.toList,∀K':VK,K' (f c) H->te (some (.str ⟨#[c]⟩)::kG) H K')
  (q:∀p,H p=none->Q (.ref p) (upd H p (.lst (x.cps.toList.map f)))):gC (Dy x) kG ui te H Q:=by
 refine⟨λi m ys H'=>H'=H/\i<=x.cps.toList.length/\m=x.cps.toList.length-i/\ys=(x.cps.toList.take i).map f,⟨_,rfl,aO _,rfl,rfl⟩,λi m ys H' ⟨e1,hi,em,ey⟩=> ?_⟩
 subst e1 ey
 refine⟨by rw[ah,aH];omega,?_⟩
 by_cases z:i<x.cps.toList.length
 ·refine .inr ⟨z,λv H2 ⟨e2,c,ec,ev⟩=> ?_⟩
  subst e2 ev
  refine h c (aZ ec) _ ⟨x.cps.toList.length-(i+1),by omega,rfl,z,rfl,?_⟩
  rw[a_,ec];simp
 ·have e:i=x.cps.toList.length:=by omega
  refine .inl ⟨by show x.cps.toList.length<=i;omega,?_⟩
  rw[e,bb];exact q
noncomputable def oF (r:V->List V->Hp->VK->Prop) (to:TE) (t:TA):TE:=λσ H Q=>to σ H λx H1=>match x with
 | .str _=>t σ H1 λxs H2=>r x xs H2 Q
 |_=>False
theorem DK{id:String}{name:Str}{r:V->List V->Hp->VK->Prop}{o e:Expr}{es:List Expr}{to:TE}{t:TA}{apos cpos:Pos}(slot:Slot "str" name id)(hty:typeOf (.builtin id)=pure (.type "method_descriptor"))(hm:yc X id r)(ho:PE X o to)(ha:PA X (e::es) t)(hns:(e::es).all notStar=true:=by rfl)
  (hbase:attributeBase o name X.env (eval o X.env)=eval o X.env:=by rfl)
  (hfew:((backTo cpos (starEach (e::es) X.env)).all (λx=> !x.1)&&(backToKw cpos (keywordEach [] X.env)).all (λx=>x.1.isSome)
   &&decide ((e::es).length+([]:List Keyword).length+(if ([]:List Keyword).isEmpty then 0 else 1)<30))=true:=by rfl)
  (hline:(apos.endLine==cpos.line)=true:=by rfl):PE X (.Call (.Attribute o name apos) (e::es) [] cpos) (oF r to t):=by
 intro pins s σ H Q I h
 have hs:starEach (e::es) X.env=(false,eval e X.env)::starEach es X.env:=k8 (by rw[aP,aw]at hns;exact hns.1)
 have hplain:(backTo cpos (starEach es X.env)).any (·.1)=false:=kE (by rw[aP,aw]at hns;exact hns.2)
 refine wpAny_Call_method_late hbase hfew hline rfl (g9 (ho pins s σ H _ I h) λv s1 ⟨x,H1,I1,r1,q1⟩=> ?_)
 try dsimp only at q1
 split at q1
 case h_2=>exact q1.elim
 rename_i z
 have ty:E9 X.K "str" (.str z) H1:=rfl
 obtain⟨h1,h2⟩:=wc I1 r1 ty
 refine⟨"str",id,PySem.F.plainAttrs_str,slot,hty,h1,h2,?_⟩
 have hA:=ha cpos pins s1 σ H1 _ I1 q1
 rw[hs]at hA⊢
 refine Calls.callWith_builtin (by show(false ||(backTo cpos (starEach es X.env)).any (·.1))=false;rw[hplain]<;>rfl) (Calls.evalArgs_plain ?_)
 exact g9 hA λus s2 ⟨vs,H2,I2,r2,q2⟩=>hm pins s2 σ H2 _ vs v us Q I2 r1 r2 q2
noncomputable def oJ:List V->Hp->VK->Prop:=λxs H Q=>match xs with
 | [.str z]=>z.length<=sizeLine/\Q (.int z.length) H
 |_=>False
theorem B_:fh X (.builtin "len") oJ:=tI.mono λxs H Q h=>by
 unfold oJ at h
 split at h
 case h_2=>exact h.elim
 rename_i z
 exact⟨z,rfl,h⟩
structure EW(X:Cx)(pos:Pos)(keys:List (Option Expr))(values:List Expr)(trs:List (TE×TE)):Prop where
 run:DB X pos keys values trs
theorem xE{pos:Pos}:EW X pos [] [] []:=⟨A4⟩
theorem vK{pos:Pos}{k v:Expr}{ks:List (Option Expr)}{vs:List Expr}{tk tv:TE}{trs:List (TE×TE)}(hk:JE X k tk)(hv:JE X v tv)(hr:EW X pos ks vs trs):EW X pos (some k::ks) (v::vs) ((tk,tv)::trs):=⟨zD hk.run hv.run hr.run⟩
theorem xD{pos:Pos}{keys:List (Option Expr)}{values:List Expr}{trs:List (TE×TE)}(h:EW X pos keys values trs)(hall:keys.all (·.isSome)=true:=by rfl)(hl:keys.length=values.length:=by rfl)(h0:keys≠ []:=by simp)(h15:keys.length<=15:=by decide):JE X (.Dict keys values pos) (zM trs):=⟨AW h.run hall hl h0 h15⟩
theorem qL:EV X vp:=⟨DT⟩
theorem iV:EY X tH:=⟨D3⟩
theorem mQ:zY X "str.join" qf:=⟨B7⟩
theorem rz:zY X "list.index" oH:=⟨yn⟩
theorem oY{tg l:Expr}{tl:TE}(hl:JE X l tl):JI X tg l (xt tl):=⟨C4 hl.run⟩
theorem ly:jH X (.builtin "len") oJ:=⟨B_⟩
theorem ij{id:String}{name:Str}{r:V->List V->Hp->VK->Prop}{o e:Expr}{es:List Expr}{to:TE}{t:TA}{apos cpos:Pos}(slot:Slot "str" name id)(hty:typeOf (.builtin id)=pure (.type "method_descriptor"))(hm:zY X id r)(ho:JE X o to)(ha:JA X (e::es) t)(hns:(e::es).all notStar=true:=by rfl)
  (hbase:attributeBase o name X.env (eval o X.env)=eval o X.env:=by rfl)
  (hfew:((backTo cpos (starEach (e::es) X.env)).all (λx=> !x.1)&&(backToKw cpos (keywordEach [] X.env)).all (λx=>x.1.isSome)
   &&decide ((e::es).length+([]:List Keyword).length+(if ([]:List Keyword).isEmpty then 0 else 1)<30))=true:=by rfl)
  (hline:(apos.endLine==cpos.line)=true:=by rfl):JE X (.Call (.Attribute o name apos) (e::es) [] cpos) (oF r to t):=⟨DK slot hty hm.run ho.run ha.run hns hbase hfew hline⟩
end
end L2
namespace L2
open PySem PySem.Spec PyProof.Rows
section
variable{X:Cx}
noncomputable def cStr:List V->Hp->VK->Prop:=λxs H Q=>match xs with
 | [.str z]=>Q (.str z) H
 | [.int i]=>i.natAbs.log2<1920/\Q (.str (toString i)) H
 |_=>False
theorem D5:fh X (.type "str") cStr:=by
 intro pins s σ H xs us Q I r h
 unfold cStr at h
 split at h
 ·obtain⟨u,rfl,t,rfl⟩:=vals1 r
  exact P.str_of_str ⟨.str _,H,I,⟨_,rfl⟩,h⟩
 ·exact tK pins s σ H _ us Q I r ⟨_,rfl,h.1,h.2⟩
 ·exact h.elim
noncomputable def sM:List V->Hp->VK->Prop:=λxs H Q=>match xs with
 | [.str z]=>∃n,PySem.intText? z=some n/\z.length<=640/\Q (.int n) H
 | [.int i]=>Q (.int i) H
 | [.bl k]=>Q (.int (if k then 1 else 0)) H
 |_=>False
theorem B4:fh X (.type "int") sM:=by
 intro pins s σ H xs us Q I r h
 unfold sM at h
 split at h
 ·obtain⟨u,rfl,t,rfl⟩:=vals1 r
  obtain⟨n,hn,hl,q⟩:=h
  exact PySem.W.KIN.call_text hn hl ⟨.int n,H,I.tok _,⟨_,rfl⟩,q⟩
 ·exact Bn pins s σ H _ us Q I r h
 ·exact Bn pins s σ H _ us Q I r h
 ·exact h.elim
noncomputable def oN:List V->Hp->VK->Prop:=λxs H Q=>match xs with
 | [.ref a]=>(match H a with
  |some (.lst ys)=>∀l,H l=none->Q (.ref l) (upd H l (.tup ys))
  |_=>False)
 |_=>False
theorem xn:fh X (.type "tuple") oN:=sg.mono λxs H Q h=>by
 unfold oN at h
 split at h
 case h_2=>exact h.elim
 split at h
 case h_2=>exact h.elim
 rename_i ys e
 exact⟨_,ys,rfl,.inl ⟨fb.of e,h⟩⟩
noncomputable def mH:V->List V->Hp->VK->Prop:=λx vs H Q=>match x,vs with
 | .str z,[.str y]=>1<=y.length/\z.length<=40000/\∀l,H l=none->Q (.ref l) (upd H l (.lst ((Txt.split z y).map V.str)))
 |_,_=>False
theorem nc:∀{l:List (Str×Tok)} {ts:List Str},l.map (·.1)=ts->Vals (ts.map V.str) (strValues l)
 | [],_,rfl=> .nil
 |(x,t)::l,_,rfl=> .cons ⟨t,rfl⟩ (nc (l:=l) rfl)
theorem As:yc X "str.split" mH:=by
 intro pins s σ H x xs v us Q I rx rxs h
 unfold mH at h
 split at h
 case h_2=>exact h.elim
 rename_i z y
 obtain⟨hy,hz,q⟩:=h
 obtain⟨t,rfl⟩:=rx
 obtain⟨u,rfl,tu,rfl⟩:=vals1 rxs
 have lay:∀(l:List (Str×Tok)) (k:Nat),l.map (·.1)=Txt.split z y->EP X pins σ Q (.ref s.heap.objs.size) {s with toks:=k,heap:=s.heap.push {cls:= .type "list",data:= .seq (strValues l).toArray}}:=λl k e=>by
  have hl:(Txt.split z y).length<=sizeLine:=av (split_le z y) (av (show z.length+2<=40002 by omega) (by unfold sizeLine;omega))
  refine⟨.ref s.heap.objs.size,_,I.laid (t':=k) (λb o e=>Heap.get?_push_of_some _ e) (ao _) (show eh X.prog X.w _ _ _ (.lst ((Txt.split z y).map V.str)) from⟨by rw[ah];exact hl,strValues l,0,nc e,Heap.get?_push_size _ rfl⟩),rfl,q _ (I.dm.fresh (ao _))⟩
 have hy':(y.length==0)=false:=by simpa using (show y.length≠0 by omega)
 have hsz:z.length<=sizeLine:=av hz (by decide)
 cases h1:(decide (z.length<y.length) ||decide (Builtin.Str.strKind z<Builtin.Str.strKind y))
 ·cases hf:(Builtin.Str.occurrences z y 0 z.length (z.length+1)).isEmpty
  ·have e:Txt.split z y=Builtin.Str.partsBetween z (Builtin.Str.occurrences z y 0 z.length (z.length+1)) y.length:=by unfold Txt.split;rw[if_neg (by rw[h1];exact aL),if_neg (by rw[hf];exact aL)]
   have hsz2:(Builtin.Str.partsBetween z (Builtin.Str.occurrences z y 0 z.length (z.length+1)) y.length).length<=sizeLine:=by
    rw[←e];exact av (split_le z y) (av (show z.length+2<=40002 by omega) (by unfold sizeLine;omega))
   refine call_meets F.slot_str_split (typeIs_str _ _ _) F.entry_str_split (F.args_str_split_2 _ _) (meets_str_split_sep z y t tu h1 hy' hf hsz hsz2) ?_
   show wants _ _ _ {s with toks:=_,heap:=s.heap.push {cls:= .type "list",data:= .seq (strsFrom s.toks (Builtin.Str.partsBetween z (Builtin.Str.occurrences z y 0 z.length (z.length+1)) y.length)).toArray}}
   rw[strsFrom_eq]
   exact lay (numbered s.toks _) _ ((numbered_texts _ _).trans e.symm)
  ·have e:Txt.split z y=[z]:=by unfold Txt.split;rw[if_neg (by rw[h1];exact aL),if_pos hf]
   exact call_meets F.slot_str_split (typeIs_str _ _ _) F.entry_str_split (F.args_str_split_2 _ _) (meets_str_split_not_found z y t tu h1 hy' hf) (lay [(z,t)] s.toks e.symm)
 ·have e:Txt.split z y=[z]:=by unfold Txt.split;rw[if_pos h1]
  exact call_meets F.slot_str_split (typeIs_str _ _ _) F.entry_str_split (F.args_str_split_2 _ _) (meets_str_split_cannot_occur z y t tu h1) (lay [(z,t)] s.toks e.symm)
noncomputable def oM:V->List V->Hp->VK->Prop:=λx vs H Q=>match x,vs with
 | .str z,[.str y]=>Q (.bl (Txt.startswith z y)) H
 |_,_=>False
theorem yr:yc X "str.startswith" oM:=by
 intro pins s σ H x xs v us Q I rx rxs h
 unfold oM at h
 split at h
 case h_2=>exact h.elim
 obtain⟨t,rfl⟩:=rx
 obtain⟨u,rfl,tu,rfl⟩:=vals1 rxs
 exact SC.startswith ⟨.bl _,H,I,rfl,h⟩
noncomputable def yj:R2:=λx y H Q=>match x,y with
 | .str i,.str j=>Q (.bl (!(Builtin.Str.occurrences j i 0 j.length 1).isEmpty)) H
 |_,_=>False
theorem DQ:iy X (compareOp .In) yj:=xQ.mono λx y H Q h=>by
 unfold yj at h
 split at h
 ·exact⟨_,_,rfl,rfl,h⟩
 ·exact h.elim
noncomputable def wA:R2:=λx y H Q=>match x,y with
 | .str z,.int n=>z.length<=1000/\0<=n/\n<=64/\Q (.str (Txt.mul z n)) H
 |_,_=>False
theorem Ca:iy X (binaryOp .Mult) wA:=by
 intro pins s σ H x y v u Q I rx ry h
 unfold wA at h
 split at h
 case h_2=>exact h.elim
 rename_i z n
 obtain⟨t,rfl⟩:=(show∃t,v=Value.str z t from rx)
 obtain⟨t',rfl⟩:=(show∃t,u=Value.int n t from ry)
 obtain⟨hz,h0,hn,h⟩:=h
 exact SB.mul (mulOk_of 1000 64 hz (by omega) (by omega) (by decide) (by decide)) λt2 k=>⟨.str _,H,I.tok _,⟨t2,rfl⟩,h⟩
noncomputable def Ap (K:PySem.W.Frag):V->Option Int->Option Int->Hp->VK->Prop:=λx lo hi H Q=>match x with
 | .ref a=>(match H a with
  |some (.tup xs)=>¬(HT.jf xs.length 0 lo=0/\HT.jf xs.length xs.length hi=xs.length)/\∀p,H p=none->Q (.ref p) (upd H p (.tup (nY xs lo hi)))
  |_=>False)
 |_=>False
theorem D4:wg X (Ap X.K):=by
 intro pins s σ H x v vl vu lo hi sl Q I rx hs pl pu h
 unfold Ap at h
 split at h
 case h_2=>exact h.elim
 split at h
 case h_2=>exact h.elim
 rename_i a _ xs e
 exact Dl pins s σ H _ v vl vu lo hi sl Q I rx hs pl pu ⟨a,xs,rfl,nh.of e,h.1,h.2⟩
structure KTb(w:World)(K:PySem.W.Frag)(a:Addr)(D:List (Str×Int)):Prop where
 lk:KTD.tabLook KTD.flatLooks (λb=>K.lookup b) a (D.map λp=>(p.1,PyData.int p.2))=true
 nd:(D.map (·.1)).Nodup
 hs:KTD.hashesOf (λb=>K.lookup b) a=D.map λp=>PySem.hashStr w p.1
end
noncomputable def D8:Expr->Option V
 | .Constant (.str x) _ _=>some (.str x)
 | .Constant (.int i) _ _=>some (.int i)
 |_=>none
noncomputable def wD:List Expr->Option (List V)
 | []=>some []
 |e::es=>match D8 e with
  |some v=>(wD es).map λvs=>v::vs
  |none=>none
noncomputable def sx (cs:List V):TA:=λ_ H Q=>Q cs H
theorem vT{X:Cx}:∀{es:List Expr} {cs:List V},wD es=some cs->PA X es (sx cs)
 | [],cs,h=>by cases h;exact zg
 |e::es,cs,h=>by
  unfold wD at h
  split at h
  ·rename_i v ev
   obtain⟨vs,h1,rfl⟩:=Option.map_eq_some_iff.mp h
   unfold D8 at ev
   split at ev
   ·cases ev
    exact t9 zw (vT h1) rfl
   ·cases ev
    exact t9 zt (vT h1) rfl
   ·cases ev
  ·cases h
theorem jK{X:Cx}{es:List Expr}{cs:List V}(h:wD es=some cs):JA X es (sx cs):=⟨vT h⟩
theorem fK.str{x:Str}{g:TG}{tb:TS}{D:Ends}{σ:St}{H:Hp}(Pv:Nat->St->Hp->Prop)(h0:Pv 0 σ H)
  (hs:∀i c σ H,x.cps.toList[i]? =some c->Pv i σ H->g (.str ⟨#[c]⟩) σ H λσ2 H2=>tb {D with nx:=Pv (i+1),ct:=Pv (i+1),bk:=D.nx} σ2 H2) (hd:∀σ H,Pv x.cps.toList.length σ H->D.nx σ H):fK (Dy x) g tb D σ H:=by
 refine⟨λi m σ H=>Pv i σ H/\i<=x.cps.toList.length/\m=x.cps.toList.length-i,⟨_,h0,aO _,rfl⟩,λi m σ H ⟨hP,hi,hm⟩=> ?_⟩
 by_cases z:i<x.cps.toList.length
 ·refine .inr ⟨z,Pv (i+1),λσ' H' hN=>⟨x.cps.toList.length-(i+1),by omega,hN,z,rfl⟩,?_⟩
  rintro v H' ⟨rfl,c,hc,rfl⟩
  exact hs i c σ _ hc hP
 ·have e:i=x.cps.toList.length:=by omega
  subst e
  exact .inl ⟨ao _,hd σ H hP⟩
theorem dF{X:Cx}{es:List Stmt}{t:TS}{B:TS->Prop}(h:zZ X es t)(hb:B t):∃t,sD X es t/\B t:=⟨t,h.run,hb⟩
theorem lW{X:Cx}:jH X (.type "str") cStr:=⟨D5⟩
theorem oV{X:Cx}:jH X (.type "int") sM:=⟨B4⟩
theorem uH{X:Cx}:jH X (.type "tuple") oN:=⟨xn⟩
theorem lA{X:Cx}:zY X "str.split" mH:=⟨As⟩
theorem rB{X:Cx}:zY X "str.startswith" oM:=⟨yr⟩
theorem wR{X:Cx}:ow X (compareOp .In) yj:=⟨DQ⟩
theorem yW{X:Cx}:ow X (binaryOp .Mult) wA:=⟨Ca⟩
theorem AK{X:Cx}:EY X (Ap X.K):=⟨D4⟩
end L2
namespace L2
open PySem PySem.Spec PyProof.Rows
section
variable{X:Cx}
noncomputable def oG (neg:Bool):R2:=λx y H Q=>match y with
 | .ref p=>(match H p with
  |some (.lst xs)=>iP x=true/\xs.all iP=true/\Q (.bl (if neg then !z_ x xs else z_ x xs)) H
  |some (.tup xs)=>iP x=true/\xs.all iP=true/\Q (.bl (if neg then !z_ x xs else z_ x xs)) H
  |_=>False)
 |_=>False
theorem wx{K:PySem.W.Frag}{neg:Bool}{x y:V}{H:Hp}{Q:VK}(h:oG neg x y H Q):FE K neg x y H Q:=by
 unfold oG at h
 split at h
 case h_2=>exact h.elim
 split at h
 ·rename_i xs e
  exact⟨_,xs,rfl,.inl (fb.of e),h⟩
 ·rename_i xs e
  exact⟨_,xs,rfl,.inr (nh.of e),h⟩
 ·exact h.elim
theorem DP:iy X (compareOp .In) (oG false):=xP.mono λ_ _ _ _=>wx
theorem yp:iy X (compareOp .NotIn) (oG true):=t7.mono λ_ _ _ _=>wx
noncomputable abbrev g3 (K:PySem.W.Frag):TG:=Ci K 3 (sP (cJ 0) (sP (cJ 1) (sP (cJ 2) Cg)))
section
variable{fsc scope:Scope}{N2:List Str}{js:List Nat}
end
theorem qK:ow X (compareOp .In) (oG false):=⟨DP⟩
theorem n_:ow X (compareOp .NotIn) (oG true):=⟨yp⟩
end
theorem fK.sU{K:PySem.W.Frag}{a:Addr}{xs:List V}{g:TG}{tb:TS}{D:Ends}{σ:St}{H:Hp}(Pv:Nat->St->Hp->Prop)(h0:Pv 0 σ H)(hl:∀i σ H,i<=xs.length->Pv i σ H->fb K H a xs)
  (hs:∀i x σ H,xs[i]? =some x->Pv i σ H->∀R:St->Hp->Prop,(∀σ' H',Pv (i+1) σ' H'->R σ' H')->g x σ H λσ2 H2=>tb {D with nx:=R,ct:=R,bk:=D.nx} σ2 H2) (hd:∀σ H,Pv xs.length σ H->D.nx σ H):fK (yb K a) g tb D σ H:=
 fK.list Pv h0 hl (λi x σ H hx hp=>hs i x σ H hx hp _ λ_ _ h=>h) hd
theorem fK.vX{lo:Int}{n:Nat}{g:TG}{tb:TS}{D:Ends}{σ:St}{H:Hp}(Pv:Nat->St->Hp->Prop)(h0:Pv 0 σ H)
  (hs:∀i σ H,i<n->Pv i σ H->∀R:St->Hp->Prop,(∀σ' H',Pv (i+1) σ' H'->R σ' H')->g (.int (lo+i)) σ H λσ2 H2=>tb {D with nx:=R,ct:=R,bk:=D.nx} σ2 H2) (hd:∀σ H,Pv n σ H->D.nx σ H):fK (zX lo n) g tb D σ H:=
 fK.range Pv h0 (λi σ H hi hp=>hs i σ H hi hp _ λ_ _ h=>h) hd
theorem gC.wM{K:PySem.W.Frag}{a:Addr}{xs:List V}{kG:St}{tt:TT}{te:TE}{H:Hp}{Q:VK}(p:V->Bool)(f:V->V)(hS:fb K H a xs)(hz:xs.length<=sizeLine)
  (ht:∀x∈xs,∀H1,cq H H1->∀K':Bool->Hp->Prop,(∀H2,cq H H2->K' (p x) H2)->tt (some x::kG) H1 K') (he:∀x∈xs,p x=true->∀H1,cq H H1->∀K':VK,(∀H2,cq H H2->K' (f x) H2)->te (some x::kG) H1 K')
  (q:∀l H1,cq H H1->H1 l=none->Q (.ref l) (upd H1 l (.lst ((xs.filter p).map f)))):gC (yb K a) kG tt te H Q:=by
 refine⟨λi m ys H'=>cq H H'/\i<=xs.length/\m=xs.length-i/\ys=((xs.take i).filter p).map f,⟨xs.length,cq.refl _,aO _,rfl,by simp⟩,λi m ys H' ⟨e1,hi,em,ey⟩=> ?_⟩
 subst ey
 refine⟨av (by rw[ah];exact av (bE _ _) (by rw[aH];omega)) hz,?_⟩
 by_cases z:i<xs.length
 ·have hx:xs[i]? =some xs[i]:=aE z
  refine .inr ⟨⟨xs,xs[i],e1.seq hS,hx⟩,λx H2 ⟨e2,e3⟩=> ?_⟩
  have ex:x=xs[i]:=by have:=e3 xs (e1.seq hS);rw[hx]at this;exact(aW this).symm
  rw[e2,ex]
  have tk:xs.take (i+1)=xs.take i++[xs[i]]:=by rw[a_,hx];rfl
  refine ht _ (bI z) _ e1 _ λH3 s3=> ?_
  cases hp:p xs[i] with
  |true=>
   rw[if_pos rfl]
   refine he _ (bI z) hp _ s3 _ λH4 s4=>⟨xs.length-(i+1),by omega,s4,z,rfl,?_⟩
   rw[tk,bh,aF];simp[hp]
  |false=>
   rw[if_neg aL]
   refine⟨xs.length-(i+1),by omega,s3,z,rfl,?_⟩
   rw[tk,bh,aF];simp[hp]
 ·have e:i=xs.length:=by omega
  subst e
  rw[bb]
  exact .inl ⟨⟨xs,e1.seq hS,ao _⟩,λl hl=>q l _ e1 hl⟩
theorem gC.Fw{K:PySem.W.Frag}{a:Addr}{xs:List V}{kG:St}{te:TE}{H:Hp}{Q:VK}(f:V->V)(hS:fb K H a xs)(hz:xs.length<=sizeLine)(he:∀x∈xs,∀K':VK,K' (f x) H->te (some x::kG) H K')(q:∀l,H l=none->Q (.ref l) (upd H l (.lst (xs.map f)))):gC (yb K a) kG ui te H Q:=
 gC.Ee (λ_=>true) f hS hz (λ_ _ _ h=>h) (λx hx _ K' h=>he x hx K' h) λl hl=>by rw[List.filter_eq_self.mpr λ_ _=>rfl];exact q l hl
theorem fsc{N P:List Str}{sc:Scope}(a:sc.kind= .function:=by rfl)(b:sc.isCoroutine=false:=by rfl)(c:sc.isGenerator=false:=by rfl)(d:N.Nodup:=by decide+kernel)(e:N.take P.length=P:=by rfl)(f:∀x∈P,sc.names.lookup x=some .local∨sc.names.lookup x=some .cell:=by decide+kernel)(g:∀y∈sc.names,y.2≠ .free:=by decide+kernel):cX N P sc:=⟨a,b,c,d,e,f,g⟩
theorem lo{sc:Scope}{x:Str}(h:Loc sc x:=by first|exact Or.inl rfl|exact br rfl):Loc sc x:=h
theorem AB{tt:TT}{a b:TS}{D:Ends}{σ:St}{H:Hp}(P:Bool->Hp->Prop)(h1:∀K1:Bool->Hp->Prop,(∀k H1,P k H1->K1 k H1)->tt σ H K1)(h2:∀H1,P true H1->a D σ H1)(h3:∀H1,P false H1->b D σ H1):dA tt a b D σ H:=
 h1 _ λk H1 p=>by
  cases k
  ·exact h3 H1 p
  ·exact h2 H1 p
theorem cS{b:Bool}{P:Bool->Prop}:(∃k,V.bl b=V.bl k/\P k)=P b:=propext ⟨λ⟨_,e,p⟩=>by cases e;exact p,λp=>⟨b,rfl,p⟩⟩
theorem BQ{a0 a1 q:Prop}(h:a0/\a1/\q):q/\a0/\a1:=⟨h.2.2,h.1,h.2.1⟩
theorem BR{a0 a1 a2 q:Prop}(h:a0/\a1/\a2/\q):q/\a0/\a1/\a2:=⟨h.2.2.2,h.1,h.2.1,h.2.2.1⟩
theorem E2{a0 a1 a2 a3 q:Prop}(h:a0/\a1/\a2/\a3/\q):q/\a0/\a1/\a2/\a3:=⟨h.2.2.2.2,h.1,h.2.1,h.2.2.1,h.2.2.2.1⟩
theorem F4{a0 a1 a2 a3 a4 q:Prop}(h:a0/\a1/\a2/\a3/\a4/\q):q/\a0/\a1/\a2/\a3/\a4:=⟨h.2.2.2.2.2,h.1,h.2.1,h.2.2.1,h.2.2.2.1,h.2.2.2.2.1⟩
theorem tO{α:Type}{C:List α->Prop}(h:∀a0,C [a0]):∀us:List α,us.length=1->C us
 | [a0],_=>h a0
theorem Ax{α:Type}{C:List α->Prop}(h:∀a0 a1,C [a0,a1]):∀us:List α,us.length=2->C us
 | [a0,a1],_=>h a0 a1
end L2
namespace L2
open PySem PySem.Spec PyProof.Rows
section
variable{X:Cx}{r:V->List V->Hp->VK->Prop}{o:Expr}{to:TE}{apos cpos:Pos}
noncomputable def xl:V->List V->Hp->VK->Prop:=λx vs H Q=>match x,vs with
 | .ref l,[]=>(match H l with
  |some (.lst xs)=>(match xs[xs.length-1]? with
   |some y=>Q y (upd H l (.lst xs.dropLast))
   |none=>False)
  |_=>False)
 |_,_=>False
theorem D1:BK X "list.pop" xl:=λpins s σ H x xs v us Q I rx rxs h=>by
 unfold xl at h
 split at h
 case h_2=>exact h.elim
 split at h
 case h_2=>exact h.elim
 rename_i l _ ys hp
 split at h
 case h_2=>exact h.elim
 rename_i y hy
 exact CC pins s σ H _ _ v us Q I rx rxs ⟨_,ys,y,rfl,rfl,hp,hy,h⟩
noncomputable def tG:V->List V->Hp->VK->Prop:=λx vs H Q=>match x,vs with
 | .ref l,[]=>(match H l with
  |some (.lst _)=>Q .gm (upd H l (.lst []))
  |_=>False)
 |_,_=>False
theorem Aq:BK X "list.clear" tG:=λpins s σ H x xs v us Q I rx rxs h=>by
 unfold tG at h
 split at h
 case h_2=>exact h.elim
 split at h
 case h_2=>exact h.elim
 rename_i l _ ys hp
 exact za pins s σ H _ _ v us Q I rx rxs ⟨_,ys,rfl,rfl,hp,h⟩
theorem DJ{id:String}{name:Str}(slot:Slot "list" name id)(hty:typeOf (.builtin id)=pure (.type "method_descriptor"))(hm:BK X id r)(ho:PE X o to)
  (hbase:attributeBase o name X.env (eval o X.env)=eval o X.env:=by rfl)
  (hfew:((backTo cpos (starEach [] X.env)).all (λx=> !x.1)&&(backToKw cpos (keywordEach [] X.env)).all (λx=>x.1.isSome)
   &&decide (([]:List Expr).length+([]:List Keyword).length+(if ([]:List Keyword).isEmpty then 0 else 1)<30))=true:=by rfl)
  (hline:(apos.endLine==cpos.line)=true:=by rfl):PE X (.Call (.Attribute o name apos) [] [] cpos) (vo r to cL):=by
 intro pins s σ H Q I h
 refine wpAny_Call_method_late hbase hfew hline rfl (g9 (ho pins s σ H _ I h) λv s1 ⟨x,H1,I1,r1,q1⟩=> ?_)
 try dsimp only at q1
 split at q1
 case h_2=>exact q1.elim
 rename_i a
 split at q1
 case h_2=>exact q1.elim
 rename_i ys ea
 have ty:E9 X.K "list" (.ref a) H1:= .inl ⟨rfl,ys,fb.of ea⟩
 obtain⟨h1,h2⟩:=wc I1 r1 ty
 refine⟨"list",id,PySem.F.plainAttrs_list,slot,hty,h1,h2,?_⟩
 exact Calls.callWith_builtin rfl (PyProof.Rows.evalArgs_empty (hm pins s1 σ H1 _ [] v [] Q I1 r1 .nil q1))
end
noncomputable def Bj (K:PySem.W.Frag) (a:Addr) (D:List (Str×KTD.Dat)):Prop:=KTD.tabLook (KTD.datLooks λb=>K.lookup b) (λb=>K.lookup b) a D=true
section
variable{X:Cx}
theorem Bj.here{K:PySem.W.Frag}{a:Addr}{D:List (Str×KTD.Dat)}{h:Heap}(t:Bj K a D)(x:∀b o,K.lookup b=some o->h.get? b=some o):KTD.Here h h a D:=
 ⟨KTD.tab_of_look (KTD.dat_of_looks x) x t,λ_ _ e=>e⟩
noncomputable def Al (K:PySem.W.Frag):R2:=λx y H Q=>match x,y with
 | .str k,.ref a=>∃D,Bj K a D/\Q (.bl (KTD.inKeys k D)) H
 |_,_=>False
noncomputable def qI (K:PySem.W.Frag):R2:=λx y H Q=>match x,y with
 | .str k,.ref a=>∃D,Bj K a D/\Q (.bl (!KTD.inKeys k D)) H
 |_,_=>False
theorem DR:iy X (compareOp .In) (Al X.K):=by
 intro pins s σ H x y v u Q I rx ry h
 unfold Al at h
 split at h
 case h_2=>exact h.elim
 obtain⟨D,t,q⟩:=h
 obtain⟨tk,rfl⟩:=rx
 cases ry
 exact KTD.in_text (t.here I.rF) ⟨.bl _,H,I.tok _,rfl,q⟩
theorem yq:iy X (compareOp .NotIn) (qI X.K):=by
 intro pins s σ H x y v u Q I rx ry h
 unfold qI at h
 split at h
 case h_2=>exact h.elim
 obtain⟨D,t,q⟩:=h
 obtain⟨tk,rfl⟩:=rx
 cases ry
 exact KTD.notin_text (t.here I.rF) ⟨.bl _,H,I.tok _,rfl,q⟩
noncomputable def E5:PyData->V
 | .int i=> .int i
 | .str x=> .str x
 | .bool b=> .bl b
 |_=> .gm
theorem zS{d:PyData}{v:Value}(h:KTD.flatLooks d v=true):RelV (E5 d) v:=by
 unfold KTD.flatLooks at h
 split at h
 ·rfl
 ·rw[beq_iff_eq.mp h];rfl
 ·rw[beq_iff_eq.mp h];exact⟨_,rfl⟩
 ·rw[beq_iff_eq.mp h];exact⟨_,rfl⟩
 ·cases h
theorem r_:∀{ds:List PyData} {vs:List Value},KTD.flatsLook ds vs=true->Vals (ds.map E5) vs
 | [],[],_=> .nil
 |d::ds,v::vs,h=>by
  unfold KTD.flatsLook at h
  rw[aw]at h
  exact .cons (zS h.1) (r_ h.2)
 | [],_::_,h=>by cases h
 |_::_,[],h=>by cases h
theorem Fs{P:Program}{w:World}{A:Around}{E:Value->Shared->Prop}{s:Shared}{K:PySem.W.Frag}{a:Addr}{D:List (Str×KTD.Dat)}{k:Str}{tk:Tok}{ds:List PyData}{Q:Value->Shared->Prop}(t:Bj K a D)(x:∀b o,K.lookup b=some o->s.heap.get? b=some o)
  (hd:KTD.datumAt k D=some (.tup ds)) (h:∀b o its n,K.lookup b=some o->o.cls= .type "tuple"->o.data= .seq its n->Vals (ds.map E5) its.toList->Q (.ref b) {s with toks:=s.toks+1}):s.TypeIs (.ref a) "dict"/\wpAny (model P w) A (getItem (.ref a) (.str k tk)) Q E s:=by
 have T:=KTD.tab_of_look (R:=λd v=>KTD.datLooks (λb=>K.lookup b) d v=true) (λ_ _ e=>e) x t
 have ty:s.TypeIs (.ref a) "dict":=(t.here x).typeIs
 refine⟨ty,?_⟩
 obtain⟨lo,o,es,ep,ho,hc,hdt,hr⟩:=T
 obtain⟨v,hv,hl⟩:=hr.find_some hd
 have hq:Q v {s with toks:=s.toks+1}:=by
  cases v with
  |ref b=>
   change (match K.lookup b with
    |some o=>o.cls== .type "tuple"&&(match o.data with| .seq vs _=>KTD.flatsLook ds vs.toList|_=>false)
    |none=>false)=true at hl
   cases e:K.lookup b with
   |none=>rw[e]at hl;cases hl
   |some o=>
    rw[e]at hl
    dsimp only at hl
    rw[aw]at hl
    cases ed:o.data with
    |seq its n=>rw[ed]at hl;exact h b o its n e (beq_iff_eq.mp hl.1) ed (r_ hl.2)
    |_=>rw[ed]at hl;exact nomatch hl.2
  |_=>exact nomatch hl
 have hfb:findBy (λk v=>v.isStr k) es k=some v:=by
  rw[←hv]
  obtain⟨l⟩:=es
  simp[findBy]
 rw[findBy_of_findIdx?]at hfb
 obtain⟨i,hi⟩:∃i,(es.findIdx? λe=>e.key.isStr k)=some i:=by
  cases hi:es.findIdx? λe=>e.key.isStr k with
  |none=>rw[hi]at hfb;cases hfb
  |some i=>exact⟨i,rfl⟩
 rw[hi]at hfb
 unfold getItem
 try with_reducible refine wpAny_holding ?_
 refine wpAny_bind (wpAny_sequenceKey ty (by decide) (wpAny_bind (wpAny_callSpecial?_slot (name:=Str.ofString "__getitem__") ty PySem.F.slot_dict_getitem (wpAny_call_entry PySem.F.slot_dict_getitem ty PySem.F.entry_dict_getitem ?_ (PySem.F.args_dict_getitem_2 _ _)))))
 show wpAny _ _ (dictGet a (.str k tk)>>=_) _ _ s
 refine wpAny_bind ?_
 unfold dictGet
 try with_reducible refine wpAny_holding ?_
 refine wpAny_bind (wpAny_pyHash_str (wpAny_bind (KTD.kt_dictFind_strs (s:={s with toks:=s.toks+1}) ho hdt (by obtain⟨l⟩:=es;simpa using hr.exact) ?_)))
 rw[hi]
 refine wpAny_bind (wpAny_dictEntries (s:={s with toks:=s.toks+1}) ho hdt (wpAny_pure ?_))
 rw[show Option.map (λx=>x.val) es[i]? =some v from hfb]
 exact wpAny_pure ⟨v,rfl,wpAny_pure hq⟩
noncomputable def q0 (K:PySem.W.Frag) (td ty:TE):TE:=λσ H Q=>td σ H λx H1=>ty σ H1 λy H2=>match x,y with
 | .ref a,.str k=>∃D ds,Bj K a D/\KTD.datumAt k D=some (.tup ds)/\ds.length<=sizeLine/\∀b,nh K H2 b (ds.map E5)->Q (.ref b) H2
 |_,_=>False
theorem Ar{o i:Expr}{pos:Pos}{td ty:TE}(ho:PE X o td)(hi:PE X i ty)(hs:BL i):PE X (.Subscript o i pos) (q0 X.K td ty):=by
 intro pins s σ H Q I h
 refine Bd PySem.F.slot_dict_getitem.lookup hs (g9 (ho pins s σ H _ I h) λu s1 ⟨x,H1,I1,rx,q1⟩=>g9 (hi pins s1 σ H1 _ I1 q1) λiv s2 ⟨y,H2,I2,ry,q2⟩=> ?_)
 try dsimp only at q2
 split at q2
 case h_2=>exact q2.elim
 rename_i a k _
 obtain⟨D,ds,t,hd,hz,q⟩:=q2
 obtain rfl:u=Value.ref a:=rx
 obtain⟨tk,rfl⟩:=ry
 exact Fs t I2.rF hd λb o its n e c ed r=>⟨.ref b,H2,I2.tok _,rfl,q b (.inr ⟨o,its,n,e,c,ed,by have:=r.length;rw[ah]at this;rw[←Array.length_toList,←this];exact hz,r⟩)⟩
end
end L2
namespace L2
open PySem PySem.Spec PyProof.Rows
structure vj(i l:Addr)(J:Heap->Nat->Prop)(xs:Array Value):Prop where
 ne:l≠i
 keep:∀{h h':Heap} {k:Nat},J h k->(∀o,h.get? i=some o->h'.get? i=some o)->(∀o,h.get? l=some o->h'.get? l=some o)->J h' k
 lt:∀{h:Heap} {k:Nat},J h k->i<h.objs.size
 item:∀{P:Program} {w:World} {A:Around} {E:Value->Shared->Prop} {s:Shared} {k:Nat} {x:Value} {Q:Value->Shared->Prop},J s.heap k->xs[k]? =some x->
  (∀h',J h' (k+1)->Heap.SameBut i s.heap h'->Q x {s with heap:=h'})->wpAny (model P w) A (Builtin.SmallTypes.nextOf (.ref i)) Q E s
 fin:∀{P:Program} {w:World} {A:Around} {E:Value->Shared->Prop} {s:Shared} {k:Nat} {Q:Value->Shared->Prop},A.handled=none->J s.heap k->xs[k]? =none->
  (∀h' e,Heap.ExtBut i s.heap h'->(∃o,h'.get? e=some o/\o.cls= .type "StopIteration")->E (.ref e) {s with heap:=h'})->wpAny (model P w) A (Builtin.SmallTypes.nextOf (.ref i)) Q E s
theorem vj.lst{i l:Addr}{xs:Array Value}(ne:l≠i):vj i l (λh k=>h.IsListIter i l k/\h.IsList l xs) xs where
 ne:=ne
 keep:=λ⟨a,b⟩ hi hl=>⟨a.at hi,b.at hl⟩
 lt:=λ⟨⟨_,e,_⟩,_⟩=>Heap.lt_size e
 item:=λ⟨a,b⟩ hx q=>wpAny_nextOf_list_item a b hx λh' a' sb=>q h' ⟨a',b.extBut sb.extBut ne⟩ sb
 fin:=λhh ⟨a,b⟩ hx q=>wpAny_nextOf_list_end hh a b hx q
section
variable{P:Program}{w:World}{A:Around}{E:Value->Shared->Prop}{s:Shared}
theorem qz{i t:Addr}{k:Nat}{xs:Array Value}{x:Value}{Q:Value->Shared->Prop}(hi:IsTupIter s.heap i t k)(ht:IsTup s.heap t xs)(hx:xs[k]? =some x)
  (q:∀h',IsTupIter h' i t (k+1)->Heap.SameBut i s.heap h'->Q x {s with heap:=h'}):wpAny (model P w) A (Builtin.SmallTypes.nextOf (.ref i)) Q E s:=by
 obtain⟨o,ho,hc,hd⟩:=id hi
 obtain⟨ot,hot,_,n,hdt⟩:=ht
 unfold Builtin.SmallTypes.nextOf
 refine wpAny_bind (wpAny_callSpecial?_slot (name:=Str.ofString "__next__") hi.typeIs slot_tupleiter_next (wpAny_call_entry slot_tupleiter_next hi.typeIs entry_tupleiter_next ?_ (args_tupleiter_next _)))
 refine wpAny_bind (m:=field (.ref i) 0) (wpAny_field ho hd (x:= .ref t) rfl ?_)
 refine(show(λz:Bool=>wpAny (model P w) A.in1 (if z=true then _ else _) _ E s) false from ?_)
 refine wpAny_bind (m:=field (.ref i) 1) (wpAny_field ho hd (x:= .int k 0) rfl (wpAny_bind (m:=seqItems? (.ref t)) (wpAny_seqItems hot hdt ?_)))
 simp only[Int.toNat_natCast,hx]
 refine wpAny_bind (wpAny_setField ho hd (by simp) (wpAny_pure ⟨x,rfl,wpAny_pure (q _ ⟨_,Heap.get?_update_self _ ho (Obj.isFreed_of_fields (Obj.data_mapFields hd _)),(Obj.cls_mapFields ..).trans hc,?_⟩ (Heap.SameBut.update ..))⟩))
 rw[Obj.data_mapFields hd]
 simp[rawInt]
theorem zK{Q:Fin->Shared->Prop}(hh:A.handled=none)(q:∀h' e,(∀c o,s.heap.get? c=some o->h'.get? c=some o)->(∃o,h'.get? e=some o/\o.cls= .type "StopIteration")->E (.ref e) {s with heap:=h'}):
  wpAny (model P w) A Builtin.SmallTypes.stopIteration Q E s:=by
 unfold Builtin.SmallTypes.stopIteration
 simp only[newExc,newTuple]
 refine wpAny_bind (wpAny_bind (wpAny_newObj_type ?_ (by size_fits)))
 refine wpAny_bind (m:=firstArgMember _ _) (wpAny_of_eq (a:=Value.none) (by first|rfl|(simp only[firstArgMember];rfl)) ?_)
 refine wpAny_newObj_type ?_ (by size_fits)
 simp only[raiseNew]
 refine wpAny_bind (wpAny_handled ?_)
 rw[hh]
 exact wpAny_bind (wpAny_pure (wpAny_throw (q _ _ (λc o e=>Heap.get?_push_of_some _ (Heap.get?_push_of_some _ e)) ⟨_,Heap.get?_push_size _ rfl,rfl⟩)))
theorem rH{i t:Addr}{k:Nat}{xs:Array Value}{Q:Value->Shared->Prop}(hh:A.handled=none)(hi:IsTupIter s.heap i t k)(ht:IsTup s.heap t xs)(hx:xs[k]? =none)
  (q:∀h' e,Heap.ExtBut i s.heap h'->(∃o,h'.get? e=some o/\o.cls= .type "StopIteration")->E (.ref e) {s with heap:=h'}):wpAny (model P w) A (Builtin.SmallTypes.nextOf (.ref i)) Q E s:=by
 obtain⟨o,ho,hc,hd⟩:=id hi
 obtain⟨ot,hot,_,n,hdt⟩:=ht
 unfold Builtin.SmallTypes.nextOf
 refine wpAny_bind (wpAny_callSpecial?_slot (name:=Str.ofString "__next__") hi.typeIs slot_tupleiter_next (wpAny_call_entry slot_tupleiter_next hi.typeIs entry_tupleiter_next ?_ (args_tupleiter_next _)))
 refine wpAny_bind (m:=field (.ref i) 0) (wpAny_field ho hd (x:= .ref t) rfl ?_)
 refine(show(λz:Bool=>wpAny (model P w) A.in1 (if z=true then _ else _) _ E s) false from ?_)
 refine wpAny_bind (m:=field (.ref i) 1) (wpAny_field ho hd (x:= .int k 0) rfl (wpAny_bind (m:=seqItems? (.ref t)) (wpAny_seqItems hot hdt ?_)))
 simp only[Int.toNat_natCast,hx]
 refine wpAny_bind (wpAny_rule (wpAny_bind (wpAny_setField ho hd (by simp) (zK (by first|exact hh|rfl) λh' e hk he=> ?_))))
 exact q h' e (λc o cn ec=>hk c o ((Heap.SameBut.update ..).extBut c o cn ec)) he
end
theorem vj.tup{i l:Addr}{xs:Array Value}(ne:l≠i):vj i l (λh k=>IsTupIter h i l k/\IsTup h l xs) xs where
 ne:=ne
 keep:=λ⟨⟨o,e,r⟩,⟨p,e2,r2⟩⟩ hi hl=>⟨⟨o,hi _ e,r⟩,⟨p,hl _ e2,r2⟩⟩
 lt:=λ⟨⟨_,e,_⟩,_⟩=>Heap.lt_size e
 item:=λ⟨a,⟨p,e2,r2⟩⟩ hx q=>qz a ⟨p,e2,r2⟩ hx λh' a' sb=>q h' ⟨a',⟨p,sb.extBut _ _ ne e2,r2⟩⟩ sb
 fin:=λhh ⟨a,b⟩ hx q=>rH hh a b hx q
end L2
namespace L2
open PySem PySem.Spec PyProof.Rows
section
variable{P:Program}{w:World}{A:Around}{E:Value->Shared->Prop}{s:Shared}{z TI TO i1 i2 l1 l2:Addr}{k1 k2:Nat}{xs ys:Array Value}{x y a b:Value}{J1 J2:Heap->Nat->Prop}
theorem x6{Q:Value->Shared->Prop}(N1:vj i1 l1 J1 xs)(N2:vj i2 l2 J2 ys)(D:ZipApart z TI TO i1 i2 l1 l2)(hz:IsZip s.heap z TI TO .none)(hTI:IsPair s.heap TI (.ref i1) (.ref i2))(hTO:IsPair s.heap TO a b)
  (h1:J1 s.heap k1) (h2:J2 s.heap k2) (hx:xs[k1]? =some x) (hy:ys[k2]? =some y)
  (q:∀h',IsZip h' z TI TO (rawInt s.heap.objs.size)->IsPair h' TO x y->J1 h' (k1+1)->J2 h' (k2+1)->IsPair h' s.heap.objs.size x y->h'.objs.size=s.heap.objs.size+1->
   (∀c o,c≠z->c≠TO->c≠i1->c≠i2->s.heap.get? c=some o->h'.get? c=some o)->Q (.ref s.heap.objs.size) {s with heap:=h'}):
  wpAny (model P w) A (Builtin.«zip.__next__» ⟨[.ref z],[]⟩) (λfin s'=>∃v,fin= .done (.ret v)/\Q v s') E s:=by
 refine wpAny_bind (m:=field (.ref z) 2) (wpAny_field hz rfl (x:= .bool false) rfl ?_)
 refine wpAny_bind (m:=field (.ref z) 3) (wpAny_field hz rfl (x:= .ref TI) rfl (wpAny_bind (wpAny_seqItems hTI rfl ?_)))
 refine wpAny_bind (m:=Builtin.SmallTypes.ownedTupleIsFree (.ref z)) ?_
 unfold Builtin.SmallTypes.ownedTupleIsFree
 refine wpAny_bind (wpAny_field hz rfl (x:= .none) rfl (wpAny_pure ?_))
 simp only[if_true]
 refine wpAny_bind (wpAny_rule (wpAny_bind (wpAny_field hz rfl (x:= .ref TO) rfl (wpAny_bind (wpAny_setField_rec hz (by simp) λg1 z1 e1=>wpAny_bind ?_)))))
 have z1:IsZip g1 z TI TO .ellipsis:=z1
 have f1:∀c o,c≠z->s.heap.get? c=some o->g1.get? c=some o:=λc o n e=>e1.extBut c o n e
 simp only[List.zipIdx_cons,List.zipIdx_nil,List.forIn_cons,List.forIn_nil]
 refine wpAny_bind (wpAny_bind (wpAny_onRaise ?_))
 refine wpAny_bind (m:=Builtin.SmallTypes.nextOf (.ref i1)) (N1.item (N1.keep h1 (λo=>f1 _ o D.i1z) λo=>f1 _ o D.l1z) hx λg2 j2 e2=>wpAny_pure ?_)
 have f2:∀c o,c≠z->c≠i1->s.heap.get? c=some o->g2.get? c=some o:=λc o n m e=>e2.extBut c o m (f1 c o n e)
 have t2:IsPair g2 TO a b:=f2 _ _ D.TOz D.TOi1 hTO
 refine wpAny_bind (wpAny_seqItems t2 rfl (wpAny_bind (wpAny_updateSeq_pair t2 λg3 t3 e3=>wpAny_bind (wpAny_letGo (wpAny_pure ?_)))))
 have t3:IsPair g3 TO x b:=t3
 have f3:∀c o,c≠z->c≠i1->c≠TO->s.heap.get? c=some o->g3.get? c=some o:=λc o n m p e=>e3.extBut c o p (f2 c o n m e)
 refine wpAny_bind (wpAny_bind (wpAny_onRaise ?_))
 refine wpAny_bind (m:=Builtin.SmallTypes.nextOf (.ref i2)) (N2.item (N2.keep h2 (λo=>f3 _ o D.i2z D.i12.symm D.TOi2.symm) λo=>f3 _ o D.l2z D.l2i1 D.l2TO) hy λg4 j4 e4=>wpAny_pure ?_)
 have t4:IsPair g4 TO x b:=e4.extBut _ _ D.TOi2 t3
 refine wpAny_bind (wpAny_seqItems t4 rfl (wpAny_bind (wpAny_updateSeq_pair t4 λg5 t5 e5=>wpAny_bind (wpAny_letGo (wpAny_pure (wpAny_pure ?_))))))
 have t5:IsPair g5 TO x y:=t5
 refine wpAny_bind (wpAny_seqItems t5 rfl (wpAny_bind (wpAny_newTuple ?_)))
 have sz:g5.objs.size=s.heap.objs.size:=by rw[e5.1,e4.1,e3.1,e2.1,e1.1]
 have z5:IsZip g5 z TI TO .ellipsis:=e5.extBut _ _ D.TOz.symm (e4.extBut _ _ D.i2z.symm (e3.extBut _ _ D.TOz.symm (e2.extBut _ _ D.i1z.symm z1)))
 have f5:∀c o,c≠z->c≠TO->c≠i1->c≠i2->s.heap.get? c=some o->g5.get? c=some o:=λc o n p m m2 e=>e5.extBut c o p (e4.extBut c o m2 (f3 c o n m p e))
 have up1:∀c o,c≠TO->c≠i2->g2.get? c=some o->g5.get? c=some o:=λc o p m e=>e5.extBut c o p (e4.extBut c o m (e3.extBut c o p e))
 have j1:J1 g5 (k1+1):=N1.keep j2 (λo=>up1 _ o D.TOi1.symm D.i12) λo=>up1 _ o D.l1TO D.l1i2
 have j2':J2 g5 (k2+1):=N2.keep j4 (λo e=>e5.extBut _ o D.TOi2.symm e) λo e=>e5.extBut _ o D.l2TO e
 have lz:z<g5.objs.size:=Heap.lt_size z5
 refine wpAny_bind (m:=Builtin.SmallTypes.ownedTupleHandOut (.ref z) (.ref g5.objs.size)) ?_
 unfold Builtin.SmallTypes.ownedTupleHandOut
 have z6:IsZip (g5.push {cls:= .type "tuple",data:= .seq #[x,y]}) z TI TO .ellipsis:=Heap.get?_push_of_some _ z5
 refine wpAny_bind (wpAny_setField_rec z6 (by simp) λg7 z7 e7=> ?_)
 have z7:IsZip g7 z TI TO (rawInt g5.objs.size):=z7
 refine wpAny_setField_rec z7 (by simp) λg8 z8 e8=> ?_
 have z8:IsZip g8 z TI TO (rawInt g5.objs.size):=z8
 have up:∀c o,c≠z->g5.get? c=some o->g8.get? c=some o:=λc o n e=>e8.extBut c o n (e7.extBut c o n (Heap.get?_push_of_some _ e))
 have nw:IsPair g8 g5.objs.size x y:=e8.extBut _ _ (bL lz) (e7.extBut _ _ (bL lz) (Heap.get?_push_size _ rfl))
 have s8:g8.objs.size=g5.objs.size+1:=by rw[e8.1,e7.1,Heap.size_push]
 rw[sz]at z8 nw s8
 refine wpAny_pure ⟨_,rfl,?_⟩
 show Q (.ref g5.objs.size) _
 rw[sz]
 exact q g8 z8 (up _ _ D.TOz t5) (N1.keep j1 (λo=>up _ o D.i1z) λo=>up _ o D.l1z) (N2.keep j2' (λo=>up _ o D.i2z) λo=>up _ o D.l2z) nw s8 λc o n p m m2 e=>up c o n (f5 c o n p m m2 e)
theorem zW{Q:Fin->Shared->Prop}(hh:A.handled=none)(N1:vj i1 l1 J1 xs)(N2:vj i2 l2 J2 ys)(D:ZipApart z TI TO i1 i2 l1 l2)(hz:IsZip s.heap z TI TO .none)(hTI:IsPair s.heap TI (.ref i1) (.ref i2))(hTO:IsPair s.heap TO a b)
  (h1:J1 s.heap k1) (h2:J2 s.heap k2) (he:xs[k1]? =none∨ys[k2]? =none)
  (q:∀h' e,(∀c o,c≠z->c≠TO->c≠i1->c≠i2->s.heap.get? c=some o->h'.get? c=some o)->(∃o,h'.get? e=some o/\o.cls= .type "StopIteration")->E (.ref e) {s with heap:=h'}):
  wpAny (model P w) A (Builtin.«zip.__next__» ⟨[.ref z],[]⟩) Q E s:=by
 refine wpAny_bind (m:=field (.ref z) 2) (wpAny_field hz rfl (x:= .bool false) rfl ?_)
 refine wpAny_bind (m:=field (.ref z) 3) (wpAny_field hz rfl (x:= .ref TI) rfl (wpAny_bind (wpAny_seqItems hTI rfl ?_)))
 refine wpAny_bind (m:=Builtin.SmallTypes.ownedTupleIsFree (.ref z)) ?_
 unfold Builtin.SmallTypes.ownedTupleIsFree
 refine wpAny_bind (wpAny_field hz rfl (x:= .none) rfl (wpAny_pure ?_))
 simp only[if_true]
 refine wpAny_bind (wpAny_rule (wpAny_bind (wpAny_field hz rfl (x:= .ref TO) rfl (wpAny_bind (wpAny_setField_rec hz (by simp) λg1 z1 e1=>wpAny_bind ?_)))))
 have z1:IsZip g1 z TI TO .ellipsis:=z1
 have f1:∀c o,c≠z->s.heap.get? c=some o->g1.get? c=some o:=λc o n e=>e1.extBut c o n e
 have nz:∀{g:Heap} {e:Addr} {o:Obj},IsZip g z TI TO .ellipsis->g.get? e=some o->o.cls= .type "StopIteration"->e≠z:=λhz' ho hc n=>by
  subst n
  rw[hz']at ho
  cases ho
  exact absurd hc (by simp)
 simp only[List.zipIdx_cons,List.zipIdx_nil,List.forIn_cons,List.forIn_nil]
 refine wpAny_bind (wpAny_bind (wpAny_onRaise ?_))
 have j1:=N1.keep h1 (λo=>f1 _ o D.i1z) λo=>f1 _ o D.l1z
 cases hx:xs[k1]? with
 |none=>
  refine wpAny_bind (m:=Builtin.SmallTypes.nextOf (.ref i1)) (N1.fin hh j1 hx λg2 e e2 ⟨o,ho,hc⟩=> ?_)
  have z2:IsZip g2 z TI TO .ellipsis:=e2 _ _ D.i1z.symm z1
  exact wpAny_setField_rec z2 (by simp) λg3 _ e3=>q g3 e (λc o n _ m _ x=>e3.extBut c o n (e2 c o m (f1 c o n x))) ⟨o,e3.extBut _ _ (nz z2 ho hc) ho,hc⟩
 |some x=>
  have hy:ys[k2]? =none:=he.resolve_left (by rw[hx];simp)
  refine wpAny_bind (m:=Builtin.SmallTypes.nextOf (.ref i1)) (N1.item j1 hx λg2 j2 e2=>wpAny_pure ?_)
  have f2:∀c o,c≠z->c≠i1->s.heap.get? c=some o->g2.get? c=some o:=λc o n m e=>e2.extBut c o m (f1 c o n e)
  have t2:IsPair g2 TO a b:=f2 _ _ D.TOz D.TOi1 hTO
  refine wpAny_bind (wpAny_seqItems t2 rfl (wpAny_bind (wpAny_updateSeq_pair t2 λg3 t3 e3=>wpAny_bind (wpAny_letGo (wpAny_pure ?_)))))
  have f3:∀c o,c≠z->c≠i1->c≠TO->s.heap.get? c=some o->g3.get? c=some o:=λc o n m p e=>e3.extBut c o p (f2 c o n m e)
  refine wpAny_bind (wpAny_bind (wpAny_onRaise ?_))
  refine wpAny_bind (m:=Builtin.SmallTypes.nextOf (.ref i2)) (N2.fin hh (N2.keep h2 (λo=>f3 _ o D.i2z D.i12.symm D.TOi2.symm) λo=>f3 _ o D.l2z D.l2i1 D.l2TO) hy λg4 e e4 ⟨o,ho,hc⟩=> ?_)
  have z4:IsZip g4 z TI TO .ellipsis:=e4 _ _ D.i2z.symm (e3.extBut _ _ D.TOz.symm (e2.extBut _ _ D.i1z.symm z1))
  exact wpAny_setField_rec z4 (by simp) λg5 _ e5=>q g5 e (λc o n p m m2 x=>e5.extBut c o n (e4 c o m2 (f3 c o n m p x))) ⟨o,e5.extBut _ _ (nz z4 ho hc) ho,hc⟩
theorem vN{Q:Option Value->Shared->Prop}(N1:vj i1 l1 J1 xs)(N2:vj i2 l2 J2 ys)(D:ZipApart z TI TO i1 i2 l1 l2)(hz:IsZip s.heap z TI TO .none)(hTI:IsPair s.heap TI (.ref i1) (.ref i2))(hTO:IsPair s.heap TO a b)
  (h1:J1 s.heap k1) (h2:J2 s.heap k2) (hx:xs[k1]? =some x) (hy:ys[k2]? =some y)
  (q:∀h',IsZip h' z TI TO (rawInt s.heap.objs.size)->IsPair h' TO x y->J1 h' (k1+1)->J2 h' (k2+1)->IsPair h' s.heap.objs.size x y->h'.objs.size=s.heap.objs.size+1->
   (∀c o,c≠z->c≠TO->c≠i1->c≠i2->s.heap.get? c=some o->h'.get? c=some o)->Q (some (.ref s.heap.objs.size)) {s with heap:=h'}):wpAny (model P w) A (pyNext (.ref z)) Q E s:=by
 have ty:s.TypeIs (.ref z) "zip":=⟨_,hz,rfl⟩
 unfold pyNext
 exact wpAny_bind (wpAny_attempt (wpAny_callSpecial?_slot (name:=Str.ofString "__next__") ty PySem.F.slot_zip_next (wpAny_call_entry PySem.F.slot_zip_next ty PySem.F.entry_zip_next
  (x6 N1 N2 D hz hTI hTO h1 h2 hx hy λh' a1 a2 a3 a4 a5 a6 a7=>wpAny_pure (q h' a1 a2 a3 a4 a5 a6 a7)) (PySem.F.args_zip_next_1 _))))
theorem xM{Q:Option Value->Shared->Prop}(hh:A.handled=none)(N1:vj i1 l1 J1 xs)(N2:vj i2 l2 J2 ys)(D:ZipApart z TI TO i1 i2 l1 l2)(hz:IsZip s.heap z TI TO .none)(hTI:IsPair s.heap TI (.ref i1) (.ref i2))(hTO:IsPair s.heap TO a b)
  (h1:J1 s.heap k1) (h2:J2 s.heap k2) (he:xs[k1]? =none∨ys[k2]? =none) (q:∀h',(∀c o,c≠z->c≠TO->c≠i1->c≠i2->s.heap.get? c=some o->h'.get? c=some o)->Q none {s with heap:=h'}):wpAny (model P w) A (pyNext (.ref z)) Q E s:=by
 have ty:s.TypeIs (.ref z) "zip":=⟨_,hz,rfl⟩
 unfold pyNext
 exact wpAny_bind (wpAny_attempt (wpAny_callSpecial?_slot (name:=Str.ofString "__next__") ty PySem.F.slot_zip_next (wpAny_call_entry PySem.F.slot_zip_next ty PySem.F.entry_zip_next
  (zW hh N1 N2 D hz hTI hTO h1 h2 he λh' e hk ⟨o,ho,hc⟩=>wpAny_bind (wpAny_isInstance (T:="StopIteration") (b:=true) ⟨o,ho,hc⟩ isSubtype_stop (wpAny_pure (q _ hk)))) (PySem.F.args_zip_next_1 _))))
end
end L2
namespace L2
open PySem PySem.Spec PyProof.Rows
noncomputable def Src:Bool->Heap->Addr->Array Value->Prop
 |false,h,l,xs=>h.IsList l xs
 |true,h,l,xs=>IsTup h l xs
noncomputable def Bu:Bool->Addr->Obj
 |false,l=>{cls:= .type "list_iterator",data:= .fields #[.ref l,.int 0 0]}
 |true,l=>{cls:= .type "tuple_iterator",data:= .fields #[.ref l,.int 0 0]}
noncomputable def pA (k:Bool) (i l:Addr) (xs:Array Value):Heap->Nat->Prop:=match k with
 |false=>λh n=>h.IsListIter i l n/\h.IsList l xs
 |true=>λh n=>IsTupIter h i l n/\IsTup h l xs
theorem pA.nx{k:Bool}{i l:Addr}{xs:Array Value}(ne:l≠i):vj i l (pA k i l xs) xs:=by
 cases k
 ·exact vj.lst ne
 ·exact vj.tup ne
theorem Src.lt{k:Bool}{h:Heap}{l:Addr}{xs:Array Value}(x:Src k h l xs):l<h.objs.size:=by
 cases k
 ·obtain⟨_,e,_⟩:=(show h.IsList l xs from x);exact Heap.lt_size e
 ·obtain⟨_,e,_⟩:=(show IsTup h l xs from x);exact Heap.lt_size e
theorem Src.keep{k:Bool}{h h':Heap}{l:Addr}{xs:Array Value}(x:Src k h l xs)(e:∀o,h.get? l=some o->h'.get? l=some o):Src k h' l xs:=by
 cases k
 ·exact Heap.IsList.at x e
 ·obtain⟨o,eo,r⟩:=(show IsTup h l xs from x);exact⟨o,e _ eo,r⟩
noncomputable abbrev EO (k:Bool) (h:Heap) (l:Addr):Heap:=h.push (Bu k l)
noncomputable abbrev ER (k1 k2:Bool) (h:Heap) (l1 l2:Addr):Heap:=(EO k1 h l1).push (Bu k2 l2)
noncomputable abbrev ES (k1 k2:Bool) (h:Heap) (l1 l2:Addr):Heap:=(ER k1 k2 h l1 l2).push {cls:= .type "tuple",data:= .seq #[.ref h.objs.size,.ref (EO k1 h l1).objs.size]}
noncomputable abbrev E_ (k1 k2:Bool) (h:Heap) (l1 l2:Addr):Heap:=(ES k1 k2 h l1 l2).push {cls:= .type "tuple",data:= .seq #[.none,.none]}
noncomputable abbrev BJ (k1 k2:Bool) (h:Heap) (l1 l2:Addr):Heap:=(E_ k1 k2 h l1 l2).push {cls:= .type "zip",data:= .fields #[.none,.bool false,.bool false,.ref (ER k1 k2 h l1 l2).objs.size,.ref (ES k1 k2 h l1 l2).objs.size]}
theorem Bw{P:Program}{w:World}{A:Around}{E:Value->Shared->Prop}{s:Shared}{k:Bool}{l:Addr}{xs:Array Value}{Q:Value->Shared->Prop}(x:Src k s.heap l xs)(q:Q (.ref s.heap.objs.size) {s with heap:=s.heap.push (Bu k l)}):wpAny (model P w) A (pyIter (.ref l)) Q E s:=by
 cases k
 ·exact wpAny_pyIter_list x q
 ·exact iter_tuple x q
theorem CB(k1 k2:Bool)(l1 l2:Addr)(xs ys:Array Value):
  Meets (Builtin.«zip.__new__» ⟨[.type "zip",.ref l1,.ref l2],[]⟩) (λ_ R s=>Src k1 s.heap l1 xs/\Src k2 s.heap l2 ys/\
   R (.ok (.ret (.ref (E_ k1 k2 s.heap l1 l2).objs.size))) {s with heap:=BJ k1 k2 s.heap l1 l2}):=
 .of_wp λprog w A R s h=>by
  obtain⟨hp,g,d,tk,os⟩:=s;obtain⟨hl1,hl2,h⟩:=h
  have hsub:=sub_zip
  have a1:Src k1 (Shared.heap ⟨hp,g,d,tk,os⟩) l1 xs:=hl1
  have a2:Src k2 (Shared.heap ⟨hp.push (Bu k1 l1),g,d,tk,os⟩) l2 ys:=hl2.keep λo e=>Heap.get?_push_of_some _ e
  wp_walk using Bw a1,Bw a2
  exact⟨_,rfl,h⟩
theorem Bv{k:Bool}{h:Heap}{i l:Addr}{xs:Array Value}(e:h.get? i=some (Bu k l))(x:Src k h l xs):pA k i l xs h 0:=by
 cases k
 ·exact⟨⟨_,e,rfl,rfl⟩,x⟩
 ·exact⟨⟨_,e,rfl,rfl⟩,x⟩
theorem D7{P:Program}{w:World}{A:Around}{E:Value->Shared->Prop}{s:Shared}{k1 k2:Bool}{l1 l2:Addr}{xs ys:Array Value}{Q:Value->Shared->Prop}(a1:Src k1 s.heap l1 xs)(a2:Src k2 s.heap l2 ys)
  (q:∀h',IsZip h' (s.heap.objs.size+4) (s.heap.objs.size+2) (s.heap.objs.size+3) .none->IsPair h' (s.heap.objs.size+2) (.ref s.heap.objs.size) (.ref (s.heap.objs.size+1))->
   IsPair h' (s.heap.objs.size+3) .none .none->pA k1 s.heap.objs.size l1 xs h' 0->pA k2 (s.heap.objs.size+1) l2 ys h' 0->h'.objs.size=s.heap.objs.size+5->
   (∀c o,s.heap.get? c=some o->h'.get? c=some o)->Q (.ref (s.heap.objs.size+4)) {s with heap:=h'}):wpAny (model P w) A (call (.type "zip") [.ref l1,.ref l2]) Q E s:=by
 refine callType_new PySem.F.called_zip (by decide) (PySem.F.typeCall_zip_2 _ _) (PySem.F.newCall_zip_2 _ _) (λobj=>PySem.F.args_object_init_3 obj _ _) PySem.F.entry_zip_new (CB k1 k2 l1 l2 xs ys) ⟨a1,a2,?_⟩
 have n1:(EO k1 s.heap l1).objs.size=s.heap.objs.size+1:=Heap.size_push ..
 have n2:(ER k1 k2 s.heap l1 l2).objs.size=s.heap.objs.size+2:=by rw[Heap.size_push,n1]
 have n3:(ES k1 k2 s.heap l1 l2).objs.size=s.heap.objs.size+3:=by rw[Heap.size_push,n2]
 have n4:(E_ k1 k2 s.heap l1 l2).objs.size=s.heap.objs.size+4:=by rw[Heap.size_push,n3]
 have n5:(BJ k1 k2 s.heap l1 l2).objs.size=s.heap.objs.size+5:=by rw[Heap.size_push,n4]
 have up:∀c o,s.heap.get? c=some o->(BJ k1 k2 s.heap l1 l2).get? c=some o:=λc o e=>Heap.get?_push_of_some _ (Heap.get?_push_of_some _ (Heap.get?_push_of_some _ (Heap.get?_push_of_some _ (Heap.get?_push_of_some _ e))))
 have rf:∀(k:Bool) (l:Addr),(Bu k l).isFreed=false:=λk l=>by cases k<;>rfl
 have g1:(BJ k1 k2 s.heap l1 l2).get? s.heap.objs.size=some (Bu k1 l1):=Heap.get?_push_of_some _ (Heap.get?_push_of_some _ (Heap.get?_push_of_some _ (Heap.get?_push_of_some _ (Heap.get?_push_size _ (rf k1 l1)))))
 have g2:(BJ k1 k2 s.heap l1 l2).get? (EO k1 s.heap l1).objs.size=some (Bu k2 l2):=Heap.get?_push_of_some _ (Heap.get?_push_of_some _ (Heap.get?_push_of_some _ (Heap.get?_push_size _ (rf k2 l2))))
 have g3:IsPair (BJ k1 k2 s.heap l1 l2) (ER k1 k2 s.heap l1 l2).objs.size (.ref s.heap.objs.size) (.ref (EO k1 s.heap l1).objs.size):=Heap.get?_push_of_some _ (Heap.get?_push_of_some _ (Heap.get?_push_size _ rfl))
 have g4:IsPair (BJ k1 k2 s.heap l1 l2) (ES k1 k2 s.heap l1 l2).objs.size .none .none:=Heap.get?_push_of_some _ (Heap.get?_push_size _ rfl)
 have g5:IsZip (BJ k1 k2 s.heap l1 l2) (E_ k1 k2 s.heap l1 l2).objs.size (ER k1 k2 s.heap l1 l2).objs.size (ES k1 k2 s.heap l1 l2).objs.size .none:=Heap.get?_push_size _ rfl
 rw[n1]at g2
 rw[n1,n2]at g3
 rw[n3]at g4
 rw[n4,n2,n3]at g5
 show _/\_
 rw[n4]
 exact⟨⟨_,g5,rfl⟩,q _ g5 g3 g4 (Bv g1 (a1.keep λo=>up _ o)) (Bv g2 (a2.keep λo=>up _ o)) n5 up⟩
end L2
namespace L2
open PySem PySem.Spec PyProof.Rows
noncomputable def tD:Bool->Heap->Addr->Addr->Nat->Prop
 |false,h,i,l,n=>h.IsListIter i l n
 |true,h,i,l,n=>IsTupIter h i l n
theorem tD.at{k:Bool}{h h':Heap}{i l:Addr}{n:Nat}(x:tD k h i l n)(e:∀o,h.get? i=some o->h'.get? i=some o):tD k h' i l n:=by
 cases k
 ·exact Heap.IsListIter.at x e
 ·obtain⟨o,eo,r⟩:=(show IsTupIter h i l n from x);exact⟨o,e _ eo,r⟩
theorem tD.ob{k:Bool}{h:Heap}{i l:Addr}{n:Nat}(x:tD k h i l n):∃o,h.get? i=some o/\∀v,o.data≠ .cell v:=by
 cases k
 ·obtain⟨o,e,c,d⟩:=(show h.IsListIter i l n from x);exact⟨o,e,λv z=>by rw[d]at z;cases z⟩
 ·obtain⟨o,e,c,d⟩:=(show IsTupIter h i l n from x);exact⟨o,e,λv z=>by rw[d]at z;cases z⟩
theorem pA.mk{k:Bool}{h:Heap}{i l:Addr}{n:Nat}{xs:Array Value}(x:tD k h i l n)(y:Src k h l xs):pA k i l xs h n:=by
 cases k
 ·exact⟨x,y⟩
 ·exact⟨x,y⟩
theorem pA.it{k:Bool}{h:Heap}{i l:Addr}{n:Nat}{xs:Array Value}(x:pA k i l xs h n):tD k h i l n:=by
 cases k
 ·exact x.1
 ·exact x.1
noncomputable def Sq:Bool->PySem.W.Frag->Hp->Addr->List V->Prop
 |false=>fb
 |true=>nh
section
variable{X:Cx}{pins:List (Addr×Obj)}{σ:St}{H:Hp}{s:Shared}{k:Bool}{a:Addr}{xs ys:List V}
theorem Inv.src(I:Inv X pins σ H s)(h:Sq k X.K H a xs):∃its:List Value,Vals xs its/\Src k s.heap a its.toArray:=by
 cases k
 ·obtain⟨its,rv,p,_⟩:=I.list h;exact⟨its,rv,p.isList⟩
 ·obtain⟨its,rv,p,_⟩:=I.tuple h;exact⟨its,rv,p⟩
theorem Inv.xb(I:Inv X pins σ H s)(h:Sq k X.K H a xs)(h':Sq k X.K H a ys):xs=ys:=by
 cases k
 ·exact I.uL h h'
 ·exact I.x3 h h'
end
noncomputable def Fb (k1 k2:Bool) (K:PySem.W.Frag) (a b:Addr):It:=
 ⟨λi H=>∃xs x ys y,Sq k1 K H a xs/\xs[i]? =some x/\Sq k2 K H b ys/\ys[i]? =some y,λi H x H'=>∃p u v,H p=none/\x= .ref p/\H'=upd H p (.tup [u,v])/\(∀xs,Sq k1 K H a xs->xs[i]? =some u)/\∀ys,Sq k2 K H b ys->ys[i]? =some v,
  λi H=>∃xs ys,Sq k1 K H a xs/\Sq k2 K H b ys/\(xs.length<=i∨ys.length<=i)⟩
theorem EJ{P:Program}{w:World}{K:PySem.W.Frag}{elts:List Expr}{k:Nat}{pos:Pos}(k1 k2:Bool)(a b z TI TO i1 i2:Addr)(D:ZipApart z TI TO i1 i2 a b):
  Turn P w K (.Tuple elts k pos) (Fb k1 k2 K a b) [z,TI,TO,i1,i2] z (λi h=>IsZip h z TI TO .none/\IsPair h TI (.ref i1) (.ref i2)/\(∃c d,IsPair h TO c d)/\tD k1 h i1 a i/\tD k2 h i2 b i) where
 mem:=by simp
 obj:=λi h st c hc=>by
  obtain⟨hz,hTI,⟨_,_,hTO⟩,l1,l2⟩:=st
  simp only[List.mem_cons,List.not_mem_nil,or_false]at hc
  rcases hc with rfl|rfl|rfl|rfl|rfl
  ·exact⟨_,hz,λv z=>by cases z⟩
  ·exact⟨_,hTI,λv z=>by cases z⟩
  ·exact⟨_,hTO,λv z=>by cases z⟩
  ·exact l1.ob
  ·exact l2.ob
 keep:=λi h h' st k=>by
  obtain⟨hz,hTI,⟨c,d,hTO⟩,l1,l2⟩:=st
  exact⟨k z (by simp) _ hz,k TI (by simp) _ hTI,⟨c,d,k TO (by simp) _ hTO⟩,l1.at λo e=>k i1 (by simp) o e,l2.at λo e=>k i2 (by simp) o e⟩
 item:=by
  intro X hP hw hK hc i pins s σ H E I hf st hg
  subst hP hw hK
  obtain⟨xs,x,ys,y,hq,hx,hq2,hy⟩:=hg
  obtain⟨its,rv,p⟩:=I.src hq
  obtain⟨u,hu,ru⟩:=rv.get hx
  obtain⟨its2,rv2,p2⟩:=I.src hq2
  obtain⟨v,hv,rv'⟩:=rv2.get hy
  obtain⟨hz,hTI,⟨c0,d0,hTO⟩,l1,l2⟩:=st
  refine vN (pA.nx D.l1i1) (pA.nx D.l2i2) D hz hTI hTO (.mk l1 p) (.mk l2 p2) (x:=u) (y:=v) (by simpa using hu) (by simpa using hv) λh' z1 to1 l1' l2' tup sz kp=> ?_
  refine⟨_,rfl,wpAny_letOwnedTupleGo_zip z1 λh2 z2 sb2=> ?_⟩
  have hT:∀b o,s.heap.get? b=some o->s.heap.objs.size≠b:=λb o eb=>bL (Heap.lt_size eb)
  have nT:∀b∈ [z,TI,TO,i1,i2],b≠s.heap.objs.size:=λb hb=>by
   simp only[List.mem_cons,List.not_mem_nil,or_false]at hb
   rcases hb with rfl|rfl|rfl|rfl|rfl
   ·exact aM (hT _ _ hz)
   ·exact aM (hT _ _ hTI)
   ·exact aM (hT _ _ hTO)
   ·obtain⟨o,e,_⟩:=l1.ob;exact aM (hT _ _ e)
   ·obtain⟨o,e,_⟩:=l2.ob;exact aM (hT _ _ e)
  have I1:Inv X pins σ H {s with heap:=h2,toks:=s.toks}:=I.xf (ch:=[z,TI,TO,i1,i2]) (λb o nb eb=>(sb2.2 b (λq=>nb (by rw[q];simp))).trans (kp b o (λq=>nb (by rw[q];simp)) (λq=>nb (by rw[q];simp)) (λq=>nb (by rw[q];simp)) (λq=>nb (by rw[q];simp)) eb)) hf
  have hf0:H s.heap.objs.size=none:=I.dm.fresh (ao _)
  have tup2:h2.get? s.heap.objs.size=some {cls:=Value.type "tuple",data:=Data.seq #[u,v]}:=(sb2.2 _ (aM (nT z (by simp)))).trans tup
  have h0:X.s₀.heap.get? s.heap.objs.size=none:=by
   cases e:X.s₀.heap.get? s.heap.objs.size with
   |none=>rfl
   |some o=>exact absurd (aB (Heap.lt_size e) I.sz) (aT _)
  have I2:=I1.adopt (a:=s.heap.objs.size) (o:= .tup [x,y]) hf0 ⟨show 2<=sizeLine by decide,[u,v],.cons ru (.cons rv' .nil),⟨_,tup2,rfl,_,rfl⟩⟩ h0 (bL I.lt) (λq c ec zq=>by
    obtain⟨v',o,eo,_⟩:=I.cell q c ec
    exact hT c o eo zq.symm) λp hp zq=>hT p.1 p.2 (I.pin p hp).1 zq.symm
  refine⟨.ref s.heap.objs.size,_,I2,rfl,⟨_,x,y,hf0,rfl,rfl,λzs hzs=>by rw[I.xb hzs hq];exact hx,λzs hzs=>by rw[I.xb hzs hq2];exact hy⟩,⟨z2,(sb2.2 TI D.TIz).trans (kp TI _ D.TIz D.TITO D.TIi1 D.TIi2 hTI),⟨u,v,(sb2.2 TO D.TOz).trans to1⟩,l1'.it.at λo eo=>(sb2.2 i1 D.i1z).trans eo,l2'.it.at λo eo=>(sb2.2 i2 D.i2z).trans eo⟩,λb hb=> ?_⟩
  rw[cO (nT b hb)]
  exact(hf b hb).1
 done:=by
  intro X hP hw hK hc i pins s σ H E I hf st hg
  subst hP hw hK
  obtain⟨xs,ys,hq,hq2,hx⟩:=hg
  obtain⟨its,rv,p⟩:=I.src hq
  obtain⟨its2,rv2,p2⟩:=I.src hq2
  obtain⟨hz,hTI,⟨c0,d0,hTO⟩,l1,l2⟩:=st
  have e1:=rv.length
  have e2:=rv2.length
  refine xM (I.ok.hd hc) (pA.nx D.l1i1) (pA.nx D.l2i2) D hz hTI hTO (.mk l1 p) (.mk l2 p2) (by
   rcases hx with hx|hx
   ·left;simp;omega
   ·right;simp;omega) λh' kp=>⟨rfl,?_⟩
  exact I.xf (t':=s.toks) (ch:=[z,TI,TO,i1,i2]) (λb o nb eb=>kp b o (λq=>nb (by rw[q];simp)) (λq=>nb (by rw[q];simp)) (λq=>nb (by rw[q];simp)) (λq=>nb (by rw[q];simp)) eb) hf
 self:=λ_ _ _ _ _ st h=>wpAny_pyIter_zip st.1 h
noncomputable def wQ (k1 k2:Bool) (K:PySem.W.Frag) (ta:TA):TI:=λσ H R=>ta σ H λvs H1=>match vs with
 | [.ref a,.ref b]=>(∃xs,Sq k1 K H1 a xs)/\(∃xs,Sq k2 K H1 b xs)/\R (Fb k1 k2 K a b) H1
 |_=>False
theorem BS{n l1 l2:Addr}(h1:l1<n)(h2:l2<n):ZipApart (n+4) (n+2) (n+3) n (n+1) l1 l2:=PyProof.Rows.zipApart_new h1 h2
section
variable{X:Cx}
theorem A1{k1 k2:Bool}{elts:List Expr}{k:Nat}{tpos:Pos}{a b:Expr}{ta:TA}{p pos:Pos}(hg:Gl X "zip")(hm:X.mg "zip"=none)(ha:PA X [a,b] ta)(hs:starEach [a,b] X.env=(false,eval a X.env)::starEach [b] X.env:=by rfl)(hs2:(backTo pos (starEach [b] X.env)).any (·.1)=false:=by rfl):
  PI X (.Tuple elts k tpos) (.Call (.Name "zip" p) [a,b] [] pos) (wQ k1 k2 X.K ta):=by
 intro pins s σ H R I h
 refine Call_ (pG I hg hm PyProof.Rows.Boot.«zip» (bS (g9 (ha pos pins s σ H _ I h) λus s1 ⟨vs,H1,I1,r1,q1⟩=> ?_) hs hs2))
 try dsimp only at q1
 split at q1
 case h_2=>exact q1.elim
 rename_i l1 l2
 obtain⟨⟨xs,hq⟩,⟨ys,hq2⟩,q⟩:=q1
 cases r1 with
 |cons r rr=>
  cases rr with
  |cons r' rr'=>
   cases rr'
   cases r
   cases r'
   obtain⟨its,rv,pl⟩:=I1.src hq
   obtain⟨its2,rv2,pl2⟩:=I1.src hq2
   refine D7 pl pl2 λh' z1 ti to li1 li2 sz kp=> ?_
   have I2:Inv X pins σ H1 {s1 with heap:=h'}:=I1.kept (t':=s1.toks) kp
   refine wpAny_pyIter_zip z1 ?_
   refine⟨s1.heap.objs.size+4,[s1.heap.objs.size+4,s1.heap.objs.size+2,s1.heap.objs.size+3,s1.heap.objs.size,s1.heap.objs.size+1],_,_,H1,rfl,I2,EJ k1 k2 l1 l2 (s1.heap.objs.size+4) (s1.heap.objs.size+2) (s1.heap.objs.size+3) s1.heap.objs.size (s1.heap.objs.size+1) (BS pl.lt pl2.lt),⟨z1,ti,⟨_,_,to⟩,li1.it,li2.it⟩,λb hb=> ?_,q⟩
   have hb':s1.heap.objs.size<=b:=by
    simp only[List.mem_cons,List.not_mem_nil,or_false]at hb
    rcases hb with rfl|rfl|rfl|rfl|rfl
    ·exact Nat.le_add_right _ _
    ·exact Nat.le_add_right _ _
    ·exact Nat.le_add_right _ _
    ·exact ao _
    ·exact Nat.le_add_right _ _
   exact I1.yJ hb' (I1.dm.fresh hb')
end
theorem sS{k1 k2:Bool}{X:Cx}{elts:List Expr}{k:Nat}{tpos:Pos}{a b:Expr}{ta:TA}{p pos:Pos}(hg:Gl X "zip")(hm:X.mg "zip"=none)(ha:JA X [a,b] ta)(hs:starEach [a,b] X.env=(false,eval a X.env)::starEach [b] X.env:=by rfl)(hs2:(backTo pos (starEach [b] X.env)).any (·.1)=false:=by rfl):JI X (.Tuple elts k tpos) (.Call (.Name "zip" p) [a,b] [] pos) (wQ k1 k2 X.K ta):=⟨A1 hg hm ha.run hs hs2⟩
noncomputable def wy (k:Bool) (K:PySem.W.Frag):List V->Hp->VK->Prop:=λxs H Q=>match xs with
 | [.ref p]=>∃ys,Sq k K H p ys/\Q (.int ys.length) H
 |_=>False
section
variable{X:Cx}{r:V->List V->Hp->VK->Prop}{o i:Expr}{to td ty:TE}{apos cpos pos:Pos}
theorem B8{k:Bool}:fh X (.builtin "len") (wy k X.K):=by
 intro pins s σ H xs us Q I rx h
 unfold wy at h
 split at h
 case h_2=>exact h.elim
 obtain⟨ys,hs,q⟩:=h
 refine lN pins s σ H _ us Q I rx ⟨_,ys,rfl,?_,q⟩
 cases k
 ·exact .inl hs
 ·exact .inr hs
theorem yT{k:Bool}:jH X (.builtin "len") (wy k X.K):=⟨B8⟩
theorem wU:zY X "list.pop" xl:=⟨D1⟩
theorem xA:zY X "list.clear" tG:=⟨Aq⟩
theorem AG:ow X (compareOp .In) (Al X.K):=⟨DR⟩
theorem vF:ow X (compareOp .NotIn) (qI X.K):=⟨yq⟩
theorem pF(ho:JE X o td)(hi:JE X i ty)(hs:BL i):JE X (.Subscript o i pos) (q0 X.K td ty):=⟨Ar ho.run hi.run hs⟩
theorem tS{id:String}{name:Str}(slot:Slot "list" name id)(hty:typeOf (.builtin id)=pure (.type "method_descriptor"))(hm:zY X id r)(ho:JE X o to)
  (hbase:attributeBase o name X.env (eval o X.env)=eval o X.env:=by rfl)
  (hfew:((backTo cpos (starEach [] X.env)).all (λx=> !x.1)&&(backToKw cpos (keywordEach [] X.env)).all (λx=>x.1.isSome)
   &&decide (([]:List Expr).length+([]:List Keyword).length+(if ([]:List Keyword).isEmpty then 0 else 1)<30))=true:=by rfl)
  (hline:(apos.endLine==cpos.line)=true:=by rfl):JE X (.Call (.Attribute o name apos) [] [] cpos) (vo r to cL):=⟨DJ slot hty hm.run ho.run hbase hfew hline⟩
end
theorem qg{k1 k2:Bool}{K:PySem.W.Frag}{a b:Addr}{xs ys:List V}{n:Nat}{kG:St}{tt:TT}{te:TE}{H:Hp}{Q:VK}(P:Nat->List V->Hp->Prop)(h0:P 0 [] H)(hS:∀i zs H',P i zs H'->Sq k1 K H' a xs/\Sq k2 K H' b ys)(hn:n<=xs.length/\n<=ys.length/\(xs.length=n∨ys.length=n))(hz:n<=sizeLine)(hlen:∀i zs H',P i zs H'->zs.length<=i)
  (step:∀(i:Nat) x y zs H',xs[i]? =some x->ys[i]? =some y->P i zs H'->∀p,H' p=none->∀K1:List V->Hp->Prop,(∀zs' H3,P (i+1) zs' H3->K1 zs' H3)->tt (some x::some y::kG) (upd H' p (.tup [x,y])) λb H2=>if b=true then te (some x::some y::kG) H2 (λz H3=>K1 (zs++[z]) H3) else K1 zs H2)
  (q:∀zs H',P n zs H'->∀l,H' l=none->Q (.ref l) (upd H' l (.lst zs))):vh K (Fb k1 k2 K a b) kG tt te H Q:=by
 refine⟨λi m zs H'=>P i zs H'/\i<=n/\m=n-i,⟨n,h0,aO _,rfl⟩,λi m zs H' ⟨hP,hi,em⟩=> ?_⟩
 refine⟨av (av (hlen _ _ _ hP) hi) hz,?_⟩
 obtain⟨sa,sb⟩:=hS _ _ _ hP
 by_cases z:i<n
 ·have hx:xs[i]? =some (xs[i]'(by omega)):=aE (by omega)
  have hy:ys[i]? =some (ys[i]'(by omega)):=aE (by omega)
  refine .inr ⟨⟨xs,_,ys,_,sa,hx,sb,hy⟩,?_⟩
  rintro x H2 ⟨p,u,v,hp,rfl,rfl,hu,hv⟩
  refine⟨p,u,v,rfl,.inl (.inl cg),?_⟩
  exact step i u v zs H' (hu xs sa) (hv ys sb) hP p hp (λzs' H3=>∃m',m'<m/\(P (i+1) zs' H3/\i+1<=n/\m'=n-(i+1))) λzs' H3 h=>⟨_,by omega,h,z,rfl⟩
 ·have e:i=n:=by omega
  subst e
  exact .inl ⟨⟨xs,ys,sa,sb,by omega⟩,q _ _ hP⟩
theorem y6{X:Cx}{a:Addr}:jH (X.uG a) (.builtin "isinstance") (xY X.K):=vG
end L2
namespace L2
open PySem PySem.Spec PyProof.Rows
theorem wY{e:Value}{env env':Env}(h:env.frame=env'.frame):noteFrame e env=noteFrame e env':=by unfold noteFrame PySem.frameOf;rw[h]
section
variable{X:Cx}{E:St->XK}{a L:Addr}{cls:Value}{s':Shared}{M:Model}{A:Around}{Q:Unit->Shared->Prop}{E':Value->Shared->Prop}
theorem jW.BB{env:Env}{out:List Env}(u:jW X E (zy L) a cls s')(hA:A.frames=X.A.frames)(hst:X.stack=env::out)(hf:env.frame=some L)
  (hQ:∀h',jW X E (l6 L) a cls {s' with heap:=h'}->Q () {s' with heap:=h'}):wpAny M A (noteFrame (.ref a) env) Q E' s':=by
 obtain⟨I,os,bare,⟨w1,w2,w3⟩,p,dm,rel,sl,e⟩:=u
 rename_i B s
 have hfr:A.frames=some (env::out):=by rw[hA,I.ok.frames,hst]
 have go:∀h' a0,Heap.NotedW B (env::out) a cls a0 (rawInt L) s'.heap h'->Q () {s' with heap:=h'}:=λh' a0 ⟨k1,k2,k3,k4⟩=>
  hQ h' ⟨I,os,bare,⟨k1,w2,hst▸k2⟩,⟨a0,k3⟩,dm,rel,sl.up w3 k4,e⟩
 have w3':s'.heap.FunFrames B (env::out):=hst▸w3
 rcases p with ⟨oe,vs,a0,he,hc,hd,h0,h1⟩|⟨a0,p⟩|⟨a0,p⟩
 ·subst hc;unfold noteFrame;simp only[hf];refine wpAny_bind (wpAny_field he hd h1 ?_);rw[if_neg (by decide)]
  exact wpAny_entryW hfr w3' hf he w1 w2 hd (Array.getElem?_eq_some_iff.mp h1).1 h0 λh' N=>go h' a0 N
 ·exact wpAny_noteFrame_onW hfr w3' hf p w1 w2 λh' N=>go h' a0 N
 ·exact wpAny_noteFrame_againW hf p (hQ s'.heap ⟨I,os,bare,⟨w1,w2,w3⟩,⟨a0,p⟩,dm,rel,sl,e⟩)
theorem jW.Ei{x:String}(u:jW X E (l6 L) a cls s')(hQ:∀h',jW X E (l6 L) a cls {s' with heap:=h'}->E' (.ref a) {s' with heap:=h'}):
  wpAny M A (do if (←field (.ref a) 1)== .none then unsupported x
                setFlight (.ref a) (some L)
                throw (.ref a):Sem Value) (λ_ _=>False) E' s':=by
 obtain⟨I,os,bare,⟨w1,w2,w3⟩,⟨a0,oe,vs,T,oT,ts,he,hcls,hd,h1,hnT,hTe,hT,hdT,h3⟩,dm,rel,sl,e⟩:=u
 rename_i B s
 have hsz:3<ts.size:=(Array.getElem?_eq_some_iff.mp h3).1
 have oth:∀b,b≠T->(s'.heap.update T (Obj.mapFields (·.setIfInBounds 3 (rawInt L)))).get? b=s'.heap.get? b:=λb hb=>Heap.get?_update_other _ _ (aM hb)
 have nr:∀b o,s'.heap.get? b=some o->(∀vs,o.data≠ .fields vs)->b≠T:=λb o hb hnf q=>by
  subst q;rw[hT]at hb;cases hb;exact hnf ts hdT
 refine wpAny_bind (wpAny_field he hd h1 ?_)
 rw[if_neg (show¬((Value.ref T==Value.none)=true) by simp)]
 unfold setFlight
 refine wpAny_bind (wpAny_bind (wpAny_field he hd h1 ?_))
 rw[if_pos (show(Value.ref T !=Value.none)=true by simp)]
 refine wpAny_setField hT hdT hsz (wpAny_throw (hQ _ ⟨I,os,bare,⟨λb o hb=>(oth b λq=>by subst q;rw[hnT]at hb;cases hb).trans (w1 b o hb),w2,
  w3.of_keeps λb o hb hn=>⟨o,(oth b (nr b o hb hn)).trans hb,rfl⟩⟩,⟨a0,oe,vs,T,_,_,(oth a (aM hTe)).trans he,hcls,hd,h1,hnT,hTe,
   Heap.get?_update_self _ hT (Obj.isFreed_of_fields (Obj.data_mapFields hdT _)),Obj.data_mapFields hdT _,by simp[hsz]⟩,dm,rel,sl.up w3 λb o hb hn=>⟨o.slots,(oth b (nr b o hb hn)).trans hb⟩,e⟩))
end
theorem Ay{X:Cx}{E:St->XK}{env:Env}{out:List Env}{L:Addr}(hst:X.stack=env::out)(hf:env.frame=some L)(hfe:X.env.frame=some L):Exc (X.fV (vm X E L)) E where
 pass:=λpins σ H s e s' I ⟨a,cls,H',B,ee,os,bare,way,p,dm,rel,sl,q⟩=>⟨a,cls,ee,⟨I.fJ,os,bare,way,.inr (.inl p),dm,rel,sl,q⟩⟩
 De:=λpins σ H s s' a C args I hm os hg q=>by
  have I:=I.fJ
  obtain⟨t,he,htn,ht⟩:=hm.there
  have hB:(PySem.W.hideAll s.heap (lG X.stack)).get? a=none:=by
   cases z:(PySem.W.hideAll s.heap (lG X.stack)).get? a with
   |none=>rfl
   |some o=>have:=bF _ z;rw[hm.new]at this;cases this
  refine⟨a,.ref C,rfl,⟨I,os,by rw[hg];exact I.bare,⟨λb o z=>hm.keeps b o (bF _ z),hB,?_⟩,.inl ⟨_,_,_,he,rfl,rfl,rfl,rfl⟩,I.dm.hide I.nE,⟨λb o z n hb=>⟨bA _ z hb,n⟩,I.nE,
   λb o z=> ?_,λ_ _ z=>z,λ_ _ _ z=>z,λ_ ps z=>⟨#[],by rw[Array.append_empty];exact z⟩⟩,λb o z _=>⟨o.slots,hm.keeps b o z⟩,q⟩⟩
  ·exact(PySem.W.funFrames_hide I.stack λenv he b hb=>List.mem_filterMap.mpr ⟨env,he,hb⟩).of_keeps λb o z _=>⟨o,hm.keeps b o z,rfl⟩
  ·by_cases hb:b∈lG X.stack
   ·exact .inl hb
   ·exact .inr ⟨o,bA _ z hb⟩
 own:=λe s' ⟨a,cls,ee,u⟩=>by
  subst ee
  unfold notedBy
  rw[wY (env':=env) (hfe.trans hf.symm)]
  refine u.BB rfl hst hf λh' u'=> ?_
  unfold cameBackBy
  rw[show(X.fV (vm X E L)).env.frame=some L from hfe]
  refine u'.hold λh2 u2=> ?_
  obtain⟨I,os,bare,way,p,dm,rel,sl,q⟩:=u2
  exact⟨a,cls,rfl,⟨I,os,bare,way,.inr (.inr p),dm,rel,sl,q⟩⟩
structure Up(X:Cx)(E:XK):Prop where
 up:∀e s',vm X (λ_=>E) X.env.locals e s'->X.xe e s'
theorem EL{X:Cx}{E:XK}{L:Addr}(h:X.env.locals=L:=by rfl):Up (X.fV (vm X (λ_=>E) L)) E:=⟨λe s' ⟨a,cls,ee,⟨I,os,bare,way,p,dm,rel,sl,q⟩⟩=>by
 subst h
 exact⟨a,cls,ee,⟨I.fJ,os,bare,way,p,dm,rel,sl,q⟩⟩⟩
noncomputable def nj (M:Model) (A:Around) (E:Value->Shared->Prop) (use:Option (Value->Sem Unit)) (Q:Value->Shared->Prop) (acc:Value) (C:Addr) (fr:Option Addr) (r:Result) (s':Shared):Prop:=
 match r,use with
 | .ok _,none=>∃m,s'.heap.Ns C m/\∀h',Heap.SameBut C s'.heap h'->Q acc {s' with heap:=h'}
 | .ok _,some u=>wpAny M A (u acc) (λ_ s''=>∃m,s''.heap.Ns C m/\∀h',Heap.SameBut C s''.heap h'->Q .none {s'' with heap:=h'}) E s'
 | .error x,_=>∃m,s'.heap.Ns C m/\∀h',Heap.SameBut C s'.heap h'->∀cenv:Env,cenv.locals=C->cenv.frame=fr->wpAny M A (passOn "comprehension.variables-let-go" x cenv:Sem Value) (λ_ _=>False) E {s' with heap:=h'}
section
variable{M:Model}{A:Around}{E:Value->Shared->Prop}{s:Shared}{env:Env}
theorem kI{e:Expr}{scope:Scope}{pos:Pos}{newAcc first:Sem Value}{g:Comprehension}{gs:List Comprehension}{cl:List (Str×Addr)}{use:Option (Value->Sem Unit)}
  {Q:Value->Shared->Prop}
  (hcl:clausesOf e=g::gs) (hs:∀x,foldedSetIterable g.iter env x=pure x) (hclos:closureFor scope env=pure cl)
  (hkind:scope.kind= .function) (hnames:∀x∈scope.names,x.2= .local->scope.names.lookup x.1=some .local)
  (h:wpAny M A first (λx s₁=>wpAny M A (pyIter x) (λit s₂=>wpAny M A newAcc (λacc s₃=>
   wpAny M A (newFunctionEnv scope env.globals cl [] env.qual none .none (some env)) (λcenv s₄=>
    codeAny M A (.compStart e 0 it acc {cenv with scope:=relabel scope env}) (nj M A E use Q acc cenv.locals cenv.frame) s₄) E s₃) E s₂) E s₁) E s):
  wpAny M A (comprehension e scope env pos newAcc false first use) Q E s:=by
 unfold comprehension
 rw[hclos,hcl]
 refine wpAny_bind (wpAny_mono h (λx s₁ h₁=>wpAny_bind (wpAny_standAt (wpAny_bind (wpAny_of_eq (hs x) (wpAny_bind (wpAny_holding (wpAny_mono h₁ (λit s₂ h₂=>
  wpAny_standIf (wpAny_bind (wpAny_mono h₂ (λacc s₃ h₃=>wpAny_bind (wpAny_pure (wpAny_bind (wpAny_mono h₃ (λcenv s₄ h₄=> ?_) λ_ _ h'=>h')))) λ_ _ h'=>h')))
   λ_ _ h'=>h'))))))) λ_ _ h'=>h')
 dsimp only
 have hv:∀x∈(scope.names.filter λx=>(x.2== .local ||x.2== .cell)&&x.1 !=(".0":Str)).reverse,x.2= .local->
   Env.kindOf {cenv with scope:=relabel scope env} x.1=some .local:=λx hx hl=>lookup_relabel_local (hnames x (List.mem_filter.mp (List.mem_reverse.mp hx)).1 hl)
 have hv':∀x∈(scope.names.filter λx=>(x.2== .local ||x.2== .cell)&&x.1 !=(".0":Str)).reverse.drop 1++(scope.names.filter λx=>(x.2== .local ||x.2== .cell)&&x.1 !=(".0":Str)).reverse.take 1,
   x.2= .local->Env.kindOf {cenv with scope:=relabel scope env} x.1=some .local:=λx hx hl=>by
  rcases List.mem_append.mp hx with h1|h1
  ·exact hv x (List.mem_of_mem_drop h1) hl
  ·exact hv x (List.mem_of_mem_take h1) hl
 refine wpAny_holding (wpAny_bind (wpAny_attempt (wpAny_holding (wpAny_run (codeAny_mono h₄ λr s' hr=> ?_)))))
 cases r with
 |ok f=>
  cases use with
  |none=>
   obtain⟨m,hn,hr⟩:=hr
   exact wpAny_bind (wpAny_holding (wpAny_comp_letGo (cenv:={cenv with scope:=relabel scope env}) hkind _ s' m hv hn λh' m' _ hs'=>wpAny_pure (hr h' hs')))
  |some u=>
   refine wpAny_bind (wpAny_rule (wpAny_bind (wpAny_holding (wpAny_mono hr (λ_ s'' hr'=> ?_) λ_ _ h'=>h'))))
   obtain⟨m,hn,hr'⟩:=hr'
   exact wpAny_bind (wpAny_comp_letGo (cenv:={cenv with scope:=relabel scope env}) hkind _ s'' m hv' hn λh' m' _ hs'=>wpAny_pure (hr' h' hs'))
 |error x=>
  have hr':∃m,s'.heap.Ns cenv.locals m/\∀h',Heap.SameBut cenv.locals s'.heap h'->∀cenv':Env,cenv'.locals=cenv.locals->cenv'.frame=cenv.frame->wpAny M A (passOn "comprehension.variables-let-go" x cenv':Sem Value) (λ_ _=>False) E {s' with heap:=h'}:=by cases use<;>exact hr
  obtain⟨m,hn,hr⟩:=hr'
  exact wpAny_bind (wpAny_holding (wpAny_comp_letGo (cenv:={cenv with scope:=relabel scope env}) hkind _ s' m hv hn λh' m' _ hs'=>wpAny_mono (hr h' hs' _ rfl rfl) (λ_ _ f=>f.elim) λ_ _ y=>y))
end
section
variable{prog:Program}{w:World}{A:Around}{R:Result->Shared->Prop}{s:Shared}
theorem mK{elt target iter:Expr}{ifs:List Expr}{scope:Scope}{pos:Pos}{it acc:Value}{env:Env}{Ex:Value->Shared->Prop}(I:Nat->Shared->Prop)(hx:∀e s',Ex e s'->notedBy (model prog w) A env (λe s'=>R (.error e) s') e s')
  (turn:∀n s,I n s->wpAny (model prog w) A (pyNext it) (λr s₁=>match r with
   |none=>R (.ok .next) s₁
   |some v=>wpAny (model prog w) A (letOwnedTupleGo target it v) (λ_ s₁'=>wpAny (model prog w) A (assign target env v) (λ_ s₂=>
     wpAny (model prog w) A (forIn ifs true λc r=>if r=true then do let ok←isTrue c env (eval c env);pure (ForInStep.yield ok) else pure (ForInStep.yield r)) (λok s₃=>
      if ok=true then wpAny (model prog w) A (eval elt env) (λx s₄=>
       wpAny (model prog w) A (call (.builtin "list.append") [acc,x]) (λ_ s₅=>∃m,m<n/\I m s₅) (λ_ _=>False) s₄) Ex s₃
      else∃m,m<n/\I m s₃) (λ_ _=>False) s₂) (λ_ _=>False) s₁') (λ_ _=>False) s₁) (λ_ _=>False) s)
  (n:Nat) (h:I n s):
  codeAny (model prog w) A (.compLoop (.ListComp elt [⟨target,iter,ifs,0⟩] scope pos) 0 it acc env) R s:=by
 refine codeAny_loop rfl I (λn s hI=> ?_) n h
 show wpAny _ A ((compTurn (.ListComp elt [⟨target,iter,ifs,0⟩] scope pos) 0 it acc env).onRaise (λx=>do noteFrame x env;theTreesLotGoes x)) _ _ s
 refine wpAny_noted ?_
 rw[compTurn_list]
 refine wpAny_bind (wpAny_standAt (wpAny_bind (wpAny_mono (turn n s hI) (λr s₁ h₁=> ?_) λ_ _ h'=>h'.elim)))
 cases r with
 |none=>exact wpAny_pure h₁
 |some v=>
  refine wpAny_bind (wpAny_mono h₁ (λ_ s₁' h₁'=> ?_) λ_ _ h'=>h'.elim)
  refine wpAny_bind (wpAny_mono h₁' (λ_ s₂ h₂=>wpAny_bind (wpAny_mono h₂ (λok s₃ h₃=> ?_) λ_ _ h'=>h'.elim)) λ_ _ h'=>h'.elim)
  cases ok with
  |false=>exact wpAny_pure ⟨rfl,h₃⟩
  |true=>
   exact wpAny_bind (wpAny_bind (wpAny_mono h₃ (λx s₄ h₄=>wpAny_bind (wpAny_mono h₄ (λ_ s₅ h₅=>wpAny_pure (wpAny_pure ⟨rfl,h₅⟩)) λ_ _ h'=>h'.elim)) hx))
end
section
variable{X:Cx}{pins:List (Addr×Obj)}{σ:St}{H:Hp}{s:Shared}{scope fsc:Scope}{x:List Str}{N2:List Str}{js:List Nat}{fp:List Addr}{C:Addr}
theorem kh{h:Heap}{C b:Addr}{o:Obj}(e:h.get? b=some o)(n:b≠C):(PySem.W.hideAll h [C]).get? b=some o:=bA _ e (by simpa using n)
theorem kA{h:Heap}{C b:Addr}{o:Obj}(e:(PySem.W.hideAll h [C]).get? b=some o):h.get? b=some o/\b≠C:=by
 refine⟨bF [C] e,λz=> ?_⟩
 subst z
 rw[PySem.W.hideAll_none [b] (by simp)]at e
 cases e
theorem sO{B h h':Heap}{C:Addr}(hs:Heap.SameBut C h h'):∀{l:List Env},C∉lG l->h.FunFrames B l->h'.FunFrames (PySem.W.hideAll B [C]) l
 | [],_,_=>trivial
 |env::r,hC,hl=>by
  obtain⟨hk,⟨L,o,hf,hn,ho,hd⟩,hr⟩:=hl
  have hm:lG (env::r)=L::lG r:=by unfold lG;rw[bH,hf]
  rw[hm]at hC
  refine⟨hk,⟨L,o,hf,?_,(hs.2 L λz=>hC (by rw[z];exact aA)).trans ho,hd⟩,sO hs (λz=>hC (aD _ z)) hr⟩
  cases z:(PySem.W.hideAll B [C]).get? L with
  |none=>rfl
  |some o=>exact absurd (kA z).1 (by rw[hn];exact λq=>nomatch q)
theorem Aj{Y:Cx}{E0:XK}{a L:Addr}{cls:Value}{s':Shared}{h':Heap}(I:Inv X pins σ H s)(f:∀b∈fp,nJ X pins H b)(hY:Y=X.jA scope (x++N2) x s H C fp)(hC:s.heap.objs.size<=C)
  (u:jW Y (λ_=>E0) (l6 L) a cls s') (hs:Heap.SameBut C s'.heap h'):jW X (λ_=>E0) (l6 L) a cls {s' with heap:=h'}:=by
 subst hY
 obtain⟨I4,os,bare,⟨w1,w2,w3⟩,⟨a0,oe,vs,T,oT,ts,he,hcls,hd,h1,hnT,hTe,hT,hdT,h3⟩,dm,rel,sl,e⟩:=u
 rename_i pl σ' H3 H' B s4
 have nef:∀b o,s.heap.get? b=some o->b≠C:=λb o e=>aK (aB (Heap.lt_size e) hC)
 have fC:H3 C=none:=I4.free
 have Cfs:C∉lG X.stack:=λhm=>by
  obtain⟨_,o,eo,_⟩:=I.stack.mem hm
  exact absurd (aB (Heap.lt_size eo) hC) (aT _)
 obtain⟨m,⟨oC,es,ep,eC,dC,rC⟩,_⟩:=I4.loc
 have eC:s4.heap.get? C=some oC:=eC
 have kC:=rel.keep C oC eC fC Cfs
 have sC:s'.heap.get? C=some oC:=w1 C oC kC.1
 have aC:a≠C:=λz=>by rw[z,sC]at he;cases he;rw[dC]at hd;cases hd
 have TC:T≠C:=λz=>by rw[z,sC]at hT;cases hT;rw[dC]at hdT;cases hdT
 have un:Un (lG X.stack) fp H H3 s.heap (PySem.W.hideAll s4.heap [C]):=⟨λb o e n hb hx=>kh (I4.base.keep b o e n hb hx) (nef b o e),λb o e n hb hx=>by
   obtain⟨sl,e1⟩:=I4.base.slot b o e n hb hx
   exact⟨sl,kh e1 (nef b o e)⟩,I4.base.free,λb o e hx=>by
   obtain⟨o',e1⟩:=I4.base.there b o e hx
   exact⟨o',kh e1 (nef b o e)⟩,I4.base.kb,I4.base.jS,I4.base.ka⟩
 have hid:∀{H5:Hp} {h:Heap},lH X.prog X.w H5 h->H5 C=none->lH X.prog X.w H5 (PySem.W.hideAll h [C]):=λ{H5 h} ok n b ob e=>(ok b ob e).qC (λc w' hc q=>by
  refine kh q ?_
  rintro rfl
  rcases hc with rfl|hc
  ·rw[n]at e;cases e
  ·rw[n]at hc;cases hc) (λ_ q=>q) λ_ _ q=>q
 have I6:Inv X pins σ H3 {s4 with heap:=PySem.W.hideAll s4.heap [C]}:=I.yt (ch:=fp) I4.os un (hid I4.dm fC) I4.bare λb hb=>⟨(f b hb).2.2.2.1,(f b hb).2.1,(f b hb).2.2.2.2.1,(f b hb).2.2.2.2.2⟩
 refine⟨I6,os,bare,⟨λb o z=> ?_,?_,?_⟩,⟨a0,oe,vs,T,oT,ts,(hs.2 a aC).trans he,hcls,hd,h1,?_,hTe,(hs.2 T TC).trans hT,hdT,h3⟩,hid dm kC.2,⟨λb o z n hb=> ?_,rel.fr,λb o z=> ?_,rel.kb,rel.jS,rel.ka⟩,λb o z hb=> ?_,e⟩
 ·obtain⟨z1,z2⟩:=kA z
  exact(hs.2 b z2).trans (w1 b o z1)
 ·cases z:(PySem.W.hideAll B [C]).get? a with
  |none=>rfl
  |some o=>exact absurd (kA z).1 (by rw[w2];exact λq=>nomatch q)
 ·exact sO hs Cfs w3
 ·cases z:(PySem.W.hideAll B [C]).get? T with
  |none=>rfl
  |some o=>exact absurd (kA z).1 (by rw[hnT];exact λq=>nomatch q)
 ·obtain⟨z1,z2⟩:=kA z
  exact⟨kh (rel.keep b o z1 n hb).1 z2,(rel.keep b o z1 n hb).2⟩
 ·obtain⟨z1,z2⟩:=kA z
  rcases rel.there b o z1 with q|⟨o',q⟩
  ·exact .inl q
  ·exact .inr ⟨o',kh q z2⟩
 ·obtain⟨z1,z2⟩:=kA z
  obtain⟨sl1,q⟩:=sl b o z1 hb
  exact⟨sl1,(hs.2 b z2).trans q⟩
theorem Ah{Y:Cx}{E0:XK}{use:Option (Value->Sem Unit)}{R:Value->Shared->Prop}{acc e:Value}{s':Shared}(I:Inv X pins σ H s)(f:∀b∈fp,nJ X pins H b)(hY:Y=X.jA scope (x++N2) x s H C fp)(hC:s.heap.objs.size<=C)
  (hst:X.stack=X.env::X.outer) (hfL:X.env.frame=some X.env.locals) (hup:Up X E0) (u:vm Y (λ_=>E0) X.env.locals e s'):
  notedBy (model X.prog X.w) X.A (compEnvC scope (ra scope X.env) C X.env) (λe s'=>nj (model X.prog X.w) X.A X.xe use R acc C X.env.frame (.error e) s') e s':=by
 obtain⟨a,cls,rfl,u⟩:=u
 unfold notedBy
 rw[wY (env':=X.env) (show(compEnvC scope (ra scope X.env) C X.env).frame=X.env.frame from rfl)]
 refine u.BB (by rw[hY]) (env:=X.env) (out:=X.outer) (by rw[hY];exact hst) hfL λh1 u1=> ?_
 have key:∃m,({s' with heap:=h1}:Shared).heap.Ns C m/\∀h',Heap.SameBut C ({s' with heap:=h1}:Shared).heap h'->∀cenv:Env,cenv.locals=C->cenv.frame=X.env.frame->
   wpAny (model X.prog X.w) X.A (passOn "comprehension.variables-let-go" (.ref a) cenv:Sem Value) (λ_ _=>False) X.xe {({s' with heap:=h1}:Shared) with heap:=h'}:=by
  refine⟨?m,?ns,λh' hs' cenv _ hcf=> ?_⟩
  case m=>
   exact(Classical.choose (show∃m,h1.Ns C m from by
    obtain⟨I4,os,bare,⟨w1,w2,w3⟩,p,dm,rel,sl,e⟩:=u1
    subst hY
    obtain⟨m,⟨oC,es,ep,eC,r⟩,_⟩:=I4.loc
    have Cfs:C∉lG X.stack:=λhm=>by
     obtain⟨_,o,eo,_⟩:=I.stack.mem hm
     exact absurd (aB (Heap.lt_size eo) hC) (aT _)
    exact⟨m,oC,es,ep,w1 C oC (rel.keep C oC eC I4.free Cfs).1,r⟩))
  case ns=>exact Classical.choose_spec _
  have u2:=Aj I f hY hC u1 hs'
  unfold PySem.passOn
  rw[hcf,hfL]
  refine u2.Ei λh3 u3=>hup.up _ _ ?_
  obtain⟨I,os,bare,way,p,dm,rel,sl,q⟩:=u3
  exact⟨a,cls,rfl,⟨I,os,bare,way,.inr (.inr p),dm,rel,sl,q⟩⟩
 cases use<;>exact key
theorem vw{EX:XK}{elt iter tg:Expr}{pos p0:Pos}{g:TG}{CW:It->Hp->Prop}{ifs:List Expr}{wi:TI}{tt:TT}{te:TE}{use:Option (Value->Sem Unit)}{R:Value->Shared->Prop}{Q:VK}(S:ix fsc scope x N2)(hf:X.env.scope=fsc)(hjs:js.map (λj=>X.N[j]?)=N2.map some)(hc:X.calm=true)(hi:PI X tg iter wi)(hg:∀s H C ex,PG (X.jA scope (x++N2) x s H C ex) tg g)
  (ht:∀s H C ex,qU (X.jA scope (x++N2) x s H C ex) ifs tt) (he:∀s H C ex W,Exc ((X.jA scope (x++N2) x s H C ex).fV W) (λ_=>EX)->PE ((X.jA scope (x++N2) x s H C ex).fV W) elt te) (hs:∀v,foldedSetIterable iter X.env v=pure v) (hst:X.stack=X.env::X.outer) (hfL:X.env.frame=some X.env.locals) (hex:X.ex=[]) (hup:Up X EX) (I:Inv X pins σ H s) (hCW:∀J H1,CW J H1->tB J x.length g (je σ js) tt te H1 Q) (h:wi σ H CW)
  (fin:∀(fp:List Addr) (s2 s4:Shared) (H2 H3:Hp) (C D:Addr) (Y:Cx) (pl:List (Addr×Obj)) (σ':St) (ys:List V) (its:List Value) (n:Nat),Inv X pins σ H2 s2->(∀b∈fp,nJ X pins H2 b)->Y=X.jA scope (x++N2) x s2 H2 C fp->s2.heap.objs.size<=C->s2.heap.objs.size<=D->D≠C->
   Inv Y pl σ' H3 s4->H3 D=none->s4.heap.get? D=some {cls:= .type "list",data:= .seq its.toArray n}->Vals ys its->ys.length<=sizeLine->Q (.ref D) (upd H3 D (.lst ys))->nj (model X.prog X.w) X.A X.xe use R (.ref D) C X.env.frame (.ok .next) s4):
  wpAny (model X.prog X.w) X.A (comprehension (.ListComp elt [⟨tg,iter,ifs,0⟩] scope pos) scope X.env p0 (newList []) false (eval iter X.env) use) R X.xe s:=by
 refine kI (use:=use) (cl:=ra scope X.env) rfl hs (rb λy hy e=>I.ok.has y.1 (.inl (show X.env.scope.names.lookup y.1=some .cell by rw[hf];exact S.cells y hy e))) S.kind S.locs ?_
 refine wpAny_mono (hi pins s σ H _ I h) (λv s1 h1=>wpAny_mono h1 (λitv s2 h2=> ?_) λ_ _ z=>z) λ_ _ z=>z
 obtain⟨it,fp,tn,J,H2,e,I2,T,st2,f2,hcw⟩:=h2
 obtain⟨W,⟨m0,w0⟩,turn⟩:=hCW _ _ hcw
 subst e
 have ho2:∀b∈fp,∃o,s2.heap.get? b=some o:=λb hb=>let ⟨o,e,_⟩:=T.obj _ _ st2 b hb;⟨o,e⟩
 refine wpAny_newObj_type (wpAny_newFunctionEnv S.vO (by intro y hy;simp at hy) (λh₁ hns₁ hsb₁=> ?_) S.kind)
 dsimp only at hns₁ hsb₁⊢
 generalize hH2:s2.heap.push {cls:= .type "list",dict:=none,data:= .seq ([]:List Value).toArray}=G at hns₁ hsb₁⊢
 have hGs:G.objs.size=s2.heap.objs.size+1:=by rw[←hH2,Heap.size_push]
 generalize hCe:G.objs.size=C at hns₁ hsb₁⊢
 have hCs:C=s2.heap.objs.size+1:=hCe.symm.trans hGs
 generalize hDe:s2.heap.objs.size=D at*
 have hC:s2.heap.objs.size<=C:=by omega
 have hDC:D≠C:=by omega
 have leDC:D<=C:=by omega
 have old:∀b o,s2.heap.get? b=some o->h₁.get? b=some o:=λb o e=>by
  have hb:b<D:=hDe▸Heap.lt_size e
  exact hsb₁.extBut b o (aK (aB hb leDC)) (Heap.get?_push_of_some _ (hH2▸Heap.get?_push_of_some _ e))
 have eD1:h₁.get? D=some {cls:= .type "list",data:= .seq ([]:List Value).toArray}:=by
  refine hsb₁.extBut _ _ hDC (Heap.get?_push_of_some _ ?_)
  rw[←hH2,←hDe]
  exact Heap.get?_push_size _ rfl
 have I4:=wm (C:=C) (h':=h₁) (t':=s2.toks+([]:List (Str×Value)).length) S hf hjs I2 hC f2 ho2 hns₁ old
 generalize hY:X.jA scope (x++N2) x s2 H2 C fp=Y at I4
 have hYA:Y.A=X.A:=by rw[←hY]
 have hYp:Y.prog=X.prog:=by rw[←hY]
 have hYw:Y.w=X.w:=by rw[←hY]
 have hYK:Y.K=X.K:=by rw[←hY]
 have hYc:Y.calm=true:=by rw[←hY];exact hc
 have hYL:Y.env.locals=C:=hY▸rfl
 have hYx:Y.xe=λ_ _=>False:=by rw[←hY]
 have hYe:Y.env=compEnvC scope (ra scope X.env) C X.env:=by rw[←hY]
 have hYs:Y.s₀.heap.objs.size=D:=by rw[←hY];exact hDe
 have hYpn:Y.pn=[]:=by rw[←hY]
 have fpD:∀b∈fp,b<D:=λb hb=>by
  obtain⟨o,e⟩:=ho2 b hb
  exact hDe▸Heap.lt_size e
 have cel:∀y c,Y.env.cells.lookup y=some c->X.env.cells.lookup y=some c:=λy c e=>by
  rw[hYe]at e
  exact mI S hf I2.ok e
 have celD:∀y c,Y.env.cells.lookup y=some c->c≠D:=λy c e z=>by
  obtain⟨v,o,eo,_⟩:=I2.cell y c (cel y c e)
  have q:=Heap.lt_size eo
  rw[hDe,z]at q
  exact aT _ q
 have Dfs:D∉Y.fs:=by
  rw[←hY]
  intro hm
  obtain⟨_,o,eo,_⟩:=I2.stack.mem hm
  have q:=Heap.lt_size eo
  rw[hDe]at q
  exact aT _ q
 have stat:∀{H':Hp} {pl:List (Addr×Obj)},(∀b∈fp,H' b=none)->(∀p∈pl,p.1=D)->∀b∈fp,nJ Y pl H' b:=λ{H' pl} hn hp b hb=>by
  refine⟨hn b hb,by rw[hYL];exact aK (aB (fpD b hb) leDC),?_,.inl (by rw[←hY];exact hb),λy c e=>(f2 b hb).2.2.2.2.1 y c (cel y c e),λp hm=> ?_⟩
  ·rw[←hY]
   intro hm
   rcases List.mem_cons.mp (I2.pU b hm) with z|z
   ·exact(f2 b hb).2.1 z
   ·exact(f2 b hb).2.2.1 z
  ·rw[hYpn,bg]at hm
   rw[hp p hm]
   exact(aK (fpD b hb)).symm
 have pinD:∀{σ':St} {H':Hp} {s':Shared} {o:Obj},Inv Y [] σ' H' s'->s'.heap.get? D=some o->(∀v,o.data≠ .cell v)->H' D=none->Inv Y [(D,o)] σ' H' s':=λ{σ' H' s' o} Iy e d n=>
  Iy.kY λp hp=>by
   rw[bf]at hp
   subst hp
   exact⟨e,n,by rw[hYL];exact hDC,Dfs,d⟩
 have pg:PG Y tg g:=by rw[←hY];exact hg _ _ _ _
 have ht':qU Y ifs tt:=by rw[←hY];exact ht _ _ _ _
 have hYst:Y.stack=X.env::X.outer:=by rw[←hY];exact hst
 have hYf:Y.env.frame=some X.env.locals:=by rw[←hY];exact hfL
 have he':PE (Y.fV (vm Y (λ_=>EX) X.env.locals)) elt te:=by
  have q:=Ay (X:=Y) (E:=λ_=>EX) hYst hfL hYf
  rw[←hY]at q⊢
  exact he _ _ _ _ _ q
 have loop:∀s₃:Shared,s₃={s2 with heap:=h₁,toks:=s2.toks+([]:List (Str×Value)).length}->
   codeAny (model X.prog X.w) X.A (.compLoop (.ListComp elt [⟨tg,iter,ifs,0⟩] scope pos) 0 (.ref it) (.ref D) (compEnvC scope (ra scope X.env) C X.env))
    (nj (model X.prog X.w) X.A X.xe use R (.ref D) C X.env.frame) s₃:=by
  rintro s₃ rfl
  refine mK (Ex:=vm Y (λ_=>EX) X.env.locals) (λn s'=>∃i ys os its k H',List.length os=x.length/\Inv Y [] (os++je σ js) H' s'/\tn i s'.heap/\(∀b∈fp,H' b=none)/\H' D=none/\s'.heap.get? D=some {cls:= .type "list",data:= .seq (its:List Value).toArray k}/\Vals ys its/\W i n ys H') ?err ?_ m0
   ⟨0,[],List.replicate x.length none,[],0,H2,bo,I4,T.keep _ _ _ st2 λb _ o e=>old b o e,λb hb=>(f2 b hb).1,I2.dm.fresh (by omega),eD1,.nil,w0⟩
  case err=>exact λe s' u=>Ah (scope:=scope) (x:=x) (N2:=N2) I2 f2 hY.symm hC hst hfL hup u
  rintro n s3 ⟨i,ys,os,its,k,H3,hos,I3,st3,fr3,hD3,eD3,rv3,w3⟩
  obtain⟨hz,alt⟩:=turn i n ys H3 w3
  have I3p:=pinD I3 eD3 (λv z=>by cases z) hD3
  rcases alt with ⟨stop,q⟩|⟨go,step⟩
  ·have h4:=T.done Y hYp hYw hYK hYc i _ s3 _ H3 (λ_ _=>False) I3p (stat fr3 λp hp=>by rw[bf]at hp;subst hp;rfl) st3 stop
   rw[hYA]at h4
   refine wpAny_mono h4 (λr s4 ⟨hr,I4'⟩=> ?_) λ_ _ z=>z
   subst hr
   have pD:=I4'.pin (D,{cls:= .type "list",data:= .seq its.toArray k}) (aQ _ (List.mem_singleton.mpr rfl))
   exact fin fp s2 s4 H2 H3 C D Y _ _ ys its k I2 f2 hY.symm hC (by omega) hDC I4' pD.2.1 pD.1 rv3 hz (q D pD.2.1)
  ·have h4:=T.item Y hYp hYw hYK hYc i _ s3 _ H3 (λ_ _=>False) I3p (stat fr3 λp hp=>by rw[bf]at hp;subst hp;rfl) st3 go
   rw[hYA]at h4
   refine wpAny_mono h4 (λr s4 ⟨u,hr,h4'⟩=> ?_) λ_ _ z=>z
   subst hr
   refine wpAny_mono h4' (λ_ s5 ⟨xv,H5,I5,r5,y5,st5,fr5⟩=> ?_) λ_ _ z=>z
   have I5':=I5.pinned (stat fr5 λp hp=>by rw[bf]at hp;subst hp;rfl) (T.obj _ _ st5)
   have keepT:∀{σ7:St} {H7:Hp} {s7:Shared},Inv Y ([(D,{cls:= .type "list",data:= .seq its.toArray k})]++pL fp s5.heap) σ7 H7 s7->tn (i+1) s7.heap/\(∀b∈fp,H7 b=none)/\H7 D=none/\
     s7.heap.get? D=some {cls:= .type "list",data:= .seq its.toArray k}:=λ{σ7 H7 s7} I7=>by
    have pD:=I7.pin (D,{cls:= .type "list",data:= .seq its.toArray k}) (aQ _ (bK _ (List.mem_singleton.mpr rfl)))
    refine⟨T.keep _ _ _ st5 λb hb o e=>(I7.pin (b,o) (aQ _ (aQ _ (jw hb e)))).1,λb hb=> ?_,pD.2.1,pD.1⟩
    obtain⟨o,e,d⟩:=T.obj _ _ st5 b hb
    exact(I7.pin (b,o) (aQ _ (aQ _ (jw hb e)))).2.1
   have h6:=pg _ s5 _ H5 xv u _ I5' r5 (step xv H5 y5 os hos)
   rw[hYA,hYe,hYp,hYw,hYx]at h6
   refine wpAny_mono h6 (λ_ s6 ⟨σ6,H6,I6,⟨os',hos',e6⟩,q6⟩=> ?_) λ_ _ z=>z
   subst e6
   have h7:=ht' _ s6 _ H6 _ I6 q6
   rw[hYA,hYe,hYp,hYw,hYx]at h7
   refine wpAny_mono h7 (λb s7 ⟨H7,I7,q7⟩=> ?_) λ_ _ z=>z
   cases b with
   |false=>
    rw[if_neg aL]at q7⊢
    obtain⟨m',hm,w7⟩:=q7
    obtain⟨k1,k2,k3,k4⟩:=keepT I7
    exact⟨m',hm,i+1,ys,os',its,k,H7,hos',I7.kY λp hp=>by simp at hp,k1,k2,k3,k4,rv3,w7⟩
   |true=>
    rw[if_pos rfl]at q7⊢
    have h8:=he' _ s7 _ H7 _ (I7.fV _) q7
    rw[show(Y.fV (vm Y (λ_=>EX) X.env.locals)).A=X.A from hYA,show(Y.fV (vm Y (λ_=>EX) X.env.locals)).env=_ from hYe,show(Y.fV (vm Y (λ_=>EX) X.env.locals)).prog=X.prog from hYp,show(Y.fV (vm Y (λ_=>EX) X.env.locals)).w=X.w from hYw]at h8
    refine wpAny_mono h8 (λy s8 ⟨yv,H8,I8,r8,m',hm,w8⟩=> ?_) λ_ _ z=>z
    have I8:=I8.fJ
    obtain⟨k1,k2,k3,k4⟩:=keepT I8
    refine wpAny_list_append_plain (l:=D) (items:=its.toArray) ⟨k,k4⟩ (λh9 pl9 sb9=> ?_) (by rw[aI,←rv3.length];exact hz)
    obtain⟨k9,e9⟩:=pl9
    have I9:Inv Y [] (os'++je σ js) H8 {s8 with heap:=h9}:=(I8.kY (pins':=[]) λp hp=>by simp at hp).turned (it:=D) (t':=s8.toks) (λb o hb e=>(sb9.2 b hb).trans e) k3 (by rw[hYL];exact hDC)
     (.inr (by rw[hYs];exact ao _)) celD (by rw[hYpn];intro p hp;simp at hp)
    exact⟨m',hm,i+1,ys++[yv],os',its++[y],k9,H8,hos',I9,T.keep _ _ _ k1 λb hb o e=>(sb9.2 b (aK (fpD b hb))).trans e,k2,k3,by rw[e9,List.push_toArray],rv3.snoc r8,w8⟩
 exact codeAny_compStart_list (loop _ rfl) (T.self _ 0 _ _ _ (T.keep _ _ _ st2 λb _ o e=>old b o e) (loop _ rfl))
theorem ua{x1 x2:Str}{elt iter:Expr}{p1 p2 pt py pos spos:Pos}{k:Nat}{ifs:List Expr}{wi:TI}{tt:TT}{te:TE}{i:Nat}{y:Str}{E0:XK}(hN:X.N.Nodup)(hy:X.N[i]? =some y)(hl:Loc X.env.scope y)
  (S:ix fsc scope [x1,x2] N2) (hf:X.env.scope=fsc) (hjs:js.map (λj=>X.N[j]?)=N2.map some) (hc:X.calm=true) (hst:X.stack=X.env::X.outer) (hfL:X.env.frame=some X.env.locals) (hex:X.ex=[]) (hup:Up X E0) (hi:PI X (.Tuple [.Name x1 p1,.Name x2 p2] k pt) iter wi)
  (ht:∀s H C ex,qU (X.jA scope (x1::x2::N2) [x1,x2] s H C ex) ifs tt) (he:∀s H C ex W,Exc ((X.jA scope (x1::x2::N2) [x1,x2] s H C ex).fV W) (λ_=>E0)->PE ((X.jA scope (x1::x2::N2) [x1,x2] s H C ex).fV W) elt te) (hs:∀v,foldedSetIterable iter X.env v=pure v:=by intro _;rfl)
  (hsw:swapsWith (.ListComp elt [⟨.Tuple [.Name x1 p1,.Name x2 p2] k pt,iter,ifs,0⟩] scope pos) (some (.Name y py)) spos.line X.env=pure true:=by rfl)
  (hfn:X.fn y=true∨X.env.scope.names.lookup y=some .local:=by first|exact .inl rfl|exact .inr rfl|assumption):
  PS X (.Assign [.Name y py] (.ListComp elt [⟨.Tuple [.Name x1 p1,.Name x2 p2] k pt,iter,ifs,0⟩] scope pos) spos) (c5 (pX X.K js wi tt te) (cJ i)):=by
 intro pins s σ H Dn I h
 rw[exec_Assign_Name_used _ _ _ _ hsw]
 refine wpAny_bind (wpAny_standAt (wpAny_bind ?_))
 show wpAny _ _ (do let _←comprehension (.ListComp elt [⟨.Tuple [.Name x1 p1,.Name x2 p2] k pt,iter,ifs,0⟩] scope pos) scope X.env _ (newList []) false (eval iter X.env) (some (assign (.Name y py) X.env))) _ _ s
 refine wpAny_bind (wpAny_mono (vw (x:=[x1,x2]) (g:=g2 X.K) (use:=some (assign (.Name y py) X.env)) (R:=λ_ s'=>SP X pins Dn .next s') S hf hjs hc hi (λ_ _ _ _=>w6 hc S) ht he hs hst hfL hex hup I (λ_ _=>uA) h λfp s2 s4 H2 H3 C D Y pl σ' ys its n I2 f2 hY hC hD hDC I4 hD3 eD rv hz q=> ?_)
  (λ_ s' hq=>wpAny_pure (wpAny_pure hq)) λ_ _ e=>e)
 show wpAny _ _ (assign (.Name y py) X.env (.ref D)) _ _ s4
 have I7:Inv X pins σ (upd H3 D (.lst ys)) s4:=qG (scope:=scope) (x:=[x1,x2]) (N2:=N2) (h':=s4.heap) I2 f2 hY hC hD hDC I4 (Heap.SameBut.refl ..) hD3 eD rv hz
 have nC:∀b o,s2.heap.get? b=some o->b≠C:=λb o e=>aK (aB (Heap.lt_size e) hC)
 have cC:∀z c,X.env.cells.lookup z=some c->c≠C:=λz c e=>by
  obtain⟨v,o,eo,_⟩:=I2.cell z c e
  exact nC c o eo
 have lC:X.env.locals≠C:=aK (aB I2.lt hC)
 obtain⟨m,hn,_⟩:=I4.loc
 have eL:Y.env.locals=C:=hY▸rfl
 have fC:upd H3 D (HO.lst ys) C=none:=by rw[cO (aM hDC)];exact eL▸I4.free
 rw[eL]at hn
 refine wpAny_assign_Name (pW I7 hN hy hl (v:= .ref D) rfl (λs'' I8 ⟨a,sb,ha⟩=> ?_) hfn)
 have na:C≠a:=by
  rcases ha with rfl|ha
  ·exact aM lC
  ·exact aM (cC _ _ ha)
 refine⟨m,hn.sameBut sb na,λh' hs'=>⟨_,_,I8.turned (it:=C) (t':=s''.toks) (λb o hb e=>(hs'.2 b hb).trans e) fC (aM lC) (.inr (av I2.sz hC)) cC λp hp=> ?_,q⟩⟩
 exact nC p.1 p.2 (I2.pin p hp).1
theorem rE{x1 x2:Str}{elt iter:Expr}{p1 p2 pt py pos spos:Pos}{k:Nat}{ifs:List Expr}{wi:TI}{tt:TT}{te:TE}{i:Nat}{y:Str}{E0:XK}(hN:X.N.Nodup)(hy:X.N[i]? =some y)(hl:Loc X.env.scope y)
  (S:ix fsc scope [x1,x2] N2) (hf:X.env.scope=fsc) (hjs:js.map (λj=>X.N[j]?)=N2.map some) (hc:X.calm=true) (hst:X.stack=X.env::X.outer) (hfL:X.env.frame=some X.env.locals) (hex:X.ex=[]) (hup:Up X E0) (hi:JI X (.Tuple [.Name x1 p1,.Name x2 p2] k pt) iter wi)
  (ht:∀s H C ex,xi (X.jA scope (x1::x2::N2) [x1,x2] s H C ex) ifs tt) (he:∀s H C ex W,Exc ((X.jA scope (x1::x2::N2) [x1,x2] s H C ex).fV W) (λ_=>E0)->JE ((X.jA scope (x1::x2::N2) [x1,x2] s H C ex).fV W) elt te) (hs:∀v,foldedSetIterable iter X.env v=pure v:=by intro _;rfl)
  (hsw:swapsWith (.ListComp elt [⟨.Tuple [.Name x1 p1,.Name x2 p2] k pt,iter,ifs,0⟩] scope pos) (some (.Name y py)) spos.line X.env=pure true:=by rfl)
  (hfn:X.fn y=true∨X.env.scope.names.lookup y=some .local:=by first|exact .inl rfl|exact .inr rfl|assumption):
  JS X (.Assign [.Name y py] (.ListComp elt [⟨.Tuple [.Name x1 p1,.Name x2 p2] k pt,iter,ifs,0⟩] scope pos) spos) (c5 (pX X.K js wi tt te) (cJ i)):=
 ⟨ua hN hy hl S hf hjs hc hst hfL hex hup hi.run (λs H C ex=>(ht s H C ex).run) (λs H C ex W h=>(he s H C ex W h).run) hs hsw hfn⟩
noncomputable def qH:R2:=λx y H Q=>match x,y with
 | .str i,.str j=>Q (.bl (!(!(Builtin.Str.occurrences j i 0 j.length 1).isEmpty))) H
 |_,_=>False
theorem rA:ow X (compareOp .NotIn) qH:=⟨t8.mono λx y H Q h=>by
 unfold qH at h
 split at h
 ·exact⟨_,_,rfl,rfl,h⟩
 ·exact h.elim⟩
noncomputable def vt:List V->Hp->VK->Prop:=λxs H Q=>match xs with
 | [.ref a]=>(match H a with
  |some (.tup ys)=>∀l,H l=none->Q (.ref l) (upd H l (.lst ys))
  |_=>False)
 |_=>False
theorem xC:jH X (.type "list") vt:=⟨tJ.mono λxs H Q h=>by
 unfold vt at h
 split at h
 case h_2=>exact h.elim
 split at h
 case h_2=>exact h.elim
 rename_i ys e
 exact⟨_,ys,rfl,.inr (nh.of e),h⟩⟩
noncomputable def vq:List V->Hp->VK->Prop:=λxs H Q=>match xs with
 | [.ref a]=>(match H a with
  |some (.dK kvs)=>∀l,H l=none->Q (.ref l) (upd H l (.lst (kvs.map λp=>kV p.1)))
  |_=>False)
 |_=>False
theorem tw:∀{ks:List Key} {us:List Value},us.length=ks.length->(∀(j:Nat) (k:Key) (v:Value),ks[j]? =some k->us[j]? =some v->rG k v=true)->Vals (ks.map kV) us
 | [],[],_,_=> .nil
 |k::ks,u::us,h,f=>by
  refine .cons ?_ (tw (by simpa using h) λj k' v h1 h2=>f (j+1) k' v (by simpa using h1) (by simpa using h2))
  rcases eN (f 0 k u rfl rfl) with ⟨i,t,rfl,rfl⟩|⟨x,t,rfl,rfl⟩
  ·exact⟨t,rfl⟩
  ·exact⟨t,rfl⟩
 | [],_::_,h,_=>by cases h
 |_::_,[],h,_=>by cases h
theorem xB(hc:X.calm=true):jH X (.type "list") vq:=⟨by
 intro pins s σ H xs us Q I r h
 unfold vq at h
 split at h
 case h_2=>exact h.elim
 rename_i a
 obtain⟨u,rfl,rx⟩:=vals1 r
 cases (show u=Value.ref a from rx)
 split at h
 case h_2=>exact h.elim
 rename_i kvs ea
 obtain⟨z,hd,vs,rel,o,es,ep,hat⟩:=yB I.dm ea
 have da:Heap.DictAt (fv X.prog X.w) s.heap a vs ep:=⟨o,es,hat⟩
 have hk2:=rel.keys
 have hlen:vs.length=kvs.length:=by
  have:=congrArg List.length hk2
  simpa using this.symm
 refine PySem.W.kdl_call (PySem.W.kdl_dict hd) (by show X.A.handled=none;exact I.ok.hd hc) da (by omega) λh' tk acc c' hk hS hi=> ?_
 have hal:acc.toList.length=kvs.length:=by rw[←hlen];simpa using hi.1
 have hf:H s.heap.objs.size=none:=I.dm.fresh (ao _)
 refine⟨.ref s.heap.objs.size,_,I.laid (t':=tk) hk (ao _) (show eh X.prog X.w _ h' _ (.lst (kvs.map λp=>kV p.1)) from ?_),rfl,h _ hf⟩
 refine⟨by rw[ah];omega,acc.toList,c',?_,by simpa using hS⟩
 have e:(kvs.map λp=>kV p.1)=(kvs.map (·.1)).map kV:=by rw[bw];rfl
 rw[e]
 refine tw (by rw[ah];exact hal) λj k v h1 h2=> ?_
 obtain⟨k',x,e1,e2⟩:=hi.2 j v (by simpa using h2)
 have e3:(vs.map (·.1))[j]? =some k':=by rw[aS,e1];rfl
 rw[←hk2,h1]at e3
 cases e3
 exact e2⟩
end
end L2
namespace K28
open PySem L2
noncomputable def top (i:Nat):Stmt:=PySem.Challenge.pw_cellkeep_k28_programs_read.main.body.getD i (.Pass ⟨0,0,0,0⟩)
noncomputable abbrev j9:Stmt:=top 19
noncomputable abbrev om:Stmt:=top 28
noncomputable abbrev oj:Stmt:=top 30
noncomputable abbrev nD:Stmt:=top 33
noncomputable abbrev ma:Stmt:=top 36
noncomputable abbrev pN:Stmt:=top 38
noncomputable abbrev l_:Stmt:=top 39
noncomputable abbrev kZ:Stmt:=top 40
noncomputable abbrev lr:Stmt:=top 41
noncomputable abbrev i8:Stmt:=top 45
noncomputable abbrev i7:Stmt:=top 47
noncomputable abbrev g0:Stmt:=top 48
noncomputable abbrev i9:Stmt:=top 18
noncomputable abbrev jT:Stmt:=top 29
noncomputable abbrev oi:Stmt:=top 42
noncomputable abbrev lu:Stmt:=top 46
noncomputable abbrev jM:Stmt:=top 49
noncomputable abbrev l9:Stmt:=top 50
noncomputable abbrev pP:Stmt:=top 32
noncomputable abbrev mW:Stmt:=top 43
noncomputable abbrev mV:Stmt:=top 51
noncomputable abbrev i_:Stmt:=top 31
noncomputable abbrev j8:Stmt:=top 44
noncomputable abbrev md:Stmt:=top 35
noncomputable abbrev fU:Stmt:=top 52
noncomputable abbrev oo:Stmt:=top 34
noncomputable abbrev me:Stmt:=top 27
noncomputable abbrev kB:Stmt:=top 53
noncomputable abbrev sY:Stmt:=top 54
theorem Fv:(Str.ofString "\n").length=1:=by decide+kernel
theorem Bx:(Str.ofString "0123456789").length=10:=by decide+kernel
theorem By:(Str.ofString "abcdefghijklmnopqrstuvwxyz").length=26:=by decide+kernel
theorem Ek:(Str.ofString "again ").length=6:=by decide+kernel
theorem El:(Str.ofString "if ").length=3:=by decide+kernel
theorem Bz:(Str.ofString "tell ").length=5:=by decide+kernel
theorem cu{s t:TS}{D:Ends}{σ:St}{H:Hp}(P:St->Hp->Prop)(h1:∀R:St->Hp->Prop,(∀σ' H',P σ' H'->R σ' H')->s {D with nx:=R} σ H)(h2:∀σ' H',P σ' H'->t D σ' H'):gh s t D σ H:=h1 (t D) h2
theorem vD{tc:TT}{t u:TS}{D:Ends}{σ:St}{H:Hp}(h:∀K:Bool->Hp->Prop,K true H->tc σ H K)(ht:t D σ H):dA tc t u D σ H:=h _ (by rw[if_pos rfl];exact ht)
theorem yO{tc:TT}{t u:TS}{D:Ends}{σ:St}{H:Hp}(h:∀K:Bool->Hp->Prop,K false H->tc σ H K)(ht:u D σ H):dA tc t u D σ H:=h _ (by rw[if_neg (by intro z;cases z)];exact ht)
theorem same_none{H H':Hp}{l:Addr}(s:cq H H')(h:H' l=none):H l=none:=by
 cases e:H l with
 |none=>rfl
 |some u=>rw[s _ _ e]at h;cases h
theorem big{k:Nat}(h:k<=1000):k<=sizeLine:=av h (by decide)
noncomputable def asc (z:Str):Prop:=∀c∈z.cps.toList,c<128
theorem asc.all{z:Str}(h:asc z):(z.cps.all λc=>decide (c<128))=true:=by
 rw[←Array.all_toList,List.all_eq_true]
 exact λc hc=>decide_eq_true (h c hc)
theorem dz(x:Str):x.length=x.cps.toList.length:=rfl
theorem jz(x y:Str):(x++y).cps.toList=x.cps.toList++y.cps.toList:=by
 show(x.cps++y.cps).toList=_
 rw[Array.toList_append]
theorem str_len(x y:Str):(x++y).length=x.length+y.length:=Str.length_append x y
theorem pz{x y:Str}(h:x.cps.toList=y.cps.toList):x=y:=by
 cases x;cases y
 exact congrArg Str.mk (Array.toList_inj.mp h)
theorem asc.app{x y:Str}(h1:asc x)(h2:asc y):asc (x++y):=λc hc=>by
 rw[jz]at hc
 rcases List.mem_append.mp hc with m|m
 ·exact h1 c m
 ·exact h2 c m
noncomputable def pI (cs:List Nat):Str:=⟨cs.toArray⟩
theorem wW{z:Str}:pI z.cps.toList=z:=pz rfl
theorem qR{z:Str}{i:Nat}:StrLaws.sliceText z (some (i:Int)) none=pI (z.cps.toList.drop i):=by
 by_cases h:i<=z.length
 ·rw[StrLaws.sliceText_from (x:=z) (i:=(i:Int)) ⟨by omega,by rw[←dz];omega⟩,show((i:Int)).toNat=i by omega,List.take_of_length_le (by rw[aV];omega)];rfl
 ·rw[show StrLaws.sliceText z (some (i:Int)) none=⟨#[]⟩ from PyProof.Rows.slice_from_beyond (by omega),List.drop_of_length_le (by rw[←dz];omega)];rfl
theorem sZ{z:Str}{i:Nat}:StrLaws.sliceText z none (some (i:Int))=pI (z.cps.toList.take i):=by
 by_cases h:i<=z.length
 ·rw[StrLaws.sliceText_to (x:=z) (j:=(i:Int)) ⟨by omega,by rw[←dz];omega⟩,List.drop_zero,show((i:Int)-0).toNat=i by omega];rfl
 ·have e:StrLaws.sliceText z none (some (i:Int))=StrLaws.sliceText z none (some (z.length:Int)):=PyProof.Rows.slice_to_beyond (by omega)
  rw[e,StrLaws.sliceText_to (x:=z) (j:=(z.length:Int)) ⟨by omega,by rw[←dz];omega⟩,List.drop_zero,List.take_of_length_le (by rw[←dz];omega),List.take_of_length_le (by rw[←dz];omega)];rfl
noncomputable def dig (c:Nat):Bool:=decide (48<=c)&&decide (c<=57)
noncomputable def Az:Str:=Str.ofString "0123456789"
theorem w4{c:Nat}(h:c<128):(!(Builtin.Str.occurrences Az ⟨#[c]⟩ 0 Az.length 1).isEmpty)=dig c:=by
 revert h;revert c;decide+kernel
theorem rS{z:Str}{c:Nat}:Txt.startswith z ⟨#[c]⟩=decide (z.cps.toList.head? =some c):=by
 unfold Txt.startswith Builtin.Str.subAt
 cases e:z.cps.toList with
 |nil=>
  have hl:z.cps.size=0:=by rw[←Array.length_toList,e];rfl
  have h1:¬(1<=z.cps.size):=by omega
  simp[Str.length,h1]
 |cons a r=>
  have hl:1<=z.cps.size:=by rw[←Array.length_toList,e];simp
  have hz:z.cps=(a::r).toArray:=by rw[←e]
  have h2:(z.cps.extract 0 1== #[c])=decide (a=c):=by rw[hz];simp;rfl
  simp[Str.length,hl]
  simpa using h2
noncomputable def pZ (cs:List Nat):Bool:=decide (cs.length<=60)&& !cs.isEmpty&&decide (cs.head? ≠some 48)&&cs.all dig
noncomputable def x5:List Nat->Bool
 |45::r=>pZ r
 |r=>pZ r
noncomputable def wr (z:Str):Bool:=decide (z=Str.ofString "0") ||x5 z.cps.toList
noncomputable def EM:List Nat->Int
 |45::r=> -((NumText.digitsVal r:Nat):Int)
 |r=>((NumText.digitsVal r:Nat):Int)
noncomputable def vl (z:Str):Int:=EM z.cps.toList
theorem wk{cs:List Nat}(h:cs.all dig=true):NumText.AllDigits cs:=λc hc=>by
 have:=List.all_eq_true.mp h c hc
 unfold dig at this
 rw[aw,decide_eq_true_eq,decide_eq_true_eq]at this
 exact this
theorem p_{cs:List Nat}(h:pZ cs=true):cs.length<=60/\cs≠ []/\cs.head? ≠some 48/\cs.all dig=true:=by
 unfold pZ at h
 rw[aw,aw,aw,decide_eq_true_eq,decide_eq_true_eq]at h
 refine⟨h.1.1.1,λz=> ?_,h.1.2,h.2⟩
 have:=h.1.1.2
 rw[z]at this;cases this
theorem zU{z:Str}(h:wr z=true):PySem.intText? z=some (vl z)/\z.length<=640:=by
 unfold wr at h
 rw[Bool.or_eq_true,decide_eq_true_eq]at h
 rcases h with rfl|h
 ·exact⟨by decide+kernel,by decide+kernel⟩
 ·unfold vl
  by_cases y:∃r,z.cps.toList=45::r
  ·obtain⟨r,e⟩:=y
   rw[e]at h⊢
   obtain⟨h1,h2,_,h4⟩:=p_ (show pZ r=true from h)
   have hl:z.length<=61:=by rw[dz,e];show r.length+1<=61;omega
   exact⟨PySem.intText_neg e (wk h4) h2 (by omega),by omega⟩
  ·have e1:x5 z.cps.toList=pZ z.cps.toList:=by
    cases e:z.cps.toList with
    |nil=>rfl
    |cons a r=>
     unfold x5
     split
     ·rename_i q hq;exact absurd ⟨q,e.trans hq⟩ y
     ·rfl
   have e2:EM z.cps.toList=((NumText.digitsVal z.cps.toList:Nat):Int):=by
    cases e:z.cps.toList with
    |nil=>rfl
    |cons a r=>
     unfold EM
     split
     ·rename_i q hq;exact absurd ⟨q,e.trans hq⟩ y
     ·rfl
   rw[e1]at h
   obtain⟨h1,h2,_,h4⟩:=p_ h
   rw[e2]
   have hl:z.length<=60:=h1
   exact⟨PySem.intText_digits (wk h4) h2 (by omega),by omega⟩
noncomputable def qt (s:Nat):List Nat->List (List Nat)
 | []=>[[]]
 |c::r=>if c=s then []::qt s r else match qt s r with
  |p::ps=>(c::p)::ps
  | []=>[[c]]
theorem pT{s:Nat}{cs:List Nat}:qt s cs≠ []:=by
 cases cs with
 |nil=>exact List.cons_ne_nil _ _
 |cons c r=>
  unfold qt
  split
  ·exact List.cons_ne_nil _ _
  ·split<;>exact List.cons_ne_nil _ _
noncomputable def jn (s:Nat):List (List Nat)->List Nat
 | []=>[]
 | [p]=>p
 |p::ps=>p++s::jn s ps
theorem xa{s:Nat}{p r:List Nat}(h:s∉p):qt s (p++r)=match qt s r with|q::qs=>(p++q)::qs| []=>[p]:=by
 induction p with
 |nil=>
  cases e:qt s r with
  |nil=>exact absurd e pT
  |cons q qs=>rw[bg,e];rfl
 |cons c p ih=>
  have hc:c≠s:=λz=>h (by rw[z];exact aA)
  rw[aX,qt,if_neg hc,ih (λm=>h (aD _ m))]
  cases e:qt s r with
  |nil=>exact absurd e pT
  |cons q qs=>rfl
theorem zJ{s:Nat}:∀{ps:List (List Nat)},ps≠ []->(∀p∈ps,s∉p)->qt s (jn s ps)=ps
 | [],h,_=>absurd rfl h
 | [p],_,h=>by
  have:=xa (p:=p) (r:=[]) (h p aA)
  rw[aR]at this
  show qt s p=_
  rw[this];show [p++[]]=_;rw[aR]
 |p::q::ps,_,h=>by
  show qt s (p++s::jn s (q::ps))=_
  rw[xa (h p aA),qt,if_pos rfl,zJ (List.cons_ne_nil _ _) λx hx=>h x (aD _ hx)]
  show(p++[])::q::ps=_
  rw[aR]
theorem tV{s:Nat}:∀{ps:List Str},(Str.join ⟨#[s]⟩ ps).cps.toList=jn s (ps.map λp=>p.cps.toList)
 | []=>rfl
 | [p]=>rfl
 |p::q::ps=>by
  show((p++⟨#[s]⟩)++Str.join ⟨#[s]⟩ (q::ps)).cps.toList=_
  rw[jz,jz,tV (ps:=q::ps)]
  show(p.cps.toList++[s])++_=_
  rw[bu];rfl
noncomputable def di (s:Nat) (z:Str):List Str:=(qt s z.cps.toList).map pI
noncomputable def nu (s:Nat) (ps:List Str):Str:=Str.join ⟨#[s]⟩ ps
theorem qQ{s:Nat}{ps:List Str}(hn:ps≠ [])(h:∀p∈ps,s∉p.cps.toList):di s (nu s ps)=ps:=by
 unfold di nu
 rw[tV,zJ (by simpa using hn) (λp hp=>by obtain⟨q,hq,rfl⟩:=List.mem_map.mp hp;exact h q hq),bw]
 exact List.map_id'' (λp=>wW) ps
theorem lE{s:Nat}{z:Str}:Txt.split z ⟨#[s]⟩=di s z/\nu s (di s z)=z:=by
 have h1:Str.join ⟨#[s]⟩ (Txt.split z ⟨#[s]⟩)=z:=StrLaws.join_split z ⟨#[s]⟩
 have h2:=StrLaws.split_free z s
 have h3:=PyProof.Rows.split_pos z ⟨#[s]⟩
 have e:Txt.split z ⟨#[s]⟩=di s z:=by
  have:=qQ (s:=s) (ps:=Txt.split z ⟨#[s]⟩) (λy=>by rw[y]at h3;exact absurd h3 (by decide)) h2
  unfold nu at this
  rw[h1]at this;exact this.symm
 exact⟨e,by unfold nu;rw[←e];exact h1⟩
theorem pw{s:Nat}:∀{cs:List Nat} {p:List Nat} {c:Nat},p∈qt s cs->c∈p->c∈cs
 | [],p,c,hp,hc=>by
  rw[show qt s []=[[]] from rfl,bf]at hp
  subst hp;cases hc
 |a::r,p,c,hp,hc=>by
  unfold qt at hp
  split at hp
  ·rcases List.mem_cons.mp hp with rfl|m
   ·cases hc
   ·exact aD _ (pw m hc)
  ·split at hp
   ·rename_i q qs e
    rcases List.mem_cons.mp hp with rfl|m
    ·rcases List.mem_cons.mp hc with rfl|m
     ·exact aA
     ·exact aD _ (pw (by rw[e];exact aA) m)
    ·exact aD _ (pw (by rw[e];exact aD _ m) hc)
   ·rename_i e;exact absurd e pT
theorem qS{s:Nat}:∀{cs:List Nat},(qt s cs).length<=cs.length+1/\∀p∈qt s cs,p.length<=cs.length
 | []=>⟨ao _,λp hp=>by rw[show qt s []=[[]] from rfl,bf]at hp;subst hp;exact ao _⟩
 |a::r=>by
  obtain⟨h1,h2⟩:=qS (s:=s) (cs:=r)
  unfold qt
  split
  ·refine⟨by rw[ag,ag];omega,λp hp=> ?_⟩
   rcases List.mem_cons.mp hp with rfl|m
   ·exact aO _
   ·have:=h2 p m;rw[ag];omega
  ·split
   ·rename_i q qs e
    rw[e]at h1 h2
    refine⟨by rw[ag]at h1⊢;rw[ag];omega,λp hp=> ?_⟩
    rcases List.mem_cons.mp hp with rfl|m
    ·have:=h2 q aA;rw[ag,ag];omega
    ·have:=h2 p (aD _ m);rw[ag];omega
   ·rename_i e;exact absurd e pT
theorem pe{s:Nat}{z:Str}:di s z≠ []:=λh=>pT (List.map_eq_nil_iff.mp h)
noncomputable def tx (n:Nat) (z:Str):Prop:=z.length<=n/\∀c∈z.cps.toList,c<128/\c≠10
theorem tx.asc{n:Nat}{z:Str}(h:tx n z):asc z:=λc hc=>(h.2 c hc).1
theorem tx.mono{n m:Nat}{z:Str}(h:tx n z)(l:n<=m):tx m z:=⟨av h.1 l,h.2⟩
theorem tx.app{n m:Nat}{x y:Str}(h1:tx n x)(h2:tx m y):tx (n+m) (x++y):=⟨by rw[str_len];exact Nat.add_le_add h1.1 h2.1,λc hc=>by
 rw[jz]at hc
 exact(List.mem_append.mp hc).elim (h1.2 c) (h2.2 c)⟩
theorem tx.sub{n m:Nat}{z y:Str}(h:tx n z)(hl:y.length<=m)(hs:∀c∈y.cps.toList,c∈z.cps.toList):tx m y:=⟨hl,λc hc=>h.2 c (hs c hc)⟩
theorem hE{n:Nat}{z:Str}(h:(decide (z.length<=n)&&z.cps.toList.all λc=>decide (c<128)&&decide (c≠10))=true):tx n z:=by
 rw[aw,decide_eq_true_eq,List.all_eq_true]at h
 refine⟨h.1,λc hc=> ?_⟩
 have:=h.2 c hc
 rw[aw,decide_eq_true_eq,decide_eq_true_eq]at this
 exact this
theorem t_{s n:Nat}{z:Str}(h:tx n z):∀p∈di s z,tx n p:=λp hp=>by
 obtain⟨q,hq,rfl⟩:=List.mem_map.mp hp
 exact⟨av (qS.2 q hq) h.1,λc hc=>h.2 c (pw hq hc)⟩
theorem uW{s:Nat}{z:Str}:(di s z).length<=z.length+1:=by
 unfold di;rw[ah];exact qS.1
theorem qN{s:Nat}:∀{ps:List Str},(nu s ps).length<=(ps.map (·.length)).sum+ps.length
 | []=>aO _
 | [p]=>by show p.length<=p.length+0+1;omega
 |p::q::ps=>by
  have:=qN (s:=s) (ps:=q::ps)
  show((p++⟨#[s]⟩)++nu s (q::ps)).length<=_
  rw[str_len,str_len,show(⟨#[s]⟩:Str).length=1 from rfl,ax,bW,ag];omega
theorem tU{s c:Nat}:∀{ps:List Str},c∈(nu s ps).cps.toList->c=s∨∃p∈ps,c∈p.cps.toList
 | [],h=>nomatch h
 | [p],h=> .inr ⟨p,aA,h⟩
 |p::q::ps,h=>by
  have h:c∈((p++⟨#[s]⟩)++nu s (q::ps)).cps.toList:=h
  rw[jz,jz]at h
  rcases List.mem_append.mp h with h|h
  ·rcases List.mem_append.mp h with h|h
   ·exact .inr ⟨p,aA,h⟩
   ·exact .inl (List.mem_singleton.mp h)
  ·rcases tU h with h|⟨x,hx,h⟩
   ·exact .inl h
   ·exact .inr ⟨x,aD _ hx,h⟩
theorem oq{n:Nat}:∀{ps:List Str},(∀p∈ps,p.length<=n)->(ps.map (·.length)).sum<=ps.length*n
 | [],_=>aO _
 |p::ps,h=>by
  have:=oq λq hq=>h q (aD _ hq)
  have h1:=h p aA
  rw[ax,bW,ag,Nat.succ_mul];omega
theorem Cq{n m:Nat}{ps:List Str}(hl:ps.length<=m)(h:∀p∈ps,tx n p):tx (m*n+m) (nu 32 ps):=by
 refine⟨?_,λc hc=> ?_⟩
 ·have:=qN (s:=32) (ps:=ps)
  have h2:=oq λp hp=>(h p hp).1
  have h3:=Nat.mul_le_mul_right n hl
  omega
 ·rcases tU hc with rfl|⟨p,hp,h1⟩
  ·decide
  ·exact(h p hp).2 c h1
theorem o4{s:Nat}{ps:List Str}(h:(ps.map (·.length)).sum+ps.length<=40000):JoinOk ⟨#[s]⟩ ps=true/\Txt.join ⟨#[s]⟩ ps=nu s ps:=by
 refine⟨?_,StrLaws.glued_eq_join _ _⟩
 unfold JoinOk Builtin.Str.tooLong
 rw[StrLaws.joinTotal,show(⟨#[s]⟩:Str).length=1 from rfl,aG,decide_eq_false_iff_not,Nat.mul_one]
 refine Nat.not_lt.mpr (av (av ?_ h) (by decide))
 omega
theorem qZ:Str.ofString " "=⟨#[32]⟩:=by decide+kernel
theorem zb:Str.ofString "\n"=⟨#[10]⟩:=by decide+kernel
noncomputable def dg (m:Nat):List Nat:=if h:m<10 then [48+m] else dg (m/10)++[48+m%10]
termination_by m
decreasing_by omega
theorem ri{m:Nat}(h:m<10):dg m=[48+m]:=by rw[dg,dif_pos h]
theorem rh{m:Nat}(h:¬m<10):dg m=dg (m/10)++[48+m%10]:=by rw[dg,dif_neg h]
theorem sN:∀d:Nat,d<10->(Nat.digitChar d).toNat=48+d:=by decide
theorem D9(m:Nat):(Nat.toDigits 10 m).map Char.toNat=dg m:=by
 induction m using Nat.strongRecOn with
 |_ m ih=>
  by_cases h:m<10
  ·rw[Nat.toDigits_of_lt_base h,ri h,ax,aJ,sN m h]
  ·have hm:m%10<10:=Nat.mod_lt m (by decide)
   have t:Nat.toDigits 10 (m/10)++Nat.toDigits 10 (m%10)=Nat.toDigits 10 (10*(m/10)+m%10):=Nat.toDigits_append_toDigits (by decide) (by omega) hm
   rw[Nat.div_add_mod]at t
   rw[←t,aF,Nat.toDigits_of_lt_base hm,rh h,ih (m/10) (by omega),ax,aJ,sN _ hm]
theorem D_(m:Nat):dg m≠ []:=by
 by_cases h:m<10
 ·rw[ri h];exact List.cons_ne_nil _ _
 ·rw[rh h];exact λz=>by simp at z
theorem yy(m:Nat):(dg m).all dig=true:=by
 induction m using Nat.strongRecOn with
 |_ m ih=>
  by_cases h:m<10
  ·rw[ri h];simp[dig];omega
  ·rw[rh h,List.all_append,ih (m/10) (by omega)];simp[dig];omega
theorem vy:∀(k m:Nat),m<10^(k+1)->(dg m).length<=k+1
 |0,m,h=>by rw[ri (by simpa using h)];exact ao _
 |k+1,m,h=>by
  by_cases h9:m<10
  ·rw[ri h9];show 1<=_;omega
  ·rw[rh h9,ay]
   have:=vy k (m/10) (by rw[Nat.pow_succ]at h;omega)
   show _+1<=_;omega
noncomputable def nK (n:Int):Str:=Str.ofString (toString n)
theorem lD(m:Nat):(nK (m:Int)).cps.toList=dg m:=by
 unfold nK;rw[PySem.W.KIN.signs_num,D9]
theorem o8{n:Int}(h:n<0):(nK n).cps.toList=45::dg n.natAbs:=by
 unfold nK
 have e:(0-n)=((n.natAbs:Nat):Int):=by omega
 rw[PyProof.Rows.toString_neg h,e,←tY,jz]
 have:=lD n.natAbs
 unfold nK at this
 rw[this];rfl
theorem CH(n:Int):∀c∈(nK n).cps.toList,c=45∨dig c=true:=λc hc=>by
 by_cases h:n<0
 ·rw[o8 h]at hc
  rcases List.mem_cons.mp hc with rfl|m
  ·exact .inl rfl
  ·exact .inr (List.all_eq_true.mp (yy _) c m)
 ·obtain⟨m,rfl⟩:∃m:Nat,n=m:=⟨n.toNat,by omega⟩
  rw[lD]at hc
  exact .inr (List.all_eq_true.mp (yy _) c hc)
theorem yz{c:Nat}(h:dig c=true):48<=c/\c<=57:=by
 unfold dig at h;rw[aw,decide_eq_true_eq,decide_eq_true_eq]at h;exact h
theorem ze{n:Int}(h:n.natAbs<10^60):(nK n).length<=61:=by
 by_cases h0:n<0
 ·have:=vy 59 n.natAbs h
  rw[dz,o8 h0,ag];omega
 ·obtain⟨m,rfl⟩:∃m:Nat,n=m:=⟨n.toNat,by omega⟩
  have:=vy 59 m (by simpa using h)
  rw[dz,lD];omega
theorem tN:∀(n:Nat) (cs:List Nat),cs.length=n->cs≠ []->cs.head? ≠some 48->cs.all dig=true->dg (NumText.digitsVal cs)=cs/\1<=NumText.digitsVal cs
 |0,[],_,h,_,_=>absurd rfl h
 |n+1,cs,hn,h,h0,ha=>by
  obtain⟨r,c,rfl⟩:∃r c,cs=r++[c]:=⟨cs.dropLast,cs.getLast h,(List.dropLast_concat_getLast h).symm⟩
  rw[List.all_append,aw]at ha
  have hc:=yz (show dig c=true by simpa using ha.2)
  rw[NumText.digitsVal_snoc]
  cases r with
  |nil=>
   have h48:c≠48:=λz=>h0 (by rw[z];rfl)
   have e:10*NumText.digitsVal []+(c-48)=c-48:=by show 10*0+_=_;omega
   first|rw[e]|(rw[show NumText.digitsVal []=0 from rfl])
   rw[ri (by omega)]
   refine⟨?_,by omega⟩
   show [48+_]=[c]
   congr 1;omega
  |cons a r=>
   have hl:(a::r).length=n:=by simpa using hn
   obtain⟨i1,i2⟩:=tN n (a::r) hl (List.cons_ne_nil _ _) (by simpa using h0) ha.1
   rw[rh (by omega)]
   refine⟨?_,by omega⟩
   congr 1
   ·rw[show∀x,(x*10+(c-48))/10=x from λx=>by omega]<;>exact i1
   ·congr 1;omega
theorem o9{z:Str}(h:wr z=true):nK (vl z)=z:=by
 unfold wr at h
 rw[Bool.or_eq_true,decide_eq_true_eq]at h
 rcases h with rfl|h
 ·decide+kernel
 ·refine pz ?_
  unfold vl
  by_cases y:∃r,z.cps.toList=45::r
  ·obtain⟨r,e⟩:=y
   rw[e]at h⊢
   obtain⟨h1,h2,h3,h4⟩:=p_ (show pZ r=true from h)
   obtain⟨b1,b2⟩:=tN _ r rfl h2 h3 h4
   show(nK (-((NumText.digitsVal r:Nat):Int))).cps.toList=_
   rw[o8 (by omega),show(-((NumText.digitsVal r:Nat):Int)).natAbs=NumText.digitsVal r by omega,b1]
  ·have e1:x5 z.cps.toList=pZ z.cps.toList/\EM z.cps.toList=((NumText.digitsVal z.cps.toList:Nat):Int):=by
    cases e:z.cps.toList with
    |nil=>exact⟨rfl,rfl⟩
    |cons a r=>
     have ha:a≠45:=λq=>y ⟨r,by rw[e,q]⟩
     constructor
     ·unfold x5;split
      ·rename_i q hq;injection hq with q1;exact absurd q1 ha
      ·rfl
     ·unfold EM;split
      ·rename_i q hq;injection hq with q1;exact absurd q1 ha
      ·rfl
   rw[e1.1]at h
   obtain⟨h1,h2,h3,h4⟩:=p_ h
   rw[e1.2,lD]
   exact(tN _ _ rfl h2 h3 h4).1
theorem BH{z:Str}(h:wr z=true):(vl z).natAbs.log2<1920:=by
 have hb:=o9 h
 have hw:=zU h
 have hl:z.length<=61:=by
  unfold wr at h
  rw[Bool.or_eq_true,decide_eq_true_eq]at h
  rcases h with rfl|h
  ·decide+kernel
  ·cases e:z.cps.toList with
   |nil=>rw[dz,e];exact aO _
   |cons a r=>
    rw[e]at h
    unfold x5 at h
    split at h
    ·rename_i q hq;injection hq with q1 q2
     have:=(p_ h).1
     rw[dz,e,ag,q2];omega
    ·have:=(p_ h).1
     rw[dz,e];omega
 have key:∀k m:Nat,(dg m).length<=k+1->m<10^(k+1):=λk=>by
  induction k with
  |zero=>
   intro m hm
   by_cases y:m<10
   ·omega
   ·rw[rh y,ay,bJ]at hm
    exact absurd (List.eq_nil_of_length_eq_zero (by omega)) (D_ (m/10))
  |succ k ih=>
   intro m hm
   by_cases y:m<10
   ·exact aB y (by rw[Nat.pow_succ];have:1<=10^(k+1):=Nat.one_le_pow _ _ (by decide);omega)
   ·rw[rh y,ay,bJ]at hm
    have:=ih (m/10) (by omega)
    rw[Nat.pow_succ];omega
 have h1:(vl z).natAbs<10^61:=by
  refine key 60 _ ?_
  by_cases y:vl z<0
  ·have:=o8 y
   rw[hb]at this
   rw[dz,this,ag]at hl;omega
  ·obtain⟨m,hm⟩:∃m:Nat,vl z=m:=⟨(vl z).toNat,by omega⟩
   have:=lD m
   rw[←hm,hb]at this
   rw[hm,Int.natAbs_natCast,←this,←dz];exact hl
 have h2:(vl z).natAbs<2^1920:=aB h1 (by decide+kernel)
 by_cases y:(vl z).natAbs=0
 ·rw[y];decide
 ·exact(Nat.log2_lt y).mpr h2
noncomputable def eS:Str:=Str.ofString "end"
noncomputable def ws:List Str:=[Str.ofString "make",Str.ofString "keep",Str.ofString "copy",Str.ofString "drop",Str.ofString "get",Str.ofString "set",Str.ofString "tell",Str.ofString "again",Str.ofString "if",Str.ofString "end"]
noncomputable def wt:List (List Bool):=[[true,false],[true,false],[true,true],[true],[true,true,false],[true,false,true],[true],[false],[true],[]]
noncomputable def want (x:Str):List Bool:=wt.getD (ws.idxOf x) []
noncomputable def wS (b:Bool):Str:=if b then Str.ofString "name" else Str.ofString "number"
noncomputable def Tb:List (Str×PyProof.Rows.KTD.Dat):=ws.map λx=>(x,.tup ((want x).map λb=>PyData.str (wS b)))
theorem pE{f:Str->PyProof.Rows.KTD.Dat}{x:Str}:∀{l:List Str},PyProof.Rows.KTD.datumAt x (l.map λy=>(y,f y))=if x∈l then some (f x) else none
 | []=>rfl
 |y::l=>by
  show(if decide (x=y)=true then some (f y) else PyProof.Rows.KTD.datumAt x (l.map λy=>(y,f y)))=_
  rw[pE (l:=l)]
  by_cases h:x=y
  ·subst h;simp
  ·simp[h]
theorem u7{x:Str}(h:x∈ws):PyProof.Rows.KTD.inKeys x Tb=true/\PyProof.Rows.KTD.datumAt x Tb=some (.tup ((want x).map λb=>PyData.str (wS b))):=by
 have e:PyProof.Rows.KTD.datumAt x Tb=some (.tup ((want x).map λb=>PyData.str (wS b))):=pE.trans (if_pos h)
 exact⟨by rw[←PyProof.Rows.KTD.isSome_datumAt,e];rfl,e⟩
theorem zO{x:Str}(h:x∉ws):PyProof.Rows.KTD.inKeys x Tb=false:=by
 rw[←PyProof.Rows.KTD.isSome_datumAt,show PyProof.Rows.KTD.datumAt x Tb=none from pE.trans (if_neg h)];rfl
noncomputable def low (c:Nat):Bool:=decide (97<=c)&&decide (c<=122)
theorem Cy{c:Nat}(h:low c=true):97<=c/\c<=122:=by
 unfold low at h;rw[aw,decide_eq_true_eq,decide_eq_true_eq]at h;exact h
noncomputable def lets:Str:=Str.ofString "abcdefghijklmnopqrstuvwxyz"
theorem w5{c:Nat}(h:c<128):(!(Builtin.Str.occurrences lets ⟨#[c]⟩ 0 lets.length 1).isEmpty)=low c:=by
 revert h;revert c;decide+kernel
noncomputable def rJ (z:Str):Bool:=decide (z∉ws)&&(decide (1<=z.length)&&decide (z.length<=8))&&z.cps.toList.all low
theorem CF{z:Str}(h:rJ z=true):z∉ws/\1<=z.length/\z.length<=8/\z.cps.toList.all low=true:=by
 unfold rJ at h
 rw[aw,aw,aw,decide_eq_true_eq,decide_eq_true_eq,decide_eq_true_eq]at h
 exact⟨h.1.1,h.1.2.1,h.1.2.2,h.2⟩
theorem BA{z:Str}(h:rJ z=true):wr z=false:=by
 obtain⟨_,h1,_,h4⟩:=CF h
 cases e:z.cps.toList with
 |nil=>rw[dz,e]at h1;exact absurd h1 (by decide)
 |cons a r=>
  have ha:=Cy (List.all_eq_true.mp h4 a (by rw[e];exact aA))
  unfold wr
  rw[Bool.or_eq_false_iff]
  constructor
  ·refine decide_eq_false λy=> ?_
   have:z.cps.toList=[48]:=by rw[y];decide+kernel
   rw[e]at this;injection this with q;omega
  ·rw[e]
   have:x5 (a::r)=pZ (a::r):=by
    unfold x5;split
    ·rename_i q hq;injection hq with q1;omega
    ·rfl
   rw[this]
   unfold pZ
   have hd:dig a=false:=by unfold dig;rw[Bool.and_eq_false_iff];right;exact decide_eq_false (by omega)
   rw[aP,hd,Bool.false_and,Bool.and_false]
noncomputable def pO (b:Bool) (z:Str):Bool:=if b then rJ z else wr z
noncomputable def pV (b:Bool) (z:Str):V:=if b then .str z else .int (vl z)
noncomputable def all2 (p:Bool->Str->Bool):List Bool->List Str->Bool
 | [],[]=>true
 |b::bs,z::zs=>p b z&&all2 p bs zs
 |_,_=>false
noncomputable def xj:Str:=Str.ofString "again"
noncomputable def Dx (r:List Str):Bool:=decide (0<=vl (r.headD Str.empty))&&decide (vl (r.headD Str.empty)<=9)
noncomputable def Ef:List Str->Bool
 | []=>false
 |x::r=>decide (x∈ws)&&all2 pO (want x) r&&(decide (x≠xj) ||Dx r)
noncomputable def fits (l:Str):Bool:=Ef (di 32 l)
noncomputable def wd (l:Str):Str:=(di 32 l).headD Str.empty
noncomputable def jx:List Str->List V
 | []=>[]
 |x::r=> .str x::List.zipWith pV (want x) r
noncomputable def sV (l:Str):List V:=jx (di 32 l)
noncomputable def ql (x:Str):Bool:=decide (x∈ [xj,Str.ofString "if"])
noncomputable def se:List Str->List Str
 | []=>[]
 |_::r=>r.filter λz=> !wr z
theorem gi{p:Bool->Str->Bool}:∀{bs:List Bool} {zs:List Str},all2 p bs zs=true->zs.length=bs.length
 | [],[],_=>rfl
 |_::_,_::_,h=>by
  unfold all2 at h;rw[aw]at h
  rw[ag,ag,gi h.2]
 | [],_::_,h=>by cases h
 |_::_,[],h=>by cases h
theorem qF{p:Bool->Str->Bool}:∀{bs:List Bool} {zs:List Str},zs.length=bs.length->(all2 p bs zs=true↔∀(i:Nat) (b:Bool) (z:Str),bs[i]? =some b->zs[i]? =some z->p b z=true)
 | [],[],_=>⟨λ_ i b z h _=>by simp at h,λ_=>rfl⟩
 |c::bs,y::zs,hl=>by
  have ih:=qF (p:=p) (bs:=bs) (zs:=zs) (by simpa using hl)
  unfold all2;rw[aw,ih]
  constructor
  ·rintro⟨h1,h2⟩ i b z hb hz
   cases i with
   |zero=>cases hb;cases hz;exact h1
   |succ i=>exact h2 i b z (by simpa using hb) (by simpa using hz)
  ·exact λh=>⟨h 0 c y rfl rfl,λi b z hb hz=>h (i+1) b z (by simpa using hb) (by simpa using hz)⟩
 | [],_::_,h=>by cases h
 |_::_,[],h=>by cases h
theorem nZ{l:Str}(h:fits l=true):∃x r,di 32 l=x::r/\wd l=x/\x∈ws/\all2 pO (want x) r=true/\(x=xj->Dx r=true):=by
 unfold fits at h
 cases e:di 32 l with
 |nil=>exact absurd e pe
 |cons x r=>
  rw[e]at h
  unfold Ef at h
  rw[aw,aw,decide_eq_true_eq]at h
  refine⟨x,r,rfl,by unfold wd;rw[e];rfl,h.1.1,h.1.2,λhx=> ?_⟩
  have:=h.2
  rw[Bool.or_eq_true,decide_eq_true_eq]at this
  exact this.resolve_left λn=>n hx
theorem nv{l:Str}:nu 32 (di 32 l)=l:=lE.2
theorem wN{l:Str}(h:fits l=true)(he:wd l=eS):l=eS:=by
 obtain⟨x,r,e,hw,_,ha,_⟩:=nZ h
 rw[hw]at he
 subst he
 have hl:=gi ha
 rw[show(want eS).length=0 by decide+kernel]at hl
 rw[List.eq_nil_of_length_eq_zero hl]at e
 have:=nv (l:=l)
 rw[e]at this
 exact this.symm
theorem wO:fits eS=true/\wd eS=eS:=by
 have e:di 32 eS=[eS]:=by
  have:=qQ (s:=32) (ps:=[eS]) (by simp) (λp hp=>by rw[List.mem_singleton.mp hp];decide+kernel)
  exact this
 unfold fits wd
 rw[e]
 exact⟨by decide+kernel,rfl⟩
noncomputable def kH (acc:List Str) (z:Str):List Str:=if z∈acc then acc else acc++[z]
noncomputable def gk (acc:List Str) (ls:List Str):List Str:=ls.foldl (λacc l=>(se (di 32 l)).foldl kH acc) acc
theorem o6{acc:List Str}{a b:List Str}:gk acc (a++b)=gk (gk acc a) b:=List.foldl_append ..
theorem nA{acc:List Str}{l:Str}{b:List Str}:gk acc (l::b)=gk ((se (di 32 l)).foldl kH acc) b:=rfl
theorem zc{acc b:List Str}:gk acc (eS::b)=gk acc b:=by
 rw[nA]
 have e:di 32 eS=[eS]:=qQ (s:=32) (ps:=[eS]) (by simp) (λp hp=>by rw[List.mem_singleton.mp hp];decide+kernel)
 rw[e];rfl
noncomputable def um:Nat->List Str->Option Nat
 |d,[]=>some d
 |d,l::ls=>if fits l=true then(if ql (wd l)=true then(if d<3 then um (d+1) ls else none) else if wd l=eS then(if 0<d then um (d-1) ls else none) else um d ls) else none
noncomputable def good (ls:List Str):Bool:=decide (um 0 ls=some 0)&&decide ((gk [] ls).length<=42)
inductive mw (H:Hp) (P:Addr->Prop):Nat->List V->List Str->Prop
 |nil {d:Nat}:mw H P d [] []
 |row {d:Nat} {t:Addr} {l:Str} {vs:List V} {ls:List Str} (hf:fits l=true) (ho:ql (wd l)=false) (he:wd l≠eS) (ht:H t=some (.tup (sV l))) (r:mw H P d vs ls):mw H P d (.ref t::vs) (l::ls)
 |jA {d:Nat} {t a:Addr} {l:Str} {us vs:List V} {js ls:List Str} (hf:fits l=true) (ho:ql (wd l)=true) (ht:H t=some (.tup (sV l++[.ref a]))) (ha:H a=some (.lst us)) (hp:P a) (b:mw H P d us js) (r:mw H P (d+1) vs ls):mw H P (d+1) (.ref t::vs) (l::(js++eS::ls))
section
variable{H H':Hp}{P P':Addr->Prop}{d:Nat}{vs vs':List V}{ls ls':List Str}
theorem mw.frame(h:mw H P d vs ls)(f:∀a us,P a->H a=some (.lst us)->P' a/\H' a=some (.lst us))(ft:∀a us,H a=some (.tup us)->H' a=some (.tup us)):mw H' P' d vs ls:=by
 induction h with
 |nil=>exact .nil
 |row hf ho he ht _ ih=>exact .row hf ho he (ft _ _ ht) ih
 |jA hf ho ht ha hp _ _ ib ir=>exact .jA hf ho (ft _ _ ht) (f _ _ hp ha).2 (f _ _ hp ha).1 ib ir
theorem mw.app(h:mw H P d vs ls)(h':mw H P d vs' ls'):mw H P d (vs++vs') (ls++ls'):=by
 induction h with
 |nil=>exact h'
 |row hf ho he ht _ ih=>exact .row hf ho he ht (ih h')
 |jA hf ho ht ha hp b _ _ ir=>
  rw[aX,aX,bu,aX]
  exact .jA hf ho ht ha hp b (ir h')
inductive Ac (H:Hp) (P:Addr->Prop):List Addr->Addr->List Str->Prop
 |nil {l:Addr}:Ac H P [] l []
 |cons {r:List Addr} {l l1 t:Addr} {ln:Str} {vs:List V} {pre ls:List Str} (hl:r.length<3) (h1:H l1=some (.lst (vs++[.ref t]))) (ht:H t=some (.tup (sV ln++[.ref l]))) (hf:fits ln=true) (ho:ql (wd ln)=true) (b:mw H P (3-r.length) vs ls) (o:Ac H P r l1 pre):Ac H P (l1::r) l (pre++ls++[ln])
theorem Ac.frame{r:List Addr}{l:Addr}{pre:List Str}(h:Ac H P r l pre)(f:∀a us,P a->H a=some (.lst us)->P' a/\H' a=some (.lst us))(ft:∀a us,H a=some (.tup us)->H' a=some (.tup us))(fr:∀a∈r,∀us,H a=some (.lst us)->H' a=some (.lst us)):Ac H' P' r l pre:=by
 induction h with
 |nil=>exact .nil
 |cons hl h1 ht hf ho b _ ih=>exact .cons hl (fr _ aA _ h1) (ft _ _ ht) hf ho (b.frame f ft) (ih λa ha=>fr a (aD _ ha))
structure Bs(F:Addr->Prop)(H:Hp)(r:List Addr)(l:Addr)(vs:List V)(pre ls:List Str):Prop where
 hr:r.length<=3
 nd:(l::r).Nodup
 fr:∀a∈l::r,F a
 hl:H l=some (.lst vs)
 b:mw H (λa=>F a/\a∉l::r) (3-r.length) vs ls
 o:Ac H (λa=>F a/\a∉l::r) r l pre
variable{F:Addr->Prop}{r:List Addr}{l l2 t:Addr}{pre:List Str}{ln:Str}
theorem Ac.there(h:Ac H P r l pre):∀a∈r,∃us,H a=some (.lst us):=by
 induction h with
 |nil=>intro a ha;cases ha
 |cons hl h1 ht hf ho b _ ih=>
  intro a ha
  rcases List.mem_cons.mp ha with rfl|ha
  ·exact⟨_,h1⟩
  ·exact ih a ha
theorem Bs.same(B:Bs F H r l vs pre ls)(s:cq H H'):Bs F H' r l vs pre ls:=
 ⟨B.hr,B.nd,B.fr,s _ _ B.hl,B.b.frame (λa us p e=>⟨p,s _ _ e⟩) (λ_ _ e=>s _ _ e),B.o.frame (λa us p e=>⟨p,s _ _ e⟩) (λ_ _ e=>s _ _ e) (λ_ _ _ e=>s _ _ e)⟩
theorem Bs.row(B:Bs F H r l vs pre ls)(hf:fits ln=true)(ho:ql (wd ln)=false)(he:wd ln≠eS)(ht:H t=some (.tup (sV ln))):Bs F (upd H l (.lst (vs++[.ref t]))) r l (vs++[.ref t]) pre (ls++[ln]):=by
 have f:∀a us,(F a/\a∉l::r)->H a=some (.lst us)->(F a/\a∉l::r)/\upd H l (.lst (vs++[.ref t])) a=some (.lst us):=λa us p e=>⟨p,(cO λz=>p.2 (by rw[z];exact aA)).trans e⟩
 have ft:∀a us,H a=some (.tup us)->upd H l (.lst (vs++[.ref t])) a=some (.tup us):=λa us e=>(cO λz=>by rw[z,B.hl]at e;cases e).trans e
 refine⟨B.hr,B.nd,B.fr,cg,(B.b.frame f ft).app (.row hf ho he (ft _ _ ht) .nil),B.o.frame f ft λa ha us e=>(cO λz=> ?_).trans e⟩
 exact(List.nodup_cons.mp B.nd).1 (z▸ha)
theorem Bs.cls{l1:Addr}(B:Bs F H (l1::r) l vs pre ls):∃vs1 pre1 ls1,Bs F H r l1 vs1 pre1 ls1/\pre1++ls1=pre++ls++[eS]:=by
 obtain⟨hr,nd,fr,hl,b,o⟩:=B
 cases o with
 |cons h3 h1 ht hf ho b1 o1=>
  rename_i t ln vs1 pre1 ls1
  have f:∀a us,(F a/\a∉l::l1::r)->H a=some (.lst us)->(F a/\a∉l1::r)/\H a=some (.lst us):=λa us p e=>⟨⟨p.1,λz=>p.2 (aD _ z)⟩,e⟩
  have nl:l∉l1::r:=(List.nodup_cons.mp nd).1
  refine⟨_,pre1,ls1++(ln::(ls++eS:: [])),⟨by rw[ag]at hr;omega,(List.nodup_cons.mp nd).2,λa ha=>fr a (aD _ ha),h1,?_,o1.frame f (λ_ _ e=>e) (λ_ _ _ e=>e)⟩,?_⟩
  ·refine(b1.frame f λ_ _ e=>e).app ?_
   have e:3-r.length=(3-(l1::r).length)+1:=by rw[ag]at hr⊢;omega
   rw[e]
   exact .jA hf ho ht hl ⟨fr l aA,nl⟩ (b.frame f λ_ _ e=>e) .nil
  ·simp
end
theorem m9{K:PySem.W.Frag}{H H':Hp}{a:Addr}{xs:List V}(e:cq H H')(h:nh K H a xs):nh K H' a xs:=by
 rcases h with (h|⟨o,h⟩)|h
 ·exact .inl (.inl (e _ _ h))
 ·exact .inl (.inr ⟨o,e _ _ h⟩)
 ·exact .inr h
theorem oP{xs:List V}{k:Nat}(h:k<=xs.length):nY xs (some (k:Int)) none=xs.drop k:=by
 unfold nY
 rw[HT.uc,HT.uZ,Nat.min_eq_left h,List.take_of_length_le (by rw[aV];omega)]
theorem vx{xs:List V}{k:Nat}(h:k<=xs.length):nY xs none (some (k:Int))=xs.take k:=by
 unfold nY
 rw[HT.uc,HT.uZ,Nat.min_eq_left h,List.drop_zero,Nat.sub_zero]
theorem wF{x:V}{xs:List V}:nY (x::xs) (some 1) none=xs:=oP (k:=1) (by simp)
theorem lV{x:Str}{l:List Str}:z_ (.str x) (l.map V.str)=decide (x∈l):=by
 unfold z_
 rw[List.any_map]
 induction l with
 |nil=>rfl
 |cons a r ih=>
  rw[bt,ih]
  have:(((λy=>wK y (V.str x))∘V.str) a)=decide (x=a):=by
   show wK (.str a) (.str x)=_
   unfold wK
   by_cases h:x=a
   ·subst h;simp
   ·simp[h,aM h]
  rw[this]
  by_cases h:x=a
  ·subst h;simp
  ·simp[h]
theorem mC{l:List Str}:(l.map V.str).all iP=true:=List.all_eq_true.mpr λx hx=>by obtain⟨_,_,rfl⟩:=List.mem_map.mp hx;rfl
theorem uk{b:Bool}:decide (wS b=Str.ofString "name")=b:=by cases b<;>decide+kernel
theorem cR{n:Nat}(h:n<=40000):n<=sizeLine:=av h (by unfold sizeLine;omega)
theorem iw(x:Str):(want x).length<=3:=by
 have h:∀i:Nat,i<11->(wt.getD i []).length<=3:=by decide
 exact h _ (Nat.lt_succ_of_le (List.idxOf_le_length (l:=ws)))
theorem rj{z x:Str}{r:List Str}(ep:di 32 z=x::r):fits z=(decide (x∈ws)&&all2 pO (want x) r&&(decide (x≠xj) ||Dx r)):=by unfold fits;rw[ep];rfl
theorem yF{z x:Str}{r:List Str}(ep:di 32 z=x::r)(h:x∉ws):fits z=false:=by rw[rj ep,decide_eq_false h];rfl
theorem rn{z x:Str}{r:List Str}(ep:di 32 z=x::r)(h:all2 pO (want x) r=false):fits z=false:=by rw[rj ep,h,Bool.and_false];rfl
theorem yG{z x:Str}{r:List Str}(ep:di 32 z=x::r)(h:x=xj)(h':Dx r=false):fits z=false:=by rw[rj ep,h',show decide (x≠xj)=false from decide_eq_false (λn=>n h),Bool.or_false,Bool.and_false]
theorem Br{z x:Str}{r:List Str}(ep:di 32 z=x::r)(h1:x∈ws)(h2:all2 pO (want x) r=true)(h3:x=xj->Dx r=true):fits z=true:=by
 rw[rj ep,decide_eq_true h1,h2]
 by_cases h:x=xj
 ·rw[h3 h,Bool.or_true];rfl
 ·rw[decide_eq_true h];rfl
theorem wj{p:Bool->Str->Bool}{bs:List Bool}{zs:List Str}(h:zs.length≠bs.length):all2 p bs zs=false:=by
 cases e:all2 p bs zs with
 |false=>rfl
 |true=>exact absurd (gi e) h
theorem yf{p:Bool->Str->Bool}{bs:List Bool}{zs:List Str}{i:Nat}{b:Bool}{z:Str}(h1:bs[i]? =some b)(h2:zs[i]? =some z)(h:p b z=false):all2 p bs zs=false:=by
 cases e:all2 p bs zs with
 |false=>rfl
 |true=>rw[(qF (gi e)).mp e i b z h1 h2]at h;cases h
theorem pf{z x:Str}{r:List Str}(az:asc z)(ep:di 32 z=x::r):∀u∈x::r,asc u/\u.length<=z.length:=λu hu=>by
 rw[←ep]at hu
 obtain⟨q,hq,rfl⟩:=List.mem_map.mp hu
 exact⟨λc hc=>az c (pw hq hc),qS.2 q hq⟩
noncomputable def Sb (l:List Addr) (H H':Hp):Prop:=∀a o,a∉l->H a=some o->H' a=some o
theorem Sb.of{l:List Addr}{H H':Hp}(s:cq H H'):Sb l H H':=λa o _ e=>s a o e
theorem Sb.trans{l:List Addr}{H H1 H2:Hp}(a:Sb l H H1)(b:Sb l H1 H2):Sb l H H2:=λc o n e=>b c o n (a c o n e)
theorem Sb.upd{l:List Addr}{H:Hp}{x:Addr}{o:HO}(h:x∈l):Sb l H (L2.upd H x o):=λa u n e=>(cO λz=>n (by rw[z];exact h)).trans e
theorem Sb.mono{l l':List Addr}{H H':Hp}(s:Sb l H H')(h:∀a∈l,a∈l'):Sb l' H H':=λa o n e=>s a o (λm=>n (h a m)) e
noncomputable def dk (acc:List Str):List (Key×V):=acc.map λz=>(Sum.inr z,V.bl true)
theorem Cc{z:Str}{acc:List Str}:putK (dk acc) (.inr z) (.bl true)=dk (kH acc z):=by
 have ha:((dk acc).any λkv=>decide (kv.1=Sum.inr z))=decide (z∈acc):=by
  unfold dk
  rw[List.any_map]
  induction acc with
  |nil=>rfl
  |cons y acc ih=>
   rw[bt,ih]
   by_cases h:z=y
   ·subst h;simp
   ·simp[h,aM h]
 unfold putK kH
 rw[ha]
 by_cases h:z∈acc
 ·rw[if_pos (decide_eq_true h),if_pos h]
  unfold dk
  rw[bw]
  refine List.map_congr_left λy _=> ?_
  show(if _ then _ else _)=_
  split<;>rfl
 ·rw[if_neg (λq=>h (of_decide_eq_true q)),if_neg h]
  unfold dk
  rw[aF];rfl
theorem yd{acc:List Str}{z:Str}:(kH acc z).length<=acc.length+1:=by
 unfold kH;split
 ·omega
 ·rw[ay];exact ao _
theorem mB:∀{ns acc:List Str},(ns.foldl kH acc).length<=acc.length+ns.length
 | [],acc=>ao _
 |z::ns,acc=>by
  have:=mB (ns:=ns) (acc:=kH acc z)
  have h:=yd (acc:=acc) (z:=z)
  rw[List.foldl_cons,ag];omega
theorem wX{l:Str}(h:fits l=true):(se (di 32 l)).length<=3:=by
 obtain⟨x,r,e,_,_,ha,_⟩:=nZ h
 rw[e]
 exact av (bE _ _) (by rw[gi ha];exact iw x)
theorem uu{xs:List V}{x:V}:mD (xs++[x]) (-1)=some x:=by
 have e:xy (xs++[x]).length (-1)=some xs.length:=by
  unfold xy
  rw[if_neg (by decide),ay,bJ]
  split<;>simp<;>omega
 unfold mD
 rw[e]
 show(xs++[x])[xs.length]? =_
 simp
noncomputable def Ns (H:Hp):V->Prop
 | .gm=>True
 | .bl _=>True
 | .int _=>True
 | .ref a=>(∃xs,H a=some (.lst xs))∨(∃xs,H a=some (.tup xs))∨∃kvs,H a=some (.dK kvs)
 |_=>False
theorem mw.sb{H H':Hp}{P:Addr->Prop}{d:Nat}{vs:List V}{ls:List Str}{f:Addr}{kvs:List (Key×V)}(h:mw H P d vs ls)(s:Sb [f] H H')(hf:H f=some (.dK kvs)):mw H' P d vs ls:=
 h.frame (λa us p e=>⟨p,s a _ (λm=>by rw[List.mem_singleton.mp m,hf]at e;cases e) e⟩) λa us e=>s a _ (λm=>by rw[List.mem_singleton.mp m,hf]at e;cases e) e
theorem mw.head{H:Hp}{P:Addr->Prop}{d:Nat}{v:V}{vs:List V}{ls:List Str}(h:mw H P d (v::vs) ls):∃t ln ex ls',v= .ref t/\fits ln=true/\H t=some (.tup (sV ln++ex))/\ls=ln::ls':=by
 cases h with
 |row hf ho he ht r=>exact⟨_,_,[],_,rfl,hf,by rw[aR];exact ht,rfl⟩
 |jA hf ho ht ha hp b r=>exact⟨_,_,_,_,rfl,hf,ht,rfl⟩
theorem drop_cons{α:Type}{xs:List α}{i:Nat}{x:α}(h:xs[i]? =some x):xs.drop i=x::xs.drop (i+1):=by
 obtain⟨hi,rfl⟩:=List.getElem?_eq_some_iff.mp h
 exact List.drop_eq_getElem_cons hi
theorem wo{H:Hp}{P:Addr->Prop}{d:Nat}{vs:List V}{ls:List Str}(h:mw H P d vs ls):vs.length<=ls.length:=by
 induction h with
 |nil=>exact ao _
 |row _ _ _ _ _ ih=>rw[ag,ag];omega
 |jA _ _ _ _ _ _ _ _ ih=>rw[ag,ag,ay,ag];omega
theorem Ai{H:Hp}{P:Addr->Prop}{d:Nat}{vs:List V}{ls:List Str}(h:mw H P d vs ls):∀l∈ls,fits l=true:=by
 induction h with
 |nil=>exact λl hl=>nomatch hl
 |row hf _ _ _ _ ih=>exact λl hl=>(List.mem_cons.mp hl).elim (λe=>e▸hf) (ih l)
 |jA hf _ _ _ _ _ _ ib ih=>
  intro l hl
  rcases List.mem_cons.mp hl with rfl|hl
  ·exact hf
  ·rcases List.mem_append.mp hl with hl|hl
   ·exact ib l hl
   ·rcases List.mem_cons.mp hl with rfl|hl
    ·exact wO.1
    ·exact ih l hl
theorem o7:∀{ls acc:List Str},(∀l∈ls,fits l=true)->(gk acc ls).length<=acc.length+3*ls.length
 | [],_,_=>ao _
 |l::ls,acc,h=>by
  have h1:=wX (h l aA)
  have h2:=mB (ns:=se (di 32 l)) (acc:=acc)
  have h3:=o7 (acc:=(se (di 32 l)).foldl kH acc) λk hk=>h k (aD _ hk)
  rw[nA,ag];omega
theorem BW{x:Str}{r:List Str}{a:Addr}(h:ql x=true)(ha:all2 pO (want x) r=true):(jx (x::r)++[V.ref a])[2]? =some (V.ref a):=by
 have h1:(want x).length=1:=by
  unfold ql at h
  rw[decide_eq_true_eq]at h
  rcases List.mem_cons.mp h with rfl|h
  ·decide+kernel
  ·rw[List.mem_singleton.mp h];decide+kernel
 have h2:=gi ha
 rw[h1]at h2
 match hw:want x,r,h1,h2 with
 | [b],[z],_,_=>show((V.str x::List.zipWith pV (want x) [z])++[V.ref a])[2]? =_;rw[hw];rfl
theorem Bs.sb{F:Addr->Prop}{H H':Hp}{r:List Addr}{l b:Addr}{vs us:List V}{pre ls:List Str}(B:Bs F H r l vs pre ls)(s:Sb [b] H H')(hb:H b=some (.lst us))(hF:¬F b):Bs F H' r l vs pre ls:=by
 have nb:∀a,F a->a∉ [b]:=λa h m=>hF (by rw[←List.mem_singleton.mp m];exact h)
 have ft:∀a us,H a=some (.tup us)->H' a=some (.tup us):=λa us e=>s _ _ (λm=>by rw[List.mem_singleton.mp m,hb]at e;cases e) e
 have f:∀a us,(F a/\a∉l::r)->H a=some (.lst us)->(F a/\a∉l::r)/\H' a=some (.lst us):=λa us p e=>⟨p,s _ _ (nb a p.1) e⟩
 exact⟨B.hr,B.nd,B.fr,s _ _ (nb _ (B.fr _ aA)) B.hl,B.b.frame f ft,B.o.frame f ft λa ha us e=>s _ _ (nb _ (B.fr _ (aD _ ha))) e⟩
theorem ng{d:Nat}{l:Str}{ls:List Str}:um d (l::ls)=if fits l=true then(if ql (wd l)=true then(if d<3 then um (d+1) ls else none) else if wd l=eS then(if 0<d then um (d-1) ls else none) else um d ls) else none:=rfl
theorem kP{ls:List Str}(h:um 0 ls≠some 0):good ls=false:=by unfold good;rw[decide_eq_false h];rfl
theorem vR:ql eS=false:=by decide+kernel
theorem BG{u:Str}(h:fits u=true):∃x r,di 32 u=x::r/\wd u=x/\sV u= .str x::List.zipWith pV (want x) r/\all2 pO (want x) r=true:=by
 obtain⟨x,r,e,hw,_,ha,_⟩:=nZ h
 exact⟨x,r,e,hw,by unfold sV;rw[e];rfl,ha⟩
theorem CQ{x:Str}{r:List Str}(h:ql x=true)(ha:all2 pO (want x) r=true):∃v,List.zipWith pV (want x) r=[v]:=by
 have h1:(want x).length=1:=by
  unfold ql at h
  rw[decide_eq_true_eq]at h
  rcases List.mem_cons.mp h with rfl|h
  ·decide+kernel
  ·rw[List.mem_singleton.mp h];decide+kernel
 have h2:=gi ha
 rw[h1]at h2
 match hw:want x,r,h1,h2 with
 | [b],[z],_,_=>exact⟨pV b z,rfl⟩
theorem Bs.FA{F:Addr->Prop}{H H5:Hp}{r:List Addr}{l a t:Addr}{vs:List V}{pre ls:List Str}{ln:Str}(B:Bs F H r l vs pre ls)(s5:cq H H5)(hr:r.length<3)(hf:fits ln=true)(ho:ql (wd ln)=true)(ht:H5 t=some (.tup (sV ln++[.ref a])))(ha:H5 a=some (.lst []))(ha0:H a=none)(Fa:F a)(an:a∉l::r):
  Bs F (upd H5 l (.lst (vs++[.ref t]))) (l::r) a [] (pre++ls++[ln]) []:=by
 have f:∀c us,(F c/\c∉l::r)->H c=some (.lst us)->(F c/\c∉a::l::r)/\upd H5 l (.lst (vs++[.ref t])) c=some (.lst us):=λc us p e=>⟨⟨p.1,λz=>(List.mem_cons.mp z).elim (λq=>by rw[q,ha0]at e;cases e) p.2⟩,(cO λz=>p.2 (by rw[z];exact aA)).trans (s5 _ _ e)⟩
 have ft:∀c us,H c=some (.tup us)->upd H5 l (.lst (vs++[.ref t])) c=some (.tup us):=λc us e=>(cO λz=>by rw[z,B.hl]at e;cases e).trans (s5 _ _ e)
 have ht':upd H5 l (.lst (vs++[.ref t])) t=some (.tup (sV ln++[.ref a])):=(cO λz=>by rw[z,s5 _ _ B.hl]at ht;cases ht).trans ht
 refine⟨by rw[ag];omega,List.nodup_cons.mpr ⟨an,B.nd⟩,λc hc=>(List.mem_cons.mp hc).elim (λq=>q▸Fa) (B.fr c),(cO λz=>an (by rw[z];exact aA)).trans ha,.nil,.cons hr cg ht' hf ho (B.b.frame f ft) (B.o.frame f ft λc hc us e=>(cO λz=> ?_).trans (s5 _ _ e))⟩
 exact(List.nodup_cons.mp B.nd).1 (z▸hc)
theorem Bq{x:Str}{kG:St}{tt:TT}{te:TE}{H:Hp}{Q:VK}(p:Nat->Bool)(hn:x.length<=40000)(ht:∀c∈x.cps.toList,∀K':Bool->Hp->Prop,K' (p c) H->tt (some (.str ⟨#[c]⟩)::kG) H K')
  (he:∀c,∀K':VK,K' (.str ⟨#[c]⟩) H->te (some (.str ⟨#[c]⟩)::kG) H K') (q:∀l,H l=none->Q (.ref l) (upd H l (.lst ((x.cps.toList.filter p).map λc=>V.str ⟨#[c]⟩)))):gC (Dy x) kG tt te H Q:=by
 have hn:x.cps.toList.length<=40000:=hn
 refine⟨λi m ys H'=>H'=H/\i<=x.cps.toList.length/\m=x.cps.toList.length-i/\ys=((x.cps.toList.take i).filter p).map λc=>V.str ⟨#[c]⟩,⟨_,rfl,aO _,rfl,rfl⟩,λi m ys H' ⟨e1,hi,em,ey⟩=> ?_⟩
 subst e1 ey
 refine⟨cR (av (by rw[ah];exact av (bE _ _) (by rw[aH];omega)) hn),?_⟩
 by_cases z:i<x.cps.toList.length
 ·refine .inr ⟨z,λv H2 ⟨e2,c,ec,ev⟩=> ?_⟩
  subst e2 ev
  have tk:x.cps.toList.take (i+1)=x.cps.toList.take i++[c]:=by rw[a_,ec];rfl
  refine ht c (aZ ec) _ ?_
  cases hp:p c with
  |true=>
   rw[if_pos rfl]
   refine he c _ ⟨x.cps.toList.length-(i+1),by omega,rfl,z,rfl,?_⟩
   rw[tk,bh,aF];simp[hp]
  |false=>
   rw[if_neg aL]
   refine⟨x.cps.toList.length-(i+1),by omega,rfl,z,rfl,?_⟩
   rw[tk,bh,aF];simp[hp]
 ·have e:i=x.cps.toList.length:=by omega
  refine .inl ⟨by show x.cps.toList.length<=i;omega,?_⟩
  rw[e,bb];exact q
noncomputable def cn:List Nat:=[1,1,2,1,2,2,1,0,1,0]
noncomputable def fL (x:Str):Nat:=cn.getD (ws.idxOf x) 0
noncomputable def qu (x:Str) (r:List Str):List Str:=if x=Str.ofString "set" then(match r with| [a,b,c]=>[a,c,b]|r=>r) else r
theorem BI{x:Str}(h:x∈ws):mD [V.int 3,V.int 3,V.int 3,V.int 2,V.int 4,V.int 4,V.int 2,V.int 2,V.int 2,V.int 1] ((ws.idxOf x:Nat):Int)=some (V.int (((want x).length+1:Nat):Int))/\
  mD [V.int 1,V.int 1,V.int 2,V.int 1,V.int 2,V.int 2,V.int 1,V.int 0,V.int 1,V.int 0] ((ws.idxOf x:Nat):Int)=some (V.int (fL x:Nat)):=by
 revert h;revert x
 show∀x∈ws,_
 decide+kernel
theorem uf{x:Str}{r:List Str}(hx:x∈ws)(hr:r.length=(want x).length):all2 pO (want x) r=(((qu x r).take (fL x)).all rJ&&((qu x r).drop (fL x)).all wr)/\fL x<=(qu x r).length/\(∀u∈qu x r,u∈r):=by
 have key:∀x∈ws,(want x=[true,false]/\fL x=1/\x≠Str.ofString "set")∨(want x=[true,true]/\fL x=2/\x≠Str.ofString "set")∨(want x=[true]/\fL x=1/\x≠Str.ofString "set")∨(want x=[true,true,false]/\fL x=2/\x≠Str.ofString "set")∨(want x=[true,false,true]/\fL x=2/\x=Str.ofString "set")∨(want x=[false]/\fL x=0/\x≠Str.ofString "set")∨(want x=[]/\fL x=0/\x≠Str.ofString "set"):=by decide+kernel
 rcases key x hx with ⟨hw,hn,hs⟩|⟨hw,hn,hs⟩|⟨hw,hn,hs⟩|⟨hw,hn,hs⟩|⟨hw,hn,hs⟩|⟨hw,hn,hs⟩|⟨hw,hn,hs⟩<;>rw[hw]at hr⊢<;>rw[hn]<;>unfold qu
 ·rw[if_neg hs]
  match r,hr with
  | [a,b],_=>exact⟨by simp[all2,pO],by simp,λu h=>h⟩
 ·rw[if_neg hs]
  match r,hr with
  | [a,b],_=>exact⟨by simp[all2,pO],by simp,λu h=>h⟩
 ·rw[if_neg hs]
  match r,hr with
  | [a],_=>exact⟨by simp[all2,pO],by simp,λu h=>h⟩
 ·rw[if_neg hs]
  match r,hr with
  | [a,b,c],_=>exact⟨by simp[all2,pO,Bool.and_assoc],by simp,λu h=>h⟩
 ·rw[if_pos hs]
  match r,hr with
  | [a,b,c],_=>exact⟨by simp[all2,pO];cases rJ a<;>cases wr b<;>cases rJ c<;>rfl,by simp,λu h=>by simp at h⊢;rcases h with h|h|h<;>simp[h]⟩
 ·rw[if_neg hs]
  match r,hr with
  | [a],_=>exact⟨by simp[all2,pO],by simp,λu h=>h⟩
 ·rw[if_neg hs]
  match r,hr with
  | [],_=>exact⟨by simp[all2],by simp,λu h=>h⟩
noncomputable def zP:List Str:=[Str.ofString "0",Str.ofString "1",Str.ofString "2",Str.ofString "3",Str.ofString "4",Str.ofString "5",Str.ofString "6",Str.ofString "7",Str.ofString "8",Str.ofString "9"]
theorem Dr{z:Str}(h:wr z=true):decide (z∈zP)=(decide (0<=vl z)&&decide (vl z<=9)):=by
 have h1:∀z∈zP,0<=vl z/\vl z<=9:=by decide+kernel
 have h2:∀k:Fin 10,nK (k.1:Int)∈zP:=by decide+kernel
 by_cases y:z∈zP
 ·rw[decide_eq_true y,decide_eq_true (h1 z y).1,decide_eq_true (h1 z y).2];rfl
 ·rw[decide_eq_false y]
  by_cases y1:0<=vl z
  ·by_cases y2:vl z<=9
   ·have:=h2 ⟨(vl z).toNat,by omega⟩
    rw[show(((vl z).toNat:Nat):Int)=vl z by omega,o9 h]at this
    exact absurd this y
   ·rw[decide_eq_false y2,Bool.and_false]
  ·rw[decide_eq_false y1,Bool.false_and]
noncomputable def Dw (p:Str->Bool):V->Bool
 | .str z=> !p z
 |_=>false
theorem oS{l:List Str}{p:Str->Bool}:(l.map V.str).filter (Dw p)=[]↔l.all p=true:=by
 induction l with
 |nil=>simp
 |cons a l ih=>
  rw[ax,List.filter_cons,aP,aw,←ih]
  cases h:p a<;>simp[h,Dw]
theorem xc{x:Str}{r:List Str}(hr:r.length=(want x).length):(qu x r).length<=3:=by
 have:=iw x
 unfold qu
 split
 ·split
  ·exact ao _
  ·omega
 ·omega
theorem zf{u:Str}(h:fits u=true):(pI (u.cps.toList.take 3)=Str.ofString "if "∨pI (u.cps.toList.take 6)=Str.ofString "again ")↔ql (wd u)=true:=by
 obtain⟨x,r,ep,hw,hx,ha,_⟩:=nZ h
 rw[hw]
 have el:=congrArg (λs:Str=>s.cps.toList) (nv (l:=u))
 rw[ep]at el
 have el:u.cps.toList=jn 32 (x.cps.toList::r.map λp=>p.cps.toList):=by rw[←el];exact tV
 have k1:∀x∈ws,(ql x=true/\(x=Str.ofString "if"∨x=Str.ofString "again"))∨(ql x=false/\x.cps.toList.head? ≠some 105/\x.cps.toList.head? ≠some 97/\x.cps.toList≠ []):=by decide+kernel
 have i3:(Str.ofString "if ").cps.toList=[105,102,32]:=by decide+kernel
 have i6:(Str.ofString "again ").cps.toList=[97,103,97,105,110,32]:=by decide+kernel
 rcases k1 x hx with ⟨ho,hc⟩|⟨ho,h1,h2,h3⟩
 ·rw[ho]
  refine⟨λ_=>rfl,λ_=> ?_⟩
  have hl:r.length=1:=by
   rw[gi ha]
   rcases hc with rfl|rfl<;>decide+kernel
  obtain⟨z,rfl⟩:=List.length_eq_one_iff.mp hl
  ·have el:u.cps.toList=x.cps.toList++32::z.cps.toList:=el
   rw[el]
   rcases hc with rfl|rfl
   ·exact .inl (pz (by rw[i3,show(Str.ofString "if").cps.toList=[105,102] by decide+kernel];rfl))
   ·exact .inr (pz (by rw[i6,show(Str.ofString "again").cps.toList=[97,103,97,105,110] by decide+kernel];rfl))
 ·rw[ho]
  have hh:u.cps.toList.head? =x.cps.toList.head? :=by
   rw[el]
   cases e:x.cps.toList with
   |nil=>exact absurd e h3
   |cons c cs=>cases r<;>rfl
  refine⟨λq=> ?_,λq=>nomatch q⟩
  cases e:u.cps.toList with
  |nil=>
   rw[e]at q
   rcases q with q|q
   ·have:=congrArg (λs:Str=>s.cps.toList) q;rw[i3]at this;cases this
   ·have:=congrArg (λs:Str=>s.cps.toList) q;rw[i6]at this;cases this
  |cons c cs=>
   rw[e]at q hh
   rcases q with q|q
   ·have:=congrArg (λs:Str=>s.cps.toList) q;rw[i3]at this
    injection this with this
    exact absurd (by rw[←hh,this];rfl) h1
   ·have:=congrArg (λs:Str=>s.cps.toList) q;rw[i6]at this
    injection this with this
    exact absurd (by rw[←hh,this];rfl) h2
theorem yC{u:Str}(h:fits u=true):u=eS↔wd u=eS:=⟨λy=>by rw[y];exact wO.2,wN h⟩
theorem mw.ne{H:Hp}{P:Addr->Prop}{d:Nat}{v:V}{vs:List V}{ln:Str}{ls:List Str}(h:mw H P d (v::vs) (ln::ls)):wd ln≠eS:=by
 cases h with
 |row hf ho he ht r=>exact he
 |jA hf ho ht ha hp b r=>exact λy=>by rw[y,vR]at ho;cases ho
theorem zT{x:Str}(h:x∈ws)(hn:x≠eS):1<=(want x).length:=by
 revert hn;revert h;revert x
 show∀x∈ws,x≠eS->1<=(want x).length
 decide+kernel
noncomputable def FN:V->V
 | .int n=> .str (nK n)
 |v=>v
theorem Dg{x:Str}{r:List Str}(ha:all2 pO (want x) r=true):∀v∈List.zipWith pV (want x) r,(∃z∈r,v= .str z/\wr z=false)∨∃z∈r,v= .int (vl z)/\wr z=true:=by
 generalize want x=bs at ha
 revert ha
 induction bs generalizing r with
 |nil=>intro _ v hv;simp at hv
 |cons b bs ih=>
  cases r with
  |nil=>intro _ v hv;simp at hv
  |cons z r=>
   intro ha v hv
   unfold all2 at ha
   rw[aw]at ha
   rw[List.zipWith_cons_cons]at hv
   rcases List.mem_cons.mp hv with rfl|hv
   ·cases b with
    |true=>exact .inl ⟨z,aA,rfl,BA ha.1⟩
    |false=>exact .inr ⟨z,aA,rfl,ha.1⟩
   ·rcases ih ha.2 v hv with ⟨y,hy,e⟩|⟨y,hy,e⟩
    ·exact .inl ⟨y,aD _ hy,e⟩
    ·exact .inr ⟨y,aD _ hy,e⟩
theorem Dh{x:Str}{r:List Str}(ha:all2 pO (want x) r=true):(jx (x::r)).map FN=(x::r).map V.str:=by
 show V.str x::(List.zipWith pV (want x) r).map FN=V.str x::r.map V.str
 congr 1
 generalize want x=bs at ha
 revert ha
 induction bs generalizing r with
 |nil=>cases r with
  |nil=>intro _;rfl
  |cons z r=>intro h;cases h
 |cons b bs ih=>
  cases r with
  |nil=>intro h;cases h
  |cons z r=>
   intro ha
   unfold all2 at ha
   rw[aw]at ha
   rw[List.zipWith_cons_cons,ax,ax,ih ha.2]
   congr 1
   cases b with
   |true=>rfl
   |false=>show V.str (nK (vl z))=_;rw[o9 ha.1]
noncomputable def vk (H:Hp) (v:V):Prop:=∃a,∃ts:List Str,v= .ref a/\H a=some (.lst (ts.map V.str))/\ts.length<=4/\∀t∈ts,tx 70 t
theorem vk.same{H H':Hp}{v:V}(s:cq H H')(h:vk H v):vk H' v:=by
 obtain⟨a,ts,e,h1,h2⟩:=h
 exact⟨a,ts,e,s _ _ h1,h2⟩
theorem kn{α:Type}{xs:List α}{i:Int}(h0:0<=i)(h1:i<xs.length):∃v,mD xs i=some v/\v∈xs:=by
 rw[BU h0 h1,aE (by omega)]
 exact⟨_,rfl,bI _⟩
theorem uM{i:Int}(h:i.natAbs<1000):i.natAbs.log2<1920:=by
 by_cases y:i.natAbs=0
 ·rw[y];decide
 ·exact(Nat.log2_lt y).mpr (aB h (by decide+kernel))
theorem rL{i:Int}(h:i.natAbs<1000):tx 61 (nK i):=⟨ze (aB h (by decide)),λc hc=>by
 rcases CH i c hc with rfl|y
 ·decide
 ·have:=yz y;omega⟩
theorem wZ{i:Int}(h0:0<=i)(h:i<10):tx 1 (nK i):=⟨by
 obtain⟨m,rfl⟩:∃m:Nat,i=m:=⟨i.toNat,by omega⟩
 rw[dz,lD,ri (by omega)];exact ao _,(rL (by omega)).2⟩
theorem uF:∀{l:List (Array Nat)} {a:Array Nat},(l.foldl (·++·) a).toList=a.toList++(l.map Array.toList).flatten
 | [],a=>by simp
 |b::l,a=>by rw[List.foldl_cons,uF,Array.toList_append,ax,bD,bu]
theorem CD{z:Str}{n:Int}(hz:tx 1 z)(h0:0<=n)(h:n<=64):tx 64 (Txt.mul z n):=by
 unfold Txt.mul
 split
 ·exact⟨aO _,λc hc=>absurd hc (by simp[Str.empty])⟩
 ·split
  ·exact hz.mono (by decide)
  ·have e:(List.foldl (·++·) #[] (List.replicate n.toNat z.cps)).toList=(List.replicate n.toNat z.cps.toList).flatten:=by rw[uF];simp
   refine⟨?_,λc hc=> ?_⟩
   ·show(List.foldl (·++·) #[] (List.replicate n.toNat z.cps)).toList.length<=64
    rw[e,List.length_flatten]
    have h1:z.cps.toList.length<=1:=hz.1
    simp only[List.map_replicate,List.sum_replicate_nat]
    have:=Nat.mul_le_mul_left n.toNat h1
    omega
   ·have hc:c∈(List.foldl (·++·) #[] (List.replicate n.toNat z.cps)).toList:=hc
    rw[e,List.mem_flatten]at hc
    obtain⟨l,hl,hc⟩:=hc
    rw[(List.mem_replicate.mp hl).2]at hc
    exact hz.2 c hc
theorem Ft:∀{ps:List Str},(Str.join (Str.ofString "") ps).cps.toList=(ps.map λp=>p.cps.toList).flatten
 | []=>rfl
 | [p]=>by show p.cps.toList=_;simp
 |p::q::ps=>by
  show((p++Str.ofString "")++Str.join (Str.ofString "") (q::ps)).cps.toList=_
  rw[jz,jz,Ft (ps:=q::ps),show(Str.ofString "").cps.toList=[] by decide+kernel,aR]
  simp
theorem Cp{ps:List Str}(h:ps.length<=7)(h1:∀p∈ps,tx 1 p):JoinOk (Str.ofString "") ps=true/\tx 7 (Txt.join (Str.ofString "") ps):=by
 have hs:=oq (n:=1) (ps:=ps) λp hp=>(h1 p hp).1
 rw[Nat.mul_one]at hs
 constructor
 ·unfold JoinOk Builtin.Str.tooLong
  rw[StrLaws.joinTotal,show(Str.ofString "").length=0 by decide+kernel,aG,decide_eq_false_iff_not]
  exact Nat.not_lt.mpr (av (show _<=7 by omega) (by decide))
 ·have e:Txt.join (Str.ofString "") ps=Str.join (Str.ofString "") ps:=StrLaws.glued_eq_join _ _
  rw[e]
  refine⟨?_,λc hc=> ?_⟩
  ·rw[dz,Ft,List.length_flatten,bw]
   exact av hs h
  ·rw[Ft,List.mem_flatten]at hc
   obtain⟨l,hl,hc⟩:=hc
   obtain⟨p,hp,rfl⟩:=List.mem_map.mp hl
   exact(h1 p hp).2 c hc
theorem y_{i:Int}:∃c,mD lets.cps.toList (i%26)=some c/\tx 1 ⟨#[c]⟩:=by
 have hl:lets.cps.toList.length=26:=by decide+kernel
 obtain⟨c,e,m⟩:=kn (xs:=lets.cps.toList) (i:=i%26) (by omega) (by omega)
 refine⟨c,e,ao 1,λd hd=> ?_⟩
 rw[List.mem_singleton.mp (show d∈ [c] from hd)]
 have h:∀c∈lets.cps.toList,c<128/\c≠10:=by decide+kernel
 exact h c m
theorem zI{n:Nat}{z:Str}{k:Nat}(h:tx n z):tx n (StrLaws.sliceText z none (some (k:Int)))/\tx n (StrLaws.sliceText z (some (k:Int)) none)/\(StrLaws.sliceText z none (some (k:Int))).length+(StrLaws.sliceText z (some (k:Int)) none).length=z.length:=by
 rw[sZ,qR]
 refine⟨⟨?_,λc hc=>h.2 c (List.mem_of_mem_take hc)⟩,⟨?_,λc hc=>h.2 c (List.mem_of_mem_drop hc)⟩,?_⟩
 ·show(z.cps.toList.take k).length<=n;rw[aH];have:z.cps.toList.length<=n:=h.1;omega
 ·show(z.cps.toList.drop k).length<=n;rw[aV];have:z.cps.toList.length<=n:=h.1;omega
 ·show(z.cps.toList.take k).length+(z.cps.toList.drop k).length=z.cps.toList.length;rw[aH,aV];omega
theorem yP{n:Nat}{z y:Str}{k:Nat}(h:tx n z)(hy:tx 1 y):tx (n+1) (StrLaws.sliceText z none (some (k:Int))++y++StrLaws.sliceText z (some (k:Int)) none):=by
 obtain⟨h1,h2,h3⟩:=zI (k:=k) h
 have:=(h1.app hy).app h2
 refine⟨?_,this.2⟩
 have q1:=h.1
 have q2:=hy.1
 rw[str_len,str_len];omega
theorem l0{H:Hp}{a:Addr}{ts:List Str}(h:H a=some (.lst (ts.map V.str)))(h1:ts.length<=4)(h2:∀t∈ts,tx 70 t):vk H (.ref a):=⟨a,ts,rfl,h,h1,h2⟩
theorem jV{x:Str}(h:x∈ws):tx 70 x:=by
 revert h;revert x
 have h:∀x∈ws,(decide (x.length<=70)&&x.cps.toList.all λc=>decide (c<128)&&decide (c≠10))=true:=by decide+kernel
 exact λ{x} hx=>hE (h x hx)
theorem u5{s:Nat}:∀{cs:List Nat},qt s (cs++[s])=qt s cs++[[]]
 | []=>by show(if s=s then _ else _)=_;rw[if_pos rfl];rfl
 |c::cs=>by
  rw[aX,qt,qt,u5 (cs:=cs)]
  by_cases h:c=s
  ·rw[if_pos h,if_pos h];rfl
  ·rw[if_neg h,if_neg h]
   cases e:qt s cs with
   |nil=>exact absurd e pT
   |cons p ps=>rfl
theorem xW{z:Str}:di 10 (z++⟨#[10]⟩)=di 10 z++[⟨#[]⟩]:=by
 unfold di
 rw[jz,show(⟨#[10]⟩:Str).cps.toList=[10] from rfl,u5,aF];rfl
theorem qT{l:Str}(h:fits l=false):∀{ls:List Str} {d:Nat},um d (ls++[l])=none
 | [],d=>by rw[bg,ng,h,if_neg (λn=>by cases n)]
 |k::ls,d=>by
  rw[aX,ng,qT h,qT h,qT h]
  split
  ·split
   ·split<;>rfl
   ·split
    ·split<;>rfl
    ·rfl
  ·rfl
theorem Cd:fits ⟨#[]⟩=false:=by decide+kernel
theorem yL:good []=true:=by decide+kernel
noncomputable def sW (z:Str):List Str:=if z=Str.ofString "" then [] else di 10 z
theorem Cw{ts:List Str}(hl:ts.length<=110)(h:∀t∈ts,tx 350 t):(nu 10 ts).length<=38700/\(nu 10 ts≠Str.ofString ""->sW (nu 10 ts)=ts)/\(sW (nu 10 ts++⟨#[10]⟩)).length<=1000/\(∀u∈sW (nu 10 ts++⟨#[10]⟩),tx 700 u)/\good (sW (nu 10 ts++⟨#[10]⟩))=false:=by
 have hlen:(nu 10 ts).length<=38700:=by
  have h1:=qN (s:=10) (ps:=ts)
  have h2:=oq λp hp=>(h p hp).1
  have h3:=Nat.mul_le_mul_right 350 hl
  omega
 have hp:ts≠ []->di 10 (nu 10 ts)=ts:=λhn=>qQ hn λp hp h10=>((h p hp).2 10 h10).2 rfl
 have h0:di 10 (nu 10 [])=[⟨#[]⟩]:=by decide+kernel
 have hne:nu 10 ts++⟨#[10]⟩≠Str.ofString "":=λy=>by
  have:=congrArg Str.length y
  rw[str_len]at this
  rw[show(Str.ofString "").length=0 by decide+kernel,show(⟨#[10]⟩:Str).length=1 from rfl]at this;omega
 have el:sW (nu 10 ts++⟨#[10]⟩)=di 10 (nu 10 ts)++[⟨#[]⟩]:=by unfold sW;rw[if_neg hne,xW]
 have te:tx 700 ⟨#[]⟩:=hE (by decide+kernel)
 have key:(di 10 (nu 10 ts)).length<=110/\∀u∈di 10 (nu 10 ts),tx 700 u:=by
  by_cases y:ts=[]
  ·rw[y,h0];exact⟨by simp,λu hu=>by rw[List.mem_singleton.mp hu];exact te⟩
  ·rw[hp y];exact⟨hl,λu hu=>(h u hu).mono (by decide)⟩
 refine⟨hlen,λhn=> ?_,?_,?_,?_⟩
 ·unfold sW
  rw[if_neg hn,hp λy=>hn (by rw[y];decide+kernel)]
 ·rw[el,ay];show _+1<=_;omega
 ·rw[el]
  intro u hu
  rcases List.mem_append.mp hu with hu|hu
  ·exact key.2 u hu
  ·rw[List.mem_singleton.mp hu];exact te
 ·rw[el];exact kP (by rw[qT Cd];exact λn=>nomatch n)
set_option genInjectivity false in
structure Ad where
 f6:Addr
 gT:FuncData
 iC:Addr
 jj:FuncData
 iB:Addr
 ji:FuncData
 jo:Addr
 kf:FuncData
 iD:Addr
 jk:FuncData
 jm:Addr
 ke:FuncData
 fZ:Addr
 gS:FuncData
 gG:Addr
 iM:FuncData
 fB:Addr
 gw:FuncData
 dH:Addr
 d6:FuncData
 eU:Addr
 fP:FuncData
 dS:Addr
 eP:FuncData
 f9:Addr
 gU:FuncData
 d7:Addr
 fc:FuncData
 iA:Addr
 jh:FuncData
 fD:Addr
 gx:FuncData
 gE:Addr
 iK:FuncData
 fY:Addr
 gR:FuncData
 jq:Addr
 kg:FuncData
 gH:Addr
 iN:FuncData
 gF:Addr
 iL:FuncData
 eW:Addr
 fR:FuncData
 fX:Addr
 gQ:FuncData
 eJ:Addr
 fi:FuncData
 dG:Addr
 dX:FuncData
 iE:Addr
 jl:FuncData
 f_:Addr
 gW:FuncData
 eV:Addr
 fQ:FuncData
 uE:Addr
 wG:FuncData
 iJ:Addr
 eM:Addr
 gr:Addr
 fA:Addr
 gv:Addr
 hW:Addr
 hX:Addr
 hG:Addr
 hU:Addr
 dB:Addr
 hV:Addr
 hJ:Addr
 gu:Addr
 cy:Addr
 eZ:Addr
structure Txt(w:World)(K:PySem.W.Frag)(mg:Str->Option Value)(A:Ad):Prop where
 ll:mx K "is_written" "is_written" j9 A.f6 A.gT
 oD:Binds K A.gT ["text"] []
 j0:mg "is_written"=some (.ref A.f6)
 mM:mx K "lines_of" "lines_of" om A.iC A.jj
 qX:Binds K A.jj ["text"] []
 lT:mg "lines_of"=some (.ref A.iC)
 jI:mx K "is_block" "is_block" oj A.iB A.ji
 lJ:Binds K A.ji ["statement"] []
 jt:mg "is_block"=some (.ref A.iB)
 n6:mx K "is_name" "is_name" nD A.jo A.kf
 sE:Binds K A.kf ["text"] []
 nk:mg "is_name"=some (.ref A.jo)
 mO:mx K "names_in" "names_in" ma A.iD A.jk
 qY:Binds K A.jk ["statement"] []
 lU:mg "names_in"=some (.ref A.iD)
 d8:mx K "_law_at" "_law_at" pN A.jm A.ke
 fN:Binds K A.ke ["_law_script","_law_k"] []
 eQ:mg "_law_at"=some (.ref A.jm)
 jB:mx K "_law_whole" "_law_whole" l_ A.fZ A.gS
 lI:Binds K A.gS ["_law_found"] []
 iS:mg "_law_whole"=some (.ref A.fZ)
 gb:mx K "_law_name" "_law_name" kZ A.gG A.iM
 iI:Binds K A.iM ["_law_cell","_law_k"] []
 fW:mg "_law_name"=some (.ref A.gG)
 ko:mx K "_law_number" "_law_number" lr A.fB A.gw
 nL:Binds K A.gw ["_law_cell"] []
 jD:mg "_law_number"=some (.ref A.fB)
 iF:mx K "_law_wrong_word" "_law_wrong_word" i8 A.dH A.d6
 kJ:Binds K A.d6 ["_law_word","_law_cell"] []
 gB:mg "_law_wrong_word"=some (.ref A.dH)
 jQ:mx K "_law_is_name" "_law_is_name" i7 A.eU A.fP
 mE:Binds K A.fP ["_law_word"] []
 iR:mg "_law_is_name"=some (.ref A.eU)
 fj:mx K "_law_is_number" "_law_is_number" g0 A.dS A.eP
 gN:Binds K A.eP ["_law_word"] []
 eR:mg "_law_is_number"=some (.ref A.dS)
 lp:mx K "numbers_of" "numbers_of" i9 A.f9 A.gU
 oE:Binds K A.gU ["texts"] []
 j3:mg "numbers_of"=some (.ref A.f9)
 jr:mx K "add_statement" "add_statement" jT A.d7 A.fc
 mj:Binds K A.fc ["blocks","statement"] []
 ig:mg "add_statement"=some (.ref A.d7)
 mL:mx K "_law_row" "_law_row" oi A.iA A.jh
 qW:Binds K A.jh ["_law_base","_law_cell"] []
 lS:mg "_law_row"=some (.ref A.iA)
 kq:mx K "_law_spoilt" "_law_spoilt" lu A.fD A.gx
 nM:Binds K A.gx ["_law_lines_here","_law_cell"] []
 jE:mg "_law_spoilt"=some (.ref A.fD)
 lP:mx K "_law_fits" "_law_fits" jM A.gE A.iK
 qc:Binds K A.iK ["_law_line"] []
 kN:mg "_law_fits"=some (.ref A.gE)
 fE:mx K "_law_names" "_law_names" l9 A.fY A.gR
 gO:Binds K A.gR ["_law_lines_here"] []
 fk:mg "_law_names"=some (.ref A.fY)
 n8:mx K "part_of" "part_of" pP A.jq A.kg
 sF:Binds K A.kg ["wanted","text"] []
 nq:mg "part_of"=some (.ref A.jq)
 jY:mx K "_law_some" "_law_some" mW A.gH A.iN
 mF:Binds K A.iN ["_law_script","_law_most"] []
 jJ:mg "_law_some"=some (.ref A.gH)
 lQ:mx K "_law_good" "_law_good" mV A.gF A.iL
 qe:Binds K A.iL ["_law_lines_here"] []
 kO:mg "_law_good"=some (.ref A.gF)
 jR:mx K "statement_of" "statement_of" i_ A.eW A.fR
 mG:Binds K A.fR ["line"] []
 iU:mg "statement_of"=some (.ref A.eW)
 lj:mx K "_law_lines" "_law_lines" j8 A.fX A.gQ
 oB:Binds K A.gQ ["_law_script"] []
 jZ:mg "_law_lines"=some (.ref A.fX)
 jC:mx K "note_names" "note_names" md A.eJ A.fi
 lK:Binds K A.fi ["block","found"] []
 iT:mg "note_names"=some (.ref A.eJ)
 d9:mx K "_law_written" "_law_written" fU A.dG A.dX
 fO:Binds K A.dX ["_law_program"] []
 dY:mg "_law_written"=some (.ref A.dG)
 gI:mx K "names_of" "names_of" oo A.iE A.jl
 jg:Binds K A.jl ["program"] []
 gJ:mg "names_of"=some (.ref A.iE)
 fF:mx K "program_of" "program_of" me A.f_ A.gW
 gP:Binds K A.gW ["text"] []
 fm:mg "program_of"=some (.ref A.f_)
 fe:mx K "_law_refused" "_law_refused" kB A.eV A.fQ
 gD:Binds K A.fQ ["_law_thing"] []
 eX:mg "_law_refused"=some (.ref A.eV)
 yH:mx K "law" "law" sY A.uE A.wG
 nG:Gv mg "FIGURES" (.str "0123456789")
 jb:Gv mg "MOST_FIGURES" (.int (60))
 d5:Gv mg "PARTS_BEHIND" (.ref A.eZ)
 mv:Bj K A.eZ [(Str.ofString "make",PyProof.Rows.KTD.Dat.tup [PyData.str (Str.ofString "name"),PyData.str (Str.ofString "number")]),(Str.ofString "keep",PyProof.Rows.KTD.Dat.tup [PyData.str (Str.ofString "name"),PyData.str (Str.ofString "number")]),(Str.ofString "copy",PyProof.Rows.KTD.Dat.tup [PyData.str (Str.ofString "name"),PyData.str (Str.ofString "name")]),(Str.ofString "drop",PyProof.Rows.KTD.Dat.tup [PyData.str (Str.ofString "name")]),(Str.ofString "get",PyProof.Rows.KTD.Dat.tup [PyData.str (Str.ofString "name"),PyData.str (Str.ofString "name"),PyData.str (Str.ofString "number")]),(Str.ofString "set",PyProof.Rows.KTD.Dat.tup [PyData.str (Str.ofString "name"),PyData.str (Str.ofString "number"),PyData.str (Str.ofString "name")]),(Str.ofString "tell",PyProof.Rows.KTD.Dat.tup [PyData.str (Str.ofString "name")]),(Str.ofString "again",PyProof.Rows.KTD.Dat.tup [PyData.str (Str.ofString "number")]),(Str.ofString "if",PyProof.Rows.KTD.Dat.tup [PyData.str (Str.ofString "name")]),(Str.ofString "end",PyProof.Rows.KTD.Dat.tup [])]
 nH:Gv mg "LETTERS" (.str "abcdefghijklmnopqrstuvwxyz")
 jc:Gv mg "MOST_LETTERS" (.int (8))
 kc:Gv mg "MOST_NAMES" (.int (42))
 kd:Gv mg "MOST_TIMES" (.int (9))
 k_:Gv mg "MOST_DEEP" (.int (3))
 kM:mg "KeepError"=some (.ref A.iJ)
 qv:Gv mg "BadNumber" (.ref A.eM)
 s_:Gv mg "BadWord" (.ref A.gr)
 rY:Gv mg "BadCount" (.ref A.fA)
 tm:Gv mg "NoPlace" (.ref A.gv)
 vd:Gv mg "NoRoom" (.ref A.hW)
 ve:Gv mg "NoSlot" (.ref A.hX)
 u_:Gv mg "NoCell" (.ref A.hG)
 vb:Gv mg "NoHand" (.ref A.hU)
 nW:Gv mg "NothingHeld" (.ref A.dB)
 vc:Gv mg "NoName" (.ref A.hV)
 va:Gv mg "NoDeed" (.ref A.hJ)
 tj:Gv mg "NoImage" (.ref A.gu)
 dv:mg "NoProgram"=some (.ref A.cy)
 qw:Gv mg "NoProgram" (.ref A.cy)
 dP:vi K A.cy
 gd:x8 K A.cy
 dE:PySem.W.exmOne K (.ref A.cy) (.ref A.iJ)=some true
 dQ:PySem.W.kitOne K (.ref A.cy) (.ref A.fA)=some false
 dI:PySem.W.kitOne K (.ref A.cy) (.ref A.eM)=some false
 dZ:PySem.W.kitOne K (.ref A.cy) (.ref A.gr)=some false
 eA:PySem.W.kitOne K (.ref A.cy) (.ref A.hG)=some false
 eB:PySem.W.kitOne K (.ref A.cy) (.ref A.hJ)=some false
 eE:PySem.W.kitOne K (.ref A.cy) (.ref A.hU)=some false
 d2:PySem.W.kitOne K (.ref A.cy) (.ref A.gu)=some false
 eF:PySem.W.kitOne K (.ref A.cy) (.ref A.hV)=some false
 d3:PySem.W.kitOne K (.ref A.cy) (.ref A.gv)=some false
 eG:PySem.W.kitOne K (.ref A.cy) (.ref A.hW)=some false
 eI:PySem.W.kitOne K (.ref A.cy) (.ref A.hX)=some false
 dn:PySem.W.kitOne K (.ref A.cy) (.ref A.dB)=some false
 dJ:PySem.W.kitOne K (.ref A.cy) (.ref A.cy)=some true
 dy:PySem.W.kitOne K (.ref A.cy) (.type "ValueError")=some true
 il:PySem.W.kitOne K (.type "NoneType") (.type "str")=some false
 kS:PySem.W.kitOne K (.type "bool") (.type "str")=some false
 lY:PySem.W.kitOne K (.type "int") (.type "int")=some true
 kU:PySem.W.kitOne K (.type "int") (.type "bool")=some false
 kz:PySem.W.kitOne K (.type "int") (.type "str")=some false
 lZ:PySem.W.kitOne K (.type "str") (.type "int")=some false
 mR:PySem.W.kitOne K (.type "str") (.type "bool")=some false
 jv:PySem.W.kitOne K (.type "str") (.type "str")=some true
 iZ:PySem.W.kitOne K (.type "list") (.type "list")=some true
 kW:PySem.W.kitOne K (.type "list") (.type "str")=some false
 i0:PySem.W.kitOne K (.type "tuple") (.type "tuple")=some true
 j6:PySem.W.kitOne K (.type "tuple") (.type "str")=some false
 kT:PySem.W.kitOne K (.type "dict") (.type "str")=some false
 j7:mg "ValueError"=none
 sX:mg "all"=none
 tW:mg "bool"=none
 qk:mg "int"=none
 c8:mg "isinstance"=none
 fT:mg "len"=none
 og:mg "list"=none
 kX:mg "range"=none
 lB:mg "str"=none
 o5:mg "tuple"=none
 uP:mg "zip"=none
section
variable{P:Program}{w:World}{K:PySem.W.Frag}{mg:Str->Option Value}{base:Heap}{A:Ad}
noncomputable def nS:Sp:=λvs H Q _=>∃z,vs=[.str z]/\asc z/\z.length<=700/\∀H',cq H H'->Q (.bl (wr z)) H'
theorem nQ:cX ["text","figures"] ["text"] (cH j9):=fsc
theorem sj(T:Txt w K mg A):eg P w K mg base (kF P w) true 1 A.f6 A.gT ["text"] nS:=by
 refine T.ll.o_ nQ (λvs H Q E h=> ?_) (λcdv A' outer s H vs Q E hr hx h=> ?_)
 ·obtain⟨_,rfl,_⟩:=h
  rfl
 ·obtain⟨z,rfl,h⟩:=h
  obtain⟨q,az,lz⟩:=BQ h
  refine dF (B:=λt=>t _ _ _) (cc (cK (cA fG (cj 0) cw (cM _)) (ck (cF e_)) cD)
   (cc (cz (i:=1) nQ.nd rfl lo (rD (c9 (ij PySem.F.slot_str_startswith PySem.F.type_str_startswith rB (cj 0) (cb cw b_)) (λ_=>rfl)) (cQ iV (cj 0) (cZ cf) cT) (cj 0)))
   (cc (cK (fo (ik (cA mP (cG ly (by rfl) T.fT PyProof.Rows.Boot.«len» (cb (cj 1) b_)) (dq T.jb) (cM _)) (ik (cA fG (cj 1) cw (cM _)) (hZ (c9 (ij PySem.F.slot_str_startswith PySem.F.type_str_startswith rB (cj 1) (cb cw b_)) (λ_=>rfl)))))) (ck (cF e_)) cD)
   (ck (cF (cG (tR (by rfl)) (by rfl) T.sX PyProof.Rows.Boot.«all» (cb (fg (fsc:=cH j9) (N2:=[]) (js:=[]) ⟨rfl,rfl,by decide+kernel,by decide+kernel,by decide+kernel,by decide+kernel,by decide+kernel,by decide+kernel,by decide+kernel⟩ rfl rfl (by rfl) (oY (cj 1)) (λ_ _ _ _=>gL) (λ_ _ _ _=>(de wR (cj 0) (dq T.nG) (by with_unfolding_all rfl)))) b_))))))) ?_
  show gh _ _ _ [some (V.str z),none] H
  refine cu (λσ' H'=>H=H'/\z≠Str.ofString "0"/\σ'=[some (V.str z),none]) (λR hR=> ?_) ?_
  ·simp only[dj,cW,dA,cV,dD,tC,cI,sd,eqv,aa,decide_eq_true_eq,↓cS]
   by_cases y:z=Str.ofString "0"
   ·rw[if_pos y]
    have e:wr z=true:=by unfold wr;rw[decide_eq_true y];rfl
    rw[e]at q
    exact q _ (cq.refl _)
   ·rw[if_neg y]
    exact hR _ _ ⟨rfl,y,rfl⟩
  rintro _ _ ⟨rfl,z0,rfl⟩
  have ew:wr z=x5 z.cps.toList:=by unfold wr;rw[decide_eq_false z0];rfl
  rw[ew]at q
  refine cu (λσ' H'=>H=H'/\∃f,asc f/\f.length<=700/\x5 z.cps.toList=pZ f.cps.toList/\σ'=[some (V.str z),some (V.str f)]) (λR hR=> ?_) ?_
  ·simp only[E7,cB,cL,tC,cI,c5,cJ,jd,iO,eK,uh,aa,aj,ai,exists_eq_left,tH,oF,oM]
   rw[show Str.ofString "-"=(⟨#[45]⟩:Str) by decide+kernel,rS]
   cases e:z.cps.toList with
   |nil=>
    rw[if_neg (by simp)]
    exact hR _ _ ⟨rfl,z,az,lz,by rw[e];rfl,rfl⟩
   |cons c r=>
    by_cases y:c=45
    ·subst y
     have es:StrLaws.sliceText z (some 1) none=pI r:=by
      have:=qR (z:=z) (i:=1)
      rw[e]at this;exact this
     have hr:r.length+1<=700:=by rw[dz,e]at lz;exact lz
     rw[if_pos (by simp),es]
     exact⟨big (show r.length<=1000 by omega),hR _ _ ⟨rfl,pI r,λc hc=>az c (by rw[e];exact aD _ hc),(show r.length<=700 by omega),by rw[e];rfl,rfl⟩⟩
    ·rw[if_neg (by simpa using y)]
     refine hR _ _ ⟨rfl,z,az,lz,?_,rfl⟩
     rw[e];unfold x5;split
     ·rename_i q' hq;injection hq with h1;exact absurd h1 y
     ·rfl
  rintro _ _ ⟨rfl,f,af,lf,ef,rfl⟩
  rw[ef]at q
  refine cu (λσ' H'=>H=H'/\f.length<=60/\f.cps.toList≠ []/\f.cps.toList.head? ≠some 48/\σ'=[some (V.str z),some (V.str f)]) (λR hR=> ?_) ?_
  ·simp only[dj,cW,dA,cV,dD,ya,ja,cB,cL,tC,cI,Ak,lh,sd,eqv,jd,↓reduceIte,aa,ae,exists_eq_left,decide_eq_true_eq,oJ,oF,oM,↓cS]
   refine⟨big (by omega),?_⟩
   rw[show Str.ofString "0"=(⟨#[48]⟩:Str) by decide+kernel,rS]
   by_cases y1:60<f.length
   ·rw[if_pos (by omega)]
    have e:pZ f.cps.toList=false:=by unfold pZ;rw[decide_eq_false (by rw[←dz];omega)];rfl
    rw[e]at q;exact q _ (cq.refl _)
   ·rw[if_neg (by omega)]
    by_cases y2:f=Str.ofString ""
    ·rw[if_pos y2]
     have e:pZ f.cps.toList=false:=by rw[y2];decide+kernel
     rw[e]at q;exact q _ (cq.refl _)
    ·rw[if_neg y2]
     have fn:f.cps.toList≠ []:=λz=>y2 (pz (by rw[z];decide+kernel))
     by_cases y3:f.cps.toList.head? =some 48
     ·rw[if_pos (decide_eq_true y3)]
      have e:pZ f.cps.toList=false:=by unfold pZ;rw[show decide (f.cps.toList.head? ≠some 48)=false from decide_eq_false (λn=>n y3),Bool.and_false,Bool.false_and]
      rw[e]at q;exact q _ (cq.refl _)
     ·rw[if_neg (λz=>y3 (of_decide_eq_true z))]
      exact hR _ _ ⟨rfl,by omega,fn,y3,rfl⟩
  rintro _ _ ⟨rfl,f60,fn,f0,rfl⟩
  simp only[dj,ja,cB,cL,cI,jO,je,xk,aJ,aa,ae,xt]
  refine⟨af.all,gC.En (λc=>V.bl (dig c)) (big (show f.length<=1000 by omega)) (λc hc K' hK=> ?_) λp hp=> ?_⟩
  ·simp only[dD,tC,cI,aa,Bx,yj]
   have:=w4 (af c hc)
   unfold Az at this
   rw[show(Str.ofString "0123456789").length=10 by decide+kernel]at this
   rw[this];exact hK
  ·have eb:∀l:List Nat,bools (l.map λc=>V.bl (dig c))=some (l.map dig):=λl=>by
    induction l with
    |nil=>rfl
    |cons c l ih=>rw[ax];show(bools _).map _=_;rw[ih];rfl
   dsimp only
   rw[cg]
   dsimp only
   rw[eb]
   have e:pZ f.cps.toList=(f.cps.toList.map dig).all id:=by
    unfold pZ
    rw[decide_eq_true (show f.cps.toList.length<=60 from f60),decide_eq_true f0,List.all_map]
    cases e:f.cps.toList with
    |nil=>exact absurd e fn
    |cons c r=>rfl
   rw[e]at q
   exact q _ (cq.upd hp)
noncomputable def qq:Sp:=λvs H Q _=>∃z,vs=[.str z]/\z.length<=40000/\∀l,H l=none->Q (.ref l) (upd H l (.lst ((sW z).map V.str)))
theorem u4:cX ["text"] ["text"] (cH om):=fsc
theorem uR(T:Txt w K mg A):eg P w K mg base (kF P w) true 1 A.iC A.jj ["text"] qq:=by
 refine T.mM.o_ u4 (λvs H Q E h=> ?_) (λcdv A' outer s H vs Q E hr hx h=> ?_)
 ·obtain⟨_,rfl,_⟩:=h
  rfl
 ·obtain⟨z,rfl,hz,q⟩:=h
  refine dF (B:=λt=>t _ _ _) (ck (cF (rD (cA fG (cj 0) cw (cM _)) (cE b_) (ij PySem.F.slot_str_split PySem.F.type_str_split lA (cj 0) (cb cw b_))))) ?_
  unfold sW at q
  simp only[dj,cV,dD,E7,cB,cL,tC,cI,eY,sd,eqv,Int.reduceAdd,Nat.reduceLeDiff,L2.start,ax,aJ,ag,ak,List.replicate,aR,aa,true_and,decide_eq_true_eq,Nat.reduceAdd,bM,v9,Fv,oF,mH,↓cS]
  by_cases y:z=Str.ofString ""
  ·rw[if_pos y]
   rw[if_pos y]at q
   exact q
  ·rw[if_neg y]
   rw[if_neg y]at q
   rw[zb,lE.1]
   exact⟨hz,q⟩
noncomputable def k7:Sp:=λvs H Q _=>∃t x us,vs=[.ref t]/\H t=some (.tup (.str x::us))/\∀H',cq H H'->Q (.bl (ql x)) H'
theorem u0:cX ["statement"] ["statement"] (cH oj):=fsc
theorem mU(T:Txt w K mg A):eg P w K mg base (kF P w) true 1 A.iB A.ji ["statement"] k7:=by
 refine T.jI.o_ u0 (λvs H Q E h=> ?_) (λcdv A' outer s H vs Q E hr hx h=> ?_)
 ·obtain⟨_,_,_,rfl,_⟩:=h
  rfl
 ·obtain⟨t,x,us,rfl,ht,q⟩:=h
  refine dF (B:=λt=>t _ _ _) (ck (cF (de qK (cU dh (cj 0) cf (λ_ _=>rfl)) (kx (cb cw (cb cw b_))) (by with_unfolding_all rfl)))) ?_
  simp only[dj,dD,cB,cL,tC,cI,sy,oI,Int.reduceAdd,↓reduceIte,cg,km,L2.start,ax,aJ,ag,ak,List.replicate,aR,aa,true_and,aN,Nat.reduceAdd,bM,x_,oG,ht]
  intro p hp
  have e: [V.str (Str.ofString "again"),V.str (Str.ofString "if")]=[xj,Str.ofString "if"].map V.str:=rfl
  rw[e,lV]
  exact⟨rfl,mC,q _ (cq.upd hp)⟩
theorem u9(T:Txt w K mg A):Bj K A.eZ Tb:=T.mv
noncomputable def rQ:Sp:=λvs H Q _=>∃z,vs=[.str z]/\asc z/\z.length<=700/\∀H',cq H H'->Q (.bl (rJ z)) H'
theorem vZ:cX ["text"] ["text"] (cH nD):=fsc
theorem vP(T:Txt w K mg A):eg P w K mg base (kF P w) true 1 A.jo A.kf ["text"] rQ:=by
 refine T.n6.o_ vZ (λvs H Q E h=> ?_) (λcdv A' outer s H vs Q E hr hx h=> ?_)
 ·obtain⟨_,rfl,_⟩:=h
  rfl
 ·obtain⟨z,rfl,h⟩:=h
  obtain⟨q,az,lz⟩:=BQ h
  refine dF (B:=λt=>t _ _ _) (cc (cK (fo (ik (cA AG (cj 0) (dq T.d5) (by with_unfolding_all rfl)) (hZ (dw (lX ku ku cf (cG ly (by rfl) T.fT PyProof.Rows.Boot.«len» (cb (cj 0) b_)) (dq T.jc)))))) (ck (cF e_)) cD)
   (ck (cF (cG (tR (by rfl)) (by rfl) T.sX PyProof.Rows.Boot.«all» (cb (fg (fsc:=cH nD) (N2:=[]) (js:=[]) ⟨rfl,rfl,by decide+kernel,by decide+kernel,by decide+kernel,by decide+kernel,by decide+kernel,by decide+kernel,by decide+kernel⟩ rfl rfl (by rfl) (oY (cj 0)) (λ_ _ _ _=>gL) (λ_ _ _ _=>(de wR (cj 0) (dq T.nH) (by with_unfolding_all rfl)))) b_))))) ?_
  show gh _ _ _ [some (V.str z)] H
  refine cu (λσ' H'=>H=H'/\z∉ws/\1<=z.length/\z.length<=8/\σ'=[some (V.str z)]) (λR hR=> ?_) ?_
  ·simp only[dj,cW,dA,cV,dD,ya,jy,ja,cB,cL,tC,cI,Bm,lh,mh,dR,↓reduceIte,aG,Bool.not_false,decide_eq_false_iff_not,aa,decide_eq_true_eq,oJ,Al,↓cS]
   refine⟨Tb,u9 T,?_⟩
   by_cases y:z∈ws
   ·rw[if_pos (u7 y).1]
    have e:rJ z=false:=by unfold rJ;rw[decide_eq_false (λn=>n y)];rfl
    rw[e]at q;exact q _ (cq.refl _)
   ·rw[zO y,if_neg (λn=>by cases n)]
    refine⟨cR (by omega),?_⟩
    by_cases y1:1<=z.length
    ·rw[if_pos (by omega)]
     by_cases y2:z.length<=8
     ·rw[if_neg (by omega)]
      exact hR _ _ ⟨rfl,y,y1,y2,rfl⟩
     ·rw[if_pos (by omega)]
      have e:rJ z=false:=by unfold rJ;rw[decide_eq_false y2,Bool.and_false,Bool.and_false];rfl
      rw[e]at q;exact q _ (cq.refl _)
    ·rw[if_neg (by omega)]
     have e:rJ z=false:=by unfold rJ;rw[decide_eq_false y1,Bool.false_and,Bool.and_false];rfl
     rw[e]at q;exact q _ (cq.refl _)
  rintro _ _ ⟨rfl,z0,z1,z8,rfl⟩
  simp only[dj,ja,cB,cL,cI,jO,je,xk,aJ,aa,xt]
  refine⟨az.all,gC.En (λc=>V.bl (low c)) (big (show z.length<=1000 by omega)) (λc hc K' hK=> ?_) λp hp=> ?_⟩
  ·simp only[dD,tC,cI,aa,By,yj]
   have:=w5 (az c hc)
   unfold lets at this
   rw[show(Str.ofString "abcdefghijklmnopqrstuvwxyz").length=26 by decide+kernel]at this
   rw[this];exact hK
  ·have eb:∀l:List Nat,bools (l.map λc=>V.bl (low c))=some (l.map low):=λl=>by
    induction l with
    |nil=>rfl
    |cons c l ih=>rw[ax];show(bools _).map _=_;rw[ih];rfl
   dsimp only
   rw[cg]
   dsimp only
   rw[eb]
   have e:rJ z=(z.cps.toList.map low).all id:=by
    unfold rJ
    rw[decide_eq_true z0,decide_eq_true z1,decide_eq_true z8,List.all_map];rfl
   rw[e]at q
   exact q _ (cq.upd hp)
noncomputable def qr:Sp:=λvs H Q _=>∃t x r ex,vs=[.ref t]/\H t=some (.tup (jx (x::r)++ex))/\x∈ws/\all2 pO (want x) r=true/\∀l H',cq H H'->H l=none->H' l=some (.lst ((se (x::r)).map V.str))->Q (.ref l) H'
theorem qm:cX ["statement","behind"] ["statement"] (cH ma):=fsc
theorem uS(T:Txt w K mg A):eg P w K mg base (kF P w) true 1 A.iD A.jk ["statement"] qr:=by
 refine T.mO.o_ qm (λvs H Q E h=> ?_) (λcdv A' outer s H vs Q E hr hx h=> ?_)
 ·obtain⟨_,_,_,_,rfl,_⟩:=h
  rfl
 ·obtain⟨t,x,r,ex,rfl,h⟩:=h
  obtain⟨q,ht,hx,ha⟩:=BR h
  refine dF (B:=λt=>t _ _ _) (cc (cz (i:=1) qm.nd rfl lo (pF (dq T.d5) (cU dh (cj 0) cf (λ_ _=>rfl)) (λ_ _=>rfl)))
   (ck (cF (vI (fsc:=cH ma) (N2:=[]) (js:=[]) ⟨rfl,rfl,by decide+kernel,by decide+kernel,by decide+kernel,by decide+kernel,by decide+kernel,by decide+kernel,by decide+kernel⟩ rfl rfl (by rfl) (sS (k1:=true) (k2:=true) rfl T.uP (cb (cj 1) (cb (cQ AK (cj 0) (cZ cf) cT) b_))) (λ_ _ _ _=>(iH (cA fG (cj 0) cw (cM _)))) (λ_ _ _ _=>(cj 1)))))) ?_
  show gh _ _ _ [some (V.ref t),none] H
  refine cu (λσ' H'=>H=H'/\∃b,nh K H b ((want x).map λb=>V.str (wS b))/\σ'=[some (V.ref t),some (V.ref b)]) (λR hR=> ?_) ?_
  ·simp only[dD,tC,cI,c5,cJ,oI,dR,km,aX,aa,aj,ai,exists_and_left,q0,ht,jx]
   refine⟨Tb,u9 T,_,(u7 hx).2,cR ?_,λb hb=>hR _ _ ⟨rfl,b,?_,rfl⟩⟩
   ·rw[ah];exact av (iw x) (by decide)
   ·rw[bw]at hb;exact hb
  rintro _ _ ⟨rfl,b,hb,rfl⟩
  have hl:=gi ha
  have h3:=iw x
  simp only[dj,cB,cL,tC,cI,dR,je,iO,eK,uh,pX,aJ,ag,aX,aa,ae,Ap,wQ,ht,jx]
  refine⟨λn=> ?_,λp hp=> ?_⟩
  ·have e:HT.jf ((List.zipWith pV (want x) r++ex).length+1) 0 (some 1)=1:=by
    have:=HT.uc ((List.zipWith pV (want x) r++ex).length+1) 0 1
    exact this.trans (by omega)
   rw[e]at n
   exact absurd n.1 (by decide)
  rw[wF]
  have s1:=cq.upd (o:= .tup (List.zipWith pV (want x) r++ex)) hp
  have hb1:=m9 s1 hb
  have hp1:nh K (upd H p (.tup (List.zipWith pV (want x) r++ex))) p (List.zipWith pV (want x) r++ex):=nh.of cg
  have hzl:(List.zipWith pV (want x) r).length=(want x).length:=by rw[aY];omega
  refine⟨⟨_,hb1⟩,⟨_,hp1⟩,qg (n:=(want x).length) (λi zs H'=>cq (upd H p (.tup (List.zipWith pV (want x) r++ex))) H'/\zs=((r.take i).filter λz=> !wr z).map V.str) ⟨cq.refl _,rfl⟩ (λi zs H' h=>⟨m9 h.1 hb1,m9 h.1 hp1⟩) ⟨by rw[ah];exact ao _,by rw[ay,hzl];omega,.inl (by rw[ah])⟩ (cR (by omega)) (λi zs H' h=> ?_) ?_ ?_⟩
  ·rw[h.2,ah];exact av (bE _ _) (by rw[aH];omega)
  ·rintro i v y zs H1 hv hy ⟨sa,rfl⟩ p1 hp1 K1 hK
   rw[aS]at hv
   obtain⟨c,hc,rfl⟩:=Option.map_eq_some_iff.mp hv
   have hi:i<(want x).length:=(List.getElem?_eq_some_iff.mp hc).1
   have hz:r[i]? =some (r[i]'(by omega)):=aE (by omega)
   generalize r[i]'(by omega)=z at hz
   rw[List.getElem?_append_left (by omega),bj,hc,hz]at hy
   cases hy
   have hp:=(qF hl).mp ha i c z hc hz
   have et:r.take (i+1)=r.take i++[z]:=by rw[a_,hz];rfl
   have s2:=sa.trans (cq.upd (o:= .tup [V.str (wS c),pV c z]) hp1)
   simp only[cV,dD,tC,cI,sd,eqv,aa,ae,↓cS,uk]
   cases c with
   |true=>
    rw[if_pos rfl]
    refine hK _ _ ⟨s2,?_⟩
    rw[et,bh,aF]
    have:wr z=false:=BA hp
    simp[this,pV]
   |false=>
    rw[if_neg (λn=>by cases n)]
    refine hK _ _ ⟨s2,?_⟩
    rw[et,bh]
    have:wr z=true:=hp
    simp[this]
  ·rintro zs H1 ⟨sa,rfl⟩ l hl1
   rw[List.take_of_length_le (by omega)]
   exact q _ _ ((s1.trans sa).trans (cq.upd hl1)) (same_none (s1.trans sa) hl1) cg
noncomputable def cat (ns:List Int) (k:Int):Int:=ns.getD k.toNat 0
theorem yh{ns:List Int}{k:Int}(h0:0<=k)(h:k<(ns.map V.int).length):mD (ns.map V.int) k=some (.int (cat ns k)):=by
 obtain⟨n,rfl⟩:∃n:Nat,k=n:=⟨k.toNat,by omega⟩
 rw[ah]at h
 refine oA ?_
 rw[aS,aE (by omega)]
 simp only[cat,Int.toNat_natCast,Option.map_some,bZ,aE (show n<ns.length by omega),Option.getD_some]
theorem Au{ns:List Int}{k:Int}(h0:0<=k)(h:¬k<(ns.map V.int).length):cat ns k=0:=by
 rw[ah]at h
 unfold cat
 rw[bZ,b7 (by omega)]
 rfl
noncomputable def fI (K:PySem.W.Frag):Sp:=λvs H Q _=>∃a ns k,vs=[.ref a,.int k]/\fb K H a (ns.map V.int)/\0<=k/\Q (.int (cat ns k)) H
theorem vY:cX ["_law_script","_law_k"] ["_law_script","_law_k"] (cH pN):=fsc
theorem fH{ca:Bool}(T:Txt w K mg A):eg P w K mg base (kF P w) ca 1 A.jm A.ke ["_law_script","_law_k"] (fI K):=by
 refine T.d8.o_ vY (λvs H Q E h=> ?_) (λcdv A' outer s H vs Q E hr hx h=> ?_)
 ·obtain⟨_,_,_,rfl,_⟩:=h
  rfl
 ·obtain⟨a,ns,k,rfl,h⟩:=h
  obtain⟨q,hS,h0⟩:=BQ h
  refine dF (B:=λt=>t _ _ _) (cc (cK (cA yV (cj 1) (cG yU (by rfl) T.fT PyProof.Rows.Boot.«len» (cb (cj 0) b_)) (cM _)) (ck (cF (cU AH (cj 0) (cj 1) (λ_ _=>rfl)))) cD)
   (ck (cF cf))) ?_
  simp only[dj,cW,gh,dA,cV,dD,ja,cB,cL,tC,cI,E3,lh,Am,wz,dR,Int.reduceAdd,L2.start,ax,aJ,ag,ak,List.replicate,aR,aa,ae,decide_eq_true_eq,Nat.reduceAdd,bM,↓cS]
  refine⟨_,hS,?_⟩
  split<;>rename_i h
  ·refine⟨_,hS,?_⟩
   rw[yh h0 h];exact q
  ·rw[Au h0 h]at q;exact q
noncomputable def ie:Sp:=λvs H Q _=>∃v,vs=[v]/\((∃n,v= .int n)∨∃z,v= .str z)/\Q (.bl (match v with| .int _=>true|_=>false)) H
theorem so:cX ["_law_found"] ["_law_found"] (cH l_):=fsc
theorem nO{ca:Bool}(T:Txt w K mg A):eg P w K mg base (kF P w) ca 1 A.fZ A.gS ["_law_found"] ie:=by
 refine T.jB.o_ so (λvs H Q E h=> ?_) (λcdv A' outer s H vs Q E hr hx h=> ?_)
 ·obtain⟨_,rfl,_⟩:=h
  rfl
 ·obtain⟨v,rfl,hv,q⟩:=h
  refine dF (B:=λt=>t _ _ _) (ck (cF (iW (cG gc (by rfl) T.c8 PyProof.Rows.Boot.«isinstance» (cb (cj 0) (cb (j5 T.qk PyProof.Rows.Boot.«int») b_))) (gK (uI (cG gc (by rfl) T.c8 PyProof.Rows.Boot.«isinstance» (cb (cj 0) (cb (j5 T.tW PyProof.Rows.Boot.«bool») b_)))))))) ?_
  rcases hv with ⟨n,rfl⟩|⟨z,rfl⟩
  ·simp only[dj,m_,u6,ja,cB,cL,tC,cI,l7,lq,dR,Int.reduceAdd,↓reduceIte,Bool.not_false,L2.start,ax,aJ,ag,ak,List.replicate,aR,aa,true_and,Nat.reduceAdd,bM,↓cS,uq,my,T.lY,T.kU]
   exact q
  ·simp only[dj,m_,ja,cB,cL,tC,cI,l7,lq,dR,Int.reduceAdd,↓reduceIte,L2.start,ax,aJ,ag,ak,List.replicate,aR,aa,true_and,aN,Nat.reduceAdd,bM,↓cS,uq,my,T.lZ]
   exact q
noncomputable def g6:Sp:=λvs H Q _=>∃c k:Int,vs=[.int c,.int k]/\∀z H',cq H H'->tx 8 z->Q (.str z) H'
theorem gg:cX ["_law_cell","_law_k","_law_letters","_law_size","_law_at_here","_law_turn","_law_rest"] ["_law_cell","_law_k"] (cH kZ):=fsc
theorem i5(T:Txt w K mg A):eg P w K mg base (kF P w) true 1 A.gG A.iM ["_law_cell","_law_k"] g6:=by
 refine T.gb.o_ gg (λvs H Q E h=> ?_) (λcdv A' outer s H vs Q E hr hx h=> ?_)
 ·obtain⟨_,_,rfl,_⟩:=h
  rfl
 ·obtain⟨c,k,rfl,q⟩:=h
  refine dF (B:=λt=>t _ _ _) (cc (cz (i:=2) gg.nd rfl lo cw)
   (cc (cz (i:=3) gg.nd rfl lo (cm cP (cj 0) cf))
   (cc (cK (fo (ky (cA mP (cj 1) cf (cM _)) (ju (cA fG (cj 3) cf (cM _))))) (ck (cz (i:=3) gg.nd rfl lo cf)) cD)
   (cc (cz (i:=4) gg.nd rfl lo (cm cP (cm c7 (cj 0) cf) (cm cY (cj 3) cf)))
   (cc (cz (i:=5) gg.nd rfl lo (cm c7 (cj 0) cf))
   (cc (cz (i:=6) gg.nd rfl lo (ij PySem.F.slot_str_join PySem.F.type_str_join mQ cw (cb (fg (fsc:=cH kZ) (N2:=["_law_k","_law_letters","_law_turn"]) (js:=[1,2,5]) ⟨rfl,rfl,by decide+kernel,by decide+kernel,by decide+kernel,by decide+kernel,by decide+kernel,by decide+kernel,by decide+kernel⟩ rfl rfl (by rfl) (kR rfl T.kX (cb (cj 3) b_)) (λ_ _ _ _=>gL) (λ_ _ _ _=>(cU qL (cj 2) (cm cP (cm cY (cm cY (cm c7 (cj 3) cf) (cm oW cf (cj 0))) (cm c7 (cj 1) cf)) cf) (λ_ _=>rfl)))) b_)))
   (ck (cF (cm cY (cm cY (cQ iV (cj 6) cT (cZ (cj 4))) (cU qL (cj 2) (cm cP (cm cY (cj 5) (cj 1)) cf) (λ_ _=>rfl))) (cQ iV (cj 6) (cZ (cj 4)) cT)))))))))) ?_
  show gh _ _ _ [some (V.int c),some (V.int k),none,none,none,none,none] H
  refine cu (λσ' H'=>H=H'/\σ'=[some (V.int c),some (V.int k),some (V.str lets),none,none,none,none]) (λR hR=> ?_) ?_
  ·simp only[tC,c5,cJ,aj,ai]
   exact hR _ _ ⟨rfl,rfl⟩
  rintro _ _ ⟨rfl,rfl⟩
  refine cu (λσ' H'=>H=H'/\∃n:Nat,n<=7/\σ'=[some (V.int c),some (V.int k),some (V.str lets),some (V.int n),none,none,none]) (λR hR=> ?_) ?_
  ·simp only[dD,tC,cI,c5,cJ,gj,Int.reduceLT,Nat.reduceLT,aa,aj,ai,true_and]
   exact hR _ _ ⟨rfl,(c%8).toNat,by omega,by rw[show(((c%8).toNat:Nat):Int)=c%8 by omega]⟩
  rintro _ _ ⟨rfl,n,hn,rfl⟩
  refine cu (λσ' H'=>H=H'/\∃n:Nat,n<=7/\σ'=[some (V.int c),some (V.int k),some (V.str lets),some (V.int n),none,none,none]) (λR hR=> ?_) ?_
  ·simp only[cW,dA,cV,dD,sv,tC,cI,c5,cJ,Ak,lh,sd,eqv,↓reduceIte,aa,ae,aj,ai,aN,decide_eq_true_eq,↓cS]
   by_cases y1:25<k
   ·rw[if_pos y1]
    by_cases y2:(n:Int)=0
    ·rw[if_pos y2];exact hR _ _ ⟨rfl,1,by decide,rfl⟩
    ·rw[if_neg y2];exact hR _ _ ⟨rfl,n,hn,rfl⟩
   ·rw[if_neg y1];exact hR _ _ ⟨rfl,n,hn,rfl⟩
  rintro _ _ ⟨rfl,n,hn,rfl⟩
  refine cu (λσ' H'=>H=H'/\∃a:Nat,a<=n/\σ'=[some (V.int c),some (V.int k),some (V.str lets),some (V.int n),some (V.int a),none,none]) (λR hR=> ?_) ?_
  ·simp only[dD,tC,cI,c5,cJ,jP,g_,gj,la,Int.reduceLT,Nat.reduceLT,aa,ae,aj,ai,and_true,true_and]
   have h1:=bG (c/8) (show((n:Int)+1)≠0 by omega)
   have h2:=bR (c/8) (show(0:Int)<(n:Int)+1 by omega)
   exact⟨by omega,hR _ _ ⟨rfl,(c/8%((n:Int)+1)).toNat,by omega,by rw[show(((c/8%((n:Int)+1)).toNat:Nat):Int)=c/8%((n:Int)+1) by omega]⟩⟩
  rintro _ _ ⟨rfl,a,ha,rfl⟩
  refine cu (λσ' H'=>H=H'/\∃t,σ'=[some (V.int c),some (V.int k),some (V.str lets),some (V.int n),some (V.int a),some (V.int t),none]) (λR hR=> ?_) ?_
  ·simp only[dD,tC,cI,c5,cJ,g_,la,Int.reduceLT,Nat.reduceLT,aa,aj,ai,and_true,true_and]
   exact hR _ _ ⟨rfl,_,rfl⟩
  rintro _ _ ⟨rfl,t,rfl⟩
  refine cu (λσ' H'=>cq H H'/\∃z,tx 7 z/\σ'=[some (V.int c),some (V.int k),some (V.str lets),some (V.int n),some (V.int a),some (V.int t),some (V.str z)]) (λR hR=> ?_) ?_
  ·simp only[cB,cL,tC,cI,c5,cJ,Int.reduceNeg,Int.reducePow,jO,je,sQ,ax,aJ,aa,ae,aj,ai,V.int.injEq,V.bl.injEq,V.str.injEq,V.ref.injEq,V.ty.injEq,aq,ar,and_true,exists_eq_left',qf,oF]
   refine⟨by omega,by omega,?_⟩
   rw[show((n:Int)).toNat=n by omega]
   show gC _ [some (V.int k),some (V.str lets),some (V.int t)] _ _ _ _
   refine oO (λi ys H'=>H=H'/\∃ts:List Str,ys=ts.map V.str/\ts.length=i/\∀t∈ts,tx 1 t) ⟨rfl,[],rfl,rfl,λt h=>nomatch h⟩ (cR (by omega)) (λi ys H' h=>by obtain⟨_,ts,rfl,h2,_⟩:=h;rw[ah];omega) ?_ ?_
   ·rintro i ys _ hi ⟨rfl,ts,rfl,hl,ht⟩ K1 hK
    obtain⟨d,ed,hd⟩:=y_ (i:=t/26+5*(0+(i:Int))+k/26)
    simp only[dD,tC,cI,jP,vv,g_,gj,la,ur,true_or,Int.reduceLT,Nat.reduceLT,Int.reduceNeg,Int.reducePow,↓reduceIte,ui,aa,ae,and_true,true_and,vp,ed]
    refine⟨cR (show lets.length<=40000 by decide+kernel),hK _ _ ⟨rfl,ts++[⟨#[d]⟩],by rw[aF];rfl,by rw[ay,hl];rfl,λu h=> ?_⟩⟩
    rcases List.mem_append.mp h with h|h
    ·exact ht u h
    ·rw[List.mem_singleton.mp h];exact hd
   ·rintro ys _ ⟨rfl,ts,rfl,hl,ht⟩ l hl0
    dsimp only
    rw[cg]
    have:=Cp (ps:=ts) (by omega) ht
    exact⟨ts,rfl,this.1,hR _ _ ⟨cq.upd hl0,_,this.2,rfl⟩⟩
  rintro _ H1 ⟨s1,z,hz,rfl⟩
  obtain⟨d,ed,hd⟩:=y_ (i:=t+k)
  obtain⟨h1,h2,h3⟩:=zI (k:=a) hz
  have hi:=yP (k:=a) hz hd
  have l1:=h1.1
  have l2:=h2.1
  have ld:(⟨#[d]⟩:Str).length=1:=rfl
  simp only[dj,dD,tC,cI,jP,gj,Int.reduceLT,Nat.reduceLT,iO,eK,uh,aa,ae,true_and,vp,tH,ed]
  exact⟨cR (by omega),cR (show lets.length<=40000 by decide+kernel),cR (by omega),cR (by omega),cR (by rw[str_len];omega),q _ _ s1 hi⟩
noncomputable def mZ:Sp:=λvs H Q _=>∃c:Int,vs=[.int c]/\∀z,tx 70 z->Q (.str z) H
theorem mX:cX ["_law_cell","_law_far"] ["_law_cell"] (cH lr):=fsc
theorem rM(T:Txt w K mg A):eg P w K mg base (kF P w) true 1 A.fB A.gw ["_law_cell"] mZ:=by
 refine T.ko.o_ mX (λvs H Q E h=> ?_) (λcdv A' outer s H vs Q E hr hx h=> ?_)
 ·obtain⟨_,rfl,_⟩:=h
  rfl
 ·obtain⟨c,rfl,q⟩:=h
  refine dF (B:=λt=>t _ _ _) (cc (cK (cA fG (cm cP (cj 0) cf) cf (cM _)) (cc (cz (i:=1) mX.nd rfl lo (kj (jK (by rfl)) (cm cP (cm c7 (cj 0) cf) cf) (λ_ _=>rfl)))
   (ck (cF (cm cY (cm cY (kj (cb cw (cb cw b_)) (cm cP (cm c7 (cj 0) cf) cf) (λ_ _=>rfl)) (c_ lW (by rfl) T.lB PyProof.Rows.Boot.«str» (cb (cm cY cf (cm cP (cm c7 (cj 0) cf) cf)) b_))) (cm yW (c_ lW (by rfl) T.lB PyProof.Rows.Boot.«str» (cb (cm cP (cm c7 (cj 0) cf) cf) b_)) (cj 1)))))) cD)
   (ck (cF (c_ lW (by rfl) T.lB PyProof.Rows.Boot.«str» (cb (cm oX (cm cP (cm c7 (cj 0) cf) cf) cf) b_))))) ?_
  simp only[dj,cW,gh,dA,cV,dD,ja,cB,cL,tC,cI,eY,c5,cJ,jP,uy,g_,gj,sd,eqv,ub,la,Int.reduceLT,Nat.reduceLT,Int.reduceAdd,Int.reduceSub,cg,L2.start,ax,aJ,ag,ak,List.replicate,aX,bg,aa,ae,aj,ai,and_true,true_and,and_false,decide_eq_true_eq,Nat.reduceSub,Nat.reduceAdd,x_,FZ,cStr,wA,sx,↓cS]
  by_cases y:c%5=0
  ·rw[if_pos y]
   intro p hp
   obtain⟨v,ev,hv⟩:=kn (xs:=[V.int 1,V.int 2,V.int 8,V.int 9,V.int 30,V.int 58,V.int 59,V.int 59,V.int 60]) (i:=c/90%9) (by omega) (by show _<(9:Int);omega)
   obtain⟨n,rfl,n0,n64⟩:∃n:Int,v= .int n/\0<=n/\n<=64:=by
    simp only[List.mem_cons,List.not_mem_nil,or_false]at hv
    rcases hv with rfl|rfl|rfl|rfl|rfl|rfl|rfl|rfl|rfl<;>exact⟨_,rfl,by decide,by decide⟩
   rw[ev]
   dsimp only
   rw[pM hp]
   intro p1 hp1
   obtain⟨v1,ev1,hv1⟩:=kn (xs:=[V.str (Str.ofString ""),V.str (Str.ofString "-")]) (i:=c/5%2) (by omega) (by show _<(2:Int);omega)
   obtain⟨g,rfl,hg⟩:∃g:Str,v1= .str g/\tx 1 g:=by
    simp only[List.mem_cons,List.not_mem_nil,or_false]at hv1
    rcases hv1 with rfl|rfl
    ·exact⟨_,rfl,hE (by decide+kernel)⟩
    ·exact⟨_,rfl,hE (by decide+kernel)⟩
   rw[ev1]
   dsimp only
   rw[pM hp1]
   have t1:tx 1 (Str.ofString (toString (1+c/10%9))):=wZ (i:=1+c/10%9) (by omega) (by omega)
   have t2:tx 1 (Str.ofString (toString (c/810%10))):=wZ (i:=c/810%10) (by omega) (by omega)
   have t3:=CD t2 n0 n64
   have l1:=t1.1
   have l2:=t2.1
   have l3:=t3.1
   have lg:=hg.1
   exact⟨uM (by omega),cR (by omega),uM (by omega),by omega,n0,n64,cR (by rw[str_len];omega),q _ (((hg.app t1).app t3).mono (by decide))⟩
  ·rw[if_neg y]
   exact⟨uM (by omega),q _ ((rL (by omega)).mono (by decide))⟩
noncomputable def uo (ps:List Str):Nat:=(ps.map (·.length)).sum+ps.length
theorem uj{a b:List Str}:uo (a++b)=uo a+uo b:=by
 unfold uo;rw[aF,List.sum_append,ay];omega
theorem rV{x:Str}{b:List Str}:uo (x::b)=x.length+1+uo b:=by
 unfold uo;rw[ax,bW,ag];omega
theorem wV{s:Nat}:∀{ps:List Str},ps≠ []->(nu s ps).length+1=uo ps
 | [],h=>absurd rfl h
 | [p],_=>by rw[rV];show p.length+1=_;unfold uo;simp
 |p::q::ps,_=>by
  have:=wV (s:=s) (ps:=q::ps) (by simp)
  rw[rV,←this]
  show((p++⟨#[s]⟩)++nu s (q::ps)).length+1=_
  rw[str_len,str_len,show(⟨#[s]⟩:Str).length=1 from rfl];omega
theorem zQ{u:Str}:uo (di 32 u)=u.length+1:=by
 rw[←wV (s:=32) pe,nv]
noncomputable def xN:List Str:=[Str.ofString "",Str.ofString "end",Str.ofString "if",Str.ofString "make",Str.ofString "tells",Str.ofString "A",Str.ofString "a1",Str.ofString "abcdefghi",Str.ofString "007",Str.ofString "-0",Str.ofString "+5",Str.ofString "10",Str.ofString "-1",Str.ofString "5.0",Str.ofString "_",Str.ofString "loop",Str.ofString "abcdefgh",Str.ofString "8",Str.ofString "again",Str.ofString "tell",Str.ofString "copy",Str.ofString "drop",Str.ofString "keep",Str.ofString "get",Str.ofString "set"]
noncomputable def v8:Str:=Str.ofString " !\"#$&'()*+,-./0123456789:;<=>?@ABCDEFGHIJKLMNOPQRSTUVWXYZ[\\]^_`abcdefghijklmnopqrstuvwxyz{|}~\t"
theorem CI{i:Int}:∃z,mD (xN.map V.str) (i%25)=some (.str z)/\tx 10 z:=by
 have hl:(xN.map V.str).length=25:=rfl
 obtain⟨v,e,m⟩:=kn (xs:=xN.map V.str) (i:=i%25) (by omega) (by omega)
 obtain⟨z,hz,rfl⟩:=List.mem_map.mp m
 have h:∀x∈xN,(decide (x.length<=10)&&x.cps.toList.all λc=>decide (c<128)&&decide (c≠10))=true:=by decide+kernel
 exact⟨z,e,hE (h z hz)⟩
theorem Dk{i:Int}:∃c,mD v8.cps.toList (i%95)=some c/\tx 1 ⟨#[c]⟩:=by
 have hl:v8.cps.toList.length=95:=by decide+kernel
 obtain⟨c,e,m⟩:=kn (xs:=v8.cps.toList) (i:=i%95) (by omega) (by omega)
 refine⟨c,e,ao 1,λd hd=> ?_⟩
 rw[List.mem_singleton.mp (show d∈ [c] from hd)]
 have h:∀c∈v8.cps.toList,c<128/\c≠10:=by decide+kernel
 exact h c m
noncomputable def DD (H:Hp) (v:V):Prop:=∃a,∃ts:List Str,v= .ref a/\H a=some (.lst (ts.map V.str))/\ts.length<=2/\∀t∈ts,tx 350 t
theorem l4{H:Hp}{a:Addr}{ts:List Str}(h:H a=some (.lst (ts.map V.str)))(h1:(decide (ts.length<=2)&&ts.all λz=>decide (z.length<=350)&&z.cps.toList.all λc=>decide (c<128)&&decide (c≠10))=true):DD H (.ref a):=by
 rw[aw,decide_eq_true_eq,List.all_eq_true]at h1
 exact⟨a,ts,rfl,h,h1.1,λt ht=>hE (h1.2 t ht)⟩
noncomputable def kD:Sp:=λvs H Q _=>∃z,∃c:Int,vs=[.str z,.int c]/\tx 300 z/\∀l H',∀ts:List Str,cq H H'->H l=none->H' l=some (.lst (ts.map V.str))->uo ts<=z.length+15->(∀t∈ts,tx 310 t)->ts.length<=2->Q (.ref l) H'
theorem dU:cX ["_law_word","_law_cell","_law_odd","_law_more","_law_signs","_law_at_here"] ["_law_word","_law_cell"] (cH i8):=fsc
theorem oh(T:Txt w K mg A):eg P w K mg base (kF P w) true 1 A.dH A.d6 ["_law_word","_law_cell"] kD:=by
 refine T.iF.o_ dU (λvs H Q E h=> ?_) (λcdv A' outer s H vs Q E hr hx h=> ?_)
 ·obtain⟨_,_,rfl,_⟩:=h
  rfl
 ·obtain⟨z,c,rfl,hz,q⟩:=h
  refine dF (B:=λt=>t _ _ _) (cc (cz (i:=2) dU.nd rfl lo (cE (jK (by rfl))))
   (cc (cz (i:=2) dU.nd rfl lo (cm dW (cj 2) (cE (jK (by rfl)))))
   (cc (cz (i:=3) dU.nd rfl lo (cm c7 (cj 1) cf))
   (cc (cK (cA fG (cm cP (cj 1) cf) cf (cM _)) (ck (cF (cE (cb (cj 0) (cb (cU dh (cj 2) (cm cP (cj 3) cf) (λ_ _=>rfl)) b_))))) cD)
   (cc (cK (cA fG (cm cP (cj 1) cf) cf (cM _)) (ck (cF (cE b_))) cD)
   (cc (cK (cA fG (cm cP (cj 1) cf) cf (cM _)) (ck (cF (cE (cb (cU dh (cj 2) (cm cP (cj 3) cf) (λ_ _=>rfl)) b_)))) cD)
   (cc (cz (i:=4) dU.nd rfl lo cw)
   (cc (cz (i:=5) dU.nd rfl lo (cm cP (cj 3) (cm cY (cG ly (by rfl) T.fT PyProof.Rows.Boot.«len» (cb (cj 0) b_)) cf)))
   (ck (cF (cE (cb (cm cY (cm cY (cQ iV (cj 0) cT (cZ (cj 5))) (cU qL (cj 4) (cm cP (cm c7 (cj 3) cf) (cG ly (by rfl) T.fT PyProof.Rows.Boot.«len» (cb (cj 4) b_))) (λ_ _=>rfl))) (cQ iV (cj 0) (cZ (cj 5)) cT)) b_)))))))))))) ?_
  show gh _ _ _ [some (V.str z),some (V.int c),none,none,none,none] H
  refine cu (λσ' H'=>cq H H'/\∃b,H' b=some (.lst ((xN.take 16).map V.str))/\σ'=[some (V.str z),some (V.int c),some (V.ref b),none,none,none]) (λR hR=> ?_) ?_
  ·simp only[eY,c5,cJ,Int.reduceAdd,ag,ak,aj,ai,true_and,Nat.reduceAdd,FO,sx]
   exact λb hb=>hR _ _ ⟨cq.upd hb,b,cg,rfl⟩
  rintro _ H1 ⟨s1,b1,hb1,rfl⟩
  refine cu (λσ' H'=>cq H1 H'/\∃b,H' b=some (.lst (xN.map V.str))/\σ'=[some (V.str z),some (V.int c),some (V.ref b),none,none,none]) (λR hR=> ?_) ?_
  ·simp only[dD,cI,eY,c5,cJ,Int.reduceAdd,cg,lL,ag,ak,aa,ae,aj,ai,true_and,Nat.reduceAdd,FZ,sx]
   intro p hp
   have a0:=cq.upd (o:= .lst [V.str (Str.ofString "abcdefgh"),V.str (Str.ofString "8"),V.str (Str.ofString "again"),V.str (Str.ofString "tell"),V.str (Str.ofString "copy"),V.str (Str.ofString "drop"),V.str (Str.ofString "keep"),V.str (Str.ofString "get"),V.str (Str.ofString "set")]) hp
   rw[a0 _ _ hb1]
   dsimp only
   exact⟨cR (by rw[ah];show 16+9<=_;omega),λp2 hp2=>hR _ _ ⟨a0.trans (cq.upd hp2),p2,cg,rfl⟩⟩
  rintro _ H2 ⟨s2,b,hb,rfl⟩
  refine cu (λσ' H'=>H2=H'/\∃o,σ'=[some (V.str z),some (V.int c),some (V.ref b),some (V.int o),none,none]) (λR hR=> ?_) ?_
  ·simp only[dD,tC,cI,c5,cJ,g_,la,Int.reduceLT,Nat.reduceLT,aa,ae,aj,ai,and_true,true_and]
   exact hR _ _ ⟨rfl,_,rfl⟩
  rintro _ _ ⟨rfl,o,rfl⟩
  obtain⟨zo,eo,ho⟩:=CI (i:=o)
  have hz0:=hz.1
  have ho0:=ho.1
  have s12:=s1.trans s2
  refine cu (λσ' H'=>H2=H'/\σ'=[some (V.str z),some (V.int c),some (V.ref b),some (V.int o),none,none]) (λR hR=> ?_) ?_
  ·simp only[dj,cW,dA,cV,dD,cB,cL,tC,cI,eY,gj,sd,eqv,oI,Int.reduceLT,Nat.reduceLT,Int.reduceAdd,ag,ak,aa,ae,true_and,decide_eq_true_eq,Nat.reduceAdd,x_,↓cS,hb,eo]
   by_cases y:c%4=0
   ·rw[if_pos y]
    exact λp hp=>q p _ [z,zo] (s12.trans (cq.upd hp)) (same_none s12 hp) cg (by unfold uo;simp;omega) (by simp;exact⟨hz.mono (by decide),ho.mono (by decide)⟩) (by simp)
   ·rw[if_neg y];exact hR _ _ ⟨rfl,rfl⟩
  rintro _ _ ⟨rfl,rfl⟩
  refine cu (λσ' H'=>H2=H'/\σ'=[some (V.str z),some (V.int c),some (V.ref b),some (V.int o),none,none]) (λR hR=> ?_) ?_
  ·simp only[dj,cW,dA,cV,dD,cL,tC,cI,eY,gj,sd,eqv,Int.reduceLT,Nat.reduceLT,ak,aa,ae,true_and,decide_eq_true_eq,v9,↓cS]
   by_cases y:c%4=1
   ·rw[if_pos y]
    exact λp hp=>q p _ [] (s12.trans (cq.upd hp)) (same_none s12 hp) cg (by unfold uo;simp) (by simp) (by simp)
   ·rw[if_neg y];exact hR _ _ ⟨rfl,rfl⟩
  rintro _ _ ⟨rfl,rfl⟩
  refine cu (λσ' H'=>H2=H'/\σ'=[some (V.str z),some (V.int c),some (V.ref b),some (V.int o),none,none]) (λR hR=> ?_) ?_
  ·simp only[dj,cW,dA,cV,dD,cB,cL,tC,cI,eY,gj,sd,eqv,oI,Int.reduceLT,Nat.reduceLT,Int.reduceAdd,ag,ak,aa,ae,true_and,decide_eq_true_eq,Nat.reduceAdd,ou,↓cS,hb,eo]
   by_cases y:c%4=2
   ·rw[if_pos y]
    exact λp hp=>q p _ [zo] (s12.trans (cq.upd hp)) (same_none s12 hp) cg (by unfold uo;simp;omega) (by simp;exact ho.mono (by decide)) (by simp)
   ·rw[if_neg y];exact hR _ _ ⟨rfl,rfl⟩
  rintro _ _ ⟨rfl,rfl⟩
  refine cu (λσ' H'=>H2=H'/\σ'=[some (V.str z),some (V.int c),some (V.ref b),some (V.int o),some (V.str v8),none]) (λR hR=> ?_) ?_
  ·simp only[tC,c5,cJ,aj,ai]
   exact hR _ _ ⟨rfl,rfl⟩
  rintro _ _ ⟨rfl,rfl⟩
  refine cu (λσ' H'=>H2=H'/\∃a:Nat,σ'=[some (V.str z),some (V.int c),some (V.ref b),some (V.int o),some (V.str v8),some (V.int a)]) (λR hR=> ?_) ?_
  ·simp only[dD,ja,cB,cL,tC,cI,c5,cJ,jP,gj,aa,ae,aj,ai,oJ]
   have h1:=bG o (show((z.length:Int)+1)≠0 by omega)
   exact⟨cR (by omega),by omega,hR _ _ ⟨rfl,(o%((z.length:Int)+1)).toNat,by rw[show(((o%((z.length:Int)+1)).toNat:Nat):Int)=o%((z.length:Int)+1) by omega]⟩⟩
  rintro _ _ ⟨rfl,a,rfl⟩
  obtain⟨d,ed,hd⟩:=Dk (i:=o/9)
  simp only[dj,dD,ja,cB,cL,tC,cI,eY,jP,g_,gj,la,Int.reduceLT,Nat.reduceLT,Int.cast_ofNat_Int,Int.reduceAdd,iO,eK,uh,ag,ak,aa,ae,and_true,true_and,Nat.reduceAdd,ou,vp,tH,oJ,ed,show v8.length=95 by decide+kernel]
  obtain⟨h1,h2,h3⟩:=zI (k:=a) hz
  have hi:=yP (k:=a) hz hd
  have l1:=h1.1
  have l2:=h2.1
  have ld:(⟨#[d]⟩:Str).length=1:=rfl
  refine⟨cR (by omega),cR (by omega),cR (by omega),cR (by omega),cR (by omega),cR (by rw[str_len];omega),λp hp=>q p _ [_] (s12.trans (cq.upd hp)) (same_none s12 hp) cg ?_ ?_ (by simp)⟩
  ·have:=hi.1
   unfold uo
   rw[str_len,str_len]at this
   simp[str_len];omega
  ·intro t ht
   rw[List.mem_singleton.mp ht];exact hi.mono (by decide)
noncomputable def mn:Sp:=λvs H Q _=>∃z,vs=[.str z]/\asc z/\z.length<=700/\∀H',cq H H'->Q (.bl (rJ z)) H'
theorem jU:cX ["_law_word","_law_strange","_law_own"] ["_law_word"] (cH i7):=fsc
theorem qA(T:Txt w K mg A):eg P w K mg base (kF P w) true 1 A.eU A.fP ["_law_word"] mn:=by
 refine T.jQ.o_ jU (λvs H Q E h=> ?_) (λcdv A' outer s H vs Q E hr hx h=> ?_)
 ·obtain⟨_,rfl,_⟩:=h
  rfl
 ·obtain⟨z,rfl,h⟩:=h
  obtain⟨q,az,lz⟩:=BQ h
  refine dF (B:=λt=>t _ _ _) (cc (tT (i:=1) (fsc:=cH i7) (N2:=[]) (js:=[]) jU.nd rfl lo ⟨rfl,rfl,by decide+kernel,by decide+kernel,by decide+kernel,by decide+kernel,by decide+kernel,by decide+kernel,by decide+kernel⟩ rfl rfl (by rfl) (oY (cj 0)) (λ_ _ _ _=>(iH (cA rA (cj 0) cw (by with_unfolding_all rfl)))) (λ_ _ _ _=>(cj 0)))
   (cc (cz (i:=2) jU.nd rfl lo (cE (jK (by rfl))))
   (ck (cF (iW (vH ku ku cf (cG ly (by rfl) T.fT PyProof.Rows.Boot.«len» (cb (cj 0) b_)) cf) (iW (de (fq (ox hr)) (cj 1) (cE b_) (cM _)) (gK (de n_ (cj 0) (cj 2) (by with_unfolding_all rfl))))))))) ?_
  show gh _ _ _ [some (V.str z),none,none] H
  refine cu (λσ' H'=>cq H H'/\∃a,H' a=some (.lst ((z.cps.toList.filter λc=> !low c).map λc=>V.str ⟨#[c]⟩))/\σ'=[some (V.str z),some (V.ref a),none]) (λR hR=> ?_) ?_
  ·simp only[cI,c5,cJ,jO,je,aJ,aa,aj,ai,xt]
   refine⟨az.all,Bq (λc=> !low c) (by omega) (λc hc K' hK=> ?_) (λc K' hK=> ?_) λa ha=> ?_⟩
   ·simp only[cV,dD,tC,cI,aa,By,qH,↓cS]
    have:=w5 (az c hc)
    unfold lets at this
    rw[show(Str.ofString "abcdefghijklmnopqrstuvwxyz").length=26 by decide+kernel]at this
    rw[this];exact hK
   ·simp only[cI,aa]
    exact hK
   ·exact hR _ _ ⟨cq.upd ha,a,cg,rfl⟩
  rintro _ H1 ⟨s1,a,ha,rfl⟩
  refine cu (λσ' H'=>cq H1 H'/\∃b,H' b=some (.lst (ws.map V.str))/\σ'=[some (V.str z),some (V.ref a),some (V.ref b)]) (λR hR=> ?_) ?_
  ·simp only[eY,c5,cJ,Int.reduceAdd,ag,ak,aj,ai,true_and,Nat.reduceAdd,zL,sx]
   exact λb hb=>hR _ _ ⟨cq.upd hb,b,cg,rfl⟩
  rintro _ H2 ⟨s2,b,hb,rfl⟩
  simp only[dj,dD,m_,ja,cB,cL,tC,cI,eY,Bm,lh,eqv,mh,↓reduceIte,cg,mz,ux,ak,aa,ae,true_and,aN,decide_eq_true_eq,v9,oG,oJ,↓cS,s2 _ _ ha]
  have nm:rJ z=(decide (z∉ws)&&(decide (1<=z.length)&&decide (z.length<=8))&&z.cps.toList.all low):=rfl
  refine⟨cR (by omega),?_⟩
  by_cases y1:1<=z.length
  ·rw[if_pos (by omega)]
   by_cases y2:z.length<=8
   ·rw[if_pos (by omega)]
    intro p hp
    have sp:=cq.upd (o:= .lst []) hp
    rw[sp _ _ (s2 _ _ ha),sp _ _ hb]
    dsimp only
    have sA:=(s1.trans s2).trans sp
    cases e:z.cps.toList.filter λc=> !low c with
    |nil=>
     have:z.cps.toList.all low=true:=by
      rw[List.all_eq_true]
      intro c hc
      cases y:low c with
      |true=>rfl
      |false=>exact absurd (show c∈z.cps.toList.filter λc=> !low c from List.mem_filter.mpr ⟨hc,by rw[y];rfl⟩) (by rw[e];exact λh=>nomatch h)
     rw[this,decide_eq_true y1,decide_eq_true y2,show(true&&true)=true from rfl,Bool.and_true,Bool.and_true]at nm
     rw[lV,←decide_not,←nm]
     exact⟨rfl,mC,q _ sA⟩
    |cons c cs=>
     have:z.cps.toList.all low=false:=by
      have hm:c∈z.cps.toList.filter λc=> !low c:=by rw[e];exact aA
      obtain⟨m1,m2⟩:=List.mem_filter.mp hm
      exact List.all_eq_false.mpr ⟨c,m1,by simpa using m2⟩
     rw[this,Bool.and_false]at nm
     rw[nm]at q
     exact q _ sA
   ·rw[if_neg (by omega)]
    rw[decide_eq_false y2,Bool.and_false,Bool.and_false,Bool.false_and]at nm
    rw[nm]at q
    exact q _ (s1.trans s2)
  ·rw[if_neg (by omega)]
   rw[decide_eq_false y1,Bool.false_and,Bool.and_false,Bool.false_and]at nm
   rw[nm]at q
   exact q _ (s1.trans s2)
noncomputable def fz:Sp:=λvs H Q _=>∃z,vs=[.str z]/\asc z/\z.length<=700/\∀H',cq H H'->Q (.bl (wr z)) H'
theorem k6:cX ["_law_word","_law_figures"] ["_law_word"] (cH g0):=fsc
theorem i4(T:Txt w K mg A):eg P w K mg base (kF P w) true 1 A.dS A.eP ["_law_word"] fz:=by
 refine T.fj.o_ k6 (λvs H Q E h=> ?_) (λcdv A' outer s H vs Q E hr hx h=> ?_)
 ·obtain⟨_,rfl,_⟩:=h
  rfl
 ·obtain⟨z,rfl,h⟩:=h
  obtain⟨q,az,lz⟩:=BQ h
  refine dF (B:=λt=>t _ _ _) (cc (cz (i:=1) k6.nd rfl lo (cQ iV (cj 0) (cZ (c_ oV (by rfl) T.qk PyProof.Rows.Boot.«int» (cb (de (fq (ox hr)) (cQ iV (cj 0) cT (cZ cf)) cw (cM _)) b_))) cT))
   (cc (cK (fo (ik (dw (lX ku ku cf (cG ly (by rfl) T.fT PyProof.Rows.Boot.«len» (cb (cj 1) b_)) cf)) (hZ (cA (gY (ox hr)) (fg (fsc:=cH g0) (N2:=[]) (js:=[]) ⟨rfl,rfl,by decide+kernel,by decide+kernel,by decide+kernel,by decide+kernel,by decide+kernel,by decide+kernel,by decide+kernel⟩ rfl rfl (by rfl) (oY (cj 1)) (λ_ _ _ _=>(iH (cA rA (cj 0) cw (by with_unfolding_all rfl)))) (λ_ _ _ _=>(cj 0))) (cE b_) (cM _))))) (ck (cF e_)) cD)
   (ck (cF (qM (de (gY (ox hr)) (cU qL (cj 1) cf (λ_ _=>rfl)) cw (cM _)) (gK (de (fq (ox hr)) (cj 0) cw (cM _)))))))) ?_
  show gh _ _ _ [some (V.str z),none] H
  refine cu (λσ' H'=>H=H'/\∃f,asc f/\f.length<=700/\x5 z.cps.toList=pZ f.cps.toList/\(z=Str.ofString "0"->f=z)/\σ'=[some (V.str z),some (V.str f)]) (λR hR=> ?_) ?_
  ·have e1:StrLaws.sliceText z none (some 1)=pI (z.cps.toList.take 1):=sZ (i:=1)
   simp only[dD,ja,cB,cL,tC,cI,c5,cJ,eqv,mz,iO,eK,uh,aa,aj,ai,decide_eq_true_eq,tH,sM,e1]
   rw[show Str.ofString "-"=pI [45] by decide+kernel]
   have e2:StrLaws.sliceText z (some 1) none=pI (z.cps.toList.drop 1):=qR (i:=1)
   have e3:StrLaws.sliceText z (some 0) none=pI (z.cps.toList.drop 0):=qR (i:=0)
   refine⟨cR (show(z.cps.toList.take 1).length<=40000 by rw[aH];omega),?_⟩
   have no:(∀r,z.cps.toList≠45::r)->pI (z.cps.toList.take 1)≠pI [45]:=λh y=>by
    have y:=congrArg (λs:Str=>s.cps.toList) y
    cases e:z.cps.toList with
    |nil=>rw[e]at y;cases y
    |cons c r=>
     rw[e]at y
     injection y with y
     exact h r (by rw[e,y])
   by_cases y:∃r,z.cps.toList=45::r
   ·obtain⟨r,e⟩:=y
    have hr1:r.length+1<=700:=by rw[dz,e]at lz;exact lz
    rw[if_pos (by rw[e];rfl),e2,e]
    refine⟨cR (show r.length<=40000 by omega),hR _ _ ⟨rfl,pI r,λc hc=>az c (by rw[e];exact aD _ hc),(show r.length<=700 by omega),by rw[e];rfl,λh=> ?_,rfl⟩⟩
    rw[h]at e
    exact absurd e (by rw[show(Str.ofString "0").cps.toList=[48] by decide+kernel];exact λn=>by injection n with n;cases n)
   ·have hno:∀r,z.cps.toList≠45::r:=λr e=>y ⟨r,e⟩
    rw[if_neg (no hno),e3,List.drop_zero,wW]
    refine⟨cR (by omega),hR _ _ ⟨rfl,z,az,lz,?_,λ_=>rfl,rfl⟩⟩
    cases e:z.cps.toList with
    |nil=>rfl
    |cons c r=>
     unfold x5;split
     ·rename_i q' hq;injection hq with h1;exact absurd (by rw[e,h1]) (hno r)
     ·rfl
  rintro _ _ ⟨rfl,f,af,lf,ef,e0,rfl⟩
  have z48:(Str.ofString "0").cps.toList=[48]:=by decide+kernel
  have ew:wr z=(decide (z=Str.ofString "0") ||pZ f.cps.toList):=by unfold wr;rw[ef]
  have no:z≠Str.ofString "0"->pZ f.cps.toList=false->∀H',cq H H'->Q (V.bl false) H':=λh1 h2 H' s'=>by
   rw[h2,decide_eq_false h1]at ew
   have:=q H' s'
   rw[ew]at this;exact this
  refine cu (λσ' H'=>cq H H'/\f.length<=60/\f.cps.toList≠ []/\f.cps.toList.all dig=true/\σ'=[some (V.str z),some (V.str f)]) (λR hR=> ?_) ?_
  ·simp only[dj,cW,dA,cV,dD,ya,jy,ja,cB,cL,tC,cI,eY,Bm,lh,eqv,mh,↓reduceIte,aG,Bool.not_false,jO,je,oK,q8,decide_eq_false_iff_not,aJ,ak,aa,ae,true_and,decide_eq_true_eq,v9,xt,oJ,↓cS]
   refine⟨cR (by omega),?_⟩
   by_cases y1:1<=f.length
   ·rw[if_pos (by omega)]
    by_cases y2:f.length<=60
    ·rw[if_neg (by omega)]
     have fn:f.cps.toList≠ []:=λn=>by rw[dz,n]at y1;exact absurd y1 (by decide)
     refine⟨af.all,Bq (λc=> !dig c) (by omega) (λc hc K' hK=> ?_) (λc K' hK=> ?_) λa ha p hp=> ?_⟩
     ·simp only[cV,dD,tC,cI,aa,Bx,qH,↓cS]
      have:=w4 (af c hc)
      unfold Az at this
      rw[show(Str.ofString "0123456789").length=10 by decide+kernel]at this
      rw[this];exact hK
     ·simp only[cI,aa]
      exact hK
     have sp:=cq.upd (o:= .lst []) hp
     have sA:=(cq.upd (o:= .lst ((f.cps.toList.filter λc=> !dig c).map λc=>V.str ⟨#[c]⟩)) ha).trans sp
     dsimp only
     rw[sp _ _ cg,cg]
     dsimp only
     cases e:f.cps.toList.filter λc=> !dig c with
     |nil=>
      rw[e]at sA
      refine hR _ _ ⟨sA,y2,fn,?_,rfl⟩
      rw[List.all_eq_true]
      intro c hc
      cases y:dig c with
      |true=>rfl
      |false=>exact absurd (show c∈f.cps.toList.filter λc=> !dig c from List.mem_filter.mpr ⟨hc,by rw[y];rfl⟩) (by rw[e];exact λh=>nomatch h)
     |cons c cs=>
      have hm:c∈f.cps.toList.filter λc=> !dig c:=by rw[e];exact aA
      obtain⟨m1,m2⟩:=List.mem_filter.mp hm
      have hd:f.cps.toList.all dig=false:=List.all_eq_false.mpr ⟨c,m1,by simpa using m2⟩
      rw[e]at sA
      refine no (λy=> ?_) ?_ _ sA
      ·rw[e0 y,y,z48]at hd;cases hd
      ·unfold pZ;rw[hd,Bool.and_false]
    ·rw[if_pos (by omega)]
     refine no (λy=> ?_) ?_ _ (cq.refl _)
     ·rw[e0 y,y,dz,z48]at y2;exact y2 (by decide)
     ·unfold pZ;rw[decide_eq_false (show¬f.cps.toList.length<=60 from y2)];rfl
   ·rw[if_neg (by omega)]
    refine no (λy=> ?_) ?_ _ (cq.refl _)
    ·rw[e0 y,y,dz,z48]at y1;exact y1 (by decide)
    ·cases e:f.cps.toList with
     |nil=>rfl
     |cons c r=>rw[dz,e,ag]at y1;omega
  rintro _ H1 ⟨s1,f60,fn,fd,rfl⟩
  simp only[dj,dD,wa,tC,cI,eqv,aG,mz,oK,km,decide_eq_false_iff_not,aa,ae,vp,↓cS]
  cases e:f.cps.toList with
  |nil=>exact absurd e fn
  |cons c r=>
   rw[aa]
   refine⟨cR (by omega),?_⟩
   by_cases y:c=48
   ·rw[if_neg (λn=>n (by rw[y];decide+kernel))]
    have:pZ f.cps.toList=false:=by unfold pZ;rw[e,y,show decide ((48::r).head? ≠some 48)=false from decide_eq_false (λn=>n rfl),Bool.and_false,Bool.false_and]
    rw[ew,this,Bool.or_false]at q
    exact q _ s1
   ·rw[if_pos (λn=>y (by have:=congrArg (λs:Str=>s.cps.toList) n;rw[z48]at this;injection this))]
    have:pZ f.cps.toList=true:=by
     unfold pZ
     rw[decide_eq_true (show f.cps.toList.length<=60 from f60),fd,e,show decide ((c::r).head? ≠some 48)=true from decide_eq_true (λn=>y (by injection n))];rfl
    rw[ew,this,Bool.or_true]at q
    exact q _ s1
noncomputable def nU:Sp:=λvs H Q _=>∃a,∃ts:List Str,vs=[.ref a]/\H a=some (.lst (ts.map V.str))/\(∀t∈ts,asc t/\t.length<=700)/\ts.length<=800/\
 (if ts.all wr=true then∀l H',cq H H'->H l=none->H' l=some (.lst ((ts.map vl).map V.int))->Q (.ref l) H' else∀H',cq H H'->Q .gm H')
theorem sr:cX ["texts"] ["texts"] (cH i9):=fsc
theorem sk(T:Txt w K mg A):eg P w K mg base (kF P w) true 2 A.f9 A.gU ["texts"] nU:=by
 refine T.lp.o_ sr (λvs H Q E h=> ?_) (λcdv A' outer s H vs Q E hr hx h=> ?_)
 ·obtain⟨_,_,rfl,_⟩:=h
  rfl
 ·obtain⟨a,ts,rfl,h⟩:=h
  obtain⟨q,ea,ha,hl⟩:=BR h
  refine dF (B:=λt=>t _ _ _) (cc (cK (dw (c9 (cG (tR (by rfl)) (by rfl) T.sX PyProof.Rows.Boot.«all» (cb (fg (fsc:=cH i9) (N2:=[]) (js:=[]) ⟨rfl,rfl,by decide+kernel,by decide+kernel,by decide+kernel,by decide+kernel,by decide+kernel,by decide+kernel,by decide+kernel⟩ rfl rfl (by rfl) (eT (cj 0)) (λ_ _ _ _=>gL) (λ_ _ _ _=>(cx ((sj T).mono (by decide)) hr rfl T.j0 T.ll.kp T.oD kL (cb (cj 0) b_)))) b_)) (λ_=>rfl))) (ck (cF iX)) cD)
   (ck (cF (fg (fsc:=cH i9) (N2:=[]) (js:=[]) ⟨rfl,rfl,by decide+kernel,by decide+kernel,by decide+kernel,by decide+kernel,by decide+kernel,by decide+kernel,by decide+kernel⟩ rfl rfl (by rfl) (eT (cj 0)) (λ_ _ _ _=>gL) (λ_ _ _ _=>(c_ oV (by rfl) T.qk PyProof.Rows.Boot.«int» (cb (cj 0) b_))))))) ?_
  show gh _ _ _ [some (V.ref a)] H
  refine cu (λσ' H'=>cq H H'/\ts.all wr=true/\σ'=[some (V.ref a)]) (λR hR=> ?_) ?_
  ·simp only[dj,cW,dA,jy,ja,cB,cL,tC,cI,dR,jd,aG,jO,je,xk,kQ,aJ,aa,V.int.injEq,V.bl.injEq,V.str.injEq,V.ref.injEq,V.ty.injEq,aq,ar,exists_eq_left',exists_eq_left]
   have eb:∀l:List Bool,bools (l.map V.bl)=some l:=λl=>by
    induction l with
    |nil=>rfl
    |cons c l ih=>rw[ax];show(bools _).map _=_;rw[ih];rfl
   refine⟨⟨_,fb.of ea⟩,qh (xs:=ts.map V.str) (λi ys H'=>cq H H'/\i<=ts.length/\ys=((ts.take i).map wr).map V.bl) ⟨cq.refl _,aO _,rfl⟩ (λi ys H' h=>fb.of (h.1 _ _ ea)) (big (by rw[ah];omega)) (λi ys H' h=>by rw[h.2.2,ah,ah,aH];omega) ?_ ?_⟩
   ·rintro i v ys H1 hv ⟨s1,hi,rfl⟩ K1 hK
    rw[aS]at hv
    obtain⟨t,ht,rfl⟩:=Option.map_eq_some_iff.mp hv
    have hit:i<ts.length:=(List.getElem?_eq_some_iff.mp ht).1
    have:=ha t (aZ ht)
    simp only[cB,cL,cI,cN,↓reduceIte,ui,aa,V.int.injEq,V.bl.injEq,V.str.injEq,V.ref.injEq,V.ty.injEq,aq,ar,and_true,exists_eq_left',nS]
    exact⟨this.1,this.2,λH' s'=>hK _ _ ⟨s1.trans s',by omega,by rw[a_,ht,aF,aF];rfl⟩⟩
   ·rintro ys H1 ⟨s1,_,rfl⟩ l hl'
    rw[ah,bb]
    dsimp only
    rw[cg]
    dsimp only
    rw[eb]
    dsimp only
    have e:(ts.map wr).all id=ts.all wr:=by rw[List.all_map];rfl
    rw[e]
    cases hw:ts.all wr with
    |true=>
     rw[if_neg (λn=>by cases n)]
     exact hR _ _ ⟨s1.trans (cq.upd hl'),hw,rfl⟩
    |false=>
     rw[if_pos rfl]
     rw[hw,if_neg (λn=>by cases n)]at q
     exact q _ (s1.trans (cq.upd hl'))
  rintro _ H1 ⟨s1,hw,rfl⟩
  rw[if_pos hw]at q
  simp only[dj,cI,dR,jO,je,kQ,aJ,aa,V.int.injEq,V.bl.injEq,V.str.injEq,V.ref.injEq,V.ty.injEq,aq,ar,exists_eq_left']
  refine⟨⟨_,fb.of (s1 _ _ ea)⟩,qh (xs:=ts.map V.str) (λi ys H'=>H1=H'/\i<=ts.length/\ys=((ts.take i).map vl).map V.int) ⟨rfl,aO _,rfl⟩ (λi ys H' h=>by rw[←h.1];exact fb.of (s1 _ _ ea)) (big (by rw[ah];omega)) (λi ys H' h=>by rw[h.2.2,ah,ah,aH];omega) ?_ ?_⟩
  ·rintro i v ys _ hv ⟨rfl,hi,rfl⟩ K1 hK
   rw[aS]at hv
   obtain⟨t,ht,rfl⟩:=Option.map_eq_some_iff.mp hv
   have hit:i<ts.length:=(List.getElem?_eq_some_iff.mp ht).1
   have hwt:=zU (List.all_eq_true.mp hw t (aZ ht))
   simp only[ja,cB,cL,cI,↓reduceIte,ui,aa,sM]
   exact⟨_,hwt.1,hwt.2,hK _ _ ⟨rfl,by omega,by rw[a_,ht,aF,aF];rfl⟩⟩
  ·rintro ys _ ⟨rfl,_,rfl⟩ l hl'
   rw[ah,bb]
   exact q _ _ (s1.trans (cq.upd hl')) (same_none s1 hl') cg
noncomputable def pS (A:Ad):Sp:=λvs H Q E=>∃b t x us,∃rs:List Addr,vs=[.ref b,.ref t]/\H b=some (.lst (rs.map V.ref))/\rs.length<=1000/\H t=some (.tup (.str x::us))/\
 (x=eS->rs≠ []/\(rs.length=1->∀H',Sb [b] H H'->E (.ref A.cy) none H')/\(2<=rs.length->∀H',Sb [b] H H'->H' b=some (.lst (rs.dropLast.map V.ref))->Q .gm H'))/\
 (x≠eS->∃l rs' ys,rs=rs'++[l]/\H l=some (.lst ys)/\ys.length<=1000/\b≠l/\
  (ql x=false->∀H',cq (upd H l (.lst (ys++[.ref t]))) H'->Q .gm H')/\
  (ql x=true->∃v1 a,us=[v1,.ref a]/\(rs.length<=3->∀H',Sb [b] (upd H l (.lst (ys++[.ref t]))) H'->H' b=some (.lst ((rs++[a]).map V.ref))->Q .gm H')/\(3<rs.length->∀H',Sb [b,l] H H'->E (.ref A.cy) none H')))
theorem pQ:cX ["blocks","statement"] ["blocks","statement"] (cH jT):=fsc
theorem pK(T:Txt w K mg A):eg P w K mg base (kF P w) true 2 A.d7 A.fc ["blocks","statement"] (pS A):=by
 refine T.jr.o_ pQ (λvs H Q E h=> ?_) (λcdv A' outer s H vs Q E hr hx h=> ?_)
 ·obtain⟨_,_,_,_,_,rfl,_⟩:=h
  rfl
 ·obtain⟨b,t,x,us,rs,rfl,h⟩:=h
  obtain⟨q2,hb,hrs,ht,q1⟩:=E2 h
  refine dF (B:=λt=>t _ _ _) (cc (cK (cA (fq (ox hr)) (cU dh (cj 1) cf (λ_ _=>rfl)) cw (cM _)) (cc (fS (tS PySem.F.slot_list_pop PySem.F.type_list_pop wU (cj 0)))
   (cc (cK (cA (fq (ox hr)) (cj 0) (cE b_) (cM _)) (ck (fu hx rfl T.dv T.dP rfl (cb cw b_))) cD)
   (ck xF))) cD)
   (cc (fS (n9 bN bO kr (cU dh (cj 0) (AL AI cf) (λ_ _=>rfl)) (cb (cj 1) b_)))
   (ck (cK (c9 (cx ((mU T).mono (by decide)) hr rfl T.jt T.jI.kp T.lJ hx (cb (cj 1) b_)) (λ_=>rfl)) (cc (fS (n9 bN bO kr (cj 0) (cb (cU dh (cj 1) cf (λ_ _=>rfl)) b_)))
   (ck (cK (cA mP (cm oX (cG fM (by rfl) T.fT PyProof.Rows.Boot.«len» (cb (cj 0) b_)) cf) (dq T.k_) (cM _)) (ck (fu hx rfl T.dv T.dP rfl (cb cw b_))) cD))) cD)))) ?_
  show gh _ _ _ [some (V.ref b),some (V.ref t)] H
  refine cu (λσ' H'=>H=H'/\x≠eS/\σ'=[some (V.ref b),some (V.ref t)]) (λR hR=> ?_) ?_
  ·by_cases y:x=eS
   ·obtain⟨hn,e,q⟩:=q1 y
    refine vD (λK0 hK=> ?_) ?_
    ·simp only[cV,dD,tC,cI,eqv,oI,mz,km,aa,ae,↓cS,ht]
     unfold eS at y
     rw[decide_eq_true y]
     exact hK
    obtain⟨rs',l,rfl⟩:∃rs' l,rs=rs'++[l]:=⟨rs.dropLast,rs.getLast hn,(List.dropLast_concat_getLast hn).symm⟩
    have em:(rs'++[l]).map V.ref=rs'.map V.ref++[V.ref l]:=by rw[aF];rfl
    rw[List.dropLast_concat,ay,bJ]at*
    rw[em]at hb
    simp only[zN,cW,lF,gh,dA,cV,dD,cB,cL,tC,cI,eY,gA,eqv,Int.reduceAdd,↓reduceIte,cg,mz,ux,vo,ag,ak,aa,true_and,aN,Nat.reduceAdd,v9,ou,xl,↓cS,hb]
    rw[ay,show(rs'.map V.ref).length+[V.ref l].length-1=(rs'.map V.ref).length from rfl,List.getElem?_concat_length,List.dropLast_concat]
    dsimp only
    intro p hp
    have pb:b≠p:=λz=>by rw[←z,cg]at hp;cases hp
    have sb:Sb [b] H (upd (upd H b (.lst (rs'.map V.ref))) p (.lst [])):=(Sb.upd (by simp)).trans (Sb.of (cq.upd hp))
    rw[cO pb,cg]
    dsimp only
    cases rs' with
    |nil=>exact e rfl _ sb
    |cons a rs'=>exact q (by simp) _ sb (by rw[cO pb,cg])
   ·refine yO (λK0 hK=> ?_) ?_
    ·simp only[cV,dD,tC,cI,eqv,oI,mz,km,aa,ae,↓cS,ht]
     unfold eS at y
     rw[decide_eq_false y]
     exact hK
    exact hR _ _ ⟨rfl,y,rfl⟩
  rintro _ _ ⟨rfl,y,rfl⟩
  obtain⟨l,rs',ys,rfl,hl,hy,nb,qa,qb⟩:=q2 y
  have ea:mD ((rs'++[l]).map V.ref) (-1)=some (V.ref l):=by
   have:((rs'++[l]).map V.ref)=rs'.map V.ref++[V.ref l]:=by rw[aF];rfl
   rw[this];exact uu
  refine cu (λσ' H'=>upd H l (.lst (ys++[.ref t]))=H'/\σ'=[some (V.ref b),some (V.ref t)]) (λR hR=> ?_) ?_
  ·simp only[lF,dD,FR,cB,cL,tC,cI,An,oI,Int.reduceNeg,kK,vo,aa,ae,hb,ea,hl]
   exact⟨bq hy (by decide),hR _ _ ⟨rfl,rfl⟩⟩
  rintro _ _ ⟨rfl,rfl⟩
  have ht1:upd H l (.lst (ys++[.ref t])) t=some (.tup (.str x::us)):=(cO λz=>by rw[z,hl]at ht;cases ht).trans ht
  have hb1:upd H l (.lst (ys++[.ref t])) b=some (.lst ((rs'++[l]).map V.ref)):=(cO nb).trans hb
  have sbl:Sb [b,l] H (upd H l (.lst (ys++[.ref t]))):=Sb.upd (by simp)
  generalize upd H l (.lst (ys++[.ref t]))=H1 at*
  simp only[cW,lF,gh,dA,cV,dD,ja,cB,cL,tC,cI,cN,gA,uy,Ak,lh,oI,lM,jd,Int.reduceAdd,cg,kK,vo,yg,ag,ak,aa,ae,V.int.injEq,V.bl.injEq,V.str.injEq,V.ref.injEq,V.ty.injEq,aq,ar,and_true,true_and,exists_eq_left',exists_and_left,exists_eq_left,decide_eq_true_eq,Nat.reduceAdd,ou,↓cS,k7]
  refine⟨_,_,ht1,λH' s'=> ?_⟩
  cases yo:ql x with
  |false=>
   rw[if_neg (λn=>by cases n)]
   exact qa yo _ s'
  |true=>
   rw[if_pos rfl]
   obtain⟨v1,a,rfl,q,e⟩:=qb yo
   simp only[aa,ae,s' _ _ hb1,s' _ _ ht1]
   have el:((rs'++[l]).map V.ref++[V.ref a]).length=(rs'++[l]).length+1:=by simp
   rw[el,ah]
   refine⟨bq hrs (by decide),?_⟩
   by_cases y3:3<(rs'++[l]).length
   ·rw[if_pos (by omega)]
    exact e y3 _ ((sbl.trans (Sb.of s')).trans (Sb.upd (by simp)))
   ·rw[if_neg (by omega)]
    refine q (by omega) _ ((Sb.of s').trans (Sb.upd (by simp))) ?_
    rw[cg,aF (l₁:=rs'++[l])];rfl
noncomputable def qp:Sp:=λvs H Q _=>∃c k:Int,vs=[.int c,.int k]/\∀z H',cq H H'->tx 300 z->Q (.str z) H'
theorem gM:cX ["_law_base","_law_cell","_law_one","_law_other","_law_number_here","_law_words"] ["_law_base","_law_cell"] (cH oi):=fsc
theorem uQ(T:Txt w K mg A):eg P w K mg base (kF P w) true 2 A.iA A.jh ["_law_base","_law_cell"] qp:=by
 refine T.mL.o_ gM (λvs H Q E h=> ?_) (λcdv A' outer s H vs Q E hr hx h=> ?_)
 ·obtain⟨_,_,rfl,_⟩:=h
  rfl
 ·obtain⟨c,k,rfl,q⟩:=h
  refine dF (B:=λt=>t _ _ _) (cc (cz (i:=2) gM.nd rfl lo (cx ((i5 T).mono (by decide)) hr rfl T.fW T.gb.kp T.iI hx (cb (cj 0) (cb (cm cP (cm c7 (cj 1) cf) cf) b_))))
   (cc (cz (i:=3) gM.nd rfl lo (cx ((i5 T).mono (by decide)) hr rfl T.fW T.gb.kp T.iI hx (cb (cj 0) (cb (cm cP (cm c7 (cj 1) cf) cf) b_))))
   (cc (cz (i:=4) gM.nd rfl lo (cx ((rM T).mono (by decide)) hr rfl T.jD T.ko.kp T.nL hx (cb (cm c7 (cj 1) cf) b_)))
   (cc (cz (i:=5) gM.nd rfl lo (cE (cb (cE (cb cw (cb (cj 2) (cb (cj 4) b_)))) (cb (cE (cb cw (cb (cj 2) (cb (cj 4) b_)))) (cb (cE (cb cw (cb (cj 2) (cb (cj 3) b_)))) (cb (cE (cb cw (cb (cj 2) b_))) b_))))))
   (cc (cz (i:=5) gM.nd rfl lo (cm dW (cj 5) (cE (cb (cE (cb cw (cb (cj 2) (cb (cj 3) (cb (cj 4) b_))))) (cb (cE (cb cw (cb (cj 2) (cb (cj 4) (cb (cj 3) b_))))) (cb (cE (cb cw (cb (cj 2) b_))) b_))))))
   (cc (cz (i:=5) gM.nd rfl lo (cm dW (cj 5) (cE (cb (cE (cb cw (cb (c_ lW (by rfl) T.lB PyProof.Rows.Boot.«str» (cb (cm cP (cm c7 (cj 1) cf) cf) b_)) b_))) (cb (cE (cb cw (cb (cj 2) b_))) b_)))))
   (ck (cF (ij PySem.F.slot_str_join PySem.F.type_str_join mQ cw (cb (cU dh (cj 5) (cm cP (cj 1) cf) (λ_ _=>rfl)) b_)))))))))) ?_
  show gh _ _ _ [some (V.int c),some (V.int k),none,none,none,none] H
  refine cu (λσ' H'=>cq H H'/\∃x,tx 70 x/\σ'=[some (V.int c),some (V.int k),some (V.str x),none,none,none]) (λR hR=> ?_) ?_
  ·simp only[dD,cB,cL,tC,cI,c5,cJ,cN,g_,gj,and_assoc,la,Int.reduceLT,Nat.reduceLT,aa,ae,aj,ai,V.int.injEq,V.bl.injEq,V.str.injEq,V.ref.injEq,V.ty.injEq,aq,ar,and_true,true_and,exists_eq_left',exists_and_left,g6]
   exact λz H' s' hz=>hR _ _ ⟨s',z,hz.mono (by decide),rfl⟩
  rintro _ H1 ⟨s1,x,hx,rfl⟩
  refine cu (λσ' H'=>cq H1 H'/\∃y,tx 70 y/\σ'=[some (V.int c),some (V.int k),some (V.str x),some (V.str y),none,none]) (λR hR=> ?_) ?_
  ·simp only[dD,cB,cL,tC,cI,c5,cJ,cN,g_,gj,and_assoc,la,Int.reduceLT,Nat.reduceLT,aa,ae,aj,ai,V.int.injEq,V.bl.injEq,V.str.injEq,V.ref.injEq,V.ty.injEq,aq,ar,and_true,true_and,exists_eq_left',exists_and_left,g6]
   exact λz H' s' hz=>hR _ _ ⟨s',z,hz.mono (by decide),rfl⟩
  rintro _ H2 ⟨s2,y,hy,rfl⟩
  refine cu (λσ' H'=>H2=H'/\∃u,tx 70 u/\σ'=[some (V.int c),some (V.int k),some (V.str x),some (V.str y),some (V.str u),none]) (λR hR=> ?_) ?_
  ·simp only[dD,cB,cL,tC,cI,c5,cJ,cN,g_,la,Int.reduceLT,Nat.reduceLT,aa,ae,aj,ai,V.int.injEq,V.bl.injEq,V.str.injEq,V.ref.injEq,V.ty.injEq,aq,ar,and_true,true_and,exists_eq_left',mZ]
   exact λz hz=>hR _ _ ⟨rfl,z,hz,rfl⟩
  rintro _ _ ⟨rfl,u,hu,rfl⟩
  refine cu (λσ' H'=>cq H2 H'/\∃m ys,H' m=some (.lst ys)/\ys.length=4/\(∀v∈ys,vk H' v)/\σ'=[some (V.int c),some (V.int k),some (V.str x),some (V.str y),some (V.str u),some (V.ref m)]) (λR hR=> ?_) ?_
  ·simp only[cB,cL,tC,cI,eY,c5,cJ,Int.reduceAdd,ag,ak,aa,ae,aj,ai,true_and,Nat.reduceAdd,x_,E6,FP]
   intro p0 hp0 p1 hp1 p2 hp2 p3 hp3 p4 hp4
   have a0:=cq.upd (o:= .lst [V.str (Str.ofString "make"),V.str x,V.str u]) hp0
   have a1:=cq.upd (o:= .lst [V.str (Str.ofString "keep"),V.str x,V.str u]) hp1
   have a2:=cq.upd (o:= .lst [V.str (Str.ofString "copy"),V.str x,V.str y]) hp2
   have a3:=cq.upd (o:= .lst [V.str (Str.ofString "drop"),V.str x]) hp3
   have a4:=cq.upd (o:= .lst [V.ref p0,V.ref p1,V.ref p2,V.ref p3]) hp4
   refine hR _ _ ⟨a0.trans (a1.trans (a2.trans (a3.trans a4))),p4,_,cg,rfl,λv hv=> ?_,rfl⟩
   have r0:=l0 (ts:=[Str.ofString "make",x,u]) ((a1.trans (a2.trans (a3.trans a4))) _ _ cg) (by simp) (by simp[hx,hu,jV (x:=Str.ofString "make") (by decide+kernel)])
   have r1:=l0 (ts:=[Str.ofString "keep",x,u]) ((a2.trans (a3.trans a4)) _ _ cg) (by simp) (by simp[hx,hu,jV (x:=Str.ofString "keep") (by decide+kernel)])
   have r2:=l0 (ts:=[Str.ofString "copy",x,y]) ((a3.trans a4) _ _ cg) (by simp) (by simp[hx,hy,jV (x:=Str.ofString "copy") (by decide+kernel)])
   have r3:=l0 (ts:=[Str.ofString "drop",x]) (a4 _ _ cg) (by simp) (by simp[hx,jV (x:=Str.ofString "drop") (by decide+kernel)])
   simp only[List.mem_cons,List.not_mem_nil,or_false]at hv
   rcases hv with rfl|rfl|rfl|rfl
   ·exact r0
   ·exact r1
   ·exact r2
   ·exact r3
  rintro _ H3 ⟨s3,m,ys,hm,hl,hys,rfl⟩
  refine cu (λσ' H'=>cq H3 H'/\∃m ys,H' m=some (.lst ys)/\ys.length=7/\(∀v∈ys,vk H' v)/\σ'=[some (V.int c),some (V.int k),some (V.str x),some (V.str y),some (V.str u),some (V.ref m)]) (λR hR=> ?_) ?_
  ·simp only[dD,cB,cL,tC,cI,eY,c5,cJ,Int.reduceAdd,cg,lL,ag,ak,aa,ae,aj,ai,true_and,Nat.reduceAdd,x_,E6,FP]
   intro p0 hp0 p1 hp1 p2 hp2 p3 hp3
   have a0:=cq.upd (o:= .lst [V.str (Str.ofString "get"),V.str x,V.str y,V.str u]) hp0
   have a1:=cq.upd (o:= .lst [V.str (Str.ofString "set"),V.str x,V.str u,V.str y]) hp1
   have a2:=cq.upd (o:= .lst [V.str (Str.ofString "tell"),V.str x]) hp2
   have a3:=cq.upd (o:= .lst [V.ref p0,V.ref p1,V.ref p2]) hp3
   rw[(a0.trans (a1.trans (a2.trans a3))) _ _ hm]
   dsimp only
   refine⟨cR (by rw[hl];show 4+3<=_;omega),λp4 hp4=> ?_⟩
   have a4:=cq.upd (o:= .lst (ys++[V.ref p0,V.ref p1,V.ref p2])) hp4
   have sA:=a0.trans (a1.trans (a2.trans (a3.trans a4)))
   refine hR _ _ ⟨sA,p4,_,cg,by rw[ay,hl];rfl,λv hv=> ?_,rfl⟩
   have r0:=l0 (ts:=[Str.ofString "get",x,y,u]) ((a1.trans (a2.trans (a3.trans a4))) _ _ cg) (by simp) (by simp[hx,hy,hu,jV (x:=Str.ofString "get") (by decide+kernel)])
   have r1:=l0 (ts:=[Str.ofString "set",x,u,y]) ((a2.trans (a3.trans a4)) _ _ cg) (by simp) (by simp[hx,hy,hu,jV (x:=Str.ofString "set") (by decide+kernel)])
   have r2:=l0 (ts:=[Str.ofString "tell",x]) ((a3.trans a4) _ _ cg) (by simp) (by simp[hx,jV (x:=Str.ofString "tell") (by decide+kernel)])
   rcases List.mem_append.mp hv with hv|hv
   ·exact(hys v hv).same sA
   simp only[List.mem_cons,List.not_mem_nil,or_false]at hv
   rcases hv with rfl|rfl|rfl
   ·exact r0
   ·exact r1
   ·exact r2
  rintro _ H4 ⟨s4,m4,ys4,hm4,hl4,hys4,rfl⟩
  refine cu (λσ' H'=>cq H4 H'/\∃m ys,H' m=some (.lst ys)/\ys.length=9/\(∀v∈ys,vk H' v)/\σ'=[some (V.int c),some (V.int k),some (V.str x),some (V.str y),some (V.str u),some (V.ref m)]) (λR hR=> ?_) ?_
  ·simp only[dD,ja,cB,cL,tC,cI,eY,c5,cJ,g_,gj,la,Int.reduceLT,Nat.reduceLT,Int.reduceAdd,cg,lL,ag,ak,aa,ae,aj,ai,and_true,true_and,Nat.reduceAdd,x_,cStr]
   refine⟨uM (by omega),λp0 hp0 p1 hp1 p2 hp2=> ?_⟩
   have hnt:tx 70 (Str.ofString (toString (k/12%10))):=(rL (i:=k/12%10) (by omega)).mono (by decide)
   generalize Str.ofString (toString (k/12%10))=nt at*
   have a0:=cq.upd (o:= .lst [V.str (Str.ofString "again"),V.str nt]) hp0
   have a1:=cq.upd (o:= .lst [V.str (Str.ofString "if"),V.str x]) hp1
   have a2:=cq.upd (o:= .lst [V.ref p0,V.ref p1]) hp2
   rw[(a0.trans (a1.trans a2)) _ _ hm4]
   dsimp only
   refine⟨cR (by rw[hl4];show 7+2<=_;omega),λp4 hp4=> ?_⟩
   have a4:=cq.upd (o:= .lst (ys4++[V.ref p0,V.ref p1])) hp4
   have sA:=a0.trans (a1.trans (a2.trans a4))
   refine hR _ _ ⟨sA,p4,_,cg,by rw[ay,hl4];rfl,λv hv=> ?_,rfl⟩
   have r0:=l0 (ts:=[Str.ofString "again",nt]) ((a1.trans (a2.trans a4)) _ _ cg) (by simp) (by simp[hnt,jV (x:=Str.ofString "again") (by decide+kernel)])
   have r1:=l0 (ts:=[Str.ofString "if",x]) ((a2.trans a4) _ _ cg) (by simp) (by simp[hx,jV (x:=Str.ofString "if") (by decide+kernel)])
   rcases List.mem_append.mp hv with hv|hv
   ·exact(hys4 v hv).same sA
   simp only[List.mem_cons,List.not_mem_nil,or_false]at hv
   rcases hv with rfl|rfl
   ·exact r0
   ·exact r1
  rintro _ H5 ⟨s5,m5,ys5,hm5,hl5,hys5,rfl⟩
  obtain⟨v,ev,hv⟩:=kn (xs:=ys5) (i:=k%9) (by omega) (by rw[hl5];omega)
  obtain⟨a,ts,rfl,ha,hl,ht⟩:=hys5 v hv
  simp only[dj,dD,cB,cL,tC,cI,gj,oI,Int.reduceLT,Nat.reduceLT,aa,ae,true_and,qf,oF,hm5,ev,ha,qZ]
  have hs:=oq (n:=70) (ps:=ts) λp hp=>(ht p hp).1
  have hj:=o4 (s:=32) (ps:=ts) (by omega)
  refine⟨ts,rfl,hj.1,?_⟩
  rw[hj.2]
  exact q _ _ (s1.trans (s2.trans (s3.trans (s4.trans s5)))) ((Cq (m:=4) hl ht).mono (by decide))
noncomputable def m6:Sp:=λvs H Q _=>∃a,∃ls:List Str,∃c:Int,vs=[.ref a,.int c]/\H a=some (.lst (ls.map V.str))/\ls.length<=100/\(∀t∈ls,tx 300 t)/\∀l H',∀ts:List Str,cq H H'->H l=none->H' l=some (.lst (ts.map V.str))->ts.length<=110->(∀t∈ts,tx 350 t)->Q (.ref l) H'
theorem dN:cX ["_law_lines_here","_law_cell","_law_at_here","_law_more","_law_spot","_law_own","_law_words","_law_k"] ["_law_lines_here","_law_cell"] (cH lu):=fsc
theorem rN(T:Txt w K mg A):eg P w K mg base (kF P w) true 2 A.fD A.gx ["_law_lines_here","_law_cell"] m6:=by
 refine T.kq.o_ dN (λvs H Q E h=> ?_) (λcdv A' outer s H vs Q E hr hx h=> ?_)
 ·obtain⟨_,_,_,rfl,_⟩:=h
  rfl
 ·obtain⟨a,ls,c,rfl,h⟩:=h
  obtain⟨q,ha,hl,hls⟩:=BR h
  refine dF (B:=λt=>t _ _ _) (cc (cK (cA (fq (ox hr)) (cj 0) (cE b_) (cM _)) (ck (cF (kj (cb (cE (cb cw b_)) (cb (cE (cb cw (cb cw b_))) (cb (cE (cb cw b_)) (cb (cE (cb cw b_)) b_)))) (cm cP (cj 1) cf) (λ_ _=>rfl)))) cD)
   (cc (cz (i:=2) dN.nd rfl lo (cm cP (cm c7 (cj 1) cf) (cG fM (by rfl) T.fT PyProof.Rows.Boot.«len» (cb (cj 0) b_))))
   (cc (cz (i:=3) dN.nd rfl lo (cm c7 (cm c7 (cj 1) cf) (cG fM (by rfl) T.fT PyProof.Rows.Boot.«len» (cb (cj 0) b_))))
   (cc (cK (cA qK (cm cP (cj 1) cf) (kx (cb cf (cb cf (cb cf b_)))) (by with_unfolding_all rfl)) (cc (cz (i:=4) dN.nd rfl lo (cm cP (cm c7 (cj 1) cf) (cm cY (cG fM (by rfl) T.fT PyProof.Rows.Boot.«len» (cb (cj 0) b_)) cf)))
   (cc (cz (i:=3) dN.nd rfl lo (cm c7 (cm c7 (cj 1) cf) (cm cY (cG fM (by rfl) T.fT PyProof.Rows.Boot.«len» (cb (cj 0) b_)) cf)))
   (cc (cz (i:=5) dN.nd rfl lo (cE (cb (cE (cb cw b_)) (cb (cE (cb cw b_)) (cb (cE (cb cw (cb cw b_))) (cb (cE (cb cw b_)) (cb (cE (cb cw b_)) (cb (cE (cb cw (cb cw b_))) (cb (cE (cb cw b_)) b_)))))))))
   (ck (cF (cm dW (cm dW (cQ iG (cj 0) cT (cZ (cj 4))) (cU dh (cj 5) (cm cP (cj 3) cf) (λ_ _=>rfl))) (cQ iG (cj 0) (cZ (cj 4)) cT))))))) cD)
   (cc (cK (fo (ky (cA (fq (ox hr)) (cm cP (cj 1) cf) cf (cM _)) (ju (cA (fq (ox hr)) (cm cP (cj 3) cf) cf (cM _))))) (ck (cF (cm dW (cj 0) (cE (cb cw b_))))) cD)
   (cc (cK (cA (fq (ox hr)) (cm cP (cj 1) cf) cf (cM _)) (ck (cF (cm dW (cQ iG (cj 0) cT (cZ (cj 2))) (cQ iG (cj 0) (cZ (cm cY (cj 2) cf)) cT)))) cD)
   (cc (cK (cA (fq (ox hr)) (cm cP (cj 1) cf) cf (cM _)) (ck (cF (cm dW (cm dW (cQ iG (cj 0) cT (cZ (cj 2))) (cE (cb (kj (cb (cm cY (cU dh (cj 0) (cj 2) (λ_ _=>rfl)) cw) (cb (cm cY cw (cU dh (cj 0) (cj 2) (λ_ _=>rfl))) b_)) (cm cP (cj 3) cf) (λ_ _=>rfl)) b_))) (cQ iG (cj 0) (cZ (cm cY (cj 2) cf)) cT)))) cD)
   (cc (cz (i:=6) dN.nd rfl lo (ij PySem.F.slot_str_split PySem.F.type_str_split lA (cU dh (cj 0) (cj 2) (λ_ _=>rfl)) (cb cw b_)))
   (cc (cz (i:=7) dN.nd rfl lo (cm cP (cj 3) (cG fM (by rfl) T.fT PyProof.Rows.Boot.«len» (cb (cj 6) b_))))
   (cc (cz (i:=6) dN.nd rfl lo (cm dW (cm dW (cQ iG (cj 6) cT (cZ (cj 7))) (cx ((oh T).mono (by decide)) hr rfl T.gB T.iF.kp T.kJ hx (cb (cU dh (cj 6) (cj 7) (λ_ _=>rfl)) (cb (cm c7 (cj 3) (cG fM (by rfl) T.fT PyProof.Rows.Boot.«len» (cb (cj 6) b_))) b_)))) (cQ iG (cj 6) (cZ (cm cY (cj 7) cf)) cT)))
   (ck (cF (cm dW (cm dW (cQ iG (cj 0) cT (cZ (cj 2))) (cE (cb (ij PySem.F.slot_str_join PySem.F.type_str_join mQ cw (cb (cj 6) b_)) b_))) (cQ iG (cj 0) (cZ (cm cY (cj 2) cf)) cT)))))))))))))) ?_
  show gh _ _ _ [some (V.ref a),some (V.int c),none,none,none,none,none,none] H
  refine cu (λσ' H'=>cq H H'/\ls≠ []/\σ'=[some (V.ref a),some (V.int c),none,none,none,none,none,none]) (λR hR=> ?_) ?_
  ·simp only[dj,cW,dA,cV,dD,cB,cL,tC,cI,eY,gj,eqv,ub,Int.reduceLT,Nat.reduceLT,Int.reduceAdd,↓reduceIte,cg,mz,ux,ag,ak,aa,ae,true_and,aN,Nat.reduceAdd,v9,ou,x_,FP,↓cS]
   intro p hp
   have a0:=cq.upd (o:= .lst []) hp
   rw[a0 _ _ ha]
   dsimp only
   cases ls with
   |nil=>
    show∀p_1:Addr,_
    intro p1 hp1 p2 hp2 p3 hp3 p4 hp4 p5 hp5
    have a1:=cq.upd (o:= .lst [V.str (Str.ofString "end")]) hp1
    have a2:=cq.upd (o:= .lst [V.str (Str.ofString ""),V.str (Str.ofString "")]) hp2
    have a3:=cq.upd (o:= .lst [V.str (Str.ofString "tell")]) hp3
    have a4:=cq.upd (o:= .lst [V.str (Str.ofString "if a")]) hp4
    rw[pM hp5]
    have sA:=a0.trans (a1.trans (a2.trans (a3.trans a4)))
    have t1:∀t∈ [Str.ofString "end"],tx 350 t:=λt h=>by rw[List.mem_singleton.mp h];exact hE (by decide+kernel)
    have t2:∀t∈ [Str.ofString "",Str.ofString ""],tx 350 t:=λt h=>by simp at h;rw[h];exact hE (by decide+kernel)
    have t3:∀t∈ [Str.ofString "tell"],tx 350 t:=λt h=>by rw[List.mem_singleton.mp h];exact hE (by decide+kernel)
    have t4:∀t∈ [Str.ofString "if a"],tx 350 t:=λt h=>by rw[List.mem_singleton.mp h];exact hE (by decide+kernel)
    obtain⟨v,ev,hv⟩:=kn (xs:=[V.ref p1,V.ref p2,V.ref p3,V.ref p4]) (i:=c%4) (by omega) (by show _<(4:Int);omega)
    rw[ev]
    simp only[List.mem_cons,List.not_mem_nil,or_false]at hv
    rcases hv with rfl|rfl|rfl|rfl
    ·exact q _ _ [Str.ofString "end"] sA (same_none a0 hp1) ((a2.trans (a3.trans a4)) _ _ cg) (by simp) t1
    ·exact q _ _ [Str.ofString "",Str.ofString ""] sA (same_none (a0.trans a1) hp2) ((a3.trans a4) _ _ cg) (by simp) t2
    ·exact q _ _ [Str.ofString "tell"] sA (same_none (a0.trans (a1.trans a2)) hp3) (a4 _ _ cg) (by simp) t3
    ·exact q _ _ [Str.ofString "if a"] sA (same_none (a0.trans (a1.trans (a2.trans a3))) hp4) cg (by simp) t4
   |cons u us=>exact hR _ _ ⟨a0,by simp,rfl⟩
  rintro _ H1 ⟨s1,hne,rfl⟩
  have ha1:=s1 _ _ ha
  have hpos:0<ls.length:=List.length_pos_iff.mpr hne
  refine cu (λσ' H'=>H1=H'/\∃k:Nat,k<ls.length/\σ'=[some (V.ref a),some (V.int c),some (V.int k),none,none,none,none,none]) (λR hR=> ?_) ?_
  ·simp only[dD,ja,cB,cL,tC,cI,c5,cJ,g_,gj,lM,la,Int.reduceLT,Nat.reduceLT,aa,ae,aj,ai,and_true,true_and,ha1]
   rw[ah]
   have h1:=bG (c/8) (show(ls.length:Int)≠0 by omega)
   have h2:=bR (c/8) (show(0:Int)<ls.length by omega)
   exact⟨by omega,hR _ _ ⟨rfl,(c/8%(ls.length:Int)).toNat,by omega,by rw[show(((c/8%(ls.length:Int)).toNat:Nat):Int)=c/8%(ls.length:Int) by omega]⟩⟩
  rintro _ _ ⟨rfl,k,hk,rfl⟩
  refine cu (λσ' H'=>H1=H'/\∃o,σ'=[some (V.ref a),some (V.int c),some (V.int k),some (V.int o),none,none,none,none]) (λR hR=> ?_) ?_
  ·simp only[dD,ja,cB,cL,tC,cI,c5,cJ,g_,lM,and_assoc,la,Int.reduceLT,Nat.reduceLT,aa,ae,aj,ai,and_true,true_and,ha1]
   rw[ah]
   exact⟨by omega,by omega,hR _ _ ⟨rfl,_,rfl⟩⟩
  rintro _ _ ⟨rfl,o,rfl⟩
  have fin:∀H2 l H',∀us vs ws':List Str,cq H1 H2->cq H2 H'->H2 l=none->H' l=some (.lst ((us++ws'++vs).map V.str))->(∀t∈us,t∈ls)->(∀t∈vs,t∈ls)->(∀t∈ws',tx 350 t)->us.length+vs.length<=ls.length->ws'.length<=2->Q (.ref l) H':=λH2 l H' us vs ws' sa sb hl0 hl' hu hv hw hlen hw2=>
   q l H' (us++ws'++vs) (s1.trans (sa.trans sb)) (same_none (s1.trans sa) hl0) hl' (by rw[ay,ay];omega) λt h=>by
    rcases List.mem_append.mp h with h|h
    ·rcases List.mem_append.mp h with h|h
     ·exact(hls t (hu t h)).mono (by decide)
     ·exact hw t h
    ·exact(hls t (hv t h)).mono (by decide)
  have cuts:∀k:Nat,k<=ls.length->nY (ls.map V.str) none (some (k:Int))=(ls.take k).map V.str/\nY (ls.map V.str) (some (k:Int)) none=(ls.drop k).map V.str:=λk hk=>⟨by rw[vx (by rw[ah];exact hk),List.map_take],by rw[oP (by rw[ah];exact hk),List.map_drop]⟩
  refine cu (λσ' H'=>cq H1 H'/\σ'=[some (V.ref a),some (V.int c),some (V.int k),some (V.int o),none,none,none,none]) (λR hR=> ?_) ?_
  ·refine AB (λ_ H'=>cq H1 H') (λK1 hK=> ?_) (λH2 z0=> ?_) (λH2 z0=>hR _ _ ⟨z0,rfl⟩)
   ·simp only[cV,dD,cB,cL,tC,cI,sy,gj,Int.reduceLT,Nat.reduceLT,Int.reduceAdd,↓reduceIte,cg,ag,ak,aa,ae,true_and,aN,Nat.reduceAdd,E6,oG,↓cS]
    exact λp0 hp0=>⟨rfl,rfl,hK _ _ (cq.upd hp0)⟩
   have ha2:=z0 _ _ ha1
   refine cu (λσ' H'=>H2=H'/\∃j:Nat,j<=ls.length/\σ'=[some (V.ref a),some (V.int c),some (V.int k),some (V.int o),some (V.int j),none,none,none]) (λR hR=> ?_) ?_
   ·simp only[dD,ja,cB,cL,tC,cI,c5,cJ,jP,g_,gj,lM,la,Int.reduceLT,Nat.reduceLT,aa,ae,aj,ai,and_true,true_and,ha2]
    rw[ah]
    have h1:=bG (c/8) (show((ls.length:Int)+1)≠0 by omega)
    have h2:=bR (c/8) (show(0:Int)<(ls.length:Int)+1 by omega)
    exact⟨by omega,hR _ _ ⟨rfl,(c/8%((ls.length:Int)+1)).toNat,by omega,by rw[show(((c/8%((ls.length:Int)+1)).toNat:Nat):Int)=c/8%((ls.length:Int)+1) by omega]⟩⟩
   rintro _ _ ⟨rfl,j,hj,rfl⟩
   refine cu (λσ' H'=>H2=H'/\∃o,σ'=[some (V.ref a),some (V.int c),some (V.int k),some (V.int o),some (V.int j),none,none,none]) (λR hR=> ?_) ?_
   ·simp only[dD,ja,cB,cL,tC,cI,c5,cJ,jP,g_,lM,and_assoc,la,Int.reduceLT,Nat.reduceLT,aa,ae,aj,ai,and_true,true_and,ha2]
    rw[ah]
    exact⟨by omega,by omega,hR _ _ ⟨rfl,_,rfl⟩⟩
   rintro _ _ ⟨rfl,o,rfl⟩
   refine cu (λσ' H'=>cq H2 H'/\∃m ys,H' m=some (.lst ys)/\ys.length=7/\(∀v∈ys,DD H' v)/\σ'=[some (V.ref a),some (V.int c),some (V.int k),some (V.int o),some (V.int j),some (V.ref m),none,none]) (λR hR=> ?_) ?_
   ·simp only[cB,cL,tC,eY,c5,cJ,Int.reduceAdd,ag,ak,aj,ai,true_and,Nat.reduceAdd,ou,x_,FQ]
    intro p0 hp0 p1 hp1 p2 hp2 p3 hp3 p4 hp4 p5 hp5 p6 hp6 p7 hp7
    have a0:=cq.upd (o:= .lst [V.str (Str.ofString "end")]) hp0
    have a1:=cq.upd (o:= .lst [V.str (Str.ofString "")]) hp1
    have a2:=cq.upd (o:= .lst [V.str (Str.ofString "again 10"),V.str (Str.ofString "end")]) hp2
    have a3:=cq.upd (o:= .lst [V.str (Str.ofString "if a")]) hp3
    have a4:=cq.upd (o:= .lst [V.str (Str.ofString "tell if")]) hp4
    have a5:=cq.upd (o:= .lst [V.str (Str.ofString "again -1"),V.str (Str.ofString "end")]) hp5
    have a6:=cq.upd (o:= .lst [V.str (Str.ofString "copy end a")]) hp6
    have a7:=cq.upd (o:= .lst [V.ref p0,V.ref p1,V.ref p2,V.ref p3,V.ref p4,V.ref p5,V.ref p6]) hp7
    have b6:=a6.trans a7
    have b5:=a5.trans b6
    have b4:=a4.trans b5
    have b3:=a3.trans b4
    have b2:=a2.trans b3
    have b1:=a1.trans b2
    refine hR _ _ ⟨a0.trans b1,p7,_,cg,rfl,λv hv=> ?_,rfl⟩
    have r0:=l4 (ts:=[Str.ofString "end"]) (b1 _ _ cg) (by decide+kernel)
    have r1:=l4 (ts:=[Str.ofString ""]) (b2 _ _ cg) (by decide+kernel)
    have r2:=l4 (ts:=[Str.ofString "again 10",Str.ofString "end"]) (b3 _ _ cg) (by decide+kernel)
    have r3:=l4 (ts:=[Str.ofString "if a"]) (b4 _ _ cg) (by decide+kernel)
    have r4:=l4 (ts:=[Str.ofString "tell if"]) (b5 _ _ cg) (by decide+kernel)
    have r5:=l4 (ts:=[Str.ofString "again -1",Str.ofString "end"]) (b6 _ _ cg) (by decide+kernel)
    have r6:=l4 (ts:=[Str.ofString "copy end a"]) (a7 _ _ cg) (by decide+kernel)
    simp only[List.mem_cons,List.not_mem_nil,or_false]at hv
    rcases hv with rfl|rfl|rfl|rfl|rfl|rfl|rfl
    ·exact r0
    ·exact r1
    ·exact r2
    ·exact r3
    ·exact r4
    ·exact r5
    ·exact r6
   rintro _ H3 ⟨z3,m,ys,hm,hyl,hys,rfl⟩
   obtain⟨v,ev,hv⟩:=kn (xs:=ys) (i:=o%7) (by omega) (by rw[hyl];omega)
   obtain⟨g,tg,rfl,hg,hg2,hgt⟩:=hys v hv
   have ha3:=z3 _ _ ha2
   have gl:∀{x y:List Str},(x.map V.str).length+(y.map V.str).length<=40000↔x.length+y.length<=40000:=λ{x y}=>by rw[ah,ah]
   simp only[dj,dD,tC,cI,gj,oI,Int.reduceLT,Nat.reduceLT,cg,xm,iO,eK,uh,lL,aa,ae,true_and,ha3]
   rw[(cuts j hj).1]
   intro p hp
   have c0:=cq.upd (o:= .lst ((ls.take j).map V.str)) hp
   rw[c0 _ _ hm]
   dsimp only
   rw[ev]
   dsimp only
   rw[cg,c0 _ _ hg]
   dsimp only
   refine⟨cR (gl.mpr (by rw[aH];omega)),λp1 hp1=> ?_⟩
   have c1:=cq.upd (o:= .lst ((ls.take j).map V.str++tg.map V.str)) hp1
   rw[(c0.trans c1) _ _ ha3]
   dsimp only
   rw[(cuts j hj).2]
   intro p2 hp2
   have c2:=cq.upd (o:= .lst ((ls.drop j).map V.str)) hp2
   rw[c2 _ _ cg]
   dsimp only
   refine⟨cR (by rw[ay,ah,ah,ah,aH,aV];omega),λp3 hp3=>fin _ p3 _ (ls.take j) (ls.drop j) tg (z0.trans (z3.trans (c0.trans (c1.trans c2)))) (cq.upd hp3) hp3 (by rw[cg,aF,aF]) (λt h=>List.mem_of_mem_take h) (λt h=>List.mem_of_mem_drop h) hgt (by rw[aH,aV];omega) hg2⟩
  rintro _ H2 ⟨s2,rfl⟩
  have ha2:=s2 _ _ ha1
  obtain⟨u,hku⟩:∃u,ls[k]? =some u:=⟨_,aE hk⟩
  have hut:=hls u (aZ hku)
  have eu:mD (ls.map V.str) (k:Int)=some (V.str u):=oA (by rw[aS,hku];rfl)
  refine cu (λσ' H'=>H2=H'/\σ'=[some (V.ref a),some (V.int c),some (V.int k),some (V.int o),none,none,none,none]) (λR hR=> ?_) ?_
  ·simp only[dj,cW,dA,cV,dD,sv,cB,cL,tC,cI,eY,gj,eqv,Int.reduceLT,Nat.reduceLT,Int.reduceAdd,↓reduceIte,cg,mz,lL,ag,ak,aa,ae,true_and,aN,decide_eq_true_eq,Nat.reduceAdd,ou,↓cS]
   have go:R [some (V.ref a),some (V.int c),some (V.int k),some (V.int o),none,none,none,none] H2:=hR _ _ ⟨rfl,rfl⟩
   by_cases y1:c%8=5
   ·rw[if_pos y1]
    by_cases y2:o%3=0
    ·rw[if_pos y2]
     intro p hp
     have a0:=cq.upd (o:= .lst [V.str (Str.ofString "")]) hp
     rw[a0 _ _ ha2]
     dsimp only
     refine⟨cR (by rw[ah];show _+1<=_;omega),λp1 hp1=>fin _ p1 _ ls [] [Str.ofString ""] (s2.trans a0) (cq.upd hp1) hp1 (by rw[cg];simp) (λt h=>h) (λt h=>absurd h (by simp)) (λt h=>by rw[List.mem_singleton.mp h];exact hE (by decide+kernel)) (by simp) (by simp)⟩
    ·rw[if_neg y2];exact go
   ·rw[if_neg y1];exact go
  rintro _ _ ⟨rfl,rfl⟩
  refine cu (λσ' H'=>H2=H'/\σ'=[some (V.ref a),some (V.int c),some (V.int k),some (V.int o),none,none,none,none]) (λR hR=> ?_) ?_
  ·simp only[dj,cW,dA,cV,dD,tC,cI,jP,gj,eqv,Int.reduceLT,Nat.reduceLT,cg,mz,xm,iO,eK,uh,lL,aa,ae,true_and,decide_eq_true_eq,↓cS,ha2]
   have go:R [some (V.ref a),some (V.int c),some (V.int k),some (V.int o),none,none,none,none] H2:=hR _ _ ⟨rfl,rfl⟩
   by_cases y1:c%8=1
   ·rw[if_pos y1,(cuts k (by omega)).1,show((k:Int)+1)=((k+1:Nat):Int) by omega]
    intro p hp
    have a0:=cq.upd (o:= .lst ((ls.take k).map V.str)) hp
    rw[a0 _ _ ha2]
    dsimp only
    rw[(cuts (k+1) (by omega)).2]
    intro p1 hp1
    have a1:=cq.upd (o:= .lst ((ls.drop (k+1)).map V.str)) hp1
    rw[a1 _ _ cg]
    dsimp only
    refine⟨cR (by rw[ah,ah,aH,aV];omega),λp2 hp2=>fin _ p2 _ (ls.take k) (ls.drop (k+1)) [] (s2.trans (a0.trans a1)) (cq.upd hp2) hp2 (by rw[cg];simp) (λt h=>List.mem_of_mem_take h) (λt h=>List.mem_of_mem_drop h) (λt h=>absurd h (by simp)) (by rw[aH,aV];omega) (by simp)⟩
   ·rw[if_neg y1];exact go
  rintro _ _ ⟨rfl,rfl⟩
  refine cu (λσ' H'=>H2=H'/\σ'=[some (V.ref a),some (V.int c),some (V.int k),some (V.int o),none,none,none,none]) (λR hR=> ?_) ?_
  ·by_cases y:c%8=2
   ·refine vD (λK0 hK=> ?_) ?_
    ·simp only[cV,dD,tC,cI,gj,eqv,Int.reduceLT,Nat.reduceLT,decide_true,mz,aa,ae,true_and,↓cS,y]
     exact hK
    simp only[dj,dD,cB,cL,tC,cI,eY,jP,gj,ub,oI,Int.reduceLT,Nat.reduceLT,Int.reduceAdd,cg,xm,iO,eK,uh,lL,ag,ak,aa,ae,true_and,Nat.reduceAdd,ou,x_,ha2]
    rw[(cuts k (by omega)).1]
    intro p hp
    have c0:=cq.upd (o:= .lst ((ls.take k).map V.str)) hp
    rw[c0 _ _ ha2]
    dsimp only
    rw[eu]
    dsimp only
    have tb:tx 1 (Str.ofString " "):=hE (by decide+kernel)
    have hu0:=hut.1
    have tb0:=tb.1
    refine⟨cR (by omega),cR (by omega),λp1 hp1=> ?_⟩
    obtain⟨v,ev,hv⟩:=kn (xs:=[V.str (u++Str.ofString " "),V.str (Str.ofString " "++u)]) (i:=o%2) (by omega) (by show _<(2:Int);omega)
    obtain⟨g,rfl,hg⟩:∃g:Str,v= .str g/\tx 350 g:=by
     simp only[List.mem_cons,List.not_mem_nil,or_false]at hv
     rcases hv with rfl|rfl
     ·exact⟨_,rfl,(hut.app tb).mono (by decide)⟩
     ·exact⟨_,rfl,(tb.app hut).mono (by decide)⟩
    rw[ev]
    dsimp only
    rw[pM hp1]
    intro p2 hp2
    have c2:=cq.upd (o:= .lst [V.str g]) hp2
    rw[c2 _ _ cg]
    dsimp only
    refine⟨cR (by rw[ah,aH];show _+1<=_;omega),λp3 hp3=> ?_⟩
    have c3:=cq.upd (o:= .lst ((ls.take k).map V.str++[V.str g])) hp3
    rw[(c0.trans (c2.trans c3)) _ _ ha2]
    dsimp only
    rw[show((k:Int)+1)=((k+1:Nat):Int) by omega,(cuts (k+1) (by omega)).2]
    intro p4 hp4
    have c4:=cq.upd (o:= .lst ((ls.drop (k+1)).map V.str)) hp4
    rw[c4 _ _ cg]
    dsimp only
    refine⟨cR (by rw[ay,ah,ah,aH,aV];show _+1+_<=_;omega),λp5 hp5=>fin _ p5 _ (ls.take k) (ls.drop (k+1)) [g] (s2.trans (c0.trans (c2.trans (c3.trans c4)))) (cq.upd hp5) hp5 (by rw[cg,aF,aF];rfl) (λt h=>List.mem_of_mem_take h) (λt h=>List.mem_of_mem_drop h) (λt h=>by rw[List.mem_singleton.mp h];exact hg) (by rw[aH,aV];omega) (by simp)⟩
   ·refine yO (λK0 hK=> ?_) ?_
    ·simp only[cV,dD,tC,cI,gj,eqv,Int.reduceLT,Nat.reduceLT,mz,aa,ae,true_and,↓cS]
     rw[decide_eq_false y]
     exact hK
    exact hR _ _ ⟨rfl,rfl⟩
  rintro _ _ ⟨rfl,rfl⟩
  refine cu (λσ' H'=>cq H2 H'/\∃p,H' p=some (.lst ((di 32 u).map V.str))/\σ'=[some (V.ref a),some (V.int c),some (V.int k),some (V.int o),none,none,some (V.ref p),none]) (λR hR=> ?_) ?_
  ·simp only[dD,cB,cL,tC,cI,c5,cJ,oI,aa,ae,aj,ai,oF,mH,ha2,eu,qZ,lE.1]
   exact⟨ao 1,by have:=hut.1;omega,λl hl=>hR _ _ ⟨cq.upd hl,l,cg,rfl⟩⟩
  rintro _ H3 ⟨s3,p,hp,rfl⟩
  have hpl:0<(di 32 u).length:=List.length_pos_iff.mpr pe
  have hpl2:(di 32 u).length<=301:=av uW (by have:=hut.1;omega)
  refine cu (λσ' H'=>H3=H'/\∃j:Nat,j<(di 32 u).length/\σ'=[some (V.ref a),some (V.int c),some (V.int k),some (V.int o),none,none,some (V.ref p),some (V.int j)]) (λR hR=> ?_) ?_
  ·simp only[dD,ja,cB,cL,cI,c5,cJ,gj,lM,aa,ae,aj,ai,hp]
   rw[ah]
   have h1:=bG o (show((di 32 u).length:Int)≠0 by omega)
   have h2:=bR o (show(0:Int)<(di 32 u).length by omega)
   exact⟨by omega,hR _ _ ⟨rfl,(o%((di 32 u).length:Int)).toNat,by omega,by rw[show(((o%((di 32 u).length:Int)).toNat:Nat):Int)=o%((di 32 u).length:Int) by omega]⟩⟩
  rintro _ _ ⟨rfl,j,hj,rfl⟩
  obtain⟨x,hjx⟩:∃x,(di 32 u)[j]? =some x:=⟨_,aE hj⟩
  have hxt:=t_ (s:=32) hut x (aZ hjx)
  have ex:mD ((di 32 u).map V.str) (j:Int)=some (V.str x):=oA (by rw[aS,hjx];rfl)
  refine cu (λσ' H'=>cq H3 H'/\∃p,∃ts:List Str,H' p=some (.lst (ts.map V.str))/\uo ts<=320/\(∀t∈ts,tx 310 t)/\σ'=[some (V.ref a),some (V.int c),some (V.int k),some (V.int o),none,none,some (V.ref p),some (V.int j)]) (λR hR=> ?_) ?_
  ·simp only[dD,ja,cB,cL,tC,cI,c5,cJ,cN,jP,g_,oI,lM,and_assoc,la,cg,xm,iO,eK,uh,lL,aa,ae,aj,ai,V.int.injEq,V.bl.injEq,V.str.injEq,V.ref.injEq,V.ty.injEq,aq,ar,and_true,exists_eq_left',exists_and_left,hp,kD]
   rw[vx (by rw[ah];omega),←List.map_take]
   intro p1 hp1
   have c0:=cq.upd (o:= .lst (((di 32 u).take j).map V.str)) hp1
   rw[c0 _ _ hp]
   dsimp only
   rw[ex]
   dsimp only
   rw[ah]
   refine⟨by omega,by omega,x,rfl,hxt,λl5 H5 ts s5 hl50 hl5 htot ht5 ht2=> ?_⟩
   rw[s5 _ _ cg,hl5]
   dsimp only
   refine⟨cR (by rw[ah,ah,aH];omega),λp2 hp2=> ?_⟩
   have c2:=cq.upd (o:= .lst (((di 32 u).take j).map V.str++ts.map V.str)) hp2
   rw[(c0.trans (s5.trans c2)) _ _ hp]
   dsimp only
   rw[show((j:Int)+1)=((j+1:Nat):Int) by omega,oP (by rw[ah];omega),←List.map_drop]
   intro p3 hp3
   have c3:=cq.upd (o:= .lst (((di 32 u).drop (j+1)).map V.str)) hp3
   rw[c3 _ _ cg]
   dsimp only
   refine⟨cR (by rw[ay,ah,ah,ah,aH,aV];omega),λp4 hp4=>hR _ _ ⟨c0.trans (s5.trans (c2.trans (c3.trans (cq.upd hp4)))),p4,(di 32 u).take j++ts++(di 32 u).drop (j+1),by rw[cg,aF,aF],?_,λt h=> ?_,rfl⟩⟩
   ·have e1:di 32 u=(di 32 u).take j++(x::(di 32 u).drop (j+1)):=by rw[←drop_cons hjx,List.take_append_drop]
    have e2:=zQ (u:=u)
    rw[e1,uj,rV]at e2
    have hu0:=hut.1
    rw[uj,uj];omega
   ·rcases List.mem_append.mp h with h|h
    ·rcases List.mem_append.mp h with h|h
     ·exact(t_ (s:=32) hut t (List.mem_of_mem_take h)).mono (by decide)
     ·exact ht5 t h
    ·exact(t_ (s:=32) hut t (List.mem_of_mem_drop h)).mono (by decide)
  rintro _ H4 ⟨s4,p4,ts,hp4,htot,hts,rfl⟩
  have ha4:=(s3.trans s4) _ _ ha2
  have hj:=o4 (s:=32) (ps:=ts) (show uo ts<=40000 by omega)
  have hjt:tx 350 (nu 32 ts):=⟨av qN (show uo ts<=350 by omega),λc hc=>by
   rcases tU hc with rfl|⟨t,ht,h⟩
   ·decide
   ·exact(hts t ht).2 c h⟩
  simp only[dj,dD,cB,cL,tC,cI,eY,jP,Int.reduceAdd,cg,xm,iO,eK,uh,lL,ag,ak,aa,ae,true_and,Nat.reduceAdd,ou,qf,oF,ha4,qZ]
  rw[(cuts k (by omega)).1,show((k:Int)+1)=((k+1:Nat):Int) by omega]
  intro p hp
  have c0:=cq.upd (o:= .lst ((ls.take k).map V.str)) hp
  rw[c0 _ _ hp4]
  dsimp only
  refine⟨ts,rfl,hj.1,?_⟩
  rw[hj.2]
  intro p1 hp1
  have c1:=cq.upd (o:= .lst [V.str (nu 32 ts)]) hp1
  rw[c1 _ _ cg]
  dsimp only
  refine⟨cR (by rw[ah,aH];show _+1<=_;omega),λp2 hp2=> ?_⟩
  have c2:=cq.upd (o:= .lst ((ls.take k).map V.str++[V.str (nu 32 ts)])) hp2
  rw[(c0.trans (c1.trans c2)) _ _ ha4]
  dsimp only
  rw[(cuts (k+1) (by omega)).2]
  intro p3 hp3
  have c3:=cq.upd (o:= .lst ((ls.drop (k+1)).map V.str)) hp3
  rw[c3 _ _ cg]
  dsimp only
  refine⟨cR (by rw[ay,ah,ah,aH,aV];show _+1+_<=_;omega),λp5 hp5=>fin _ p5 _ (ls.take k) (ls.drop (k+1)) [nu 32 ts] (s2.trans (s3.trans (s4.trans (c0.trans (c1.trans (c2.trans c3)))))) (cq.upd hp5) hp5 (by rw[cg,aF,aF];rfl) (λt h=>List.mem_of_mem_take h) (λt h=>List.mem_of_mem_drop h) (λt h=>by rw[List.mem_singleton.mp h];exact hjt) (by rw[aH,aV];omega) (by simp)⟩
noncomputable def pq:Sp:=λvs H Q _=>∃z,vs=[.str z]/\asc z/\z.length<=700/\∀H',cq H H'->Q (.bl (fits z)) H'
theorem fw:cX ["_law_line","_law_words","_law_names_here","_law_sizes","_law_own","_law_rest","_law_many"] ["_law_line"] (cH jM):=fsc
theorem tZ(T:Txt w K mg A):eg P w K mg base (kF P w) true 2 A.gE A.iK ["_law_line"] pq:=by
 refine T.lP.o_ fw (λvs H Q E h=> ?_) (λcdv A' outer s H vs Q E hr hx h=> ?_)
 ·obtain⟨_,rfl,_⟩:=h
  rfl
 ·obtain⟨z,rfl,h⟩:=h
  obtain⟨q,az,lz⟩:=BQ h
  refine dF (B:=λt=>t _ _ _) (cc (cz (i:=1) fw.nd rfl lo (ij PySem.F.slot_str_split PySem.F.type_str_split lA (cj 0) (cb cw b_)))
   (cc (cz (i:=2) fw.nd rfl lo (cE (jK (by rfl))))
   (cc (cz (i:=3) fw.nd rfl lo (cE (jK (by rfl))))
   (cc (cz (i:=4) fw.nd rfl lo (cE (jK (by rfl))))
   (cc (cK (fo (ik (cA n_ (cU dh (cj 1) cf (λ_ _=>rfl)) (cj 4) (by with_unfolding_all rfl)) (hZ (cA (gY (ox hr)) (cG fM (by rfl) T.fT PyProof.Rows.Boot.«len» (cb (cj 1) b_)) (cU dh (cj 3) (n9 PySem.F.slot_list_index PySem.F.type_list_index rz (cj 4) (cb (cU dh (cj 1) cf (λ_ _=>rfl)) b_)) (λ_ _=>rfl)) (cM _))))) (ck (cF e_)) cD)
   (cc (cz (i:=5) fw.nd rfl lo (cQ iG (cj 1) (cZ cf) cT))
   (cc (cK (cA (fq (ox hr)) (cU dh (cj 1) cf (λ_ _=>rfl)) cw (cM _)) (ck (cz (i:=5) fw.nd rfl lo (cE (cb (cU dh (cj 1) cf (λ_ _=>rfl)) (cb (cU dh (cj 1) cf (λ_ _=>rfl)) (cb (cU dh (cj 1) cf (λ_ _=>rfl)) b_)))))) cD)
   (cc (cz (i:=6) fw.nd rfl lo (cU dh (cj 2) (n9 PySem.F.slot_list_index PySem.F.type_list_index rz (cj 4) (cb (cU dh (cj 1) cf (λ_ _=>rfl)) b_)) (λ_ _=>rfl)))
   (cc (cK (cA (gY (ox hr)) (fg (fsc:=cH jM) (N2:=[]) (js:=[]) ⟨rfl,rfl,by decide+kernel,by decide+kernel,by decide+kernel,by decide+kernel,by decide+kernel,by decide+kernel,by decide+kernel⟩ rfl rfl (by rfl) (eT (cQ iG (cj 5) cT (cZ (cj 6)))) (λ_ _ _ _=>(iH (dw (oZ (cx ((qA T).mono (by decide)) hr rfl T.iR T.jQ.kp T.mE kL (cb (cj 0) b_)) (λ_=>rfl))))) (λ_ _ _ _=>(cj 0))) (cE b_) (cM _)) (ck (cF e_)) cD)
   (cc (cK (cA (gY (ox hr)) (fg (fsc:=cH jM) (N2:=[]) (js:=[]) ⟨rfl,rfl,by decide+kernel,by decide+kernel,by decide+kernel,by decide+kernel,by decide+kernel,by decide+kernel,by decide+kernel⟩ rfl rfl (by rfl) (eT (cQ iG (cj 5) (cZ (cj 6)) cT)) (λ_ _ _ _=>(iH (dw (oZ (cx ((i4 T).mono (by decide)) hr rfl T.eR T.fj.kp T.gN kL (cb (cj 0) b_)) (λ_=>rfl))))) (λ_ _ _ _=>(cj 0))) (cE b_) (cM _)) (ck (cF e_)) cD)
   (ck (cF (qM (de (gY (ox hr)) (cU dh (cj 1) cf (λ_ _=>rfl)) cw (cM _)) (gK (de qK (cU dh (cj 1) cf (λ_ _=>rfl)) (cE (jK (by rfl))) (by with_unfolding_all rfl)))))))))))))))) ?_
  obtain⟨x,r,ep⟩:∃x r,di 32 z=x::r:=by
   cases ep:di 32 z with
   |nil=>exact absurd ep pe
   |cons x r=>exact⟨x,r,rfl⟩
  have hzx:=pf az ep
  have hrl:(x::r).length<=701:=by
   have:=uW (s:=32) (z:=z)
   rw[ep]at this;omega
  show gh _ _ _ [some (V.str z),none,none,none,none,none,none] H
  refine cu (λσ' H'=>cq H H'/\∃a,H' a=some (.lst ((x::r).map V.str))/\σ'=[some (V.str z),some (V.ref a),none,none,none,none,none]) (λR hR=> ?_) ?_
  ·simp only[cB,cL,tC,cI,c5,cJ,ax,aa,aj,ai,oF,mH,qZ,lE.1,ep]
   exact⟨ao 1,by omega,λl hl=>hR _ _ ⟨cq.upd hl,l,cg,rfl⟩⟩
  rintro _ H1 ⟨s1,a,ha,rfl⟩
  refine cu (λσ' H'=>cq H1 H'/\∃b,H' b=some (.lst ([1,1,2,1,2,2,1,0,1,0].map V.int))/\σ'=[some (V.str z),some (V.ref a),some (V.ref b),none,none,none,none]) (λR hR=> ?_) ?_
  ·simp only[eY,c5,cJ,Int.reduceAdd,ag,ak,aj,ai,true_and,Nat.reduceAdd,zL,sx]
   exact λb hb=>hR _ _ ⟨cq.upd hb,b,cg,rfl⟩
  rintro _ H2 ⟨s2,b,hb,rfl⟩
  refine cu (λσ' H'=>cq H2 H'/\∃c,H' c=some (.lst ([3,3,3,2,4,4,2,2,2,1].map V.int))/\σ'=[some (V.str z),some (V.ref a),some (V.ref b),some (V.ref c),none,none,none]) (λR hR=> ?_) ?_
  ·simp only[eY,c5,cJ,Int.reduceAdd,ag,ak,aj,ai,true_and,Nat.reduceAdd,zL,sx]
   exact λb hb=>hR _ _ ⟨cq.upd hb,b,cg,rfl⟩
  rintro _ H3 ⟨s3,c,hc,rfl⟩
  refine cu (λσ' H'=>cq H3 H'/\∃o,H' o=some (.lst (ws.map V.str))/\σ'=[some (V.str z),some (V.ref a),some (V.ref b),some (V.ref c),some (V.ref o),none,none]) (λR hR=> ?_) ?_
  ·simp only[eY,c5,cJ,Int.reduceAdd,ag,ak,aj,ai,true_and,Nat.reduceAdd,zL,sx]
   exact λb hb=>hR _ _ ⟨cq.upd hb,b,cg,rfl⟩
  rintro _ H4 ⟨s4,o,ho,rfl⟩
  have ha4:=(s2.trans (s3.trans s4)) _ _ ha
  have hb4:=(s3.trans s4) _ _ hb
  have hc4:=s4 _ _ hc
  have sH:=s1.trans (s2.trans (s3.trans s4))
  rw[ax]at ha4
  refine cu (λσ' H'=>H4=H'/\x∈ws/\r.length=(want x).length/\σ'=[some (V.str z),some (V.ref a),some (V.ref b),some (V.ref c),some (V.ref o),none,none]) (λR hR=> ?_) ?_
  ·simp only[dj,cW,dA,cV,dD,ya,ja,cB,cL,tC,cI,eqv,oI,lM,↓reduceIte,aG,oK,q8,vo,km,ax,aJ,ag,aa,ae,oG,oH,↓cS,ha4,hc4,ho]
   refine⟨rfl,mC,?_⟩
   rw[lV]
   by_cases y:x∈ws
   ·rw[decide_eq_true y,if_neg (λn=>by cases n)]
    refine⟨ws,rfl,y,?_⟩
    rw[(BI y).1]
    dsimp only
    rw[ah]
    by_cases y2:r.length=(want x).length
    ·rw[decide_eq_true (by omega)]
     exact hR _ _ ⟨rfl,y,y2,rfl⟩
    ·rw[decide_eq_false (by omega)]
     rw[rn ep (wj y2)]at q
     exact q _ sH
   ·rw[decide_eq_false y,if_pos rfl]
    rw[yF ep y]at q
    exact q _ sH
  rintro _ _ ⟨rfl,hx,hr1,rfl⟩
  have h3:=iw x
  refine cu (λσ' H'=>cq H4 H'/\∃p,H' p=some (.lst (r.map V.str))/\σ'=[some (V.str z),some (V.ref a),some (V.ref b),some (V.ref c),some (V.ref o),some (V.ref p),none]) (λR hR=> ?_) ?_
  ·simp only[tC,cI,c5,cJ,xm,iO,eK,uh,aa,ae,aj,ai,ha4]
   rw[wF]
   exact λp hp=>hR _ _ ⟨cq.upd hp,p,cg,rfl⟩
  rintro _ H5 ⟨s5,p,hp,rfl⟩
  have ha5:=s5 _ _ ha4
  refine cu (λσ' H'=>cq H5 H'/\∃p,H' p=some (.lst ((qu x r).map V.str))/\σ'=[some (V.str z),some (V.ref a),some (V.ref b),some (V.ref c),some (V.ref o),some (V.ref p),none]) (λR hR=> ?_) ?_
  ·simp only[cW,dA,cV,dD,cB,cL,tC,cI,eY,c5,cJ,eqv,oI,Int.reduceAdd,mz,km,Bl,yg,DG,ag,ak,aa,ae,aj,ai,true_and,decide_eq_true_eq,Nat.reduceAdd,E6,↓cS,ha5]
   by_cases y:x=Str.ofString "set"
   ·have hw:(want x).length=3:=by rw[y];decide+kernel
    rw[hw]at hr1
    rw[if_pos y]
    match r,hr1 with
    | [u,v,t],_=>
     exact λp3 hp3=>hR _ _ ⟨cq.upd hp3,p3,by rw[cg];unfold qu;rw[if_pos y];rfl,rfl⟩
   ·rw[if_neg y]
    exact hR _ _ ⟨cq.refl _,p,by unfold qu;rw[if_neg y];exact hp,rfl⟩
  rintro _ H6 ⟨s6,p2,hp2,rfl⟩
  have hb6:=(s5.trans s6) _ _ hb4
  have ho6:=(s5.trans s6) _ _ ho
  have ha6:=s6 _ _ ha5
  refine cu (λσ' H'=>H6=H'/\σ'=[some (V.str z),some (V.ref a),some (V.ref b),some (V.ref c),some (V.ref o),some (V.ref p2),some (V.int (fL x))]) (λR hR=> ?_) ?_
  ·simp only[dD,cB,cL,tC,cI,c5,cJ,oI,vo,km,ax,aJ,aa,ae,aj,ai,oH,ha6,hb6,ho6]
   refine⟨ws,rfl,hx,?_⟩
   rw[(BI hx).2]
   exact hR _ _ ⟨rfl,rfl⟩
  rintro _ _ ⟨rfl,rfl⟩
  have sH6:=sH.trans (s5.trans s6)
  refine cu (λσ' H'=>cq H6 H'/\((qu x r).take (fL x)).all rJ=true/\σ'=[some (V.str z),some (V.ref a),some (V.ref b),some (V.ref c),some (V.ref o),some (V.ref p2),some (V.int (fL x))]) (λR hR=> ?_) ?_
  ·simp only[dj,cW,dA,cV,dD,cB,cL,tC,cI,eY,cN,eqv,dR,jd,↓reduceIte,aG,jO,je,oK,q8,kQ,xm,iO,eK,uh,aJ,ak,aa,ae,V.int.injEq,V.bl.injEq,V.str.injEq,V.ref.injEq,V.ty.injEq,aq,ar,true_and,exists_eq_left',v9,↓cS,hp2]
   obtain⟨al,nl,hsub⟩:=uf hx hr1
   intro p3 hp3
   rw[vx (by rw[ah];exact nl),←List.map_take]
   have s3':=cq.upd (o:= .lst (((qu x r).take (fL x)).map V.str)) hp3
   have h3':fb K (upd H6 p3 (.lst (((qu x r).take (fL x)).map V.str))) p3 (((qu x r).take (fL x)).map V.str):=fb.of cg
   generalize upd H6 p3 (.lst (((qu x r).take (fL x)).map V.str))=H7 at*
   refine⟨⟨_,h3'⟩,gC.wM (Dw rJ) id h3' (cR (by rw[ah,aH];have:(qu x r).length<=3:=xc hr1;omega)) (λv hv H8 s8 K' hK=> ?_) (λv hv _ H8 s8 K' hK=> ?_) λl H8 s8 hl=> ?_⟩
   ·obtain⟨u,hu,rfl⟩:=List.mem_map.mp hv
    have hux:=hzx u (aD _ (hsub u (List.mem_of_mem_take hu)))
    simp only[jy,aa,V.int.injEq,V.bl.injEq,V.str.injEq,V.ref.injEq,V.ty.injEq,aq,ar,and_true,exists_eq_left',exists_eq_left,mn]
    exact⟨hux.1,by have:=hux.2;omega,λH9 s9=>hK _ (s8.trans s9)⟩
   ·obtain⟨u,hu,rfl⟩:=List.mem_map.mp hv
    simp only[cI,aa]
    exact hK _ s8
   ·intro p4 hp4
    have sp:=cq.upd (o:= .lst []) hp4
    dsimp only
    rw[sp _ _ cg,cg]
    dsimp only
    have sA:=(s3'.trans s8).trans ((cq.upd (o:= .lst ((((qu x r).take (fL x)).map V.str).filter (Dw rJ)|>.map id)) hl).trans sp)
    rw[List.map_id]at sA⊢
    by_cases y:((qu x r).take (fL x)).all rJ=true
    ·have e:=oS.mpr y
     rw[e]at sA⊢
     exact hR _ _ ⟨sA,y,rfl⟩
    ·rw[if_neg (show¬(_=([]:List V).length) from λn=>y (oS.mp (List.eq_nil_of_length_eq_zero n)))]
     rw[rn ep (by rw[al,Bool.eq_false_iff.mpr y];rfl)]at q
     exact q _ (sH6.trans sA)
  rintro _ H7 ⟨s7,hn7,rfl⟩
  have hp7:=s7 _ _ hp2
  refine cu (λσ' H'=>cq H7 H'/\((qu x r).drop (fL x)).all wr=true/\σ'=[some (V.str z),some (V.ref a),some (V.ref b),some (V.ref c),some (V.ref o),some (V.ref p2),some (V.int (fL x))]) (λR hR=> ?_) ?_
  ·simp only[dj,cW,dA,cV,dD,cB,cL,tC,cI,eY,cN,eqv,dR,jd,↓reduceIte,aG,jO,je,oK,q8,kQ,xm,iO,eK,uh,aJ,ak,aa,ae,V.int.injEq,V.bl.injEq,V.str.injEq,V.ref.injEq,V.ty.injEq,aq,ar,true_and,exists_eq_left',v9,↓cS,hp7]
   obtain⟨al,nl,hsub⟩:=uf hx hr1
   intro p3 hp3
   rw[oP (by rw[ah];exact nl),←List.map_drop]
   have s3':=cq.upd (o:= .lst (((qu x r).drop (fL x)).map V.str)) hp3
   have h3':fb K (upd H7 p3 (.lst (((qu x r).drop (fL x)).map V.str))) p3 (((qu x r).drop (fL x)).map V.str):=fb.of cg
   generalize upd H7 p3 (.lst (((qu x r).drop (fL x)).map V.str))=H70 at*
   refine⟨⟨_,h3'⟩,gC.wM (Dw wr) id h3' (cR (by rw[ah,aV];have:(qu x r).length<=3:=xc hr1;omega)) (λv hv H8 s8 K' hK=> ?_) (λv hv _ H8 s8 K' hK=> ?_) λl H8 s8 hl=> ?_⟩
   ·obtain⟨u,hu,rfl⟩:=List.mem_map.mp hv
    have hux:=hzx u (aD _ (hsub u (List.mem_of_mem_drop hu)))
    simp only[jy,aa,V.int.injEq,V.bl.injEq,V.str.injEq,V.ref.injEq,V.ty.injEq,aq,ar,and_true,exists_eq_left',exists_eq_left,fz]
    exact⟨hux.1,by have:=hux.2;omega,λH9 s9=>hK _ (s8.trans s9)⟩
   ·obtain⟨u,hu,rfl⟩:=List.mem_map.mp hv
    simp only[cI,aa]
    exact hK _ s8
   ·intro p4 hp4
    have sp:=cq.upd (o:= .lst []) hp4
    dsimp only
    rw[sp _ _ cg,cg]
    dsimp only
    have sA:=(s3'.trans s8).trans ((cq.upd (o:= .lst ((((qu x r).drop (fL x)).map V.str).filter (Dw wr)|>.map id)) hl).trans sp)
    rw[List.map_id]at sA⊢
    by_cases y:((qu x r).drop (fL x)).all wr=true
    ·have e:=oS.mpr y
     rw[e]at sA⊢
     exact hR _ _ ⟨sA,y,rfl⟩
    ·rw[if_neg (show¬(_=([]:List V).length) from λn=>y (oS.mp (List.eq_nil_of_length_eq_zero n)))]
     rw[rn ep (by rw[al,Bool.eq_false_iff.mpr y,Bool.and_false])]at q
     exact q _ ((sH6.trans s7).trans sA)
  rintro _ H8 ⟨s8,hn8,rfl⟩
  have ha8:=(s7.trans s8) _ _ ha6
  obtain⟨al,nl,hsub⟩:=uf hx hr1
  have ha2:all2 pO (want x) r=true:=by rw[al,hn7,hn8];rfl
  have sH8:=(sH6.trans s7).trans s8
  simp only[dj,dD,wa,tC,cI,eY,eqv,oI,Int.reduceAdd,↓reduceIte,aG,cg,oK,km,Bl,decide_eq_false_iff_not,ag,ak,aa,ae,true_and,aN,Nat.reduceAdd,zL,oG,sx,↓cS,ha8]
  by_cases y:x=Str.ofString "again"
  ·rw[if_neg (λn=>n y)]
   have hw:want x=[false]:=by rw[y];decide+kernel
   rw[hw]at hr1 ha2
   match r,hr1 with
   | [u],_=>
    have hu:wr u=true:=by simpa [all2,pO] using ha2
    intro p5 hp5
    have e: [V.str (Str.ofString "0"),V.str (Str.ofString "1"),V.str (Str.ofString "2"),V.str (Str.ofString "3"),V.str (Str.ofString "4"),V.str (Str.ofString "5"),V.str (Str.ofString "6"),V.str (Str.ofString "7"),V.str (Str.ofString "8"),V.str (Str.ofString "9")]=zP.map V.str:=rfl
    rw[e,lV,Dr hu]
    have ef:fits z=(decide (0<=vl u)&&decide (vl u<=9)):=by
     rw[rj ep,decide_eq_true hx,hw,ha2,show decide (x≠xj)=false from decide_eq_false (λn=>n y)];rfl
    rw[ef]at q
    exact⟨rfl,mC,q _ (sH8.trans (cq.upd hp5))⟩
  ·rw[if_pos y]
   rw[Br ep hx ha2 (λn=>absurd n y)]at q
   exact q _ sH8
noncomputable def gy:Sp:=λvs H Q _=>∃a,∃ls:List Str,vs=[.ref a]/\H a=some (.lst (ls.map V.str))/\ls.length<=1000/\(∀l∈ls,tx 700 l/\fits l=true)/\∀m H',cq H H'->H m=none->H' m=some (.lst ((gk [] ls).map V.str))->Q (.ref m) H'
theorem ic:cX ["_law_lines_here","_law_found","_law_line","_law_words","_law_k"] ["_law_lines_here"] (cH l9):=fsc
theorem h_(T:Txt w K mg A):eg P w K mg base (kF P w) true 2 A.fY A.gR ["_law_lines_here"] gy:=by
 refine T.fE.o_ ic (λvs H Q E h=> ?_) (λcdv A' outer s H vs Q E hr hx h=> ?_)
 ·obtain⟨_,_,rfl,_⟩:=h
  rfl
 ·obtain⟨a,ls,rfl,h⟩:=h
  obtain⟨q,ha,hl,hls⟩:=BR h
  refine dF (B:=λt=>t _ _ _) (cc (cz (i:=1) ic.nd rfl lo (cE b_))
   (cc (iY hx.own rfl (eT (cj 0)) (gZ (i:=2) ic.nd rfl lo)
    (cc (cz (i:=3) ic.nd rfl lo (ij PySem.F.slot_str_split PySem.F.type_str_split lA (cj 2) (cb cw b_)))
   (ck (iY hx.own rfl (uJ rfl T.kX (cb cf (cb (cG fM (by rfl) T.fT PyProof.Rows.Boot.«len» (cb (cj 3) b_)) b_))) (gZ (i:=4) ic.nd rfl lo)
    (ck (cK (fo (ky (dw (c9 (cx ((i4 T).mono (by decide)) hr rfl T.eR T.fj.kp T.gN hx (cb (cU dh (cj 3) (cj 4) (λ_ _=>rfl)) b_)) (λ_=>rfl))) (ju (cA n_ (cU dh (cj 3) (cj 4) (λ_ _=>rfl)) (cj 1) (by with_unfolding_all rfl))))) (ck (fS (n9 bN bO kr (cj 1) (cb (cU dh (cj 3) (cj 4) (λ_ _=>rfl)) b_)))) cD))))))
   (ck (cF (cj 1))))) ?_
  show gh _ _ _ [some (V.ref a),none,none,none,none] H
  refine cu (λσ' H'=>∃f,H f=none/\cq H H'/\H' f=some (.lst [])/\σ'=[some (V.ref a),some (V.ref f),none,none,none]) (λR hR=> ?_) ?_
  ·simp only[cL,eY,c5,cJ,ak,aj,ai,true_and,v9]
   exact λf hf=>hR _ _ ⟨f,hf,cq.upd hf,cg,rfl⟩
  rintro _ H1 ⟨f,hf0,s1,hf1,rfl⟩
  have ha1:=s1 _ _ ha
  have af:a≠f:=λy=>by rw[y,hf0]at ha;cases ha
  have naf:a∉ [f]:=λm=>af (List.mem_singleton.mp m)
  refine cu (λσ' H'=>Sb [f] H1 H'/\H' f=some (.lst ((gk [] ls).map V.str))/\∃v2 v3 v4,σ'=[some (V.ref a),some (V.ref f),v2,v3,v4]) (λR hR=> ?_) ?_
  ·simp only[dD,ja,cB,cL,tC,cI,cN,oI,lM,dR,jd,and_assoc,Int.reduceLT,Nat.reduceLT,Int.reduceLE,Int.reduceNeg,Int.reducePow,mi,yN,kQ,aa,V.int.injEq,V.bl.injEq,V.str.injEq,V.ref.injEq,V.ty.injEq,aq,ar,and_true,true_and,exists_eq_left',exists_and_left]
   refine⟨⟨_,fb.of ha1⟩,fK.sU (xs:=ls.map V.str) (λi σ' H'=>Sb [f] H1 H'/\H' f=some (.lst ((gk [] (ls.take i)).map V.str))/\∃v2 v3 v4,σ'=[some (V.ref a),some (V.ref f),v2,v3,v4]) ⟨Sb.of (cq.refl _),hf1,_,_,_,rfl⟩ (λi σ' H' _ h=>fb.of (h.1 _ _ naf ha1)) ?_ ?_⟩
   ·rintro i v σ' H2 hv ⟨s2,hf2,v2,v3,v4,rfl⟩ R2 hR2
    rw[aS]at hv
    obtain⟨u,hu,rfl⟩:=Option.map_eq_some_iff.mp hv
    have hum:=aZ hu
    obtain⟨htx,hfit⟩:=hls u hum
    obtain⟨x,r,ep,_,hx,hal,_⟩:=nZ hfit
    have hr3:r.length<=3:=by rw[gi hal];exact iw x
    have et:ls.take (i+1)=ls.take i++[u]:=by rw[a_,hu];rfl
    have enl:gk [] (ls.take (i+1))=(se (x::r)).foldl kH (gk [] (ls.take i)):=by rw[et,o6,nA,ep];rfl
    have hlen:=o7 (acc:=[]) (ls:=ls.take i) λl h=>(hls l (List.mem_of_mem_take h)).2
    have hpt:=pf htx.asc ep
    rw[enl]at hR2
    have htl:(ls.take i).length<=ls.length:=by rw[aH];omega
    generalize gk [] (ls.take i)=acc at*
    simp only[cJ,aj,ai]
    refine cu (λσ' H'=>cq H2 H'/\∃p,H2 p=none/\H' p=some (.lst ((x::r).map V.str))/\σ'=[some (V.ref a),some (V.ref f),some (V.str u),some (V.ref p),v4]) (λR3 hR3=> ?_) ?_
    ·simp only[cB,cL,tC,cI,c5,cJ,ax,aa,ae,aj,ai,oF,mH,qZ,lE.1,ep]
     exact⟨ao 1,by have:=htx.1;omega,λl hl=>hR3 _ _ ⟨cq.upd hl,l,hl,cg,rfl⟩⟩
    rintro _ H3 ⟨s3,p,hp0,hp,rfl⟩
    have hf3:=s3 _ _ hf2
    have npf:p∉ [f]:=λm=>by rw[List.mem_singleton.mp m,hf2]at hp0;cases hp0
    rw[ax]at hp
    simp only[Int.reduceNeg,ag,aa,ae,hp]
    rw[ah]
    refine⟨by omega,by omega,?_⟩
    rw[show(((r.length+1:Nat):Int)-1).toNat=r.length by omega]
    refine fK.vX (lo:=1) (λj σ' H'=>Sb [f] H3 H'/\H' f=some (.lst (((se (x::r.take j)).foldl kH acc).map V.str))/\∃v4,σ'=[some (V.ref a),some (V.ref f),some (V.str u),some (V.ref p),v4]) ⟨Sb.of (cq.refl _),hf3,_,rfl⟩ ?_ ?_
    ·rintro j σ' H4 hj ⟨s4,hf4,v5,rfl⟩ R4 hR4
     have hz:r[j]? =some (r[j]'hj):=aE hj
     generalize r[j]'hj=z at hz
     have hzt:=hpt z (aD _ (aZ hz))
     have hp4:=s4 _ _ npf hp
     have ei:mD (V.str x::r.map V.str) (1+(j:Int))=some (V.str z):=by
      rw[show(1+(j:Int))=((j+1:Nat):Int) by omega]
      refine oA ?_
      rw[ae,aS,hz];rfl
     have etj:r.take (j+1)=r.take j++[z]:=by rw[a_,hz];rfl
     have hlj:((se (x::r.take j)).foldl kH acc).length<=acc.length+3:=by
      have h1:=mB (ns:=se (x::r.take j)) (acc:=acc)
      have h2:(se (x::r.take j)).length<=3:=av (bE _ _) (by rw[aH];omega)
      omega
     have ef:se (x::r.take (j+1))=se (x::r.take j)++(if wr z=true then [] else [z]):=by
      show(r.take (j+1)).filter (λz=> !wr z)=(r.take j).filter (λz=> !wr z)++_
      rw[etj,bh]
      cases y:wr z<;>simp[y]
     rw[ef,List.foldl_append]at hR4
     generalize (se (x::r.take j)).foldl kH acc=ac at*
     simp only[cW,lF,dA,cV,dD,sv,jy,cB,cL,cI,cJ,oI,↓reduceIte,aG,kK,vo,aa,ae,aj,ai,V.int.injEq,V.bl.injEq,V.str.injEq,V.ref.injEq,V.ty.injEq,aq,ar,and_true,exists_eq_left',exists_eq_left,aN,oG,↓cS,hp4,ei,fz]
     refine⟨hzt.1,by have:=hzt.2;have:=htx.1;omega,λH5 s5=> ?_⟩
     have hf5:=s5 _ _ hf4
     have hp5:=s5 _ _ hp4
     cases y:wr z with
     |true=>
      rw[y,if_pos rfl]at hR4
      rw[if_neg (λn=>by cases n)]
      exact hR4 _ _ ⟨s4.trans (Sb.of s5),hf5,_,rfl⟩
     |false=>
      rw[y,if_neg (λn=>by cases n)]at hR4
      rw[if_pos rfl]
      simp only[hp5,ei,hf5]
      refine⟨rfl,mC,?_⟩
      rw[lV]
      have ea: [z].foldl kH ac=kH ac z:=rfl
      rw[ea]at hR4
      by_cases ym:z∈ac
      ·rw[decide_eq_true ym,if_neg (λn=>by cases n)]
       refine hR4 _ _ ⟨s4.trans (Sb.of s5),?_,_,rfl⟩
       unfold kH;rw[if_pos ym];exact hf5
      ·rw[decide_eq_false ym,if_pos rfl]
       refine⟨bq (show _<=40000 by rw[ah];rw[ak]at hlen;omega) (by unfold sizeLine;omega),hR4 _ _ ⟨(s4.trans (Sb.of s5)).trans (Sb.upd (by simp)),?_,_,rfl⟩⟩
       unfold kH;rw[if_neg ym,cg,aF];rfl
    ·rintro σ' H4 ⟨s4,hf4,v5,rfl⟩
     rw[bb]at hf4
     exact hR2 _ _ ⟨(s2.trans (Sb.of s3)).trans s4,hf4,_,_,_,rfl⟩
   ·rintro σ' H2 ⟨s2,hf2,v2,v3,v4,rfl⟩
    rw[ah,bb]at hf2
    exact hR _ _ ⟨s2,hf2,_,_,_,rfl⟩
  rintro _ H2 ⟨s2,hf2,v2,v3,v4,rfl⟩
  simp only[dj,cI,aa,ae]
  exact q _ _ (λb o e=>s2 b o (λm=>by rw[List.mem_singleton.mp m,hf0]at e;cases e) (s1 _ _ e)) hf0 hf2
noncomputable def rR (A:Ad):Sp:=λvs H Q E=>∃b z,vs=[.str (wS b),.str z]/\asc z/\z.length<=700/\(pO b z=true->∀H',cq H H'->Q (pV b z) H')/\(pO b z=false->∀H',cq H H'->E (.ref A.cy) none H')
theorem rO:cX ["wanted","text","numbers"] ["wanted","text"] (cH pP):=fsc
theorem vQ(T:Txt w K mg A):eg P w K mg base (kF P w) true 3 A.jq A.kg ["wanted","text"] (rR A):=by
 refine T.n8.o_ rO (λvs H Q E h=> ?_) (λcdv A' outer s H vs Q E hr hx h=> ?_)
 ·obtain⟨_,_,rfl,_⟩:=h
  rfl
 ·obtain⟨b,z,rfl,h⟩:=h
  obtain⟨e,az,lz,q⟩:=BR h
  refine dF (B:=λt=>t _ _ _) (cc (cK (cA fG (cj 0) cw (cM _)) (cc (cK (dw (c9 (cx ((vP T).mono (by decide)) hr rfl T.nk T.n6.kp T.sE hx (cb (cj 1) b_)) (λ_=>rfl))) (ck (fu hx rfl T.dv T.dP rfl (cb cw b_))) cD)
   (ck (cF (cj 1)))) cD)
   (cc (cz (i:=2) rO.nd rfl lo (cx ((sk T).mono (by decide)) hr rfl T.j3 T.lp.kp T.oE hx (cb (cE (cb (cj 1) b_)) b_)))
   (cc (cK (cA yS (cj 2) iX (cM _)) (ck (fu hx rfl T.dv T.dP rfl (cb cw b_))) cD)
   (ck (cF (cU dh (cj 2) cf (λ_ _=>rfl))))))) ?_
  show gh _ _ _ [some (V.str (wS b)),some (V.str z),none] H
  cases b with
  |true=>
   simp only[dj,cW,gh,dA,cV,dD,jy,cB,cL,tC,cI,cN,gA,sd,eqv,jd,Int.reduceAdd,↓reduceIte,aG,ag,ak,aa,ae,V.int.injEq,V.bl.injEq,V.str.injEq,V.ref.injEq,V.ty.injEq,aq,ar,and_true,true_and,exists_eq_left',exists_eq_left,Nat.reduceAdd,ou,↓cS,uk,rQ]
   refine⟨az,lz,λH' s'=> ?_⟩
   cases y:rJ z with
   |true=>rw[if_neg (λn=>by cases n)];exact q y _ s'
   |false=>rw[if_pos rfl];exact e y _ s'
  |false=>
   refine cu (λσ' H'=>H=H'/\σ'=[some (V.str (wS false)),some (V.str z),none]) (λR hR=> ?_) ?_
   ·simp only[cW,dA,cV,dD,tC,cI,sd,eqv,↓reduceIte,aa,aN,↓cS,uk]
    exact hR _ _ ⟨rfl,rfl⟩
   rintro _ _ ⟨rfl,rfl⟩
   simp only[dj,cW,gh,dA,cV,dD,cB,cL,tC,cI,eY,c5,cJ,cN,gA,Dv,rq,oI,Int.reduceAdd,↓reduceIte,cg,km,ag,ak,aa,ae,aj,ai,V.int.injEq,V.bl.injEq,V.str.injEq,V.ref.injEq,V.ty.injEq,aq,ar,and_true,true_and,exists_eq_left',exists_and_left,aN,Nat.reduceAdd,ou,↓cS,nU]
   refine λp hp=>⟨[z],rfl,λt ht=>by rw[List.mem_singleton.mp ht];exact⟨az,lz⟩,show 1<=800 by decide,?_⟩
   rw[show [z].all wr=wr z by simp]
   cases y:wr z with
   |true=>
    rw[if_pos rfl]
    intro l H' s' _ hl
    rw[hl]
    exact q y _ ((cq.upd hp).trans s')
   |false=>
    rw[if_neg (λn=>by cases n)]
    exact λH' s'=>e y _ ((cq.upd hp).trans s')
noncomputable def mf (K:PySem.W.Frag):Sp:=λvs H Q _=>∃a,∃ns:List Int,∃m:Int,vs=[.ref a,.int m]/\fb K H a (ns.map V.int)/\0<=m/\m<=3/\∀l H',∀ts:List Str,cq H H'->H l=none->H' l=some (.lst (ts.map V.str))->ts.length<=25->(∀t∈ts,tx 300 t)->Q (.ref l) H'
theorem dM:cX ["_law_script","_law_most","_law_base","_law_lines_here","_law_deep","_law_k","_law_cell","_law_row_here"] ["_law_script","_law_most"] (cH mW):=fsc
theorem pd(T:Txt w K mg A):eg P w K mg base (kF P w) true 3 A.gH A.iN ["_law_script","_law_most"] (mf K):=by
 refine T.jY.o_ dM (λvs H Q E h=> ?_) (λcdv A' outer s H vs Q E hr hx h=> ?_)
 ·obtain⟨_,_,_,rfl,_⟩:=h
  rfl
 ·obtain⟨a,ns,m,rfl,h⟩:=h
  obtain⟨q,ha,hm0,hm3⟩:=BR h
  refine dF (B:=λt=>t _ _ _) (cc (cz (i:=2) dM.nd rfl lo (cx ((fH T).mono (by decide)) hr rfl T.eQ T.d8.kp T.fN hx (cb (cj 0) (cb cf b_))))
   (cc (cz (i:=3) dM.nd rfl lo (cE b_))
   (cc (cz (i:=4) dM.nd rfl lo cf)
   (cc (iY hx.own rfl (kR rfl T.kX (cb (cm cP (cx ((fH T).mono (by decide)) hr rfl T.eQ T.d8.kp T.fN hx (cb (cj 0) (cb cf b_))) cf) b_)) (gZ (i:=5) dM.nd rfl lo)
    (cc (cz (i:=6) dM.nd rfl lo (cm cP (cm oW (cm cY (cm cY (cx ((fH T).mono (by decide)) hr rfl T.eQ T.d8.kp T.fN hx (cb (cj 0) (cb (cm cY cf (cm cP (cj 5) cf)) b_))) (cm oW cf (cj 5))) cf) cf) cf))
   (cc (cz (i:=7) dM.nd rfl lo (cx ((uQ T).mono (by decide)) hr rfl T.lS T.mL.kp T.qW hx (cb (cj 2) (cb (cm c7 (cj 6) cf) b_))))
   (cc (cK (fo (ky (cA fG (cm cP (cj 6) cf) cf (cM _)) (ju (cA mP (cj 4) cf (cM _))))) (cc (cz (i:=7) dM.nd rfl lo cw)
   (ck (cz (i:=4) dM.nd rfl lo (cm oX (cj 4) cf)))) (ck (cK (fo (ik (cA fG (cQ iV (cj 7) cT (cZ cf)) cw (cM _)) (hZ (cA fG (cQ iV (cj 7) cT (cZ cf)) cw (cM _))))) (ck (cK (cA fG (cj 4) (cj 1) (cM _)) (ck (cz (i:=7) dM.nd rfl lo (cm cY cw (cx ((i5 T).mono (by decide)) hr rfl T.fW T.gb.kp T.iI hx (cb (cj 2) (cb cf b_)))))) (ck (cz (i:=4) dM.nd rfl lo (cm cY (cj 4) cf))))) cD)))
   (ck (fS (n9 bN bO kr (cj 3) (cb (cj 7) b_))))))))
   (ck (cF (cm dW (cj 3) (cm AJ (cE (cb cw b_)) (cj 4))))))))) ?_
  show gh _ _ _ [some (V.ref a),some (V.int m),none,none,none,none,none,none] H
  refine cu (λσ' H'=>H=H'/\∃b,σ'=[some (V.ref a),some (V.int m),some (V.int b),none,none,none,none,none]) (λR hR=> ?_) ?_
  ·simp only[cB,cL,tC,cI,c5,cJ,cN,and_assoc,Int.reduceLE,aa,aj,ai,V.int.injEq,V.bl.injEq,V.str.injEq,V.ref.injEq,V.ty.injEq,aq,ar,and_true,true_and,exists_eq_left',exists_and_left,fI]
   exact⟨_,ha,hR _ _ ⟨rfl,_,rfl⟩⟩
  rintro _ _ ⟨rfl,b,rfl⟩
  refine cu (λσ' H'=>∃f,H f=none/\cq H H'/\H' f=some (.lst [])/\σ'=[some (V.ref a),some (V.int m),some (V.int b),some (V.ref f),none,none,none,none]) (λR hR=> ?_) ?_
  ·simp only[cL,eY,c5,cJ,ak,aj,ai,true_and,v9]
   exact λf hf=>hR _ _ ⟨f,hf,cq.upd hf,cg,rfl⟩
  rintro _ H1 ⟨f,hf0,s1,hf1,rfl⟩
  refine cu (λσ' H'=>H1=H'/\σ'=[some (V.ref a),some (V.int m),some (V.int b),some (V.ref f),some (V.int 0),none,none,none]) (λR hR=> ?_) ?_
  ·simp only[tC,c5,cJ,aj,ai]
   exact hR _ _ ⟨rfl,rfl⟩
  rintro _ _ ⟨rfl,rfl⟩
  have ha1:=s1.seq ha
  refine cu (λσ' H'=>cq H H'/\∃ts:List Str,∃d:Int,0<=d/\d<=3/\H' f=some (.lst (ts.map V.str))/\ts.length<=20/\(∀t∈ts,tx 300 t)/\∃v5 v6 v7,σ'=[some (V.ref a),some (V.int m),some (V.int b),some (V.ref f),some (V.int d),v5,v6,v7]) (λR hR=> ?_) ?_
  ·simp only[dD,cB,cL,tC,cI,cN,gj,Ak,and_assoc,Int.reduceLT,Nat.reduceLT,Int.reduceLE,Int.reduceNeg,Int.reducePow,mi,sQ,aa,V.int.injEq,V.bl.injEq,V.str.injEq,V.ref.injEq,V.ty.injEq,aq,ar,and_true,true_and,exists_eq_left',exists_and_left,fI]
   refine⟨_,ha1,by omega,by omega,?_⟩
   generalize en:(cat ns 1%20).toNat=n
   have hn:n<=20:=by omega
   refine fK.vX (λi σ' H'=>Sb [f] H1 H'/\∃ts:List Str,∃d:Int,0<=d/\d<=m/\H' f=some (.lst (ts.map V.str))/\ts.length=i/\(∀t∈ts,tx 300 t)/\∃v5 v6 v7,σ'=[some (V.ref a),some (V.int m),some (V.int b),some (V.ref f),some (V.int d),v5,v6,v7]) ⟨Sb.of (cq.refl _),[],0,by decide,hm0,hf1,rfl,λt h=>absurd h (by simp),_,_,_,rfl⟩ ?_ ?_
   ·rintro i σ' H2 hi ⟨s2,ts,d,hd0,hdm,hf2,hl,ht,v5,v6,v7,rfl⟩ R2 hR2
    have s2H:cq H H2:=λc o e=>s2 c o (λmm=>by rw[List.mem_singleton.mp mm,hf0]at e;cases e) (s1 _ _ e)
    have ha2:=s2H.seq ha
    simp only[cJ,aj,ai]
    refine cu (λσ' H'=>H2=H'/\∃c6:Int,σ'=[some (V.ref a),some (V.int m),some (V.int b),some (V.ref f),some (V.int d),some (V.int (0+(i:Int))),some (V.int c6),v7]) (λR3 hR3=> ?_) ?_
    ·simp only[dD,cB,cL,tC,cI,c5,cJ,cN,jP,vv,gj,and_assoc,ur,true_or,or_true,Int.reduceLT,Nat.reduceLT,Int.reduceNeg,Int.reducePow,aa,ae,aj,ai,V.int.injEq,V.bl.injEq,V.str.injEq,V.ref.injEq,V.ty.injEq,aq,ar,and_true,true_and,exists_eq_left',exists_and_left,fI]
     exact⟨_,ha2,by omega,hR3 _ _ ⟨rfl,_,rfl⟩⟩
    rintro _ _ ⟨rfl,c6,rfl⟩
    refine cu (λσ' H'=>cq H2 H'/\∃z,tx 300 z/\σ'=[some (V.ref a),some (V.int m),some (V.int b),some (V.ref f),some (V.int d),some (V.int (0+(i:Int))),some (V.int c6),some (V.str z)]) (λR3 hR3=> ?_) ?_
    ·simp only[dD,cB,cL,tC,cI,c5,cJ,cN,g_,and_assoc,la,Int.reduceLT,Nat.reduceLT,aa,ae,aj,ai,V.int.injEq,V.bl.injEq,V.str.injEq,V.ref.injEq,V.ty.injEq,aq,ar,and_true,true_and,exists_eq_left',exists_and_left,qp]
     exact λz H' s' hz=>hR3 _ _ ⟨s',z,hz,rfl⟩
    rintro _ H3 ⟨s3,z,hz,rfl⟩
    refine cu (λσ' H'=>cq H3 H'/\∃z,∃d:Int,tx 300 z/\0<=d/\d<=m/\σ'=[some (V.ref a),some (V.int m),some (V.int b),some (V.ref f),some (V.int d),some (V.int (0+(i:Int))),some (V.int c6),some (V.str z)]) (λR3 hR3=> ?_) ?_
    ·have e3:StrLaws.sliceText z none (some 3)=pI (z.cps.toList.take 3):=sZ (i:=3)
     have e6:StrLaws.sliceText z none (some 6)=pI (z.cps.toList.take 6):=sZ (i:=6)
     have hl3:∀k:Nat,k<=10->(pI (z.cps.toList.take k)).length<=sizeLine:=λk hk=>cR (show(z.cps.toList.take k).length<=40000 by rw[aH];omega)
     have te:tx 300 (Str.ofString "end"):=(jV (x:=Str.ofString "end") (by decide+kernel)).mono (by decide)
     have tt:tx 5 (Str.ofString "tell "):=hE (by decide+kernel)
     have r1:R3 [some (V.ref a),some (V.int m),some (V.int b),some (V.ref f),some (V.int d),some (V.int (0+(i:Int))),some (V.int c6),some (V.str z)] H3:=hR3 _ _ ⟨cq.refl _,z,d,hz,hd0,hdm,rfl⟩
     have r2:d≠m->R3 [some (V.ref a),some (V.int m),some (V.int b),some (V.ref f),some (V.int (d+1)),some (V.int (0+(i:Int))),some (V.int c6),some (V.str z)] H3:=λy=>hR3 _ _ ⟨cq.refl _,z,d+1,hz,by omega,by omega,rfl⟩
     have r3:∀(z:Str) (H':Hp),cq H3 H'->tx 8 z->5+z.length<=sizeLine/\R3 [some (V.ref a),some (V.int m),some (V.int b),some (V.ref f),some (V.int d),some (V.int (0+(i:Int))),some (V.int c6),some (V.str (Str.ofString "tell "++z))] H':=λz H' s' hz=>⟨cR (by have:=hz.1;omega),hR3 _ _ ⟨s',_,d,(tt.app hz).mono (by decide),hd0,hdm,rfl⟩⟩
     have r4:(pI (z.cps.toList.take 3)).length<=sizeLine/\(if pI (z.cps.toList.take 3)=Str.ofString "if " then(if d=m then(∀(z:Str) (H':Hp),cq H3 H'->tx 8 z->5+z.length<=sizeLine/\R3 [some (V.ref a),some (V.int m),some (V.int b),some (V.ref f),some (V.int d),some (V.int (0+(i:Int))),some (V.int c6),some (V.str (Str.ofString "tell "++z))] H') else R3 [some (V.ref a),some (V.int m),some (V.int b),some (V.ref f),some (V.int (d+1)),some (V.int (0+(i:Int))),some (V.int c6),some (V.str z)] H3) else(pI (z.cps.toList.take 6)).length<=sizeLine/\(if pI (z.cps.toList.take 6)=Str.ofString "again " then(if d=m then(∀(z:Str) (H':Hp),cq H3 H'->tx 8 z->5+z.length<=sizeLine/\R3 [some (V.ref a),some (V.int m),some (V.int b),some (V.ref f),some (V.int d),some (V.int (0+(i:Int))),some (V.int c6),some (V.str (Str.ofString "tell "++z))] H') else R3 [some (V.ref a),some (V.int m),some (V.int b),some (V.ref f),some (V.int (d+1)),some (V.int (0+(i:Int))),some (V.int c6),some (V.str z)] H3) else R3 [some (V.ref a),some (V.int m),some (V.int b),some (V.ref f),some (V.int d),some (V.int (0+(i:Int))),some (V.int c6),some (V.str z)] H3)):=by
      refine⟨hl3 3 (by decide),?_⟩
      split
      ·split
       ·exact r3
       ·rename_i y;exact r2 y
      ·refine⟨hl3 6 (by decide),?_⟩
       split
       ·split
        ·exact r3
        ·rename_i y;exact r2 y
       ·exact r1
     simp only[cW,gh,dA,cV,dD,sv,ya,cB,cL,tC,cI,c5,cJ,cN,jP,uy,gj,lh,sd,eqv,and_assoc,Int.reduceLT,Nat.reduceLT,↓reduceIte,iO,eK,uh,aa,ae,aj,ai,V.int.injEq,V.bl.injEq,V.str.injEq,V.ref.injEq,V.ty.injEq,aq,ar,and_true,true_and,exists_eq_left',exists_and_left,aN,decide_eq_true_eq,Bz,tH,↓cS,e3,e6,g6]
     by_cases y1:c6%5=1
     ·rw[if_pos y1]
      by_cases y2:0<d
      ·rw[if_pos y2]
       exact hR3 _ _ ⟨cq.refl _,_,d-1,te,by omega,by omega,rfl⟩
      ·rw[if_neg y2];exact r4
     ·rw[if_neg y1];exact r4
    rintro _ H4 ⟨s4,z4,d4,hz4,hd40,hd4m,rfl⟩
    have hf4:=(s3.trans s4) _ _ hf2
    simp only[lF,cB,cL,cI,kK,vo,aa,ae,hf4]
    refine⟨bq (show _<=1000 by rw[ah];omega) (by decide),hR2 _ _ ⟨(s2.trans (Sb.of (s3.trans s4))).trans (Sb.upd (by simp)),ts++[z4],d4,hd40,hd4m,by rw[cg,aF];rfl,by rw[ay,hl];rfl,λt h=> ?_,_,_,_,rfl⟩⟩
    rcases List.mem_append.mp h with h|h
    ·exact ht t h
    ·rw[List.mem_singleton.mp h];exact hz4
   ·rintro σ' H2 ⟨s2,ts,d,hd0,hdm,hf2,hl,ht,v5,v6,v7,rfl⟩
    exact hR _ _ ⟨λc o e=>s2 c o (λmm=>by rw[List.mem_singleton.mp mm,hf0]at e;cases e) (s1 _ _ e),ts,d,hd0,by omega,hf2,by omega,ht,_,_,_,rfl⟩
  rintro _ H2 ⟨s2,ts,d,hd0,hd3,hf2,hl,ht,v5,v6,v7,rfl⟩
  simp only[dj,dD,cB,cL,tC,cI,eY,Int.reduceNeg,Int.reducePow,Int.reduceAdd,cg,Ao,lL,ag,ak,aa,ae,true_and,Nat.reduceAdd,ou]
  intro p hp
  have a0:=cq.upd (o:= .lst [V.str (Str.ofString "end")]) hp
  refine⟨by omega,by omega,cR (by omega),λp1 hp1=> ?_⟩
  have er:(List.replicate d.toNat [V.str (Str.ofString "end")]).flatten=(List.replicate d.toNat eS).map V.str:=by
   rw[List.map_replicate]
   induction d.toNat with
   |zero=>rfl
   |succ k ih=>rw[bx,bx,bD,ih];rfl
  rw[er]
  have a1:=cq.upd (o:= .lst ((List.replicate d.toNat eS).map V.str)) hp1
  rw[(a0.trans a1) _ _ hf2]
  dsimp only
  refine⟨cR (by rw[ah,ah,bo];omega),λp2 hp2=> ?_⟩
  have a2:=cq.upd (o:= .lst (ts.map V.str++(List.replicate d.toNat eS).map V.str)) hp2
  refine q _ _ (ts++List.replicate d.toNat eS) (s2.trans (a0.trans (a1.trans a2))) (same_none (s2.trans (a0.trans a1)) hp2) (by rw[cg,aF]) (by rw[ay,bo];omega) λt h=> ?_
  rcases List.mem_append.mp h with h|h
  ·exact ht t h
  ·rw[(List.mem_replicate.mp h).2];exact(jV (x:=eS) (by decide+kernel)).mono (by decide)
noncomputable def pv:Sp:=λvs H Q _=>∃a,∃ls:List Str,vs=[.ref a]/\H a=some (.lst (ls.map V.str))/\ls.length<=1000/\(∀l∈ls,tx 700 l)/\∀H',cq H H'->Q (.bl (good ls)) H'
theorem j_:cX ["_law_lines_here","_law_deep","_law_line"] ["_law_lines_here"] (cH mV):=fsc
theorem t6(T:Txt w K mg A):eg P w K mg base (kF P w) true 3 A.gF A.iL ["_law_lines_here"] pv:=by
 refine T.lQ.o_ j_ (λvs H Q E h=> ?_) (λcdv A' outer s H vs Q E hr hx h=> ?_)
 ·obtain⟨_,_,rfl,_⟩:=h
  rfl
 ·obtain⟨a,ls,rfl,h⟩:=h
  obtain⟨q,ha,hl,hls⟩:=BR h
  refine dF (B:=λt=>t _ _ _) (cc (cz (i:=1) j_.nd rfl lo cf)
   (cc (iY hx.own rfl (eT (cj 0)) (gZ (i:=2) j_.nd rfl lo)
    (cc (cK (dw (c9 (cx ((tZ T).mono (by decide)) hr rfl T.kN T.lP.kp T.qc hx (cb (cj 2) b_)) (λ_=>rfl))) (ck (cF e_)) cD)
   (cc (cz (i:=1) j_.nd rfl lo (cm oX (cm cY (cj 1) (c_ oV (by rfl) T.qk PyProof.Rows.Boot.«int» (cb (qM (de fG (cQ iV (cj 2) cT (cZ cf)) cw (cM _)) (gK (de fG (cQ iV (cj 2) cT (cZ cf)) cw (cM _)))) b_))) (c_ oV (by rfl) T.qk PyProof.Rows.Boot.«int» (cb (de fG (cj 2) cw (cM _)) b_))))
   (ck (cK (dw (lX ku ku cf (cj 1) cf)) (ck (cF e_)) cD)))))
   (ck (cF (iW (de fG (cj 1) cf (cM _)) (gK (de ku (cG fM (by rfl) T.fT PyProof.Rows.Boot.«len» (cb (cx ((h_ T).mono (by decide)) hr rfl T.fk T.fE.kp T.gO hx (cb (cj 0) b_)) b_)) cf (cM _)))))))) ?_
  show gh _ _ _ [some (V.ref a),none,none] H
  refine cu (λσ' H'=>H=H'/\σ'=[some (V.ref a),some (V.int 0),none]) (λR hR=> ?_) ?_
  ·simp only[tC,c5,cJ,aj,ai]
   exact hR _ _ ⟨rfl,rfl⟩
  rintro _ _ ⟨rfl,rfl⟩
  refine cu (λσ' H'=>cq H H'/\(∀l∈ls,fits l=true)/\∃d:Nat,um 0 ls=some d/\∃v2,σ'=[some (V.ref a),some (V.int d),v2]) (λR hR=> ?_) ?_
  ·simp only[cB,cL,cI,cN,Bm,dR,jd,mi,kQ,aa,V.int.injEq,V.bl.injEq,V.str.injEq,V.ref.injEq,V.ty.injEq,aq,ar,exists_eq_left']
   refine⟨⟨_,fb.of ha⟩,fK.sU (xs:=ls.map V.str) (λi σ' H'=>cq H H'/\(∀l∈ls.take i,fits l=true)/\∃d:Nat,d<=3/\um 0 ls=um d (ls.drop i)/\∃v2,σ'=[some (V.ref a),some (V.int d),v2]) ⟨cq.refl _,λl h=>absurd h (by simp),0,by decide,rfl,_,rfl⟩ (λi σ' H' _ h=>fb.of (h.1 _ _ ha)) ?_ ?_⟩
   ·rintro i v σ' H2 hv ⟨s2,hf2,d,hd,ew,v2,rfl⟩ R2 hR2
    rw[aS]at hv
    obtain⟨u,hu,rfl⟩:=Option.map_eq_some_iff.mp hv
    have htx:=hls u (aZ hu)
    have et:ls.take (i+1)=ls.take i++[u]:=by rw[a_,hu];rfl
    rw[drop_cons hu,ng]at ew
    simp only[cJ,aj,ai]
    refine cu (λσ' H'=>cq H2 H'/\fits u=true/\σ'=[some (V.ref a),some (V.int d),some (V.str u)]) (λR3 hR3=> ?_) ?_
    ·simp only[dj,cW,dA,jy,tC,aG,aa,ae,V.int.injEq,V.bl.injEq,V.str.injEq,V.ref.injEq,V.ty.injEq,aq,ar,and_true,exists_eq_left',exists_eq_left,pq]
     refine⟨htx.asc,htx.1,λH3 s3=> ?_⟩
     cases y:fits u with
     |true=>rw[if_neg (λn=>by cases n)];exact hR3 _ _ ⟨s3,y,rfl⟩
     |false=>
      rw[if_pos rfl]
      rw[y,if_neg (λn=>by cases n)]at ew
      rw[kP (by rw[ew];exact λn=>nomatch n)]at q
      exact q _ (s2.trans s3)
    rintro _ H3 ⟨s3,hfit,rfl⟩
    rw[if_pos hfit]at ew
    have hf3:∀l∈ls.take (i+1),fits l=true:=λl h=>by
     rw[et]at h
     exact(List.mem_append.mp h).elim (hf2 l) λm=>by rw[List.mem_singleton.mp m];exact hfit
    have e3:StrLaws.sliceText u none (some 3)=pI (u.cps.toList.take 3):=sZ (i:=3)
    have e6:StrLaws.sliceText u none (some 6)=pI (u.cps.toList.take 6):=sZ (i:=6)
    refine cu (λσ' H'=>H3=H'/\σ'=[some (V.ref a),some (V.int ((d:Int)+(if ql (wd u)=true then 1 else 0)-(if wd u=eS then 1 else 0))),some (V.str u)]) (λR3 hR3=> ?_) ?_
    ·simp only[dD,wa,ja,cB,cL,tC,cI,c5,cJ,jP,uy,sd,eqv,↓reduceIte,iO,eK,uh,aa,ae,aj,ai,decide_eq_true_eq,tH,sM,↓cS,e3,e6]
     have ee:(if u=Str.ofString "end" then(1:Int) else 0)=if wd u=eS then 1 else 0:=by
      show(if u=eS then(1:Int) else 0)=_
      by_cases y:wd u=eS
      ·rw[if_pos ((yC hfit).mpr y),if_pos y]
      ·rw[if_neg (λn=>y ((yC hfit).mp n)),if_neg y]
     rw[ee]
     have hl3:∀k:Nat,k<=10->(pI (u.cps.toList.take k)).length<=sizeLine:=λk hk=>cR (show(u.cps.toList.take k).length<=40000 by rw[aH];omega)
     refine⟨hl3 3 (by decide),?_⟩
     by_cases y1:pI (u.cps.toList.take 3)=Str.ofString "if "
     ·rw[if_pos y1]
      rw[(zf hfit).mp (.inl y1),if_pos rfl]at hR3
      exact hR3 _ _ ⟨rfl,rfl⟩
     ·rw[if_neg y1]
      refine⟨hl3 6 (by decide),?_⟩
      by_cases y2:pI (u.cps.toList.take 6)=Str.ofString "again "
      ·rw[if_pos y2]
       rw[(zf hfit).mp (.inr y2),if_pos rfl]at hR3
       exact hR3 _ _ ⟨rfl,rfl⟩
      ·rw[if_neg y2]
       rw[if_neg (λn=>((zf hfit).mpr n).elim y1 y2)]at hR3
       exact hR3 _ _ ⟨rfl,rfl⟩
    rintro _ _ ⟨rfl,rfl⟩
    simp only[dj,cW,dA,cV,jy,tC,cI,lh,mh,↓reduceIte,aG,Bool.not_false,decide_eq_false_iff_not,aa,ae,decide_eq_true_eq,↓cS]
    have no:um 0 ls=none->Q (V.bl false) H3:=λy=>by
     rw[kP (by rw[y];exact λn=>nomatch n)]at q
     exact q _ (s2.trans s3)
    cases yo:ql (wd u) with
    |true=>
     have ne:wd u≠eS:=λy=>by rw[y,vR]at yo;cases yo
     rw[yo,if_pos rfl]at ew
     rw[if_neg ne,if_pos rfl,if_pos (by omega)]
     by_cases y3:d<3
     ·rw[if_pos y3]at ew
      rw[if_neg (by omega)]
      exact hR2 _ _ ⟨s2.trans s3,hf3,d+1,by omega,ew,_,by rw[show((d:Int)+1-0)=((d+1:Nat):Int) by omega]⟩
     ·rw[if_neg y3]at ew
      rw[if_pos (by omega)]
      exact no ew
    |false=>
     rw[yo,if_neg (λn=>by cases n)]at ew
     rw[if_neg (λn:false=true=>by cases n)]
     by_cases ye:wd u=eS
     ·rw[if_pos ye]at ew
      rw[if_pos ye]
      by_cases y0:0<d
      ·rw[if_pos y0]at ew
       rw[if_pos (by omega),if_neg (by omega)]
       exact hR2 _ _ ⟨s2.trans s3,hf3,d-1,by omega,ew,_,by rw[show((d:Int)+0-1)=((d-1:Nat):Int) by omega]⟩
      ·rw[if_neg y0]at ew
       rw[if_neg (by omega)]
       exact no ew
     ·rw[if_neg ye]at ew
      rw[if_neg ye,if_pos (by omega),if_neg (by omega)]
      exact hR2 _ _ ⟨s2.trans s3,hf3,d,hd,ew,_,by rw[show((d:Int)+0-0)=(d:Int) by omega]⟩
   ·rintro σ' H2 ⟨s2,hf2,d,hd,ew,v2,rfl⟩
    rw[ah,List.drop_length]at ew
    rw[ah,bb]at hf2
    exact hR _ _ ⟨s2,hf2,d,ew,_,rfl⟩
  rintro _ H2 ⟨s2,hf2,d,ew,v2,rfl⟩
  simp only[dj,dD,m_,ja,cB,cL,tC,cI,cN,Bm,lh,sd,eqv,lM,aa,ae,V.int.injEq,V.bl.injEq,V.str.injEq,V.ref.injEq,V.ty.injEq,aq,ar,and_true,exists_eq_left',exists_and_left,decide_eq_true_eq,↓cS,gy]
  by_cases y:d=0
  ·subst y
   rw[if_pos (by rfl)]
   refine⟨ls,s2 _ _ ha,hl,λl h=>⟨hls l h,hf2 l h⟩,λm H3 s3 hm0 hm=> ?_⟩
   rw[hm]
   dsimp only
   rw[ah]
   have e:good ls=decide (((gk [] ls).length:Int)<=42):=by
    unfold good
    rw[decide_eq_true ew,Bool.true_and]
    exact decide_eq_decide.mpr ⟨λh=>by omega,λh=>by omega⟩
   rw[e]at q
   exact q _ (s2.trans s3)
  ·rw[if_neg (by omega)]
   rw[kP (by rw[ew];exact λn=>y (by injection n))]at q
   exact q _ s2
noncomputable def mq (A:Ad):Sp:=λvs H Q E=>∃z,vs=[.str z]/\asc z/\z.length<=700/\
 (fits z=true->ql (wd z)=false->∀t H',cq H H'->H' t=some (.tup (sV z))->Q (.ref t) H')/\
 (fits z=true->ql (wd z)=true->∀t a H',cq H H'->H a=none->H' a=some (.lst [])->H' t=some (.tup (sV z++[.ref a]))->Q (.ref t) H')/\
 (fits z=false->∀H',cq H H'->E (.ref A.cy) none H')
theorem gq:cX ["line","parts","word","behind","statement"] ["line"] (cH i_):=fsc
theorem qB(T:Txt w K mg A):eg P w K mg base (kF P w) true 4 A.eW A.fR ["line"] (mq A):=by
 refine T.jR.o_ gq (λvs H Q E h=> ?_) (λcdv A' outer s H vs Q E hr hx h=> ?_)
 ·obtain⟨_,rfl,_⟩:=h
  rfl
 ·obtain⟨z,rfl,h⟩:=h
  obtain⟨e,az,lz,q,qb⟩:=E2 h
  refine dF (B:=λt=>t _ _ _) (cc (cz (i:=1) gq.nd rfl lo (ij PySem.F.slot_str_split PySem.F.type_str_split lA (cj 0) (cb cw b_)))
   (cc (cz (i:=2) gq.nd rfl lo (cU dh (cj 1) cf (λ_ _=>rfl)))
   (cc (cK (fo (ik (cA vF (cj 2) (dq T.d5) (by with_unfolding_all rfl)) (hZ (cA yX (cm oX (cG fM (by rfl) T.fT PyProof.Rows.Boot.«len» (cb (cj 1) b_)) cf) (cG (yT (k:=true)) (by rfl) T.fT PyProof.Rows.Boot.«len» (cb (pF (dq T.d5) (cj 2) (λ_ _=>rfl)) b_)) (cM _))))) (ck (fu hx rfl T.dv T.dP rfl (cb cw b_))) cD)
   (cc (rE (i:=3) (fsc:=cH i_) (N2:=[]) (js:=[]) gq.nd rfl lo ⟨rfl,rfl,by decide+kernel,by decide+kernel,by decide+kernel,by decide+kernel,by decide+kernel,by decide+kernel,by decide+kernel⟩ rfl rfl (by rfl) rfl rfl rfl EL (sS (k1:=true) (k2:=false) rfl T.uP (cb (pF (dq T.d5) (cj 2) (λ_ _=>rfl)) (cb (cQ iG (cj 1) (cZ cf) cT) b_))) (λ_ _ _ _=>gL) (λ_ _ _ _ _ hxb=>(cx ((vQ T).mono (by decide)) hr rfl T.nq T.n8.kp T.sF hxb (cb (cj 0) (cb (cj 1) b_)))))
   (cc (cK (fo (ky (cA fG (cj 2) cw (cM _)) (ju (dw (lX ku ku cf (cU dh (cj 3) cf (λ_ _=>rfl)) (dq T.kd)))))) (ck (fu hx rfl T.dv T.dP rfl (cb cw b_))) cD)
   (cc (cz (i:=4) gq.nd rfl lo (c_ uH (by rfl) T.o5 PyProof.Rows.Boot.«tuple» (cb (cm dW (cE (cb (cj 2) b_)) (cj 3)) b_)))
   (cc (cK (c9 (cx ((mU T).mono (by decide)) hr rfl T.jt T.jI.kp T.lJ hx (cb (cj 4) b_)) (λ_=>rfl)) (ck (cF (cm yQ (cj 4) (kx (cb (cE b_) b_))))) cD)
   (ck (cF (cj 4)))))))))) ?_
  show gh _ _ _ [some (V.str z),none,none,none,none] H
  obtain⟨x,r,ep⟩:∃x r,di 32 z=x::r:=by
   cases ep:di 32 z with
   |nil=>exact absurd ep pe
   |cons x r=>exact⟨x,r,rfl⟩
  refine cu (λσ' H'=>cq H H'/\∃l,H' l=some (.lst ((x::r).map V.str))/\σ'=[some (V.str z),some (V.ref l),none,none,none]) (λR hR=> ?_) ?_
  ·simp only[cB,cL,tC,cI,c5,cJ,ax,aa,aj,ai,oF,mH,qZ,lE.1,ep]
   exact⟨ao 1,by omega,λl hl=>hR _ _ ⟨cq.upd hl,l,cg,rfl⟩⟩
  rintro _ H1 ⟨s1,l,hl,rfl⟩
  refine cu (λσ' H'=>H1=H'/\σ'=[some (V.str z),some (V.ref l),some (V.str x),none,none]) (λR hR=> ?_) ?_
  ·simp only[dD,tC,cI,c5,cJ,oI,km,ax,aa,ae,aj,ai,hl]
   exact hR _ _ ⟨rfl,rfl⟩
  rintro _ _ ⟨rfl,rfl⟩
  refine cu (λσ' H'=>H1=H'/\x∈ws/\r.length=(want x).length/\σ'=[some (V.str z),some (V.ref l),some (V.str x),none,none]) (λR hR=> ?_) ?_
  ·simp only[cW,dA,cV,dD,ya,ja,cB,cL,tC,cI,gA,uy,BY,eqv,lM,dR,Int.reduceAdd,↓reduceIte,aG,decide_eq_false_iff_not,ax,ag,ak,aa,ae,true_and,exists_and_left,Nat.reduceAdd,ou,qI,q0,wy,↓cS,hl]
   refine⟨Tb,u9 T,?_⟩
   by_cases y:x∈ws
   ·rw[(u7 y).1,if_neg (λn=>by cases n)]
    refine⟨Tb,u9 T,_,(u7 y).2,cR (by rw[ah];exact av (iw x) (by decide)),λb hb=>⟨_,hb,?_⟩⟩
    rw[ah,ah,ah]
    by_cases y2:r.length=(want x).length
    ·rw[if_neg (by omega)]
     exact hR _ _ ⟨rfl,y,y2,rfl⟩
    ·rw[if_pos (by omega)]
     exact e (rn ep (wj y2)) _ s1
   ·rw[zO y,if_pos rfl]
    exact e (yF ep y) _ s1
  rintro _ _ ⟨rfl,hx,hr,rfl⟩
  refine cu (λσ' H'=>cq H1 H'/\all2 pO (want x) r=true/\∃b,H1 b=none/\H' b=some (.lst (List.zipWith pV (want x) r))/\σ'=[some (V.str z),some (V.ref l),some (V.str x),some (V.ref b),none]) (λR hR=> ?_) ?_
  ·simp only[cB,cL,tC,cI,c5,cJ,dR,je,xm,iO,eK,uh,pX,ax,aJ,aa,ae,aj,ai,exists_and_left,q0,wQ,hl]
   refine⟨Tb,u9 T,_,(u7 hx).2,cR (by rw[ah];exact av (iw x) (by decide)),λb hb p hp=> ?_⟩
   rw[wF]
   rw[bw]at hb
   have sp:=cq.upd (o:= .lst (r.map V.str)) hp
   have hb1:=m9 sp hb
   have hp1:fb K (upd H1 p (.lst (r.map V.str))) p (r.map V.str):=fb.of cg
   have h3:=iw x
   have hzl:(List.zipWith pV (want x) r).length=(want x).length:=by rw[aY];omega
   refine⟨⟨_,hb1⟩,⟨_,hp1⟩,qg (k2:=false) (n:=(want x).length) (λi zs H'=>cq (upd H1 p (.lst (r.map V.str))) H'/\zs=(List.zipWith pV (want x) r).take i/\∀j b z,j<i->(want x)[j]? =some b->r[j]? =some z->pO b z=true) ⟨cq.refl _,rfl,λj b z h=>absurd h (Nat.not_lt_zero _)⟩ (λi zs H' h=>⟨m9 h.1 hb1,h.1.seq hp1⟩) ⟨by rw[ah];exact ao _,by rw[ah];omega,.inl (by rw[ah])⟩ (cR (by omega)) (λi zs H' h=> ?_) ?_ ?_⟩
   ·rw[h.2.1,aH];omega
   ·rintro i v y zs H3 hv hy ⟨sa,rfl,hall⟩ p1 hp1 K1 hK
    rw[aS]at hv hy
    obtain⟨c,hc,rfl⟩:=Option.map_eq_some_iff.mp hv
    obtain⟨u,hu,rfl⟩:=Option.map_eq_some_iff.mp hy
    have s2:=sa.trans (cq.upd (o:= .tup [V.str (wS c),V.str u]) hp1)
    have hu1:=pf az ep u (aD _ (aZ hu))
    simp only[cB,cL,cI,cN,and_assoc,↓reduceIte,ui,aa,ae,V.int.injEq,V.bl.injEq,V.str.injEq,V.ref.injEq,V.ty.injEq,aq,ar,and_true,exists_eq_left',exists_and_left,rR]
    refine⟨c,rfl,hu1.1,by have:=hu1.2;omega,λho H' s'=>hK _ _ ⟨s2.trans s',?_,?_⟩,λho H' s'=>e (rn ep (yf hc hu ho)) _ (((s1.trans sp).trans s2).trans s')⟩
    ·rw[a_,bj,hc,hu];rfl
    ·intro j b z hj h1 h2
     by_cases y:j<i
     ·exact hall j b z y h1 h2
     ·have:j=i:=by omega
      subst this
      rw[hc]at h1;rw[hu]at h2;cases h1;cases h2;exact ho
   ·rintro zs H3 ⟨sa,rfl,hall⟩ l2 hl2
    rw[List.take_of_length_le (by omega)]
    exact hR _ _ ⟨(sp.trans sa).trans (cq.upd hl2),(qF hr).mpr λi b z h1 h2=>hall i b z (List.getElem?_eq_some_iff.mp h1).1 h1 h2,l2,same_none (sp.trans sa) hl2,cg,rfl⟩
  rintro _ H2 ⟨s2,ha,b,hb0,hb,rfl⟩
  refine cu (λσ' H'=>H2=H'/\(x=xj->Dx r=true)/\σ'=[some (V.str z),some (V.ref l),some (V.str x),some (V.ref b),none]) (λR hR=> ?_) ?_
  ·simp only[cW,dA,cV,dD,sv,jy,cB,cL,tC,cI,gA,Bm,lh,sd,eqv,mh,oI,Int.reduceAdd,↓reduceIte,aG,Bool.not_false,km,decide_eq_false_iff_not,ag,ak,aa,ae,true_and,aN,decide_eq_true_eq,Nat.reduceAdd,ou,↓cS,hb]
   by_cases y:x=Str.ofString "again"
   ·rw[if_pos y]
    have hw:want x=[false]:=by rw[y];decide+kernel
    rw[hw]at hr ha⊢
    match r,hr with
    | [u],_=>
     show if (0:Int)<=vl u then(if¬vl u<=9 then _ else _) else _
     by_cases y1:0<=vl u
     ·rw[if_pos y1]
      by_cases y2:vl u<=9
      ·rw[if_neg (λn=>n y2)]
       exact hR _ _ ⟨rfl,λ_=>by show(decide (0<=vl u)&&decide (vl u<=9))=true;rw[decide_eq_true y1,decide_eq_true y2];rfl,rfl⟩
      ·rw[if_pos y2]
       exact e (yG ep y (by show(decide (0<=vl u)&&decide (vl u<=9))=false;rw[decide_eq_false y2,Bool.and_false])) _ (s1.trans s2)
     ·rw[if_neg y1]
      exact e (yG ep y (by show(decide (0<=vl u)&&decide (vl u<=9))=false;rw[decide_eq_false y1];rfl)) _ (s1.trans s2)
   ·rw[if_neg y]
    exact hR _ _ ⟨rfl,λn=>absurd n y,rfl⟩
  rintro _ _ ⟨rfl,hg,rfl⟩
  refine cu (λσ' H'=>cq H2 H'/\∃t,H' t=some (.tup (jx (x::r)))/\σ'=[some (V.str z),some (V.ref l),some (V.str x),some (V.ref b),some (V.ref t)]) (λR hR=> ?_) ?_
  ·simp only[dD,ja,cB,cL,cI,eY,c5,cJ,Int.reduceAdd,cg,lL,ag,ak,aa,ae,aj,ai,true_and,Nat.reduceAdd,ou,oN]
   intro p hp
   have sp:=cq.upd (o:= .lst [V.str x]) hp
   rw[sp _ _ hb]
   dsimp only
   refine⟨cR (by rw[aY];have:=iw x;show 1+_<=_;omega),λp2 hp2=> ?_⟩
   exact λl3 hl3=>hR _ _ ⟨(sp.trans (cq.upd hp2)).trans (cq.upd hl3),l3,cg,rfl⟩
  rintro _ H3 ⟨s3,t,ht,rfl⟩
  have hf:=Br ep hx ha hg
  have ew:wd z=x:=by unfold wd;rw[ep];rfl
  have es:sV z=jx (x::r):=by unfold sV;rw[ep]
  rw[ew]at q qb
  rw[es]at q qb
  have s4:=(s1.trans s2).trans s3
  simp only[dj,cW,gh,dA,dD,cB,cL,cI,eY,sy,cN,wu,jd,Int.reduceAdd,cg,ag,ak,aa,ae,V.int.injEq,V.bl.injEq,V.str.injEq,V.ref.injEq,V.ty.injEq,aq,ar,and_true,true_and,exists_eq_left',exists_and_left,exists_eq_left,Nat.reduceAdd,v9,ou,k7]
  refine⟨_,_,ht,λH' s'=> ?_⟩
  cases y:ql x with
  |false=>
   rw[if_neg (λn=>by cases n)]
   exact q hf y _ _ (s4.trans s') (s' _ _ ht)
  |true=>
   rw[if_pos rfl]
   intro p hp p1 hp1
   have sa:=cq.upd (o:= .lst []) hp
   have sb:=cq.upd (o:= .tup [V.ref p]) hp1
   rw[(s'.trans (sa.trans sb)) _ _ ht]
   dsimp only
   refine⟨List.cons_ne_nil _ _,List.cons_ne_nil _ _,cR ?_,λp2 hp2=> ?_⟩
   ·have:=iw x
    unfold jx
    rw[ag,aY];show _+1+1<=_;omega
   have sc:=cq.upd (o:= .tup (jx (x::r)++[V.ref p])) hp2
   exact qb hf y _ p _ ((s4.trans s').trans (sa.trans (sb.trans sc))) (same_none (s4.trans s') hp) ((sb.trans sc) _ _ cg) cg
noncomputable def nR (K:PySem.W.Frag):Sp:=λvs H Q _=>∃a,∃ns:List Int,vs=[.ref a]/\fb K H a (ns.map V.int)/\∀l H',∀ts:List Str,cq H H'->H l=none->H' l=some (.lst (ts.map V.str))->ts.length<=100->(∀t∈ts,tx 300 t)->Q (.ref l) H'
theorem eO:cX ["_law_script","_law_way","_law_more","_law_lines_here","_law_k"] ["_law_script"] (cH j8):=fsc
theorem si(T:Txt w K mg A):eg P w K mg base (kF P w) true 4 A.fX A.gQ ["_law_script"] (nR K):=by
 refine T.lj.o_ eO (λvs H Q E h=> ?_) (λcdv A' outer s H vs Q E hr hx h=> ?_)
 ·obtain⟨_,_,rfl,_⟩:=h
  rfl
 ·obtain⟨a,ns,rfl,ha,q⟩:=h
  refine dF (B:=λt=>t _ _ _) (cc (cz (i:=1) eO.nd rfl lo (cm cP (cx ((fH T).mono (by decide)) hr rfl T.eQ T.d8.kp T.fN hx (cb (cj 0) (cb cf b_))) cf))
   (cc (cz (i:=2) eO.nd rfl lo (cm cP (cm oW (cm cY (cm c7 (cx ((fH T).mono (by decide)) hr rfl T.eQ T.d8.kp T.fN hx (cb (cj 0) (cb cf b_))) cf) cf) cf) cf))
   (cc (cK (cA fG (cj 1) cf (cM _)) (cc (cz (i:=3) eO.nd rfl lo (cx ((pd T).mono (by decide)) hr rfl T.jJ T.jY.kp T.mF hx (cb (cj 0) (cb cf b_))))
   (cc (iY hx.own rfl (kR rfl T.kX (cb (cm cY cf (cm cP (cj 2) cf)) b_)) (gZ (i:=4) eO.nd rfl lo)
    (ck (cz (i:=3) eO.nd rfl lo (cm dW (cm dW (cE (cb (kj (cb (cm cY cw (c_ lW (by rfl) T.lB PyProof.Rows.Boot.«str» (cb (cj 4) b_))) (cb (cm cY cw (cx ((i5 T).mono (by decide)) hr rfl T.fW T.gb.kp T.iI hx (cb (cx ((fH T).mono (by decide)) hr rfl T.eQ T.d8.kp T.fN hx (cb (cj 0) (cb cf b_))) (cb (cj 4) b_)))) b_)) (cm cP (cm c7 (cj 2) cf) cf) (λ_ _=>rfl)) b_)) (cj 3)) (cE (cb cw b_))))))
   (ck (cF (cj 3))))) cD)
   (cc (cz (i:=3) eO.nd rfl lo (cx ((pd T).mono (by decide)) hr rfl T.jJ T.jY.kp T.mF hx (cb (cj 0) (cb cf b_))))
   (cc (cK (cA fG (cj 1) cf (cM _)) (ck (cz (i:=3) eO.nd rfl lo (cm dW (fg (fsc:=cH j8) (N2:=["_law_script"]) (js:=[0]) ⟨rfl,rfl,by decide+kernel,by decide+kernel,by decide+kernel,by decide+kernel,by decide+kernel,by decide+kernel,by decide+kernel⟩ rfl rfl (by rfl) (kR rfl T.kX (cb (cm cY cf (cm cP (cj 2) cf)) b_)) (λ_ _ _ _=>gL) (λ_ _ _ _=>(cm cY cw (cx ((i5 T).mono (by decide)) hr rfl T.fW T.gb.kp T.iI kL (cb (cx ((fH T).mono (by decide)) hr rfl T.eQ T.d8.kp T.fN kL (cb (cj 1) (cb cf b_))) (cb (cj 0) b_)))))) (cj 3)))) cD)
   (ck (cF (cj 3)))))))) ?_
  show gh _ _ _ [some (V.ref a),none,none,none,none] H
  refine cu (λσ' H'=>H=H'/\∃w1,σ'=[some (V.ref a),some (V.int w1),none,none,none]) (λR hR=> ?_) ?_
  ·simp only[dD,cB,cL,tC,cI,c5,cJ,cN,gj,and_assoc,Int.reduceLT,Nat.reduceLT,Int.reduceLE,aa,aj,ai,V.int.injEq,V.bl.injEq,V.str.injEq,V.ref.injEq,V.ty.injEq,aq,ar,and_true,true_and,exists_eq_left',exists_and_left,fI]
   exact⟨_,ha,hR _ _ ⟨rfl,_,rfl⟩⟩
  rintro _ _ ⟨rfl,w1,rfl⟩
  refine cu (λσ' H'=>H=H'/\∃w2,σ'=[some (V.ref a),some (V.int w1),some (V.int w2),none,none]) (λR hR=> ?_) ?_
  ·simp only[dD,cB,cL,tC,cI,c5,cJ,cN,jP,vv,g_,gj,and_assoc,la,ur,or_true,Int.reduceLT,Nat.reduceLT,Int.reduceLE,Int.reduceNeg,Int.reducePow,aa,aj,ai,V.int.injEq,V.bl.injEq,V.str.injEq,V.ref.injEq,V.ty.injEq,aq,ar,and_true,true_and,exists_eq_left',exists_and_left,fI]
   exact⟨_,ha,hR _ _ ⟨rfl,_,rfl⟩⟩
  rintro _ _ ⟨rfl,w2,rfl⟩
  refine cu (λσ' H'=>H=H'/\σ'=[some (V.ref a),some (V.int w1),some (V.int w2),none,none]) (λR hR=> ?_) ?_
  ·by_cases y:w1=1
   ·refine vD (λK0 hK=> ?_) ?_
    ·simp only[cV,dD,tC,cI,sd,eqv,decide_true,aa,ae,↓cS,y]
     exact hK
    refine cu (λσ' H'=>cq H H'/\∃l,∃ts:List Str,H l=none/\H' l=some (.lst (ts.map V.str))/\ts.length<=25/\(∀t∈ts,tx 300 t)/\σ'=[some (V.ref a),some (V.int w1),some (V.int w2),some (V.ref l),none]) (λR hR=> ?_) ?_
    ·simp only[cB,cL,tC,cI,c5,cJ,cN,and_assoc,Int.reduceLE,aa,aj,ai,V.int.injEq,V.bl.injEq,V.str.injEq,V.ref.injEq,V.ty.injEq,aq,ar,and_true,true_and,exists_eq_left',exists_and_left,mf]
     exact⟨_,ha,λl H' ts s' hl0 hl hts ht=>hR _ _ ⟨s',l,ts,hl0,hl,hts,ht,rfl⟩⟩
    rintro _ H1 ⟨s1,l,ts,hl0,hl,hts,ht,rfl⟩
    refine cu (λσ' H'=>cq H H'/\∃l,∃ts:List Str,∃v4,H l=none/\H' l=some (.lst (ts.map V.str))/\ts.length<=35/\(∀t∈ts,tx 300 t)/\σ'=[some (V.ref a),some (V.int w1),some (V.int w2),some (V.ref l),v4]) (λR hR=> ?_) ?_
    ·simp only[dD,cB,cL,tC,cI,jP,gj,Int.reduceLT,Nat.reduceLT,Int.reduceNeg,Int.reducePow,mi,sQ,aa,ae,V.int.injEq,V.bl.injEq,V.str.injEq,V.ref.injEq,V.ty.injEq,aq,ar,and_true,true_and,exists_eq_left']
     refine⟨by omega,by omega,?_⟩
     generalize en:(2+w2%4).toNat=n
     have hn:n<=5:=by omega
     refine fK.vX (λi σ' H'=>cq H H'/\∃l,∃ts:List Str,∃v4,H l=none/\H' l=some (.lst (ts.map V.str))/\ts.length<=25+2*i/\(∀t∈ts,tx 300 t)/\σ'=[some (V.ref a),some (V.int w1),some (V.int w2),some (V.ref l),v4]) ⟨s1,l,ts,_,hl0,hl,hts,ht,rfl⟩ ?_ ?_
     ·rintro i σ' H2 hi ⟨s2,l2,ts2,v4,hl20,hl2,hts2,ht2,rfl⟩ R2 hR2
      have tg:tx 70 (Str.ofString ("again "++toString (0+(i:Int)))):=by
       rw[←tY]
       exact((hE (n:=6) (by decide+kernel):tx 6 (Str.ofString "again ")).app (rL (i:=0+(i:Int)) (by omega))).mono (by decide)
      simp only[dD,ja,cB,cL,tC,cI,eY,c5,cJ,cN,jP,g_,gj,ub,and_assoc,la,Int.reduceLT,Nat.reduceLT,Int.reduceLE,Int.reduceAdd,tY,cg,lL,ag,ak,aa,ae,aj,ai,V.int.injEq,V.bl.injEq,V.str.injEq,V.ref.injEq,V.ty.injEq,aq,ar,and_true,true_and,exists_eq_left',exists_and_left,Nat.reduceAdd,ou,x_,Ek,El,cStr,fI,g6]
      refine⟨uM (by omega),cR (by have:=(rL (i:=0+(i:Int)) (by omega)).1;unfold nK at this;omega),_,s2.seq ha,λz H5 s5 hz=>⟨cR (by have:=hz.1;omega),λp hp=> ?_⟩⟩
      have tf:tx 70 (Str.ofString "if "++z):=((hE (n:=3) (by decide+kernel):tx 3 (Str.ofString "if ")).app hz).mono (by decide)
      obtain⟨v,ev,hv⟩:=kn (xs:=[V.str (Str.ofString ("again "++toString (0+(i:Int)))),V.str (Str.ofString "if "++z)]) (i:=w2/4%2) (by omega) (by show _<(2:Int);omega)
      obtain⟨g,rfl,hg⟩:∃g:Str,v= .str g/\tx 70 g:=by
       simp only[List.mem_cons,List.not_mem_nil,or_false]at hv
       rcases hv with rfl|rfl
       ·exact⟨_,rfl,tg⟩
       ·exact⟨_,rfl,tf⟩
      rw[ev]
      dsimp only
      rw[pM hp]
      intro p1 hp1
      have a1:=cq.upd (o:= .lst [V.str g]) hp1
      rw[(s5.trans a1) _ _ hl2]
      dsimp only
      refine⟨cR (by rw[ah];show 1+_<=_;omega),λp2 hp2=> ?_⟩
      have a2:=cq.upd (o:= .lst ([V.str g]++ts2.map V.str)) hp2
      try dsimp only
      intro p3 hp3
      have a3:=cq.upd (o:= .lst [V.str (Str.ofString "end")]) hp3
      rw[a3 _ _ cg]
      try rw[cg]
      dsimp only
      refine⟨cR (by rw[ay,ah];show 1+_+1<=_;omega),λp4 hp4=> ?_⟩
      have sA:=a1.trans (a2.trans a3)
      refine hR2 _ _ ⟨s2.trans (s5.trans (sA.trans (cq.upd hp4))),p4,g::ts2++[eS],_,same_none (s2.trans (s5.trans sA)) hp4,by rw[cg,aF];rfl,by rw[ay,ag];show _+1<=_;omega,λt h=> ?_,rfl⟩
      rcases List.mem_append.mp h with h|h
      ·rcases List.mem_cons.mp h with rfl|h
       ·exact hg.mono (by decide)
       ·exact ht2 t h
      ·rw[List.mem_singleton.mp h];exact(jV (x:=eS) (by decide+kernel)).mono (by decide)
     ·rintro σ' H2 ⟨s2,l2,ts2,v4,hl20,hl2,hts2,ht2,rfl⟩
      exact hR _ _ ⟨s2,l2,ts2,_,hl20,hl2,by omega,ht2,rfl⟩
    rintro _ H2 ⟨s2,l2,ts2,v4,hl20,hl2,hts2,ht2,rfl⟩
    simp only[dj,cI,aa,ae]
    exact q _ _ _ s2 hl20 hl2 (by omega) ht2
   ·refine yO (λK0 hK=> ?_) ?_
    ·simp only[cV,dD,tC,cI,sd,eqv,aa,ae,↓cS]
     rw[decide_eq_false y]
     exact hK
    exact hR _ _ ⟨rfl,rfl⟩
  rintro _ _ ⟨rfl,rfl⟩
  refine cu (λσ' H'=>cq H H'/\∃l,∃ts:List Str,H l=none/\H' l=some (.lst (ts.map V.str))/\ts.length<=25/\(∀t∈ts,tx 300 t)/\σ'=[some (V.ref a),some (V.int w1),some (V.int w2),some (V.ref l),none]) (λR hR=> ?_) ?_
  ·simp only[cB,cL,tC,cI,c5,cJ,cN,and_assoc,Int.reduceLE,aa,aj,ai,V.int.injEq,V.bl.injEq,V.str.injEq,V.ref.injEq,V.ty.injEq,aq,ar,and_true,true_and,exists_eq_left',exists_and_left,mf]
   exact⟨_,ha,λl H' ts s' hl0 hl hts ht=>hR _ _ ⟨s',l,ts,hl0,hl,hts,ht,rfl⟩⟩
  rintro _ H1 ⟨s1,l,ts,hl0,hl,hts,ht,rfl⟩
  refine cu (λσ' H'=>cq H H'/\∃l,∃ts:List Str,H l=none/\H' l=some (.lst (ts.map V.str))/\ts.length<=100/\(∀t∈ts,tx 300 t)/\σ'=[some (V.ref a),some (V.int w1),some (V.int w2),some (V.ref l),none]) (λR hR=> ?_) ?_
  ·simp only[cW,dA,cV,dD,cB,cL,tC,cI,c5,cJ,jP,gj,sd,eqv,Int.reduceLT,Nat.reduceLT,Int.reduceNeg,Int.reducePow,jO,je,sQ,lL,ax,aJ,aa,ae,aj,ai,V.int.injEq,V.bl.injEq,V.str.injEq,V.ref.injEq,V.ty.injEq,aq,ar,and_true,true_and,exists_eq_left',decide_eq_true_eq,↓cS]
   by_cases y:w1=2
   ·rw[if_pos y]
    refine⟨by omega,by omega,?_⟩
    generalize en:(40+w2%6).toNat=n
    have hn:n<=45:=by omega
    show gC _ [some (V.ref a)] _ _ _ _
    refine oO (λi ys H'=>cq H1 H'/\∃us:List Str,ys=us.map V.str/\us.length=i/\∀t∈us,tx 300 t) ⟨cq.refl _,[],rfl,rfl,λt h=>absurd h (by simp)⟩ (cR (by omega)) (λi ys H' h=>by obtain⟨_,us,rfl,h2,_⟩:=h;rw[ah];omega) ?_ ?_
    ·rintro i ys H2 hi ⟨s2,us,rfl,hul,hut⟩ K1 hK
     have ha2:=(s1.trans s2).seq ha
     simp only[dD,cB,cL,tC,cI,cN,jP,and_assoc,Int.reduceLE,↓reduceIte,ui,aa,ae,V.int.injEq,V.bl.injEq,V.str.injEq,V.ref.injEq,V.ty.injEq,aq,ar,and_true,true_and,exists_eq_left',exists_and_left,Bz,fI,g6]
     refine⟨_,ha2,λz H3 s3 hz=>⟨cR (by have:=hz.1;omega),hK _ _ ⟨s2.trans s3,us++[_],by rw[aF];rfl,by rw[ay,hul];rfl,λt h=> ?_⟩⟩⟩
     rcases List.mem_append.mp h with h|h
     ·exact hut t h
     ·rw[List.mem_singleton.mp h];exact((hE (n:=5) (by decide+kernel):tx 5 (Str.ofString "tell ")).app hz).mono (by decide)
    ·rintro ys H2 ⟨s2,us,rfl,hul,hut⟩ l2 hl2
     have a2:=cq.upd (o:= .lst (us.map V.str)) hl2
     dsimp only
     rw[cg,(s2.trans a2) _ _ hl]
     dsimp only
     refine⟨cR (by rw[ah,ah];omega),λp3 hp3=>hR _ _ ⟨s1.trans (s2.trans (a2.trans (cq.upd hp3))),p3,us++ts,same_none (s1.trans (s2.trans a2)) hp3,by rw[cg,aF],by rw[ay];omega,λt h=> ?_,rfl⟩⟩
     rcases List.mem_append.mp h with h|h
     ·exact hut t h
     ·exact ht t h
   ·rw[if_neg y]
    exact hR _ _ ⟨s1,l,ts,hl0,hl,by omega,ht,rfl⟩
  rintro _ H2 ⟨s2,l2,ts2,hl20,hl2,hts2,ht2,rfl⟩
  simp only[dj,cI,aa,ae]
  exact q _ _ _ s2 hl20 hl2 hts2 ht2
noncomputable def jG (d:Nat):Sp:=λvs H Q _=>∃l f ys ls acc,∃P:Addr->Prop,vs=[.ref l,.ref f]/\H l=some (.lst ys)/\ls.length<=1000/\mw H P d ys ls/\H f=some (.dK (dk acc))/\acc.length+3*ls.length<=30000/\∀H',Sb [f] H H'->H' f=some (.dK (dk (gk acc ls)))->Q .gm H'
theorem lx:cX ["block","found","statement","name"] ["block","found"] (cH md):=fsc
theorem nV(T:Txt w K mg A){d:Nat}{spr:Sp}(hs:∀vs H Q E,0<d->jG  (d-1) vs H Q E->spr vs H Q E)(ih:eg P w K mg base (kF P w) true (d+1) A.eJ A.fi ["block","found"] spr):eg P w K mg base (kF P w) true (d+1+1) A.eJ A.fi ["block","found"] (jG  d):=by
 refine T.jC.o_ lx (λvs H Q E h=> ?_) (λcdv A' outer s H vs Q E hr hx h=> ?_)
 ·obtain⟨_,_,_,_,_,_,rfl,_⟩:=h
  rfl
 ·obtain⟨l,f,ys,ls,acc,P,rfl,h⟩:=h
  obtain⟨q,hl,hy,hB,hf,hb⟩:=F4 h
  refine dF (B:=λt=>t _ _ _) (ck (iY hx.own rfl (eT (cj 0)) (gZ (i:=2) lx.nd rfl lo)
    (cc (iY hx.own rfl (eT (cx ((uS T).mono (by omega)) hr rfl T.lU T.mO.kp T.qY hx (cb (cj 2) b_))) (gZ (i:=3) lx.nd rfl lo)
    (ck (yR (Ej hr) (cj 1) (cj 3) e_ rfl)))
   (ck (cK (c9 (cx ((mU T).mono (by omega)) hr rfl T.jt T.jI.kp T.lJ hx (cb (cj 2) b_)) (λ_=>rfl)) (ck (fS (cx (ih.mono (by omega)) hr rfl T.iT T.jC.kp T.lK hx (cb (cU dh (cj 2) cf (λ_ _=>rfl)) (cb (cj 1) b_))))) cD))))) ?_
  simp only[cB,cL,cI,cN,dR,jd,Int.reduceAdd,Int.reduceSub,mi,kQ,L2.start,ax,aJ,ag,ak,List.replicate,aX,bg,aa,V.int.injEq,V.bl.injEq,V.str.injEq,V.ref.injEq,V.ty.injEq,aq,ar,exists_eq_left',Nat.reduceSub,Nat.reduceAdd]
  refine⟨⟨_,fb.of hl⟩,fK.sU (λi σ H1=>Sb [f] H H1/\∃l1 l2,ls=l1++l2/\mw H1 P d (ys.drop i) l2/\H1 f=some (.dK (dk (gk acc l1)))/\(gk acc l1).length+3*l2.length<=30000/\∃v2 v3,σ=[some (V.ref l),some (V.ref f),v2,v3]) ⟨Sb.of (cq.refl _),[],ls,rfl,hB,hf,hb,_,_,rfl⟩ (λi σ H1 _ h=>fb.of (h.1 _ _ (λm=>by rw[List.mem_singleton.mp m,hf]at hl;cases hl) hl)) ?_ ?_⟩
  ·rintro i v σ H1 hv ⟨s1,l1,l2,rfl,hB1,hf1,hb1,v2,v3,rfl⟩ R hR
   rw[drop_cons hv]at hB1
   obtain⟨t,ln,ex,l3,rfl,hfit,ht,rfl⟩:=hB1.head
   obtain⟨x,r,ep,ew,hx,ha,_⟩:=nZ hfit
   have es:sV ln=jx (x::r):=by unfold sV;rw[ep]
   have hn3:=wX hfit
   rw[ag]at hb1
   simp only[cJ,aj,ai]
   refine cu (λσ' H'=>Sb [f] H1 H'/\H' f=some (.dK (dk ((se (di 32 ln)).foldl kH (gk acc l1))))/\∃v4,σ'=[some (V.ref l),some (V.ref f),some (V.ref t),v4]) (λR1 hR1=> ?_) ?_
   ·rw[ep]at hn3 hR1
    simp only[aa,ae,V.int.injEq,V.bl.injEq,V.str.injEq,V.ref.injEq,V.ty.injEq,aq,ar,and_true,exists_eq_left',exists_and_left,qr]
    refine⟨x,r,ex,by rw[ht,es],hx,ha,λm H2 s2 hm0 hm=>⟨⟨_,fb.of hm⟩,fK.sU (λj σ' H'=>Sb [f] H2 H'/\H' f=some (.dK (dk (((se (x::r)).take j).foldl kH (gk acc l1))))/\∃v4,σ'=[some (V.ref l),some (V.ref f),some (V.ref t),v4]) ⟨Sb.of (cq.refl _),s2 _ _ hf1,_,rfl⟩ (λj σ' H' _ h=>fb.of (h.1 _ _ (λmm=>by rw[List.mem_singleton.mp mm,hf1]at hm0;cases hm0) hm)) ?_ ?_⟩⟩
    ·rintro j u σ' H3 hu ⟨s3,hf3,v4,rfl⟩ R2 hR2
     rw[aS]at hu
     obtain⟨z,hz,rfl⟩:=Option.map_eq_some_iff.mp hu
     have hj:j<(se (x::r)).length:=(List.getElem?_eq_some_iff.mp hz).1
     simp only[tC,cI,cJ,yi,Cr,aa,ae,aj,ai,hf3]
     have hlen:=mB (ns:=(se (x::r)).take j) (acc:=gk acc l1)
     rw[aH]at hlen
     refine⟨bq (show _<=40000 from ?_) (by unfold sizeLine;omega),hR2 _ _ ⟨s3.trans (Sb.upd (by simp)),?_,_,rfl⟩⟩
     ·unfold dk;rw[ah];omega
     ·rw[cg,Cc,a_,hz,List.foldl_append];rfl
    ·rintro σ' H3 ⟨s3,hf3,v4,rfl⟩
     rw[ah,bb]at hf3
     exact hR1 _ _ ⟨(Sb.of s2).trans s3,hf3,_,rfl⟩
   rintro _ H2 ⟨s2,hf2,v4,rfl⟩
   have ht2:=s2 _ _ (λm=>by rw[List.mem_singleton.mp m,hf1]at ht;cases ht) ht
   have hB2:=hB1.sb s2 hf1
   have hlen:=mB (ns:=se (di 32 ln)) (acc:=gk acc l1)
   have en:gk acc (l1++[ln])=(se (di 32 ln)).foldl kH (gk acc l1):=by rw[o6];rfl
   rw[es]at ht2
   simp only[cW,lF,dA,dD,cB,cL,tC,cI,cN,oI,yg,aa,ae,V.int.injEq,V.bl.injEq,V.str.injEq,V.ref.injEq,V.ty.injEq,aq,ar,and_true,exists_eq_left',exists_and_left,exists_eq_left,k7]
   refine⟨x,_,ht2,λH3 s3=> ?_⟩
   have hB3:=hB2.sb (Sb.of s3) hf2
   cases hB3 with
   |row _ ho _ _ hr3=>
    rw[ew]at ho
    rw[ho,if_neg (λn=>by cases n)]
    exact hR _ _ ⟨(s1.trans s2).trans (Sb.of s3),l1++[ln],l3,by simp,hr3,by rw[en];exact s3 _ _ hf2,by rw[en];omega,_,_,rfl⟩
   |jA _ ho ht3 ha3 hp3 hb3 hr3=>
    rename_i d' a us js ls3 hf0
    rw[ew]at ho
    rw[ho,if_pos rfl]
    rw[es]at ht3
    have h2:(jx (x::r)++[V.ref a])[2]? =some (V.ref a):=BW ho ha
    simp only[ht3,h2]
    rw[ay,ag]at hb1
    refine hs _ _ _ _ (Nat.succ_pos _) ⟨a,f,us,js,_,P,rfl,ha3,?_,hb3,s3 _ _ hf2,by omega,λH4 s4 hf4=> ?_⟩
    ·rw[ay,ag,ay]at hy;omega
    have hR4:=hr3.sb s4 (s3 _ _ hf2)
    have en2:gk acc (l1++(ln::(js++[eS])))=gk ((se (di 32 ln)).foldl kH (gk acc l1)) js:=by
     rw[o6,nA,o6,zc];rfl
    have hln:=o7 (acc:=(se (di 32 ln)).foldl kH (gk acc l1)) (Ai hb3)
    exact hR _ _ ⟨((s1.trans s2).trans (Sb.of s3)).trans s4,l1++(ln::(js++[eS])),ls3,by simp,hR4,by rw[en2];exact hf4,by rw[en2];omega,_,_,rfl⟩
  ·rintro σ H1 ⟨s1,l1,l2,rfl,hB1,hf1,_,v2,v3,rfl⟩
   rw[List.drop_length]at hB1
   cases hB1
   rw[aR]at q
   exact q _ s1 hf1
theorem nP(T:Txt w K mg A):∀d:Nat,eg P w K mg base (kF P w) true (d+1+1) A.eJ A.fi ["block","found"] (jG  d)
 |0=>nV T (spr:=λ_ _ _ _=>False) (λ_ _ _ _ h=>absurd h (aT 0)) ⟨λ_ _ _ _ h=>h.elim,λ_ _ _ _ _ _ _ _ _ _ _ _ _ h=>h.elim⟩
 |d+1=>nV T (λ_ _ _ _ _ h=>h) (nP T d)
noncomputable def d_ (d:Nat):Sp:=λvs H Q _=>∃l ys ls,∃P:Addr->Prop,vs=[.ref l]/\H l=some (.lst ys)/\ls.length<=1000/\(∀u∈ls,tx 700 u)/\mw H P d ys ls/\∀m H',cq H H'->H m=none->H' m=some (.lst (ls.map V.str))->Q (.ref m) H'
theorem dO:cX ["_law_program","_law_lines_here","_law_row_here","_law_parts","_law_inner"] ["_law_program"] (cH fU):=fsc
theorem mr(T:Txt w K mg A){d:Nat}{spr:Sp}(hs:∀vs H Q E,0<d->d_  (d-1) vs H Q E->spr vs H Q E)(ih:eg P w K mg base (kF P w) true (d+1) A.dG A.dX ["_law_program"] spr):eg P w K mg base (kF P w) true (d+1+1) A.dG A.dX ["_law_program"] (d_  d):=by
 refine T.d9.o_ dO (λvs H Q E h=> ?_) (λcdv A' outer s H vs Q E hr hx h=> ?_)
 ·obtain⟨_,_,_,_,rfl,_⟩:=h
  rfl
 ·obtain⟨l,ys,ls,P,rfl,h⟩:=h
  obtain⟨q,hl,hy,hu,hB⟩:=E2 h
  refine dF (B:=λt=>t _ _ _) (cc (cz (i:=1) dO.nd rfl lo (cE b_))
   (cc (cK (dw (c9 (cG gc (by rfl) T.c8 PyProof.Rows.Boot.«isinstance» (cb (cj 0) (cb (j5 T.og PyProof.Rows.Boot.«list») b_))) (λ_=>rfl))) (ck (cF iX)) cD)
   (cc (iY hx.own rfl (eT (cj 0)) (gZ (i:=2) dO.nd rfl lo)
    (cc (cK (fo (ik (dw (c9 (cG gc (by rfl) T.c8 PyProof.Rows.Boot.«isinstance» (cb (cj 2) (cb (j5 T.o5 PyProof.Rows.Boot.«tuple») b_))) (λ_=>rfl))) (ik (cA yV (cG fM (by rfl) T.fT PyProof.Rows.Boot.«len» (cb (cj 2) b_)) cf (cM _)) (hZ (dw (c9 (cG gc (by rfl) T.c8 PyProof.Rows.Boot.«isinstance» (cb (cU dh (cj 2) cf (λ_ _=>rfl)) (cb (j5 T.lB PyProof.Rows.Boot.«str») b_))) (λ_=>rfl))))))) (ck (cF iX)) cD)
   (cc (cz (i:=3) dO.nd rfl lo (c_ xC (by rfl) T.og PyProof.Rows.Boot.«list» (cb (cj 2) b_)))
   (cc (cz (i:=4) dO.nd rfl lo (cE b_))
   (cc (cK (cA qK (cU dh (cj 2) cf (λ_ _=>rfl)) (kx (cb cw (cb cw b_))) (by with_unfolding_all rfl)) (cc (cz (i:=4) dO.nd rfl lo (cx (ih.mono (by omega)) hr rfl T.dY T.d9.kp T.fO hx (cb (tS PySem.F.slot_list_pop PySem.F.type_list_pop wU (cj 3)) b_)))
   (cc (cK (cA yS (cj 4) iX (cM _)) (ck (cF iX)) cD)
   (ck (cz (i:=4) dO.nd rfl lo (cm dW (cj 4) (cE (cb cw b_))))))) cD)
   (cc (cK (cA mP (cG fM (by rfl) T.fT PyProof.Rows.Boot.«len» (cb (fg (fsc:=cH fU) (N2:=[]) (js:=[]) ⟨rfl,rfl,by decide+kernel,by decide+kernel,by decide+kernel,by decide+kernel,by decide+kernel,by decide+kernel,by decide+kernel⟩ rfl rfl (by rfl) (eT (cj 3)) (λ_ _ _ _=>(iH (fo (ky (dw (oZ (cx ((nO T).mono (by omega)) hr rfl T.iS T.jB.kp T.lI kL (cb (cj 0) b_)) (λ_=>rfl))) (ju (dw (oZ (cG Co (by rfl) T.c8 PyProof.Rows.Boot.«isinstance» (cb (cj 0) (cb (j5 T.lB PyProof.Rows.Boot.«str») b_))) (λ_=>rfl)))))))) (λ_ _ _ _=>(cj 0))) b_)) cf (cM _)) (ck (cF iX)) cD)
   (cc (cK (cA mP (cG fM (by rfl) T.fT PyProof.Rows.Boot.«len» (cb (fg (fsc:=cH fU) (N2:=[]) (js:=[]) ⟨rfl,rfl,by decide+kernel,by decide+kernel,by decide+kernel,by decide+kernel,by decide+kernel,by decide+kernel,by decide+kernel⟩ rfl rfl (by rfl) (eT (cQ iG (cj 3) (cZ cf) cT)) (λ_ _ _ _=>(iH (cA yX (cx ((nO T).mono (by omega)) hr rfl T.iS T.jB.kp T.lI kL (cb (cj 0) b_)) (cx ((i4 T).mono (by omega)) hr rfl T.eR T.fj.kp T.gN kL (cb (c_ lW (by rfl) T.lB PyProof.Rows.Boot.«str» (cb (cj 0) b_)) b_)) (cM _)))) (λ_ _ _ _=>(cj 0))) b_)) cf (cM _)) (ck (cF iX)) cD)
   (ck (cz (i:=1) dO.nd rfl lo (cm dW (cm dW (cj 1) (cE (cb (ij PySem.F.slot_str_join PySem.F.type_str_join mQ cw (cb (fg (fsc:=cH fU) (N2:=[]) (js:=[]) ⟨rfl,rfl,by decide+kernel,by decide+kernel,by decide+kernel,by decide+kernel,by decide+kernel,by decide+kernel,by decide+kernel⟩ rfl rfl (by rfl) (eT (cj 3)) (λ_ _ _ _=>gL) (λ_ _ _ _=>(c_ lW (by rfl) T.lB PyProof.Rows.Boot.«str» (cb (cj 0) b_)))) b_)) b_))) (cj 4)))))))))))
   (ck (cF (cj 1)))))) ?_
  show gh _ _ _ [some (V.ref l),none,none,none,none] H
  refine cu (λσ' H'=>cq H H'/\∃m,H m=none/\H' m=some (.lst [])/\σ'=[some (V.ref l),some (V.ref m),none,none,none]) (λR hR=> ?_) ?_
  ·simp only[cL,eY,c5,cJ,ak,aj,ai,true_and,v9]
   exact λm hm=>hR _ _ ⟨cq.upd hm,m,hm,cg,rfl⟩
  rintro _ H1 ⟨s1,m,hm0,hm,rfl⟩
  have hl1:=s1 _ _ hl
  refine cu (λσ' H'=>H1=H'/\σ'=[some (V.ref l),some (V.ref m),none,none,none]) (λR hR=> ?_) ?_
  ·simp only[dj,cW,dA,jy,ja,cB,cL,tC,cI,l7,lq,dR,jd,↓reduceIte,aG,bB,aa,true_and,exists_eq_left,uq,my,hl1,T.iZ]
   exact hR _ _ ⟨rfl,rfl⟩
  rintro _ _ ⟨rfl,rfl⟩
  have hB1:mw H1 P d ys ls:=hB.frame (λa us p e=>⟨p,s1 _ _ e⟩) (λa us e=>s1 _ _ e)
  refine cu (λσ' H'=>cq H1 H'/\∃m v2 v3 v4,H m=none/\H' m=some (.lst (ls.map V.str))/\σ'=[some (V.ref l),some (V.ref m),v2,v3,v4]) (λR hR=> ?_) ?_
  ·simp only[dD,ja,cB,cL,tC,cI,cN,E3,Ak,l7,lq,oI,dR,jd,mi,kQ,aa,V.int.injEq,V.bl.injEq,V.str.injEq,V.ref.injEq,V.ty.injEq,aq,ar,exists_eq_left',exists_eq_left]
   refine⟨⟨_,fb.of hl1⟩,fK.sU (xs:=ys) (λi σ' H'=>cq H1 H'/\∃l1 l2,ls=l1++l2/\mw H' P d (ys.drop i) l2/\∃m v2 v3 v4,H m=none/\H' m=some (.lst (l1.map V.str))/\σ'=[some (V.ref l),some (V.ref m),v2,v3,v4]) ⟨cq.refl _,[],ls,rfl,hB1,m,_,_,_,hm0,hm,rfl⟩ (λi σ' H' _ h=>fb.of (h.1 _ _ hl1)) ?_ ?_⟩
   ·rintro i v σ' H2 hv ⟨s2,l1,l2,rfl,hB2,m2,v2,v3,v4,hm20,hm2,rfl⟩ R2 hR2
    rw[drop_cons hv]at hB2
    obtain⟨t,ln,ex,l3,rfl,hfit,ht,rfl⟩:=hB2.head
    obtain⟨x,r,ep,ew,hx,hal,_⟩:=nZ hfit
    have es:sV ln=jx (x::r):=by unfold sV;rw[ep]
    have htx:tx 700 ln:=hu ln (by simp)
    have hpt:=pf htx.asc ep
    rw[es]at ht
    simp only[cJ,aj,ai]
    refine cu (λσ' H'=>H2=H'/\σ'=[some (V.ref l),some (V.ref m2),some (V.ref t),v3,v4]) (λR3 hR3=> ?_) ?_
    ·simp only[dj,cW,dA,cV,dD,ya,jy,ja,cB,cL,tC,cI,lh,lM,↓reduceIte,Bool.not_true,km,ag,aX,aa,ae,true_and,aN,decide_eq_true_eq,↓cS,uq,my,ht,T.i0,jx,T.jv]
     have h1:=zT hx (λy=>hB2.ne (ew.trans y))
     have h2:=gi hal
     rw[if_neg (by rw[ay,aY];omega)]
     exact hR3 _ _ ⟨rfl,rfl⟩
    rintro _ _ ⟨rfl,rfl⟩
    refine cu (λσ' H'=>cq H2 H'/\∃p,H2 p=none/\H' p=some (.lst (jx (x::r)++ex))/\σ'=[some (V.ref l),some (V.ref m2),some (V.ref t),some (V.ref p),v4]) (λR3 hR3=> ?_) ?_
    ·simp only[ja,cB,cL,cI,c5,cJ,aa,ae,aj,ai,vt,ht]
     exact λp hp=>hR3 _ _ ⟨cq.upd hp,p,hp,cg,rfl⟩
    rintro _ H3 ⟨s3,p,hp0,hp,rfl⟩
    refine cu (λσ' H'=>cq H3 H'/\∃n,H' n=some (.lst [])/\σ'=[some (V.ref l),some (V.ref m2),some (V.ref t),some (V.ref p),some (V.ref n)]) (λR3 hR3=> ?_) ?_
    ·simp only[cL,eY,c5,cJ,ak,aj,ai,true_and,v9]
     exact λn hn=>hR3 _ _ ⟨cq.upd hn,n,cg,rfl⟩
    rintro _ H4 ⟨s4,n,hn,rfl⟩
    have hp4:=s4 _ _ hp
    have s24:=s3.trans s4
    have ht4:=s24 _ _ ht
    refine cu (λσ' H'=>Sb [p] H4 H'/\∃js ls3 n,ln::l3=ln::(js++ls3)/\mw H' P d (ys.drop (i+1)) ls3/\H' n=some (.lst (js.map V.str))/\H' p=some (.lst (jx (x::r)))/\σ'=[some (V.ref l),some (V.ref m2),some (V.ref t),some (V.ref p),some (V.ref n)]) (λR3 hR3=> ?_) ?_
    ·cases hB2 with
     |row _ ho he ht5 hr5=>
      rw[es]at ht5
      have ht5:=s24 _ _ ht5
      have hex:ex=[]:=by
       rw[ht5]at ht4
       have:=congrArg (λo=>match o with|some (HO.tup l)=>l.length|_=>0) ht4
       dsimp only at this
       rw[ay]at this
       exact List.eq_nil_of_length_eq_zero (by omega)
      rw[hex,aR]at hp4
      simp only[dj,cW,gh,dA,cV,dD,cB,cL,tC,cI,eY,sy,c5,cJ,cN,Dv,rq,oI,Int.reduceAdd,↓reduceIte,cg,vo,km,lL,ag,ak,aa,ae,aj,ai,true_and,aN,Nat.reduceAdd,ou,x_,oG,xl,↓cS,ht5,jx]
      intro p6 hp6
      have s6:=cq.upd (o:= .tup [V.str (Str.ofString "again"),V.str (Str.ofString "if")]) hp6
      rw[show z_ (V.str x) [V.str (Str.ofString "again"),V.str (Str.ofString "if")]=ql x from lV (l:=[xj,Str.ofString "if"]),←ew,ho,if_neg (λn=>by cases n)]
      exact⟨rfl,rfl,hR3 _ _ ⟨Sb.of s6,[],l3,n,rfl,hr5.frame (λa us p e=>⟨p,s6 _ _ (s24 _ _ e)⟩) (λa us e=>s6 _ _ (s24 _ _ e)),s6 _ _ hn,s6 _ _ hp4,rfl⟩⟩
     |jA _ ho ht5 ha5 hp5 hb5 hr5=>
      rename_i d' a us js ls3 hf0
      rw[es]at ht5
      have ht5:=s24 _ _ ht5
      have hex:ex=[V.ref a]:=by
       rw[ht5]at ht4
       injection ht4 with ht4
       injection ht4 with ht4
       exact(List.append_cancel_left ht4).symm
      rw[hex]at hp4
      simp only[dj,cW,gh,dA,cV,dD,cB,cL,tC,cI,eY,sy,c5,cJ,cN,Dv,rq,oI,Int.reduceAdd,↓reduceIte,cg,vo,km,lL,ag,ak,aX,aa,ae,aj,ai,true_and,aN,Nat.reduceAdd,ou,x_,oG,xl,↓cS,ht5,jx]
      intro p6 hp6
      have s6:=cq.upd (o:= .tup [V.str (Str.ofString "again"),V.str (Str.ofString "if")]) hp6
      rw[show z_ (V.str x) [V.str (Str.ofString "again"),V.str (Str.ofString "if")]=ql x from lV (l:=[xj,Str.ofString "if"]),←ew,ho,if_pos rfl,s6 _ _ hp4]
      refine⟨rfl,rfl,?_⟩
      dsimp only
      rw[ay,show(jx (x::r)).length+[V.ref a].length-1=(jx (x::r)).length from rfl,List.getElem?_concat_length,List.dropLast_concat]
      dsimp only
      have sp7:Sb [p] H4 (upd (upd H4 p6 (.tup [V.str (Str.ofString "again"),V.str (Str.ofString "if")])) p (.lst (jx (x::r)))):=(Sb.of s6).trans (Sb.upd (by simp))
      have hpn:∀a' o,H2 a'=some o->a'∉ [p]:=λa' o e m=>by rw[List.mem_singleton.mp m,hp0]at e;cases e
      have hp7:(upd (upd H4 p6 (.tup [V.str (Str.ofString "again"),V.str (Str.ofString "if")])) p (.lst (jx (x::r)))) p=some (.lst (jx (x::r))):=cg
      generalize upd (upd H4 p6 (.tup [V.str (Str.ofString "again"),V.str (Str.ofString "if")])) p (.lst (jx (x::r)))=H7 at*
      have f7:∀a us,P a->H2 a=some (.lst us)->P a/\H7 a=some (.lst us):=λa us pa e=>⟨pa,sp7 _ _ (hpn _ _ e) (s24 _ _ e)⟩
      have ft7:∀a us,H2 a=some (.tup us)->H7 a=some (.tup us):=λa us e=>sp7 _ _ (hpn _ _ e) (s24 _ _ e)
      have hlen:(l1++ln::(js++eS::ls3)).length<=1000:=hy
      rw[ay,ag,ay]at hlen
      refine hs _ _ _ _ (Nat.succ_pos _) ⟨a,us,js,P,rfl,(f7 _ _ hp5 ha5).2,by omega,λu h=>hu u (by simp[h]),hb5.frame f7 ft7,λm8 H8 s8 hm80 hm8=> ?_⟩
      dsimp only[rq]
      rw[if_neg (λn=>by cases n)]
      intro p9 hp9
      have s9:=cq.upd (o:= .lst [V.str (Str.ofString "end")]) hp9
      rw[s9 _ _ hm8,cg]
      dsimp only
      refine⟨cR (by rw[ah];show _+1<=_;omega),λp10 hp10=> ?_⟩
      have s10:=cq.upd (o:= .lst (js.map V.str++[V.str (Str.ofString "end")])) hp10
      have s8t:=s8.trans (s9.trans s10)
      exact hR3 _ _ ⟨sp7.trans (Sb.of s8t),js++[eS],ls3,p10,by simp,hr5.frame (λa us pa e=>⟨pa,s8t _ _ (f7 _ _ pa e).2⟩) (λa us e=>s8t _ _ (ft7 _ _ e)),by rw[cg,aF];rfl,s8t _ _ hp7,rfl⟩
    rintro _ H5 ⟨s5,js,ls3,n5,e5,hB5,hn5,hp5,rfl⟩
    have s25:cq H2 H5:=λb o e=>s5 b o (λm=>by rw[List.mem_singleton.mp m,hp0]at e;cases e) (s24 _ _ e)
    have hrow:=Dg hal
    have hr3:r.length<=3:=by rw[gi hal];exact iw x
    have hrl:(jx (x::r)).length<=4:=by
     show(List.zipWith pV (want x) r).length+1<=4
     rw[aY];omega
    have ev:∀v∈jx (x::r),(∃z,v= .str z)∨∃z∈r,v= .int (vl z)/\wr z=true:=λv hv=>by
     rcases List.mem_cons.mp hv with rfl|hv
     ·exact .inl ⟨x,rfl⟩
     ·rcases hrow v hv with ⟨z,_,e,_⟩|⟨z,hz,e⟩
      ·exact .inl ⟨z,e⟩
      ·exact .inr ⟨z,hz,e⟩
    refine cu (λσ' H'=>cq H5 H'/\σ'=[some (V.ref l),some (V.ref m2),some (V.ref t),some (V.ref p),some (V.ref n5)]) (λR3 hR3=> ?_) ?_
    ·simp only[dj,cW,dA,cV,dD,ja,cB,cL,tC,cI,lh,lM,jO,je,kQ,aJ,aa,ae,V.int.injEq,V.bl.injEq,V.str.injEq,V.ref.injEq,V.ty.injEq,aq,ar,exists_eq_left',decide_eq_true_eq,↓cS]
     refine⟨⟨_,fb.of hp5⟩,gC.wM (λ_=>false) id (fb.of hp5) (cR (by omega)) (λv hv H8 s8 K' hK=> ?_) (λv hv hf=>nomatch hf) λl8 H8 s8 hl8=> ?_⟩
     ·rcases ev v hv with ⟨z,rfl⟩|⟨z,hz,rfl,_⟩
      ·simp only[sv,jy,↓reduceIte,aG,Bool.not_true,aa,V.int.injEq,V.bl.injEq,V.str.injEq,V.ref.injEq,V.ty.injEq,aq,ar,and_true,true_and,exists_eq_left',exists_eq_left,exists_const,reduceCtorEq,ie,uq,my,T.jv]
       exact⟨.inr ⟨z,rfl⟩,hK _ s8⟩
      ·simp only[sv,jy,↓reduceIte,aG,Bool.not_false,bB,aa,V.int.injEq,V.bl.injEq,V.str.injEq,V.ref.injEq,V.ty.injEq,aq,ar,and_true,true_and,exists_eq_left',exists_eq_left,exists_const,reduceCtorEq,ie,uq,my,T.kz]
       exact⟨.inl ⟨_,rfl⟩,hK _ s8⟩
     ·dsimp only
      rw[cg]
      dsimp only
      rw[if_neg (by simp)]
      exact hR3 _ _ ⟨s8.trans (cq.upd hl8),rfl⟩
    rintro _ H6 ⟨s6,rfl⟩
    have hp6:=s6 _ _ hp5
    refine cu (λσ' H'=>cq H6 H'/\σ'=[some (V.ref l),some (V.ref m2),some (V.ref t),some (V.ref p),some (V.ref n5)]) (λR3 hR3=> ?_) ?_
    ·simp only[dj,cW,dA,cV,dD,ja,cB,cL,tC,cI,lh,lM,jO,je,kQ,xm,iO,eK,uh,aJ,aa,ae,V.int.injEq,V.bl.injEq,V.str.injEq,V.ref.injEq,V.ty.injEq,aq,ar,exists_eq_left',decide_eq_true_eq,↓cS,hp6]
     intro p7 hp7
     rw[show jx (x::r)=V.str x::List.zipWith pV (want x) r from rfl,wF]
     have s7:=cq.upd (o:= .lst (List.zipWith pV (want x) r)) hp7
     have hq7:fb K (upd H6 p7 (.lst (List.zipWith pV (want x) r))) p7 (List.zipWith pV (want x) r):=fb.of cg
     generalize upd H6 p7 (.lst (List.zipWith pV (want x) r))=H7 at*
     refine⟨⟨_,hq7⟩,gC.wM (λ_=>false) id hq7 (cR (by rw[aY];omega)) (λv hv H8 s8 K' hK=> ?_) (λv hv hf=>nomatch hf) λl8 H8 s8 hl8=> ?_⟩
     ·rcases hrow v hv with ⟨z,hz,rfl,hw⟩|⟨z,hz,rfl,hw⟩
      ·have hzt:=hpt z (aD _ hz)
       simp only[cV,dD,ja,cB,cL,cI,cN,BY,eqv,aa,V.int.injEq,V.bl.injEq,V.str.injEq,V.ref.injEq,V.ty.injEq,aq,ar,and_true,exists_eq_left',exists_const,reduceCtorEq,cStr,↓cS,ie,fz]
       refine⟨.inr ⟨z,rfl⟩,hzt.1,by have:=hzt.2;have:=htx.1;omega,λH9 s9=> ?_⟩
       rw[hw]
       exact hK _ (s8.trans s9)
      ·have hzt:=hpt z (aD _ hz)
       have hb:=o9 hw
       unfold nK at hb
       simp only[cV,dD,ja,cB,cL,cI,cN,BY,eqv,aa,V.int.injEq,V.bl.injEq,V.str.injEq,V.ref.injEq,V.ty.injEq,aq,ar,and_true,exists_eq_left',exists_const,reduceCtorEq,cStr,↓cS,ie,fz]
       refine⟨.inl ⟨_,rfl⟩,BH hw,?_⟩
       rw[hb]
       refine⟨hzt.1,by have:=hzt.2;have:=htx.1;omega,λH9 s9=> ?_⟩
       rw[hw]
       exact hK _ (s8.trans s9)
     ·dsimp only
      rw[cg]
      dsimp only
      rw[if_neg (by simp)]
      exact hR3 _ _ ⟨s7.trans (s8.trans (cq.upd hl8)),rfl⟩
    rintro _ H7 ⟨s7,rfl⟩
    have s57:=s6.trans s7
    have hp7:=s57 _ _ hp5
    have hm7:=s57 _ _ (s25 _ _ hm2)
    have hn7:=s57 _ _ hn5
    have el:nu 32 (x::r)=ln:=by rw[←ep];exact nv
    have hsum:((x::r).map (·.length)).sum+(x::r).length<=40000:=by
     have h1:=oq (n:=700) (ps:=x::r) λu h=>by have:=(hpt u h).2;have:=htx.1;omega
     rw[ag]at h1⊢;omega
    have hll:l1.length+1+js.length<=1000:=by
     have:(l1++ln::l3).length<=1000:=hy
     rw[ay,e5,ag,ay]at this;omega
    simp only[dD,cB,cL,tC,cI,eY,c5,cJ,Int.reduceAdd,cg,jO,je,kQ,lL,aJ,ag,ak,aa,ae,aj,ai,V.int.injEq,V.bl.injEq,V.str.injEq,V.ref.injEq,V.ty.injEq,aq,ar,true_and,exists_eq_left',Nat.reduceAdd,ou,qf,oF,qZ]
    refine⟨⟨_,fb.of hp7⟩,gC.Fw FN (fb.of hp7) (cR (by omega)) (λv hv K' hK=> ?_) λl8 hl8=> ?_⟩
    ·rcases ev v hv with ⟨z,rfl⟩|⟨z,hz,rfl,hw⟩
     ·simp only[ja,cB,cL,cI,aa,cStr]
      exact hK
     ·simp only[ja,cB,cL,cI,aa,cStr]
      exact⟨BH hw,hK⟩
    ·rw[Dh hal]
     have s8:=cq.upd (o:= .lst ((x::r).map V.str)) hl8
     dsimp only
     rw[cg]
     dsimp only
     refine⟨x::r,rfl,(o4 hsum).1,?_⟩
     rw[(o4 hsum).2,el]
     intro p9 hp9
     have s9:=cq.upd (o:= .lst [V.str ln]) hp9
     rw[(s8.trans s9) _ _ hm7]
     dsimp only
     refine⟨cR (by rw[ah];show _+1<=_;omega),λp10 hp10=> ?_⟩
     have s10:=cq.upd (o:= .lst (l1.map V.str++[V.str ln])) hp10
     rw[(s8.trans (s9.trans s10)) _ _ hn7]
     dsimp only
     refine⟨cR (by rw[ay,ah,ah];show _+1+_<=_;omega),λp11 hp11=> ?_⟩
     have s11:=cq.upd (o:= .lst (l1.map V.str++[V.str ln]++js.map V.str)) hp11
     have sA:=s57.trans (s8.trans (s9.trans (s10.trans s11)))
     have sB:=s2.trans (s25.trans sA)
     refine hR2 _ _ ⟨sB,l1++ln::js,ls3,?_,hB5.frame (λa us pa e=>⟨pa,sA _ _ e⟩) (λa us e=>sA _ _ e),p11,_,_,_,same_none (s1.trans (s2.trans (s25.trans (s57.trans (s8.trans (s9.trans s10)))))) hp11,?_,rfl⟩
     ·rw[bu,aX,e5]
     ·rw[cg,aF,ax,bu];rfl
   ·rintro σ' H2 ⟨s2,l1,l2,rfl,hB2,m2,v2,v3,v4,hm20,hm2,rfl⟩
    rw[List.drop_length]at hB2
    cases hB2
    rw[aR]at hR
    exact hR _ _ ⟨s2,m2,_,_,_,hm20,hm2,rfl⟩
  rintro _ H2 ⟨s2,m2,v2,v3,v4,hm20,hm2,rfl⟩
  simp only[dj,cI,aa,ae]
  exact q _ _ (s1.trans s2) hm20 hm2
theorem gp(T:Txt w K mg A):∀d:Nat,eg P w K mg base (kF P w) true (d+1+1) A.dG A.dX ["_law_program"] (d_  d)
 |0=>mr T (spr:=λ_ _ _ _=>False) (λ_ _ _ _ h=>absurd h (aT 0)) ⟨λ_ _ _ _ h=>h.elim,λ_ _ _ _ _ _ _ _ _ _ _ _ _ h=>h.elim⟩
 |d+1=>mr T (λ_ _ _ _ _ h=>h) (gp T d)
noncomputable def jN:Sp:=λvs H Q _=>∃l ys ls,∃P:Addr->Prop,vs=[.ref l]/\H l=some (.lst ys)/\ls.length<=1000/\mw H P 3 ys ls/\3*ls.length<=30000/\∀m H',cq H H'->H m=none->H' m=some (.lst ((gk [] ls).map V.str))->Q (.ref m) H'
theorem qo:cX ["program","found"] ["program"] (cH oo):=fsc
theorem jL(T:Txt w K mg A):eg P w K mg base (kF P w) true 6 A.iE A.jl ["program"] jN:=by
 refine T.gI.o_ qo (λvs H Q E h=> ?_) (λcdv A' outer s H vs Q E hr hx h=> ?_)
 ·obtain⟨_,_,_,_,rfl,_⟩:=h
  rfl
 ·obtain⟨l,ys,ls,P,rfl,h⟩:=h
  obtain⟨q,hl,hy,hB,hb⟩:=E2 h
  refine dF (B:=λt=>t _ _ _) (cc (cz (i:=1) qo.nd rfl lo vJ)
   (cc (fS (cx ((nP T 3).mono (by decide)) hr rfl T.iT T.jC.kp T.lK hx (cb (cj 0) (cb (cj 1) b_))))
   (ck (cF (c_ (xB (by rfl)) (by rfl) T.og PyProof.Rows.Boot.«list» (cb (cj 1) b_)))))) ?_
  simp only[dj,lF,gh,ja,cB,cL,cI,c5,cJ,cN,v_,and_assoc,Int.reduceAdd,Int.reduceSub,cg,L2.start,ax,aJ,ag,ak,List.replicate,aX,bg,aa,ae,aj,ai,V.int.injEq,V.bl.injEq,V.str.injEq,V.ref.injEq,V.ty.injEq,aq,ar,and_true,exists_eq_left',exists_and_left,Nat.reduceSub,Nat.reduceAdd,vq,jG]
  intro p hp
  have s1:=cq.upd (o:= .dK []) hp
  refine⟨ys,s1 _ _ hl,ls,hy,[],P,hB.frame (λa us p e=>⟨p,s1 _ _ e⟩) (λa us e=>s1 _ _ e),rfl,by show 0+_<=_;omega,λH' sb hp'=> ?_⟩
  have s2:cq H H':=λa o e=>sb a o (λm=>by rw[List.mem_singleton.mp m,hp]at e;cases e) (s1 _ _ e)
  rw[hp']
  intro m hm
  refine q _ _ (s2.trans (cq.upd hm)) (same_none s2 hm) ?_
  rw[cg]
  unfold dk
  rw[bw];rfl
noncomputable def gz (A:Ad):Sp:=λvs H Q E=>∃v,vs=[v]/\((Ns H v/\∀H',cq H H'->E (.ref A.cy) none H')∨∃z,v= .str z/\z.length<=40000/\(sW z).length<=1000/\(∀u∈sW z,tx 700 u)/\
 (good (sW z)=false->∀H',cq H H'->E (.ref A.cy) none H')/\
 (good (sW z)=true->∀l ys H',cq H H'->H l=none->H' l=some (.lst ys)->ys.length<=1000->mw H' (λa=>H a=none/\a≠l) 3 ys (sW z)->Q (.ref l) H'))
theorem jF:cX ["text","program","blocks","line"] ["text"] (cH me):=fsc
theorem ia(T:Txt w K mg A):eg P w K mg base (kF P w) true 7 A.f_ A.gW ["text"] (gz A):=by
 refine T.fF.o_ jF (λvs H Q E h=> ?_) (λcdv A' outer s H vs Q E hr hx h=> ?_)
 ·obtain⟨_,rfl,_⟩:=h
  rfl
 ·obtain⟨v,rfl,h⟩:=h
  refine dF (B:=λt=>t _ _ _) (cc (cK (dw (c9 (cG gc (by rfl) T.c8 PyProof.Rows.Boot.«isinstance» (cb (cj 0) (cb (j5 T.lB PyProof.Rows.Boot.«str») b_))) (λ_=>rfl))) (ck (fu hx rfl T.dv T.dP rfl (cb cw b_))) cD)
   (cc (cz (i:=1) jF.nd rfl lo (cE b_))
   (cc (cz (i:=2) jF.nd rfl lo (cE (cb (cj 1) b_)))
   (cc (iY hx.own rfl (eT (cx ((uR T).mono (by decide)) hr rfl T.lT T.mM.kp T.qX hx (cb (cj 0) b_))) (gZ (i:=3) jF.nd rfl lo)
    (ck (fS (cx ((pK T).mono (by decide)) hr rfl T.ig T.jr.kp T.mj hx (cb (cj 2) (cb (cx ((qB T).mono (by decide)) hr rfl T.iU T.jR.kp T.mG hx (cb (cj 3) b_)) b_))))))
   (cc (cK (cA mP (cG fM (by rfl) T.fT PyProof.Rows.Boot.«len» (cb (cj 2) b_)) cf (cM _)) (ck (fu hx rfl T.dv T.dP rfl (cb cw b_))) cD)
   (cc (cK (cA mP (cG fM (by rfl) T.fT PyProof.Rows.Boot.«len» (cb (cx ((jL T).mono (by decide)) hr rfl T.gJ T.gI.kp T.jg hx (cb (cj 1) b_)) b_)) (dq T.kc) (cM _)) (ck (fu hx rfl T.dv T.dP rfl (cb cw b_))) cD)
   (ck (cF (cj 1))))))))) ?_
  rcases h with ⟨hn,e⟩|⟨z,rfl,hz,hl,hu,e,q⟩
  ·show gh _ _ _ [some v,none,none,none] H
   refine cu (λ_ _=>False) (λR hR=> ?_) (λ_ _ z=>z.elim)
   cases v with
   |gm=>simp only[cW,dA,jy,ja,cB,cL,tC,cI,gA,l7,lq,dR,jd,Int.reduceAdd,↓reduceIte,aG,ag,ak,aa,true_and,exists_eq_left,Nat.reduceAdd,ou,uq,my,T.il];exact e _ (cq.refl _)
   |bl k=>simp only[cW,dA,jy,ja,cB,cL,tC,cI,gA,l7,lq,dR,jd,Int.reduceAdd,↓reduceIte,aG,ag,ak,aa,true_and,exists_eq_left,Nat.reduceAdd,ou,uq,my,T.kS];exact e _ (cq.refl _)
   |int k=>simp only[cW,dA,jy,ja,cB,cL,tC,cI,gA,l7,lq,dR,jd,Int.reduceAdd,↓reduceIte,aG,ag,ak,aa,true_and,exists_eq_left,Nat.reduceAdd,ou,uq,my,T.kz];exact e _ (cq.refl _)
   |ref a=>
    rcases hn with ⟨xs,ha⟩|⟨xs,ha⟩|⟨xs,ha⟩
    ·simp only[cW,dA,jy,ja,cB,cL,tC,cI,gA,l7,lq,dR,jd,Int.reduceAdd,↓reduceIte,aG,ag,ak,aa,true_and,exists_eq_left,Nat.reduceAdd,ou,uq,my,ha,T.kW];exact e _ (cq.refl _)
    ·simp only[cW,dA,jy,ja,cB,cL,tC,cI,gA,l7,lq,dR,jd,Int.reduceAdd,↓reduceIte,aG,ag,ak,aa,true_and,exists_eq_left,Nat.reduceAdd,ou,uq,my,ha,T.j6];exact e _ (cq.refl _)
    ·simp only[cW,dA,jy,ja,cB,cL,tC,cI,gA,l7,lq,dR,jd,Int.reduceAdd,↓reduceIte,aG,ag,ak,aa,true_and,exists_eq_left,Nat.reduceAdd,ou,uq,my,ha,T.kT];exact e _ (cq.refl _)
   |_=>exact hn.elim
  show gh _ _ _ [some (V.str z),none,none,none] H
  refine cu (λσ' H'=>H=H'/\σ'=[some (V.str z),none,none,none]) (λR hR=> ?_) ?_
  ·simp only[cW,dA,jy,ja,cB,cL,tC,cI,gA,l7,lq,dR,jd,Int.reduceAdd,↓reduceIte,aG,bB,ag,ak,aa,true_and,exists_eq_left,Nat.reduceAdd,ou,uq,my,T.jv]
   exact hR _ _ ⟨rfl,rfl⟩
  rintro _ _ ⟨rfl,rfl⟩
  refine cu (λσ' H'=>∃p,H p=none/\cq H H'/\H' p=some (.lst [])/\σ'=[some (V.str z),some (V.ref p),none,none]) (λR hR=> ?_) ?_
  ·simp only[cL,eY,c5,cJ,ak,aj,ai,true_and,v9]
   exact λp hp=>hR _ _ ⟨p,hp,cq.upd hp,cg,rfl⟩
  rintro _ H1 ⟨p,hp,s1,hp1,rfl⟩
  refine cu (λσ' H'=>∃b,H1 b=none/\cq H1 H'/\H' b=some (.lst [.ref p])/\σ'=[some (V.str z),some (V.ref p),some (V.ref b),none]) (λR hR=> ?_) ?_
  ·simp only[cB,cL,cI,eY,c5,cJ,Int.reduceAdd,ag,ak,aa,ae,aj,ai,true_and,Nat.reduceAdd,ou]
   exact λb hb=>hR _ _ ⟨b,hb,cq.upd hb,cg,rfl⟩
  rintro _ H2 ⟨b,hb1,s2,hb2,rfl⟩
  have hb0:=same_none s1 hb1
  have s12:=s1.trans s2
  have pb:p≠b:=λy=>by rw[y,hb1]at hp1;cases hp1
  generalize els:sW z=ls at hl hu e q
  have B0:Bs (λa=>H a=none/\a≠b) H2 [] p [] [] []:=⟨aO _,by simp,λa ha=>by rw[List.mem_singleton.mp ha];exact⟨hp,pb⟩,s2 _ _ hp1,.nil,.nil⟩
  refine cu (λσ' H'=>cq H H'/\∃r l ys pre js,Bs (λa=>H a=none/\a≠b) H' r l ys pre js/\pre++js=ls/\um 0 ls=some r.length/\H' b=some (.lst ((l::r).reverse.map V.ref))/\(l::r).getLast? =some p/\∃v3,σ'=[some (V.str z),some (V.ref p),some (V.ref b),v3]) (λR hR=> ?_) ?_
  ·simp only[cB,cL,cI,cN,dR,mi,kQ,aa,V.int.injEq,V.bl.injEq,V.str.injEq,V.ref.injEq,V.ty.injEq,aq,ar,and_true,exists_eq_left',qq]
   rw[els]
   refine⟨hz,λm hm=> ?_⟩
   have sm:=cq.upd (o:= .lst (ls.map V.str)) hm
   have hm1:upd H2 m (.lst (ls.map V.str)) m=some (.lst (ls.map V.str)):=cg
   have mb:m≠b:=λy=>by rw[y,hb2]at hm;cases hm
   have hm0:=same_none s12 hm
   have B1:=B0.same sm
   have hb3:=sm _ _ hb2
   have s3:=s12.trans sm
   have mp:m≠p:=λy=>by rw[y,s2 _ _ hp1]at hm;cases hm
   generalize upd H2 m (.lst (ls.map V.str))=H3 at*
   refine⟨⟨_,fb.of hm1⟩,fK.sU (xs:=ls.map V.str) (λi σ' H'=>cq H H'/\H' m=some (.lst (ls.map V.str))/\∃r l ys pre js,Bs (λa=>H a=none/\a≠b) H' r l ys pre js/\m∉l::r/\pre++js=ls.take i/\um 0 ls=um r.length (ls.drop i)/\H' b=some (.lst ((l::r).reverse.map V.ref))/\(l::r).getLast? =some p/\∃v3,σ'=[some (V.str z),some (V.ref p),some (V.ref b),v3])
    ⟨s3,hm1,[],p,[],[],[],B1,by simpa using mp,rfl,rfl,hb3,rfl,_,rfl⟩ (λi σ' H' _ h=>fb.of h.2.1) ?_ ?_⟩
   ·rintro i v σ' H4 hv ⟨s4,hm4,r,l,ys,pre,js,B,ml,ej,ew,hb4,hlast,v3,rfl⟩ R2 hR2
    rw[aS]at hv
    obtain⟨u,hui,rfl⟩:=Option.map_eq_some_iff.mp hv
    have hut:=hu u (aZ hui)
    rw[drop_cons hui,ng]at ew
    have et:ls.take (i+1)=ls.take i++[u]:=by rw[a_,hui];rfl
    have hyl:ys.length<=1000:=by
     have h1:=wo B.b
     have h2:js.length<=ls.length:=by
      have:=congrArg List.length ej
      rw[ay,aH]at this;omega
     omega
    have rl:((l::r).reverse).length=r.length+1:=by rw[List.length_reverse,ag]
    have rv:(l::r).reverse=r.reverse++[l]:=List.reverse_cons
    have hr3:=B.hr
    have nF:∀a o,H a=some o->a∉ [b]:=λa o e m=>by rw[List.mem_singleton.mp m,hb0]at e;cases e
    have nF2:∀a o,H a=some o->a∉ [b,l]:=λa o e m=>by
     rcases List.mem_cons.mp m with y|y
     ·rw[y,hb0]at e;cases e
     ·rw[List.mem_singleton.mp y,(B.fr l aA).1]at e;cases e
    have mnb:m∉ [b]:=λy=>mb (List.mem_singleton.mp y)
    simp only[lF,cB,cL,cI,cJ,cN,aa,ae,aj,ai,V.int.injEq,V.bl.injEq,V.str.injEq,V.ref.injEq,V.ty.injEq,aq,ar,and_true,exists_eq_left',mq]
    refine⟨hut.asc,hut.1,λhf ho t H5 s5 ht=> ?_,λhf ho t a H5 s5 ha0 ha ht=> ?_,λhf H5 s5=> ?_⟩
    ·obtain⟨x,r',ep,hw,es,ha⟩:=BG hf
     rw[es]at ht
     rw[hw]at ho
     rw[if_pos hf,hw,ho,if_neg (λn=>by cases n)]at ew
     have B5:=B.same s5
     have hb5:=s5 _ _ hb4
     refine⟨b,t,x,_,_,rfl,hb5,by rw[rl];omega,ht,λhx=> ?_,λhx=> ?_⟩
     ·rw[if_pos hx]at ew
      have hu':u=eS:=wN hf (hw.trans hx)
      refine⟨by simp,λh1 H6 s6=> ?_,λh2 H6 s6 hb6=> ?_⟩
      ·rw[rl]at h1
       rw[if_neg (by omega)]at ew
       exact e (kP (by rw[ew];exact λn=>nomatch n)) _ λa o y=>s6 a o (nF a o y) (s5 _ _ (s4 _ _ y))
      ·rw[rl]at h2
       rw[if_pos (by omega)]at ew
       cases r with
       |nil=>exact absurd h2 (by decide)
       |cons l1 r=>
        obtain⟨vs1,pre1,ls1,B6,e6⟩:=B5.cls
        refine hR2 _ _ ⟨λa o y=>s6 a o (nF a o y) (s5 _ _ (s4 _ _ y)),s6 _ _ mnb (s5 _ _ hm4),r,l1,vs1,pre1,ls1,B6.sb s6 hb5 (λn=>n.2 rfl),λy=>ml (aD _ y),by rw[e6,ej,et,hu'],ew,?_,by simpa using hlast,_,rfl⟩
        rw[hb6,rv,List.dropLast_concat]
     ·rw[if_neg hx]at ew
      refine⟨l,_,ys,rv,B5.hl,hyl,λy=>(B.fr l aA).2 y.symm,λ_ H6 s6=> ?_,λn=>by rw[ho]at n;cases n⟩
      have ht':H5 t=some (.tup (sV u)):=by rw[es];exact ht
      have B6:=(B5.row hf (by rw[hw];exact ho) (by rw[hw];exact hx) ht').same s6
      have lb:b≠l:=λy=>(B.fr l aA).2 y.symm
      have lm:m≠l:=λy=>ml (by rw[y];exact aA)
      refine hR2 _ _ ⟨λa o y=>s6 a o ((cO λn=> ?_).trans (s5 _ _ (s4 _ _ y))),s6 _ _ ((cO lm).trans (s5 _ _ hm4)),r,l,_,pre,_,B6,ml,by rw[←bu,ej,et],ew,s6 _ _ ((cO lb).trans hb5),hlast,_,rfl⟩
      rw[n,(B.fr l aA).1]at y;cases y
    ·obtain⟨x,r',ep,hw,es,hal⟩:=BG hf
     rw[es]at ht
     rw[hw]at ho
     rw[if_pos hf,hw,ho,if_pos rfl]at ew
     have B5:=B.same s5
     have hb5:=s5 _ _ hb4
     have hx:x≠eS:=λy=>by rw[y,vR]at ho;cases ho
     have lb:b≠l:=λy=>(B.fr l aA).2 y.symm
     have lm:m≠l:=λy=>ml (by rw[y];exact aA)
     obtain⟨v1,ev⟩:=CQ ho hal
     refine⟨b,t,x,_,_,rfl,hb5,by rw[rl];omega,ht,λy=>absurd y hx,λ_=>⟨l,_,ys,rv,B5.hl,hyl,lb,(λn=>by rw[ho]at n;cases n),λ_=>⟨v1,a,by rw[ev];rfl,λh3 H6 s6 hb6=> ?_,λh3 H6 s6=> ?_⟩⟩⟩
     ·rw[rl]at h3
      rw[if_pos (by omega)]at ew
      have an:a∉l::r:=λy=>by
       rcases List.mem_cons.mp y with y|y
       ·rw[y,B.hl]at ha0;cases ha0
       ·obtain⟨us,hus⟩:=B.o.there a y
        rw[hus]at ha0;cases ha0
      have ab:a≠b:=λy=>by rw[y,hb4]at ha0;cases ha0
      have am:m≠a:=λy=>by rw[←y,hm4]at ha0;cases ha0
      have ht':H5 t=some (.tup (sV u++[.ref a])):=by rw[es];exact ht
      have B6':Bs (λa=>H a=none/\a≠b) (upd H5 l (.lst (ys++[.ref t]))) (l::r) a [] (pre++js++[u]) []:=(B.FA s5 (by omega) hf (by rw[hw];exact ho) ht' ha ha0 ⟨same_none s4 ha0,ab⟩ an)
      have B6:=B6'.sb s6 ((cO lb).trans hb5) (λn=>n.2 rfl)
      refine hR2 _ _ ⟨λc o y=>s6 c o (nF c o y) ((cO λn=> ?_).trans (s5 _ _ (s4 _ _ y))),s6 _ _ mnb ((cO lm).trans (s5 _ _ hm4)),l::r,a,_,_,_,B6,λy=>(List.mem_cons.mp y).elim am ml,by rw[aR,ej,et],ew,?_,by rw[List.getLast?_cons_cons];exact hlast,_,rfl⟩
      ·rw[n,(B.fr l aA).1]at y;cases y
      ·rw[hb6,List.reverse_cons (a:=a)]
     ·rw[rl]at h3
      rw[if_neg (by omega)]at ew
      exact e (kP (by rw[ew];exact λn=>nomatch n)) _ λc o y=>s6 c o (nF2 c o y) (s5 _ _ (s4 _ _ y))
    ·rw[if_neg (by rw[hf];exact λn=>nomatch n)]at ew
     exact e (kP (by rw[ew];exact λn=>nomatch n)) _ (s4.trans s5)
   ·rintro σ' H4 ⟨s4,hm4,r,l,ys,pre,js,B,ml,ej,ew,hb4,hlast,v3,rfl⟩
    rw[ah,List.drop_length]at ew
    rw[ah,bb]at ej
    exact hR _ _ ⟨s4,r,l,ys,pre,js,B,ej,ew,hb4,hlast,_,rfl⟩
  rintro _ H3 ⟨s3,r,l,ys,pre,js,B,ej,ew,hb3,hlast,v3,rfl⟩
  refine cu (λσ' H'=>H3=H'/\r=[]/\σ'=[some (V.str z),some (V.ref p),some (V.ref b),v3]) (λR hR=> ?_) ?_
  ·simp only[cW,dA,cV,dD,ja,cB,cL,tC,cI,gA,Ak,lh,lM,Int.reduceAdd,ag,ak,aa,ae,true_and,decide_eq_true_eq,Nat.reduceAdd,ou,↓cS,hb3]
   have rl:((l::r).reverse.map V.ref).length=r.length+1:=by rw[ah,List.length_reverse,ag]
   rw[rl]
   cases r with
   |nil=>rw[if_neg (by simp)];exact hR _ _ ⟨rfl,rfl,rfl⟩
   |cons a r=>
    rw[if_pos (by rw[ag];omega)]
    exact e (kP (by rw[ew,ag];exact λn=>by injection n with n;omega)) _ s3
  rintro _ _ ⟨rfl,rfl,rfl⟩
  have elp:l=p:=by simpa using hlast
  subst elp
  have epre:pre=[]:=by cases B.o;rfl
  rw[epre,bg]at ej
  subst ej
  refine cu (λσ' H'=>cq H3 H'/\(gk [] js).length<=42/\σ'=[some (V.str z),some (V.ref l),some (V.ref b),v3]) (λR hR=> ?_) ?_
  ·simp only[cW,dA,cV,dD,ja,cB,cL,tC,cI,cN,gA,Ak,lh,lM,Int.reduceAdd,ag,ak,aa,ae,V.int.injEq,V.bl.injEq,V.str.injEq,V.ref.injEq,V.ty.injEq,aq,ar,and_true,true_and,exists_eq_left',exists_and_left,decide_eq_true_eq,Nat.reduceAdd,ou,↓cS,jN]
   refine⟨ys,B.hl,js,hl,_,B.b,by omega,λm H4 s4 hm0 hm=> ?_⟩
   rw[hm]
   dsimp only
   rw[ah]
   by_cases y:(gk [] js).length<=42
   ·rw[if_neg (by omega)]
    exact hR _ _ ⟨s4,y,rfl⟩
   ·rw[if_pos (by omega)]
    exact e (by unfold good;rw[decide_eq_false y,Bool.and_false]) _ (s3.trans s4)
  rintro _ H4 ⟨s4,y,rfl⟩
  have hg:good js=true:=by unfold good;rw[decide_eq_true (show um 0 js=some 0 from ew),decide_eq_true y];rfl
  simp only[dj,cI,aa,ae]
  refine q hg l ys H4 (s3.trans s4) hp (s4 _ _ B.hl) (av (wo B.b) hl) ((B.same s4).b.frame (λa us pa ea=>⟨⟨pa.1.1,λn=>pa.2 (by rw[n];exact aA)⟩,ea⟩) λ_ _ ea=>ea)
theorem wL{H H':Hp}{a:Addr}{c:Value}{x:V}{Q:VK}(ha:H a=none)(s1:cq (upd H a (.exc c)) H')(q:∀H',cq H H'->Q x H'):H' a=some (.exc c)/\Q x (rm H' a):=by
 refine⟨s1 a _ cg,q _ λb o eb=> ?_⟩
 rw[w9 (du eb ha)]
 exact((cq.upd ha).trans s1) b o eb
noncomputable def iu:Sp:=λvs H Q _=>∃v,vs=[v]/\(Ns H v∨∃z,v= .str z/\z.length<=40000/\(sW z).length<=1000/\(∀u∈sW z,tx 700 u)/\good (sW z)=false)/\∀H',cq H H'->Q (.bl true) H'
theorem iq:cX ["_law_thing","e","_law_others"] ["_law_thing"] (cH kB):=fsc
theorem ip(T:Txt w K mg A):eg P w K mg base (kF P w) true 8 A.eV A.fQ ["_law_thing"] iu:=by
 refine T.fe.o_ iq (λvs H Q E h=> ?_) (λcdv A' outer s H vs Q E hr hx h=> ?_)
 ·obtain⟨_,rfl,_⟩:=h
  rfl
 ·obtain⟨v,rfl,hv,q⟩:=h
  refine dF (B:=λt=>t _ _ _) (cc (yZ rfl rfl (λE1 W1 pins1 hx1=>(ck (fS (cx ((ia T).mono (by decide)) hr rfl T.fm T.fF.kp T.gP hx1 (cb (cj 0) b_))))) (AM rfl rfl T.kM iq.nd (i:=1) rfl rfl (λa=>(cc (cz (i:=2) iq.nd rfl lo (cG y6 (by rfl) T.c8 PyProof.Rows.Boot.«isinstance» (cb (cj 1) (cb (kx (cb (dq T.rY) (cb (dq T.qv) (cb (dq T.s_) (cb (dq T.u_) (cb (dq T.va) (cb (dq T.vb) (cb (dq T.tj) b_)))))))) b_))))
   (cc (cz (i:=2) iq.nd rfl lo (qM (cj 2) (gK (cG y6 (by rfl) T.c8 PyProof.Rows.Boot.«isinstance» (cb (cj 1) (cb (kx (cb (dq T.vc) (cb (dq T.tm) (cb (dq T.vd) (cb (dq T.ve) (cb (dq T.nW) b_)))))) b_))))))
   (ck (cF (iW (cG y4 (by rfl) T.c8 PyProof.Rows.Boot.«isinstance» (cb (cj 1) (cb (dq T.qw) b_))) (iW (cG y4 (by rfl) T.c8 PyProof.Rows.Boot.«isinstance» (cb (cj 1) (cb (j5 T.j7 PyProof.Rows.Boot.«ValueError») b_))) (gK (uI (cj 2)))))))))) yY))
   (ck (cF e_))) ?_
  simp only[dj,lF,gh,cB,cL,tC,cI,cN,Dq,dR,Int.reduceAdd,Int.reduceSub,L2.start,ax,aJ,ag,ak,List.replicate,aX,bg,aa,V.int.injEq,V.bl.injEq,V.str.injEq,V.ref.injEq,V.ty.injEq,aq,ar,and_true,exists_eq_left',Nat.reduceSub,Nat.reduceAdd,gz]
  rcases hv with hn|⟨z,rfl,hz,hl,hu,hg⟩
  ·refine .inl ⟨hn,λH1 s1=> ?_⟩
   simp only[dj,gh,m_,wa,u6,ja,cB,cL,tC,cI,sy,c5,cJ,l7,lq,Int.reduceAdd,Bool.not_true,cg,xY,ag,ak,aa,ae,aj,ai,true_and,Nat.reduceAdd,FY,FQ,↓cS,z9,T.dE]
   intro a ha p hp
   have ki:∃C,Value.ref A.cy=Value.ref C/\x8 K C:=⟨_,rfl,T.gd⟩
   have a1:=cq.upd (o:=(HO.tup [V.ref A.fA,V.ref A.eM,V.ref A.gr,V.ref A.hG,V.ref A.hJ,V.ref A.hU,V.ref A.gu])) hp
   have e1:=a1 a _ cg
   generalize upd (upd H1 a (HO.exc (Value.ref A.cy))) p (HO.tup [V.ref A.fA,V.ref A.eM,V.ref A.gr,V.ref A.hG,V.ref A.hJ,V.ref A.hU,V.ref A.gu])=G at*
   rw[e1]
   dsimp only
   refine⟨T.gd,?_⟩
   simp only[lq,↓reduceIte,qj,aN,T.dQ,T.dI,T.dZ,T.eA,T.eB,T.eE,T.d2]
   intro p1 hp1
   have a2:=cq.upd (o:=(HO.tup [V.ref A.hV,V.ref A.gv,V.ref A.hW,V.ref A.hX,V.ref A.dB])) hp1
   have e2:=a2 _ _ e1
   generalize upd G p1 (HO.tup [V.ref A.hV,V.ref A.gv,V.ref A.hW,V.ref A.hX,V.ref A.dB])=G2 at*
   rw[e2]
   dsimp only
   refine⟨T.gd,?_⟩
   simp only[lq,↓reduceIte,Bool.not_false,qj,true_and,T.eF,T.d3,T.eG,T.eI,T.dn,T.dJ,T.dy,uq,my,e2,ki]
   exact(wL ha (a1.trans a2) λH' s'=>q _ (s1.trans s')).2
  ·refine .inr ⟨z,rfl,hz,hl,hu,λ_ H1 s1=> ?_,λy=>by rw[hg]at y;cases y⟩
   simp only[dj,gh,m_,wa,u6,ja,cB,cL,tC,cI,sy,c5,cJ,l7,lq,Int.reduceAdd,Bool.not_true,cg,xY,ag,ak,aa,ae,aj,ai,true_and,Nat.reduceAdd,FY,FQ,↓cS,z9,T.dE]
   intro a ha p hp
   have ki:∃C,Value.ref A.cy=Value.ref C/\x8 K C:=⟨_,rfl,T.gd⟩
   have a1:=cq.upd (o:=(HO.tup [V.ref A.fA,V.ref A.eM,V.ref A.gr,V.ref A.hG,V.ref A.hJ,V.ref A.hU,V.ref A.gu])) hp
   have e1:=a1 a _ cg
   generalize upd (upd H1 a (HO.exc (Value.ref A.cy))) p (HO.tup [V.ref A.fA,V.ref A.eM,V.ref A.gr,V.ref A.hG,V.ref A.hJ,V.ref A.hU,V.ref A.gu])=G at*
   rw[e1]
   dsimp only
   refine⟨T.gd,?_⟩
   simp only[lq,↓reduceIte,qj,aN,T.dQ,T.dI,T.dZ,T.eA,T.eB,T.eE,T.d2]
   intro p1 hp1
   have a2:=cq.upd (o:=(HO.tup [V.ref A.hV,V.ref A.gv,V.ref A.hW,V.ref A.hX,V.ref A.dB])) hp1
   have e2:=a2 _ _ e1
   generalize upd G p1 (HO.tup [V.ref A.hV,V.ref A.gv,V.ref A.hW,V.ref A.hX,V.ref A.dB])=G2 at*
   rw[e2]
   dsimp only
   refine⟨T.gd,?_⟩
   simp only[lq,↓reduceIte,Bool.not_false,qj,true_and,T.eF,T.d3,T.eG,T.eI,T.dn,T.dJ,T.dy,uq,my,e2,ki]
   exact(wL ha (a1.trans a2) λH' s'=>q _ (s1.trans s')).2
theorem fits_of:∀{ls:List Str} {d:Nat},um d ls≠none->∀t∈ls,fits t=true
 | [],_,_,t,ht=>nomatch ht
 |k::ls,d,h,t,ht=>by
  rw[ng]at h
  by_cases hk:fits k=true
  ·rcases List.mem_cons.mp ht with rfl|ht
   ·exact hk
   ·rw[if_pos hk]at h
    split at h
    ·split at h
     ·exact fits_of h t ht
     ·exact absurd rfl h
    ·split at h
     ·split at h
      ·exact fits_of h t ht
      ·exact absurd rfl h
     ·exact fits_of h t ht
  ·rw[if_neg hk]at h;exact absurd rfl h
noncomputable def ue (K:PySem.W.Frag):Sp:=λvs H Q _=>∃(a:Addr) (ns:List Int),vs=[.ref a]/\fb K H a (ns.map V.int)/\ns.length<=63/\∀H',Q (.bl true) H'
theorem mY:cX ["_law_script","_law_lines_here","_law_text","_law_found","_law_names_here","_law_again","_law_more"] ["_law_script"] (cH sY):=fsc
theorem CJ(T:Txt w K mg A):eg P w K mg base (kF P w) true 9 A.uE A.wG ["_law_script"] (ue K):=by
 refine T.yH.o_ mY (λvs H Q E h=> ?_) (λcdv A' outer s H vs Q E hr hx h=> ?_)
 ·obtain⟨_,_,rfl,_⟩:=h
  rfl
 ·obtain⟨a,ns,rfl,h⟩:=h
  obtain⟨q,ha,_⟩:=BQ h
  refine dF (B:=λt=>t _ _ _) (cc (cz (i:=1) mY.nd rfl lo (cx ((si T).mono (by decide)) hr rfl T.jZ T.lj.kp T.oB hx (cb (cj 0) b_)))
   (cc (cK (cA (fq (ox hr)) (cm cP (cx ((fH T).mono (by decide)) hr rfl T.eQ T.d8.kp T.fN hx (cb (cj 0) (cb cf b_))) cf) cf (cM _)) (ck (cz (i:=1) mY.nd rfl lo (cx ((rN T).mono (by decide)) hr rfl T.jE T.kq.kp T.nM hx (cb (cj 1) (cb (cm cP (cm oW (cm cY (cm c7 (cx ((fH T).mono (by decide)) hr rfl T.eQ T.d8.kp T.fN hx (cb (cj 0) (cb cf b_))) cf) cf) cf) cf) b_))))) cD)
   (cc (cz (i:=2) mY.nd rfl lo (ij PySem.F.slot_str_join PySem.F.type_str_join mQ cw (cb (cj 1) b_)))
   (cc (cK (dw (c9 (cx ((ip T).mono (by decide)) hr rfl T.eX T.fe.kp T.gD hx (cb (kj (cb iX (cb cf (cb (cE (cb cw b_)) (cb (xD (vK cw cw xE)) (cb e_ (cb (kx (cb cw b_)) b_)))))) (cm cP (cx ((fH T).mono (by decide)) hr rfl T.eQ T.d8.kp T.fN hx (cb (cj 0) (cb cf b_))) cf) (λ_ _=>rfl)) b_)) (λ_=>rfl))) (ck (cF e_)) cD)
   (cc (cK (dw (c9 (cx ((ip T).mono (by decide)) hr rfl T.eX T.fe.kp T.gD hx (cb (cm cY (cj 2) cw) b_)) (λ_=>rfl))) (ck (cF e_)) cD)
   (cc (cK (fo (ky (cA (gY (ox hr)) (cj 2) cw (cM _)) (ju (dw (c9 (cx ((t6 T).mono (by decide)) hr rfl T.kO T.lQ.kp T.qe hx (cb (cj 1) b_)) (λ_=>rfl)))))) (ck (cF (iW (cx ((ip T).mono (by decide)) hr rfl T.eX T.fe.kp T.gD hx (cb (cj 2) b_)) (gK (cx ((ip T).mono (by decide)) hr rfl T.eX T.fe.kp T.gD hx (cb (cj 2) b_)))))) cD)
   (cc (cK (cA (fq (ox hr)) (cj 2) cw (cM _)) (ck (cF (iW (de (fq (ox hr)) (cx ((ia T).mono (by decide)) hr rfl T.fm T.fF.kp T.gP hx (cb (cj 2) b_)) (cE b_) (cM _)) (gK (de (fq (ox hr)) (cx ((jL T).mono (by decide)) hr rfl T.gJ T.gI.kp T.jg hx (cb (cE b_) b_)) (cE b_) (cM _)))))) cD)
   (cc (cz (i:=3) mY.nd rfl lo (cx ((ia T).mono (by decide)) hr rfl T.fm T.fF.kp T.gP hx (cb (cj 2) b_)))
   (cc (cK (cA (gY (ox hr)) (cx ((gp T 3).mono (by decide)) hr rfl T.dY T.d9.kp T.fO hx (cb (cj 3) b_)) (cj 1) (cM _)) (ck (cF e_)) cD)
   (cc (cz (i:=4) mY.nd rfl lo (cx ((jL T).mono (by decide)) hr rfl T.gJ T.gI.kp T.jg hx (cb (cj 3) b_)))
   (cc (cK (fo (ik (dw (c9 (cG gc (by rfl) T.c8 PyProof.Rows.Boot.«isinstance» (cb (cj 4) (cb (j5 T.og PyProof.Rows.Boot.«list») b_))) (λ_=>rfl))) (hZ (cA (gY (ox hr)) (cj 4) (cx ((h_ T).mono (by decide)) hr rfl T.fk T.fE.kp T.gO hx (cb (cj 1) b_)) (cM _))))) (ck (cF e_)) cD)
   (cc (cz (i:=5) mY.nd rfl lo (cx ((ia T).mono (by decide)) hr rfl T.fm T.fF.kp T.gP hx (cb (cj 2) b_)))
   (cc (cz (i:=6) mY.nd rfl lo (cx ((jL T).mono (by decide)) hr rfl T.gJ T.gI.kp T.jg hx (cb (cj 5) b_)))
   (cc (cK (fo (ik (cA (gY (ox hr)) (cx ((gp T 3).mono (by decide)) hr rfl T.dY T.d9.kp T.fO hx (cb (cj 3) b_)) (cj 1) (cM _)) (hZ (cA (gY (ox hr)) (cj 4) (cx ((h_ T).mono (by decide)) hr rfl T.fk T.fE.kp T.gO hx (cb (cj 1) b_)) (cM _))))) (ck (cF e_)) cD)
   (cc (fS (tS PySem.F.slot_list_clear PySem.F.type_list_clear xA (cj 3)))
   (cc (fS (n9 bN bO kr (cj 4) (cb cw b_)))
   (cc (cK (fo (ik (cA (gY (ox hr)) (cx ((gp T 3).mono (by decide)) hr rfl T.dY T.d9.kp T.fO hx (cb (cj 5) b_)) (cj 1) (cM _)) (hZ (cA (gY (ox hr)) (cj 6) (cx ((h_ T).mono (by decide)) hr rfl T.fk T.fE.kp T.gO hx (cb (cj 1) b_)) (cM _))))) (ck (cF e_)) cD)
   (ck (cF (iW (de (fq (ox hr)) (cx ((gp T 3).mono (by decide)) hr rfl T.dY T.d9.kp T.fO hx (cb (cx ((ia T).mono (by decide)) hr rfl T.fm T.fF.kp T.gP hx (cb (cj 2) b_)) b_)) (cj 1) (cM _)) (gK (de (fq (ox hr)) (cx ((jL T).mono (by decide)) hr rfl T.gJ T.gI.kp T.jg hx (cb (cj 5) b_)) (cx ((h_ T).mono (by decide)) hr rfl T.fk T.fE.kp T.gO hx (cb (cj 1) b_)) (cM _))))))))))))))))))))))) ?_
  show gh _ _ _ [some (V.ref a),none,none,none,none,none,none] H
  refine cu (λσ' H'=>cq H H'/\∃l,∃ts:List Str,H' l=some (.lst (ts.map V.str))/\ts.length<=100/\(∀t∈ts,tx 300 t)/\σ'=[some (V.ref a),some (V.ref l),none,none,none,none,none]) (λR hR=> ?_) ?_
  ·simp only[cB,cL,cI,c5,cJ,cN,aa,aj,ai,V.int.injEq,V.bl.injEq,V.str.injEq,V.ref.injEq,V.ty.injEq,aq,ar,and_true,exists_eq_left',exists_and_left,nR]
   exact⟨_,ha,λl H' ts s' _ hl hts ht=>hR _ _ ⟨s',l,ts,hl,hts,ht,rfl⟩⟩
  rintro _ H1 ⟨s1,l1,ts1,hl1,hts1,ht1,rfl⟩
  have ha1:=s1.seq ha
  refine cu (λσ' H'=>cq H1 H'/\∃l,∃ts:List Str,H' l=some (.lst (ts.map V.str))/\ts.length<=110/\(∀t∈ts,tx 350 t)/\σ'=[some (V.ref a),some (V.ref l),none,none,none,none,none]) (λR hR=> ?_) ?_
  ·simp only[cW,dA,cV,dD,cB,cL,tC,cI,c5,cJ,cN,jP,vv,g_,gj,eqv,and_assoc,la,ur,or_true,Int.reduceLT,Nat.reduceLT,Int.reduceLE,Int.reduceNeg,Int.reducePow,mz,aa,ae,aj,ai,V.int.injEq,V.bl.injEq,V.str.injEq,V.ref.injEq,V.ty.injEq,aq,ar,and_true,true_and,exists_eq_left',exists_and_left,decide_eq_true_eq,↓cS,fI,m6]
   refine⟨_,ha1,?_⟩
   by_cases y:cat ns 3%2=1
   ·rw[if_pos y]
    exact⟨_,ha1,ts1,hl1,hts1,ht1,λl H' ts s' _ hl hts ht=>hR _ _ ⟨s',l,ts,hl,hts,ht,rfl⟩⟩
   ·rw[if_neg y]
    exact hR _ _ ⟨cq.refl _,l1,ts1,hl1,by omega,λt h=>(ht1 t h).mono (by decide),rfl⟩
  rintro _ H2 ⟨s2,l,ts,hl,hts,ht,rfl⟩
  have ha2:=s2.seq ha1
  obtain⟨zl,zn,zl1,zt1,zg1⟩:=Cw hts ht
  have hsum:(ts.map (·.length)).sum+ts.length<=40000:=by
   have h2:=oq λp hp=>(ht p hp).1
   have h3:=Nat.mul_le_mul_right 350 hts
   omega
  have hj:=o4 (s:=10) hsum
  generalize ez:nu 10 ts=z at*
  refine cu (λσ' H'=>H2=H'/\σ'=[some (V.ref a),some (V.ref l),some (V.str z),none,none,none,none]) (λR hR=> ?_) ?_
  ·simp only[cB,cL,tC,cI,c5,cJ,aa,ae,aj,ai,qf,oF,hl,zb]
   refine⟨ts,rfl,hj.1,?_⟩
   rw[hj.2]
   exact hR _ _ ⟨rfl,rfl⟩
  rintro _ _ ⟨rfl,rfl⟩
  refine cu (λσ' H'=>cq H2 H'/\σ'=[some (V.ref a),some (V.ref l),some (V.str z),none,none,none,none]) (λR hR=> ?_) ?_
  ·simp only[dj,cW,dA,dD,jy,cB,cL,tC,cI,eY,sy,cN,gj,ub,jd,and_assoc,Int.reduceLT,Nat.reduceLT,Int.reduceLE,Int.reduceAdd,↓reduceIte,aG,cg,bB,ag,ak,aa,V.int.injEq,V.bl.injEq,V.str.injEq,V.ref.injEq,V.ty.injEq,aq,ar,and_true,true_and,exists_eq_left',exists_and_left,exists_eq_left,Nat.reduceAdd,ou,F8,zM,ug,fI,iu]
   intro p hp p1 hp1
   refine⟨[(.inr (Str.ofString "tell"),V.str (Str.ofString "a"))],rfl,by simp,λp2 hp2 p3 hp3=> ?_⟩
   have a0:=cq.upd (o:= .lst [V.str (Str.ofString "tell a")]) hp
   rw[Be]at hp2 hp3⊢
   have a1:=cq.upd (o:= .dK (pH [] [(.inr (Str.ofString "tell"),V.str (Str.ofString "a"))])) hp1
   have a2:=cq.upd (o:= .tup [V.str (Str.ofString "tell a")]) hp2
   have a3:=cq.upd (o:= .lst [V.gm,V.int 5,V.ref p,V.ref p1,V.bl true,V.ref p2]) hp3
   have sA:=a0.trans (a1.trans a2)
   refine⟨_,(sA.trans a3).seq ha2,?_⟩
   rw[pM hp3]
   obtain⟨v,ev,hv⟩:=kn (xs:=[V.gm,V.int 5,V.ref p,V.ref p1,V.bl true,V.ref p2]) (i:=cat ns 3%6) (by omega) (by show _<(6:Int);omega)
   rw[ev]
   dsimp only
   refine⟨.inl ?_,λH' s'=>hR _ _ ⟨sA.trans s',rfl⟩⟩
   simp only[List.mem_cons,List.not_mem_nil,or_false]at hv
   rcases hv with rfl|rfl|rfl|rfl|rfl|rfl
   ·trivial
   ·trivial
   ·exact .inl ⟨_,(a1.trans a2) _ _ cg⟩
   ·exact .inr (.inr ⟨_,a2 _ _ cg⟩)
   ·trivial
   ·exact .inr (.inl ⟨_,cg⟩)
  rintro _ H3 ⟨s3,rfl⟩
  have hl3:=s3 _ _ hl
  refine cu (λσ' H'=>cq H3 H'/\σ'=[some (V.ref a),some (V.ref l),some (V.str z),none,none,none,none]) (λR hR=> ?_) ?_
  ·simp only[dj,cW,dA,dD,jy,cB,cL,tC,cI,cN,jP,jd,↓reduceIte,aG,bB,aa,ae,V.int.injEq,V.bl.injEq,V.str.injEq,V.ref.injEq,V.ty.injEq,aq,ar,and_true,exists_eq_left',exists_eq_left,iu,zb]
   have l10:(⟨#[10]⟩:Str).length=1:=rfl
   exact⟨cR (by omega),.inr ⟨by rw[str_len];omega,zl1,zt1,zg1⟩,λH' s'=>hR _ _ ⟨s',rfl⟩⟩
  rintro _ H4 ⟨s4,rfl⟩
  have hl4:=s4 _ _ hl3
  refine cu (λσ' H'=>cq H4 H'/\(z≠Str.ofString ""->good ts=true)/\σ'=[some (V.ref a),some (V.ref l),some (V.str z),none,none,none,none]) (λR hR=> ?_) ?_
  ·simp only[dj,cW,dA,cV,dD,sv,jy,m_,cB,cL,tC,cI,cN,eqv,jd,↓reduceIte,aG,oK,decide_eq_false_iff_not,aa,ae,V.int.injEq,V.bl.injEq,V.str.injEq,V.ref.injEq,V.ty.injEq,aq,ar,and_true,exists_eq_left',exists_and_left,exists_eq_left,aN,↓cS,pv,iu]
   by_cases y:z=Str.ofString ""
   ·rw[if_neg (λn=>n y)]
    exact hR _ _ ⟨cq.refl _,λn=>absurd y n,rfl⟩
   ·rw[if_pos y]
    refine⟨ts,hl4,by omega,λt h=>(ht t h).mono (by decide),λH' s'=> ?_⟩
    cases hgd:good ts with
    |true=>rw[if_neg (λn=>by cases n)];exact hR _ _ ⟨s',λ_=>hgd,rfl⟩
    |false=>
     rw[if_pos rfl]
     rw[zn y]
     exact⟨.inr ⟨by omega,by omega,λt h=>(ht t h).mono (by decide),hgd⟩,λH'' s''=>⟨.inr ⟨by omega,by omega,λt h=>(ht t h).mono (by decide),hgd⟩,λH3' s3'=>q _⟩⟩
  rintro _ H5 ⟨s5,hg,rfl⟩
  have hl5:=s5 _ _ hl4
  refine cu (λσ' H'=>H5=H'/\z≠Str.ofString ""/\σ'=[some (V.ref a),some (V.ref l),some (V.str z),none,none,none,none]) (λR hR=> ?_) ?_
  ·simp only[dj,cW,dA,cV,dD,m_,cB,cL,tC,cI,eY,cN,eqv,↓reduceIte,cg,mz,ux,ak,aa,ae,V.int.injEq,V.bl.injEq,V.str.injEq,V.ref.injEq,V.ty.injEq,aq,ar,and_true,true_and,exists_eq_left',aN,decide_eq_true_eq,v9,↓cS,gz]
   by_cases y:z=Str.ofString ""
   ·rw[if_pos y]
    have el:sW z=[]:=by unfold sW;rw[if_pos y]
    rw[el]
    refine .inr ⟨by omega,by simp,λu h=>absurd h (by simp),(λn=>by rw[yL]at n;cases n),λ_ m ys H6 s6 _ hm hy hB p hp=> ?_⟩
    have eys:ys=[]:=by cases hB;rfl
    subst eys
    have a0:=cq.upd (o:= .lst []) hp
    rw[a0 _ _ hm]
    dsimp only
    show∀p_1:Addr,_
    intro p1 hp1
    refine⟨p1,[],[],λ_=>True,rfl,cg,by simp,.nil,by simp,λm7 H7 s7 hm70 hm7 p8 hp8=> ?_⟩
    have a8:=cq.upd (o:= .lst []) hp8
    dsimp only
    rw[a8 _ _ hm7,cg]
    exact q _
   ·rw[if_neg y]
    exact hR _ _ ⟨rfl,y,rfl⟩
  rintro _ _ ⟨rfl,z0,rfl⟩
  have hg:=hg z0
  have ezl:=zn z0
  have fl:∀(G:Hp) (xs:List Str),tE (List.zipWith (sh G 2) (xs.map V.str) (xs.map V.str))=some true:=λG xs=>uB λv hv=>by obtain⟨_,_,rfl⟩:=List.mem_map.mp hv;rfl
  have hfit:∀t∈ts,fits t=true:=fits_of (d:=0) (by
   have:=hg
   unfold good at this
   rw[aw,decide_eq_true_eq]at this
   rw[this.1];exact λn=>nomatch n)
  have htx:∀t∈ts,tx 700 t:=λt h=>(ht t h).mono (by decide)
  have nB:∀{G H':Hp} {P:Addr->Prop} {d:Nat} {ys:List V},cq G H'->mw G P d ys ts->mw H' P d ys ts:=λs h=>h.frame (λa us pa e=>⟨pa,s _ _ e⟩) (λa us e=>s _ _ e)
  refine cu (λσ' H'=>cq H5 H'/\∃f ys,H5 f=none/\H' f=some (.lst ys)/\mw H' (λa=>H5 a=none/\a≠f) 3 ys ts/\σ'=[some (V.ref a),some (V.ref l),some (V.str z),some (V.ref f),none,none,none]) (λR hR=> ?_) ?_
  ·simp only[cB,cL,cI,c5,cJ,cN,aa,ae,aj,ai,V.int.injEq,V.bl.injEq,V.str.injEq,V.ref.injEq,V.ty.injEq,aq,ar,and_true,exists_eq_left',gz]
   rw[ezl]
   exact .inr ⟨by omega,by omega,htx,(λn=>by rw[hg]at n;cases n),λ_ m ys H6 s6 hm0 hm _ hB=>hR _ _ ⟨s6,m,ys,hm0,hm,hB,rfl⟩⟩
  rintro _ H6 ⟨s6,f,ys,hf0,hf6,hB6,rfl⟩
  have hl6:=s6 _ _ hl5
  refine cu (λσ' H'=>cq H6 H'/\σ'=[some (V.ref a),some (V.ref l),some (V.str z),some (V.ref f),none,none,none]) (λR hR=> ?_) ?_
  ·simp only[dj,cW,dA,cV,dD,cB,cL,tC,cI,cN,eqv,↓reduceIte,aG,oK,q8,aa,ae,V.int.injEq,V.bl.injEq,V.str.injEq,V.ref.injEq,V.ty.injEq,aq,ar,and_true,exists_eq_left',exists_and_left,↓cS,d_]
   refine⟨ys,hf6,ts,by omega,htx,_,hB6,λm H7 s7 hm0 hm=> ?_⟩
   rw[hm,s7 _ _ hl6]
   dsimp only
   rw[if_pos rfl,fl]
   exact hR _ _ ⟨s7,rfl⟩
  rintro _ H7 ⟨s7,rfl⟩
  have hl7:=s7 _ _ hl6
  have hf7:=s7 _ _ hf6
  have hB7:=nB s7 hB6
  refine cu (λσ' H'=>cq H7 H'/\∃n,H7 n=none/\H' n=some (.lst ((gk [] ts).map V.str))/\σ'=[some (V.ref a),some (V.ref l),some (V.str z),some (V.ref f),some (V.ref n),none,none]) (λR hR=> ?_) ?_
  ·simp only[cB,cL,cI,c5,cJ,cN,aa,ae,aj,ai,V.int.injEq,V.bl.injEq,V.str.injEq,V.ref.injEq,V.ty.injEq,aq,ar,and_true,exists_eq_left',exists_and_left,jN]
   exact⟨ys,hf7,ts,by omega,_,hB7,by omega,λm H8 s8 hm0 hm=>hR _ _ ⟨s8,m,hm0,hm,rfl⟩⟩
  rintro _ H8 ⟨s8,n,hn0,hn8,rfl⟩
  have hl8:=s8 _ _ hl7
  refine cu (λσ' H'=>cq H8 H'/\σ'=[some (V.ref a),some (V.ref l),some (V.str z),some (V.ref f),some (V.ref n),none,none]) (λR hR=> ?_) ?_
  ·simp only[dj,cW,dA,cV,dD,ya,jy,ja,cB,cL,tC,cI,cN,eqv,l7,lq,dR,jd,↓reduceIte,aG,bB,oK,q8,aa,ae,V.int.injEq,V.bl.injEq,V.str.injEq,V.ref.injEq,V.ty.injEq,aq,ar,and_true,true_and,exists_eq_left',exists_and_left,exists_eq_left,↓cS,uq,my,hn8,T.iZ,gy]
   refine⟨ts,hl8,by omega,λt h=>⟨htx t h,hfit t h⟩,λm H9 s9 hm0 hm=> ?_⟩
   rw[s9 _ _ hn8,hm]
   dsimp only
   rw[if_pos rfl,fl]
   exact hR _ _ ⟨s9,rfl⟩
  rintro _ H9 ⟨s9,rfl⟩
  have s89:=s8.trans s9
  have hl9:=s9 _ _ hl8
  have hf9:=s89 _ _ hf7
  have hB9:=nB s89 hB7
  have hn9:=s9 _ _ hn8
  refine cu (λσ' H'=>cq H9 H'/\∃g zs,H9 g=none/\H' g=some (.lst zs)/\mw H' (λa=>H9 a=none/\a≠g) 3 zs ts/\σ'=[some (V.ref a),some (V.ref l),some (V.str z),some (V.ref f),some (V.ref n),some (V.ref g),none]) (λR hR=> ?_) ?_
  ·simp only[cB,cL,cI,c5,cJ,cN,aa,ae,aj,ai,V.int.injEq,V.bl.injEq,V.str.injEq,V.ref.injEq,V.ty.injEq,aq,ar,and_true,exists_eq_left',gz]
   rw[ezl]
   exact .inr ⟨by omega,by omega,htx,(λn=>by rw[hg]at n;cases n),λ_ m ys H6 s6 hm0 hm _ hB=>hR _ _ ⟨s6,m,ys,hm0,hm,hB,rfl⟩⟩
  rintro _ H10 ⟨s10,g,zs,hg0,hg10,hB10,rfl⟩
  refine cu (λσ' H'=>cq H10 H'/\∃o,H10 o=none/\H' o=some (.lst ((gk [] ts).map V.str))/\σ'=[some (V.ref a),some (V.ref l),some (V.str z),some (V.ref f),some (V.ref n),some (V.ref g),some (V.ref o)]) (λR hR=> ?_) ?_
  ·simp only[cB,cL,cI,c5,cJ,cN,aa,ae,aj,ai,V.int.injEq,V.bl.injEq,V.str.injEq,V.ref.injEq,V.ty.injEq,aq,ar,and_true,exists_eq_left',exists_and_left,jN]
   exact⟨zs,hg10,ts,by omega,_,hB10,by omega,λm H8 s8 hm0 hm=>hR _ _ ⟨s8,m,hm0,hm,rfl⟩⟩
  rintro _ H11 ⟨s11,o,ho0,ho11,rfl⟩
  have t11:=s10.trans s11
  have hl11:=t11 _ _ hl9
  have hf11:=t11 _ _ hf9
  have hn11:=t11 _ _ hn9
  have hB11:=nB t11 hB9
  refine cu (λσ' H'=>cq H11 H'/\σ'=[some (V.ref a),some (V.ref l),some (V.str z),some (V.ref f),some (V.ref n),some (V.ref g),some (V.ref o)]) (λR hR=> ?_) ?_
  ·simp only[dj,cW,dA,cV,dD,ya,cB,cL,tC,cI,cN,eqv,↓reduceIte,aG,oK,q8,aa,ae,V.int.injEq,V.bl.injEq,V.str.injEq,V.ref.injEq,V.ty.injEq,aq,ar,and_true,exists_eq_left',exists_and_left,↓cS,d_,gy]
   refine⟨ys,hf11,ts,by omega,htx,_,hB11,λm H7 s7 hm0 hm=> ?_⟩
   rw[hm,s7 _ _ hl11]
   dsimp only
   rw[if_pos rfl,fl]
   dsimp only
   rw[if_neg (λn=>by cases n)]
   refine⟨ts,rfl,by omega,λt h=>⟨htx t h,hfit t h⟩,λm2 H9 s9 hm20 hm2=> ?_⟩
   rw[s9 _ _ (s7 _ _ hn11),hm2]
   dsimp only
   rw[if_pos rfl,fl]
   exact hR _ _ ⟨s7.trans s9,rfl⟩
  rintro _ H12 ⟨s12,rfl⟩
  have hl12:=s12 _ _ hl11
  have hf12:=s12 _ _ hf11
  have hn12:=s12 _ _ hn11
  have hg12:=(s11.trans s12) _ _ hg10
  have ho12:=s12 _ _ ho11
  have hB12:=nB (s11.trans s12) hB10
  have ne_f:∀{b:Addr} {xs:List V},H9 b=none->b≠f:=λ{b xs} hb y=>by rw[y,hf9]at hb;cases hb
  have lf:l≠f:=λy=>by rw[y,hf0]at hl5;cases hl5
  have gf:g≠f:=λy=>by rw[y,hf9]at hg0;cases hg0
  have of:o≠f:=λy=>by rw[y,s10 _ _ hf9]at ho0;cases ho0
  have nf:n≠f:=λy=>by rw[y,hf7]at hn0;cases hn0
  have ln:l≠n:=λy=>by rw[y,hn0]at hl7;cases hl7
  have gn:g≠n:=λy=>by rw[y,hn9]at hg0;cases hg0
  have on:o≠n:=λy=>by rw[y,s10 _ _ hn9]at ho0;cases ho0
  refine cu (λσ' H'=>upd H12 f (.lst [])=H'/\σ'=[some (V.ref a),some (V.ref l),some (V.str z),some (V.ref f),some (V.ref n),some (V.ref g),some (V.ref o)]) (λR hR=> ?_) ?_
  ·simp only[lF,cL,cI,vo,aa,ae,tG,hf12]
   exact hR _ _ ⟨rfl,rfl⟩
  rintro _ _ ⟨rfl,rfl⟩
  have hn13:upd H12 f (.lst []) n=_:=(cO nf).trans hn12
  refine cu (λσ' H'=>upd (upd H12 f (.lst [])) n (.lst ((gk [] ts).map V.str++[V.str (Str.ofString "x")]))=H'/\σ'=[some (V.ref a),some (V.ref l),some (V.str z),some (V.ref f),some (V.ref n),some (V.ref g),some (V.ref o)]) (λR hR=> ?_) ?_
  ·simp only[lF,cB,cL,tC,cI,kK,vo,aa,ae,hn13]
   refine⟨bq (show _<=1000 from ?_) (by decide),hR _ _ ⟨rfl,rfl⟩⟩
   have:=o7 (acc:=[]) hfit
   rw[ah]
   rw[ak]at this;omega
  rintro _ _ ⟨rfl,rfl⟩
  have up:∀{b:Addr} {u:HO},b≠f->b≠n->H12 b=some u->upd (upd H12 f (.lst [])) n (.lst ((gk [] ts).map V.str++[V.str (Str.ofString "x")])) b=some u:=λh1 h2 e=>(cO h2).trans ((cO h1).trans e)
  have hl14:=up lf ln hl12
  have hg14:=up gf gn hg12
  have ho14:=up of on ho12
  have hB14:mw (upd (upd H12 f (.lst [])) n (.lst ((gk [] ts).map V.str++[V.str (Str.ofString "x")]))) (λa=>H9 a=none/\a≠g) 3 zs ts:=hB12.frame (λb us pb e=>⟨pb,up (λy=>by rw[y,hf9]at pb;cases pb.1) (λy=>by rw[y,hn9]at pb;cases pb.1) e⟩) (λb us e=>up (λy=>by rw[y,hf12]at e;cases e) (λy=>by rw[y,hn12]at e;cases e) e)
  generalize upd (upd H12 f (.lst [])) n (.lst ((gk [] ts).map V.str++[V.str (Str.ofString "x")]))=H14 at*
  refine cu (λσ' H'=>cq H14 H'/\σ'=[some (V.ref a),some (V.ref l),some (V.str z),some (V.ref f),some (V.ref n),some (V.ref g),some (V.ref o)]) (λR hR=> ?_) ?_
  ·simp only[dj,cW,dA,cV,dD,ya,cB,cL,tC,cI,cN,eqv,↓reduceIte,aG,oK,q8,aa,ae,V.int.injEq,V.bl.injEq,V.str.injEq,V.ref.injEq,V.ty.injEq,aq,ar,and_true,exists_eq_left',exists_and_left,↓cS,d_,gy]
   refine⟨zs,hg14,ts,by omega,htx,_,hB14,λm H7 s7 hm0 hm=> ?_⟩
   rw[hm,s7 _ _ hl14]
   dsimp only
   rw[if_pos rfl,fl]
   dsimp only
   rw[if_neg (λn=>by cases n)]
   refine⟨ts,rfl,by omega,λt h=>⟨htx t h,hfit t h⟩,λm2 H9 s9 hm20 hm2=> ?_⟩
   rw[s9 _ _ (s7 _ _ ho14),hm2]
   dsimp only
   rw[if_pos rfl,fl]
   exact hR _ _ ⟨s7.trans s9,rfl⟩
  rintro _ H15 ⟨s15,rfl⟩
  have hl15:=s15 _ _ hl14
  have hg15:=s15 _ _ hg14
  have hB15:=nB s15 hB14
  simp only[dj,dD,m_,cB,cL,cI,cN,eqv,↓reduceIte,mz,ux,aa,ae,V.int.injEq,V.bl.injEq,V.str.injEq,V.ref.injEq,V.ty.injEq,aq,ar,and_true,exists_eq_left',exists_and_left,aN,↓cS,gz,d_,jN,gy]
  rw[ezl]
  refine .inr ⟨by omega,by omega,htx,(λn=>by rw[hg]at n;cases n),λ_ m ys H16 s16 hm0 hm _ hB=>⟨ys,hm,ts,by omega,htx,_,hB,λm2 H17 s17 hm20 hm2=> ?_⟩⟩
  have hl17:=(s16.trans s17) _ _ hl15
  rw[hm2,hl17]
  dsimp only
  rw[if_pos rfl,fl]
  dsimp only
  rw[if_pos rfl]
  refine⟨zs,(s16.trans s17) _ _ hg15,ts,by omega,_,nB (s16.trans s17) hB15,by omega,λm3 H18 s18 hm30 hm3=>⟨ts,s18 _ _ hl17,by omega,λt h=>⟨htx t h,hfit t h⟩,λm4 H19 s19 hm40 hm4=> ?_⟩⟩
  rw[s19 _ _ hm3,hm4]
  dsimp only
  rw[if_pos rfl,fl]
  exact q _
structure nI(K:PySem.W.Frag)(f:Addr)(x q:Str)(st:Stmt)(d:FuncData):Prop where
 ex:∃(oc:Value) (od:Option Addr) (kV dc pm:Value) (an:Option Addr) (cd ct:Value) (sl:Array (Option Value)),K.lookup f=some ⟨oc,od,.func (PySem.W.fnOf x q (lO st) (jX st) (cH st) .none kV dc pm an cd ct),sl⟩/\PySem.W.codeIn K cd q=true/\PySem.W.keepIn K (.ref f)=true/\d=PySem.W.fnOf x q (lO st) (jX st) (cH st) .none kV dc pm an cd ct
theorem nI.fn{K:PySem.W.Frag}{f:Addr}{x q:Str}{st:Stmt}{d:FuncData}(h:nI K f x q st d):mx K x q st f d:=by
 obtain⟨oc,od,kV,dc,pm,an,cd,ct,sl,l,e,k,rfl⟩:=h.ex
 exact Cf (st:=st) l e k
theorem nI.kp{K:PySem.W.Frag}{f:Addr}{x q:Str}{st:Stmt}{d:FuncData}(h:nI K f x q st d):PySem.W.keepIn K (.ref f)=true:=by
 obtain⟨oc,od,kV,dc,pm,an,cd,ct,sl,l,e,k,rfl⟩:=h.ex
 exact k
theorem all_mk{l:PySem.W.OpenLaw}{w:World}{K:PySem.W.Frag}{h:Heap}{mg:Str->Option Value}{fa f6 iC iB jo iD jm fZ gG fB dH eU dS f9 d7 iA fD gE fY jq gH gF eW fX eJ dG iE f_ eV uE iJ eM gr fA gv hW hX hG hU dB hV hJ gu cy eZ:Addr}  {t_FIGURES:Tok}{t_MOST_FIGURES:Tok}{t_LETTERS:Tok}{t_MOST_LETTERS:Tok}{t_MOST_NAMES:Tok}{t_MOST_TIMES:Tok}{t_MOST_DEEP:Tok}{gT jj ji kf jk ke gS iM gw d6 fP eP gU fc jh gx iK gR kg iN iL fR gQ fi dX jl gW fQ wG:FuncData}
  (X:K.In h) (G:h.Ns mainGlobals mg) (hfa:mg "law"=some (.ref fa))
  (kM:PySem.W.nsIn K mainGlobals "KeepError"=some (some (.ref iJ)))
  (g_BadNumber:PySem.W.nsIn K mainGlobals "BadNumber"=some (some (.ref eM)))
  (g_BadWord:PySem.W.nsIn K mainGlobals "BadWord"=some (some (.ref gr)))
  (g_BadCount:PySem.W.nsIn K mainGlobals "BadCount"=some (some (.ref fA)))
  (g_NoPlace:PySem.W.nsIn K mainGlobals "NoPlace"=some (some (.ref gv)))
  (g_NoRoom:PySem.W.nsIn K mainGlobals "NoRoom"=some (some (.ref hW)))
  (g_NoSlot:PySem.W.nsIn K mainGlobals "NoSlot"=some (some (.ref hX)))
  (g_NoCell:PySem.W.nsIn K mainGlobals "NoCell"=some (some (.ref hG)))
  (g_NoHand:PySem.W.nsIn K mainGlobals "NoHand"=some (some (.ref hU)))
  (g_NothingHeld:PySem.W.nsIn K mainGlobals "NothingHeld"=some (some (.ref dB)))
  (g_NoName:PySem.W.nsIn K mainGlobals "NoName"=some (some (.ref hV)))
  (g_NoDeed:PySem.W.nsIn K mainGlobals "NoDeed"=some (some (.ref hJ)))
  (g_NoImage:PySem.W.nsIn K mainGlobals "NoImage"=some (some (.ref gu)))
  (dv:PySem.W.nsIn K mainGlobals "NoProgram"=some (some (.ref cy)))
  (j0:PySem.W.nsIn K mainGlobals "is_written"=some (some (.ref f6)))
  (lT:PySem.W.nsIn K mainGlobals "lines_of"=some (some (.ref iC)))
  (jt:PySem.W.nsIn K mainGlobals "is_block"=some (some (.ref iB)))
  (nk:PySem.W.nsIn K mainGlobals "is_name"=some (some (.ref jo)))
  (lU:PySem.W.nsIn K mainGlobals "names_in"=some (some (.ref iD)))
  (eQ:PySem.W.nsIn K mainGlobals "_law_at"=some (some (.ref jm)))
  (iS:PySem.W.nsIn K mainGlobals "_law_whole"=some (some (.ref fZ)))
  (fW:PySem.W.nsIn K mainGlobals "_law_name"=some (some (.ref gG)))
  (jD:PySem.W.nsIn K mainGlobals "_law_number"=some (some (.ref fB)))
  (gB:PySem.W.nsIn K mainGlobals "_law_wrong_word"=some (some (.ref dH)))
  (iR:PySem.W.nsIn K mainGlobals "_law_is_name"=some (some (.ref eU)))
  (eR:PySem.W.nsIn K mainGlobals "_law_is_number"=some (some (.ref dS)))
  (j3:PySem.W.nsIn K mainGlobals "numbers_of"=some (some (.ref f9)))
  (ig:PySem.W.nsIn K mainGlobals "add_statement"=some (some (.ref d7)))
  (lS:PySem.W.nsIn K mainGlobals "_law_row"=some (some (.ref iA)))
  (jE:PySem.W.nsIn K mainGlobals "_law_spoilt"=some (some (.ref fD)))
  (kN:PySem.W.nsIn K mainGlobals "_law_fits"=some (some (.ref gE)))
  (fk:PySem.W.nsIn K mainGlobals "_law_names"=some (some (.ref fY)))
  (nq:PySem.W.nsIn K mainGlobals "part_of"=some (some (.ref jq)))
  (jJ:PySem.W.nsIn K mainGlobals "_law_some"=some (some (.ref gH)))
  (kO:PySem.W.nsIn K mainGlobals "_law_good"=some (some (.ref gF)))
  (iU:PySem.W.nsIn K mainGlobals "statement_of"=some (some (.ref eW)))
  (jZ:PySem.W.nsIn K mainGlobals "_law_lines"=some (some (.ref fX)))
  (iT:PySem.W.nsIn K mainGlobals "note_names"=some (some (.ref eJ)))
  (dY:PySem.W.nsIn K mainGlobals "_law_written"=some (some (.ref dG)))
  (gJ:PySem.W.nsIn K mainGlobals "names_of"=some (some (.ref iE)))
  (fm:PySem.W.nsIn K mainGlobals "program_of"=some (some (.ref f_)))
  (eX:PySem.W.nsIn K mainGlobals "_law_refused"=some (some (.ref eV)))
  (g_law:PySem.W.nsIn K mainGlobals "law"=some (some (.ref uE)))
  (nG:PySem.W.nsIn K mainGlobals "FIGURES"=some (some (.str "0123456789" t_FIGURES)))
  (jb:PySem.W.nsIn K mainGlobals "MOST_FIGURES"=some (some (.int (60) t_MOST_FIGURES)))
  (d5:PySem.W.nsIn K mainGlobals "PARTS_BEHIND"=some (some (.ref eZ)))
  (nH:PySem.W.nsIn K mainGlobals "LETTERS"=some (some (.str "abcdefghijklmnopqrstuvwxyz" t_LETTERS)))
  (jc:PySem.W.nsIn K mainGlobals "MOST_LETTERS"=some (some (.int (8) t_MOST_LETTERS)))
  (kc:PySem.W.nsIn K mainGlobals "MOST_NAMES"=some (some (.int (42) t_MOST_NAMES)))
  (kd:PySem.W.nsIn K mainGlobals "MOST_TIMES"=some (some (.int (9) t_MOST_TIMES)))
  (k_:PySem.W.nsIn K mainGlobals "MOST_DEEP"=some (some (.int (3) t_MOST_DEEP)))
  (kiga_NoProgram:PySem.W.findIn K (.ref cy) "__getattribute__"=some (some (.builtin "BaseException.__getattribute__")))
  (kigt_NoProgram:PySem.W.findIn K (.ref cy) "__getattr__"=some none)
  (kicl_NoProgram:PySem.W.findIn K (.ref cy) "__class__"=some (some (.builtin "object.__class__")))
  (kimb_NoProgram:PySem.W.mroIn K cy (.type "BaseException")=some true)
  (kimo_NoProgram:PySem.W.mroIn K cy (.type "object")=some true)
  (kihn:PySem.W.specialIn K (.builtin "object.__class__") "__get__"=some (some (.builtin "getset_descriptor.__get__")))
  (kitk:PySem.W.takesIn K (.builtin "object.__class__")=some true)
  (j7:PySem.W.nsIn K mainGlobals "ValueError"=some none)
  (sX:PySem.W.nsIn K mainGlobals "all"=some none)
  (tW:PySem.W.nsIn K mainGlobals "bool"=some none)
  (qk:PySem.W.nsIn K mainGlobals "int"=some none)
  (c8:PySem.W.nsIn K mainGlobals "isinstance"=some none)
  (fT:PySem.W.nsIn K mainGlobals "len"=some none)
  (og:PySem.W.nsIn K mainGlobals "list"=some none)
  (kX:PySem.W.nsIn K mainGlobals "range"=some none)
  (lB:PySem.W.nsIn K mainGlobals "str"=some none)
  (o5:PySem.W.nsIn K mainGlobals "tuple"=some none)
  (uP:PySem.W.nsIn K mainGlobals "zip"=some none)
  (l_is_written:nI K f6 "is_written" "is_written" j9 gT)
  (l_lines_of:nI K iC "lines_of" "lines_of" om jj)
  (l_is_block:nI K iB "is_block" "is_block" oj ji)
  (l_is_name:nI K jo "is_name" "is_name" nD kf)
  (l_names_in:nI K iD "names_in" "names_in" ma jk)
  (l__law_at:nI K jm "_law_at" "_law_at" pN ke)
  (l__law_whole:nI K fZ "_law_whole" "_law_whole" l_ gS)
  (l__law_name:nI K gG "_law_name" "_law_name" kZ iM)
  (l__law_number:nI K fB "_law_number" "_law_number" lr gw)
  (l__law_wrong_word:nI K dH "_law_wrong_word" "_law_wrong_word" i8 d6)
  (l__law_is_name:nI K eU "_law_is_name" "_law_is_name" i7 fP)
  (l__law_is_number:nI K dS "_law_is_number" "_law_is_number" g0 eP)
  (l_numbers_of:nI K f9 "numbers_of" "numbers_of" i9 gU)
  (l_add_statement:nI K d7 "add_statement" "add_statement" jT fc)
  (l__law_row:nI K iA "_law_row" "_law_row" oi jh)
  (l__law_spoilt:nI K fD "_law_spoilt" "_law_spoilt" lu gx)
  (l__law_fits:nI K gE "_law_fits" "_law_fits" jM iK)
  (l__law_names:nI K fY "_law_names" "_law_names" l9 gR)
  (l_part_of:nI K jq "part_of" "part_of" pP kg)
  (l__law_some:nI K gH "_law_some" "_law_some" mW iN)
  (l__law_good:nI K gF "_law_good" "_law_good" mV iL)
  (l_statement_of:nI K eW "statement_of" "statement_of" i_ fR)
  (l__law_lines:nI K fX "_law_lines" "_law_lines" j8 gQ)
  (l_note_names:nI K eJ "note_names" "note_names" md fi)
  (l__law_written:nI K dG "_law_written" "_law_written" fU dX)
  (l_names_of:nI K iE "names_of" "names_of" oo jl)
  (l_program_of:nI K f_ "program_of" "program_of" me gW)
  (l__law_refused:nI K eV "_law_refused" "_law_refused" kB fQ)
  (l_law:nI K uE "law" "law" sY wG)
  (dP:PySem.W.excIn K cy Fg "ValueError.__new__"=true)
  (lk_PARTS_BEHIND:PyProof.Rows.KTD.tabLook (PyProof.Rows.KTD.datLooks λb=>K.lookup b) (λb=>K.lookup b) eZ [(Str.ofString "make",PyProof.Rows.KTD.Dat.tup [PyData.str (Str.ofString "name"),PyData.str (Str.ofString "number")]),(Str.ofString "keep",PyProof.Rows.KTD.Dat.tup [PyData.str (Str.ofString "name"),PyData.str (Str.ofString "number")]),(Str.ofString "copy",PyProof.Rows.KTD.Dat.tup [PyData.str (Str.ofString "name"),PyData.str (Str.ofString "name")]),(Str.ofString "drop",PyProof.Rows.KTD.Dat.tup [PyData.str (Str.ofString "name")]),(Str.ofString "get",PyProof.Rows.KTD.Dat.tup [PyData.str (Str.ofString "name"),PyData.str (Str.ofString "name"),PyData.str (Str.ofString "number")]),(Str.ofString "set",PyProof.Rows.KTD.Dat.tup [PyData.str (Str.ofString "name"),PyData.str (Str.ofString "number"),PyData.str (Str.ofString "name")]),(Str.ofString "tell",PyProof.Rows.KTD.Dat.tup [PyData.str (Str.ofString "name")]),(Str.ofString "again",PyProof.Rows.KTD.Dat.tup [PyData.str (Str.ofString "number")]),(Str.ofString "if",PyProof.Rows.KTD.Dat.tup [PyData.str (Str.ofString "name")]),(Str.ofString "end",PyProof.Rows.KTD.Dat.tup [])]=true)
  (dQ:PySem.W.kitOne K (.ref cy) (.ref fA)=some false)
  (dI:PySem.W.kitOne K (.ref cy) (.ref eM)=some false)
  (dZ:PySem.W.kitOne K (.ref cy) (.ref gr)=some false)
  (eA:PySem.W.kitOne K (.ref cy) (.ref hG)=some false)
  (eB:PySem.W.kitOne K (.ref cy) (.ref hJ)=some false)
  (eE:PySem.W.kitOne K (.ref cy) (.ref hU)=some false)
  (d2:PySem.W.kitOne K (.ref cy) (.ref gu)=some false)
  (eF:PySem.W.kitOne K (.ref cy) (.ref hV)=some false)
  (d3:PySem.W.kitOne K (.ref cy) (.ref gv)=some false)
  (eG:PySem.W.kitOne K (.ref cy) (.ref hW)=some false)
  (eI:PySem.W.kitOne K (.ref cy) (.ref hX)=some false)
  (dn:PySem.W.kitOne K (.ref cy) (.ref dB)=some false)
  (dJ:PySem.W.kitOne K (.ref cy) (.ref cy)=some true)
  (dy:PySem.W.kitOne K (.ref cy) (.type "ValueError")=some true)
  (il:PySem.W.kitOne K (.type "NoneType") (.type "str")=some false)
  (kS:PySem.W.kitOne K (.type "bool") (.type "str")=some false)
  (lY:PySem.W.kitOne K (.type "int") (.type "int")=some true)
  (kU:PySem.W.kitOne K (.type "int") (.type "bool")=some false)
  (kz:PySem.W.kitOne K (.type "int") (.type "str")=some false)
  (lZ:PySem.W.kitOne K (.type "str") (.type "int")=some false)
  (mR:PySem.W.kitOne K (.type "str") (.type "bool")=some false)
  (jv:PySem.W.kitOne K (.type "str") (.type "str")=some true)
  (iZ:PySem.W.kitOne K (.type "list") (.type "list")=some true)
  (kW:PySem.W.kitOne K (.type "list") (.type "str")=some false)
  (i0:PySem.W.kitOne K (.type "tuple") (.type "tuple")=some true)
  (j6:PySem.W.kitOne K (.type "tuple") (.type "str")=some false)
  (kT:PySem.W.kitOne K (.type "dict") (.type "str")=some false)
  (dE:PySem.W.exmOne K (.ref cy) (.ref iJ)=some true)
  :∃fd:FuncData,(∀(s:Shared) (v:Value),BindsTo s fd ⟨[v],[]⟩ [("_law_script",v)])/\∀base:Heap,K.In base->base.Ns mainGlobals mg->eg l.prog w K mg base (kF l.prog w) true 9 fa fd ["_law_script"] (ue K):=by
 have e:=hfa.symm.trans (au X G g_law)
 cases e
 obtain⟨oc,od,kV,dc,pm,an,cd,ct,sl,_,_,_,rfl⟩:=id l_law.ex
 let A:Ad:=⟨f6,gT,iC,jj,iB,ji,jo,kf,iD,jk,jm,ke,fZ,gS,gG,iM,fB,gw,dH,d6,eU,fP,dS,eP,f9,gU,d7,fc,iA,jh,fD,gx,gE,iK,fY,gR,jq,kg,gH,iN,gF,iL,eW,fR,fX,gQ,eJ,fi,dG,dX,iE,jl,f_,gW,eV,fQ,fa,(PySem.W.fnOf "law" "law" (lO sY) (jX sY) (cH sY) .none kV dc pm an cd ct),iJ,eM,gr,fA,gv,hW,hX,hG,hU,dB,hV,hJ,gu,cy,eZ⟩
 have T:Txt w K mg A:={
  kM:=au X G kM,
  dv:=au X G dv,
  qv:=⟨_,au X G g_BadNumber,rfl⟩,
  s_:=⟨_,au X G g_BadWord,rfl⟩,
  rY:=⟨_,au X G g_BadCount,rfl⟩,
  tm:=⟨_,au X G g_NoPlace,rfl⟩,
  vd:=⟨_,au X G g_NoRoom,rfl⟩,
  ve:=⟨_,au X G g_NoSlot,rfl⟩,
  u_:=⟨_,au X G g_NoCell,rfl⟩,
  vb:=⟨_,au X G g_NoHand,rfl⟩,
  nW:=⟨_,au X G g_NothingHeld,rfl⟩,
  vc:=⟨_,au X G g_NoName,rfl⟩,
  va:=⟨_,au X G g_NoDeed,rfl⟩,
  tj:=⟨_,au X G g_NoImage,rfl⟩,
  qw:=⟨_,au X G dv,rfl⟩,
  j0:=au X G j0,
  ll:=l_is_written.fn,
  oD:=l_is_written.fn.binds (ps:=["text"]) λ_ _ _ _ _ _=>tO λ_=>rfl,
  lT:=au X G lT,
  mM:=l_lines_of.fn,
  qX:=l_lines_of.fn.binds (ps:=["text"]) λ_ _ _ _ _ _=>tO λ_=>rfl,
  jt:=au X G jt,
  jI:=l_is_block.fn,
  lJ:=l_is_block.fn.binds (ps:=["statement"]) λ_ _ _ _ _ _=>tO λ_=>rfl,
  nk:=au X G nk,
  n6:=l_is_name.fn,
  sE:=l_is_name.fn.binds (ps:=["text"]) λ_ _ _ _ _ _=>tO λ_=>rfl,
  lU:=au X G lU,
  mO:=l_names_in.fn,
  qY:=l_names_in.fn.binds (ps:=["statement"]) λ_ _ _ _ _ _=>tO λ_=>rfl,
  eQ:=au X G eQ,
  d8:=l__law_at.fn,
  fN:=l__law_at.fn.binds (ps:=["_law_script","_law_k"]) λ_ _ _ _ _ _=>Ax λ_ _=>rfl,
  iS:=au X G iS,
  jB:=l__law_whole.fn,
  lI:=l__law_whole.fn.binds (ps:=["_law_found"]) λ_ _ _ _ _ _=>tO λ_=>rfl,
  fW:=au X G fW,
  gb:=l__law_name.fn,
  iI:=l__law_name.fn.binds (ps:=["_law_cell","_law_k"]) λ_ _ _ _ _ _=>Ax λ_ _=>rfl,
  jD:=au X G jD,
  ko:=l__law_number.fn,
  nL:=l__law_number.fn.binds (ps:=["_law_cell"]) λ_ _ _ _ _ _=>tO λ_=>rfl,
  gB:=au X G gB,
  iF:=l__law_wrong_word.fn,
  kJ:=l__law_wrong_word.fn.binds (ps:=["_law_word","_law_cell"]) λ_ _ _ _ _ _=>Ax λ_ _=>rfl,
  iR:=au X G iR,
  jQ:=l__law_is_name.fn,
  mE:=l__law_is_name.fn.binds (ps:=["_law_word"]) λ_ _ _ _ _ _=>tO λ_=>rfl,
  eR:=au X G eR,
  fj:=l__law_is_number.fn,
  gN:=l__law_is_number.fn.binds (ps:=["_law_word"]) λ_ _ _ _ _ _=>tO λ_=>rfl,
  j3:=au X G j3,
  lp:=l_numbers_of.fn,
  oE:=l_numbers_of.fn.binds (ps:=["texts"]) λ_ _ _ _ _ _=>tO λ_=>rfl,
  ig:=au X G ig,
  jr:=l_add_statement.fn,
  mj:=l_add_statement.fn.binds (ps:=["blocks","statement"]) λ_ _ _ _ _ _=>Ax λ_ _=>rfl,
  lS:=au X G lS,
  mL:=l__law_row.fn,
  qW:=l__law_row.fn.binds (ps:=["_law_base","_law_cell"]) λ_ _ _ _ _ _=>Ax λ_ _=>rfl,
  jE:=au X G jE,
  kq:=l__law_spoilt.fn,
  nM:=l__law_spoilt.fn.binds (ps:=["_law_lines_here","_law_cell"]) λ_ _ _ _ _ _=>Ax λ_ _=>rfl,
  kN:=au X G kN,
  lP:=l__law_fits.fn,
  qc:=l__law_fits.fn.binds (ps:=["_law_line"]) λ_ _ _ _ _ _=>tO λ_=>rfl,
  fk:=au X G fk,
  fE:=l__law_names.fn,
  gO:=l__law_names.fn.binds (ps:=["_law_lines_here"]) λ_ _ _ _ _ _=>tO λ_=>rfl,
  nq:=au X G nq,
  n8:=l_part_of.fn,
  sF:=l_part_of.fn.binds (ps:=["wanted","text"]) λ_ _ _ _ _ _=>Ax λ_ _=>rfl,
  jJ:=au X G jJ,
  jY:=l__law_some.fn,
  mF:=l__law_some.fn.binds (ps:=["_law_script","_law_most"]) λ_ _ _ _ _ _=>Ax λ_ _=>rfl,
  kO:=au X G kO,
  lQ:=l__law_good.fn,
  qe:=l__law_good.fn.binds (ps:=["_law_lines_here"]) λ_ _ _ _ _ _=>tO λ_=>rfl,
  iU:=au X G iU,
  jR:=l_statement_of.fn,
  mG:=l_statement_of.fn.binds (ps:=["line"]) λ_ _ _ _ _ _=>tO λ_=>rfl,
  jZ:=au X G jZ,
  lj:=l__law_lines.fn,
  oB:=l__law_lines.fn.binds (ps:=["_law_script"]) λ_ _ _ _ _ _=>tO λ_=>rfl,
  iT:=au X G iT,
  jC:=l_note_names.fn,
  lK:=l_note_names.fn.binds (ps:=["block","found"]) λ_ _ _ _ _ _=>Ax λ_ _=>rfl,
  dY:=au X G dY,
  d9:=l__law_written.fn,
  fO:=l__law_written.fn.binds (ps:=["_law_program"]) λ_ _ _ _ _ _=>tO λ_=>rfl,
  gJ:=au X G gJ,
  gI:=l_names_of.fn,
  jg:=l_names_of.fn.binds (ps:=["program"]) λ_ _ _ _ _ _=>tO λ_=>rfl,
  fm:=au X G fm,
  fF:=l_program_of.fn,
  gP:=l_program_of.fn.binds (ps:=["text"]) λ_ _ _ _ _ _=>tO λ_=>rfl,
  eX:=au X G eX,
  fe:=l__law_refused.fn,
  gD:=l__law_refused.fn.binds (ps:=["_law_thing"]) λ_ _ _ _ _ _=>tO λ_=>rfl,
  yH:=l_law.fn,
  nG:=⟨_,au X G nG,⟨_,rfl⟩⟩,
  jb:=⟨_,au X G jb,⟨_,rfl⟩⟩,
  d5:=⟨_,au X G d5,rfl⟩,
  mv:=lk_PARTS_BEHIND,
  nH:=⟨_,au X G nH,⟨_,rfl⟩⟩,
  jc:=⟨_,au X G jc,⟨_,rfl⟩⟩,
  kc:=⟨_,au X G kc,⟨_,rfl⟩⟩,
  kd:=⟨_,au X G kd,⟨_,rfl⟩⟩,
  k_:=⟨_,au X G k_,⟨_,rfl⟩⟩,
  dP:=dP,
  gd:=⟨kiga_NoProgram,kigt_NoProgram,kicl_NoProgram,kihn,kitk,kimb_NoProgram,kimo_NoProgram⟩,
  dE:=dE,
  dQ:=dQ,
  dI:=dI,
  dZ:=dZ,
  eA:=eA,
  eB:=eB,
  eE:=eE,
  d2:=d2,
  eF:=eF,
  d3:=d3,
  eG:=eG,
  eI:=eI,
  dn:=dn,
  dJ:=dJ,
  dy:=dy,
  il:=il,
  kS:=kS,
  lY:=lY,
  kU:=kU,
  kz:=kz,
  lZ:=lZ,
  mR:=mR,
  jv:=jv,
  iZ:=iZ,
  kW:=kW,
  i0:=i0,
  j6:=j6,
  kT:=kT,
  j7:=bc X G j7,
  sX:=bc X G sX,
  tW:=bc X G tW,
  qk:=bc X G qk,
  c8:=bc X G c8,
  fT:=bc X G fT,
  og:=bc X G og,
  kX:=bc X G kX,
  lB:=bc X G lB,
  o5:=bc X G o5,
  uP:=bc X G uP}
 exact⟨_,λs v=> .of_eq rfl,λbase _ _=>CJ T⟩
theorem walk{l:PySem.W.OpenLaw}{q:Program}{loose:List Str}{XP:(Str->Option Value)->Heap->Prop}{YP:World->Heap->Prop}{d:DefRec}{K:Params->PySem.W.Frag}(hn:l.most=some 63)(hdf:d.params.defaults=[])
  (hY:∀(w:World) (h:Heap),YP w h->(K w.params).In h)
  (F:∀(w:World) (mg:Str->Option Value) (fa:Addr) (h:Heap),(K w.params).In h->h.Ns mainGlobals mg->mg d.name=some (.ref fa)->
   ∃fd:FuncData,(∀(s:Shared) (u:Value),BindsTo s fd ⟨[u],[]⟩ [("_law_script",u)])/\∀base:Heap,(K w.params).In base->base.Ns mainGlobals mg->eg l.prog w (K w.params) mg base (kF l.prog w) true 9 fa fd ["_law_script"] (ue (K w.params))):
  PySem.W.WalkO q loose XP YP l.row.toRowW d [] (λf vs=>PySem.call f vs):=
 L2.Bf (n:=63) (k:=9) (x:="_law_script") (ca:=true) (CX:=λw=>kF l.prog w) (sp:=λw=>ue (K w.params)) hn (by decide) hdf ⟨λ_=>rfl,by decide,by decide⟩ hY F (λ_ _ a ns hl _ hS=>⟨a,ns,rfl,hS,hl,λ_=>rfl⟩)
  λ_ _ _ _ _ ⟨_,_,_,_,_,_,_,_,_,_,_,_,z⟩=>z
end
end K28
namespace PySem.W.Fast
theorem tw12781242847298544264:True:=trivial
theorem tw16413192922787493895:True:=trivial
theorem tw2295837328032453243:True:=trivial
theorem tw15656209546743456203:True:=trivial
theorem tw13757065448367144994:True:=trivial
theorem tw5268320919526624501:True:=trivial
theorem tw11515992429200804556:True:=trivial
theorem tw1362564265033978386:True:=trivial
theorem tw14249975036530756321:True:=trivial
theorem tw2254649720944046184:True:=trivial
theorem tw4839355162361188597:True:=trivial
theorem tw11992947648781930691:True:=trivial
theorem tw3648194924697112599:True:=trivial
theorem tw12865442333355551021:True:=trivial
theorem tw6459933917023302100:True:=trivial
theorem tw9794249034934867549:True:=trivial
theorem tw2991904790621746709:True:=trivial
theorem tw17314188503298214865:True:=trivial
theorem tw14510446508095578104:True:=trivial
theorem tw5890913793907540513:True:=trivial
theorem tw12296905744105727943:True:=trivial
theorem tw11802536551853853155:True:=trivial
theorem tw4442088320946311597:True:=trivial
theorem tw15852239449536058949:True:=trivial
theorem tw10895374670471300226:True:=trivial
theorem tw5147575362578489957:True:=trivial
theorem tw18048218636875342634:True:=trivial
theorem tw15878463942925447107:True:=trivial
theorem tw3342805915835377511:True:=trivial
theorem tw10178281846774816953:True:=trivial
theorem tw8645395364099983663:True:=trivial
theorem tw8043655882175051467:True:=trivial
theorem tw6218269503527898500:True:=trivial
theorem tw6363717461766799399:True:=trivial
theorem tw11433636749736096346:True:=trivial
theorem tw14989322587314163805:True:=trivial
theorem tw1767121736039341781:True:=trivial
theorem tw4494002721979397836:True:=trivial
theorem tw17544002469434163986:True:=trivial
theorem tw2378531355864674140:True:=trivial
theorem tw8426517095243673147:True:=trivial
theorem tw3046165219254016891:True:=trivial
theorem tw3254243583989616126:True:=trivial
theorem tw3785478385537679236:True:=trivial
theorem tw17865007397976034993:True:=trivial
theorem tw3295102504089792078:True:=trivial
theorem tw388210689440745550:True:=trivial
theorem tw7445663536292699548:True:=trivial
theorem tw5435326493032127067:True:=trivial
theorem tw3791045374586012327:True:=trivial
theorem tw18225311222142047569:True:=trivial
theorem tw11576017284138321047:True:=trivial
theorem tw10955288909451730660:True:=trivial
theorem tw17863312975769221024:True:=trivial
theorem tw10903831642097056316:True:=trivial
theorem tw4442549383939969237:True:=trivial
theorem tw8780498573706805503:True:=trivial
theorem tw14320025627616483334:True:=trivial
theorem tw13961721168677589318:True:=trivial
theorem tw5440208613508302960:True:=trivial
theorem tw8025376608434713261:True:=trivial
theorem tw443427789344356949:True:=trivial
theorem tw3492621941645742281:True:=trivial
theorem tw4444534395419334773:True:=trivial
theorem tw2694637724689932151:True:=trivial
theorem tw3020911664097796338:True:=trivial
theorem tw6918756098396926343:True:=trivial
theorem tw11031325316952640213:True:=trivial
theorem tw9294072095566675021:True:=trivial
theorem tw9494026920940479775:True:=trivial
theorem tw544840499288661526:True:=trivial
theorem tw186595984211095066:True:=trivial
theorem tw6843423393489785584:True:=trivial
theorem tw5156040786274429847:True:=trivial
theorem tw18097179452151887400:True:=trivial
theorem tw15742783726567550827:True:=trivial
theorem tw15080364866458510666:True:=trivial
theorem tw9388398574368735115:True:=trivial
theorem tw10365260615304008237:True:=trivial
theorem tw10349980608893621126:True:=trivial
theorem tw17447804394529645100:True:=trivial
theorem tw1703897664506580602:True:=trivial
theorem tw18110282859548502461:True:=trivial
theorem tw10977927102878803948:True:=trivial
theorem tw4562952455292807084:True:=trivial
theorem tw3029852048378535506:True:=trivial
theorem tw10736288562525082411:True:=trivial
theorem tw13116189322434037264:True:=trivial
theorem tw2828252043152059144:True:=trivial
theorem tw5534659140885859690:True:=trivial
theorem tw18419489376301408968:True:=trivial
theorem tw17440532116082217762:True:=trivial
theorem tw10796055673814894567:True:=trivial
theorem tw12882644587756220539:True:=trivial
theorem tw782580708572913186:True:=trivial
theorem tw10582456791407084390:True:=trivial
theorem tw4826679301701989326:True:=trivial
theorem tw13286785939828608150:True:=trivial
theorem tw4857383881122624386:True:=trivial
theorem tw15977175634210250953:True:=trivial
theorem tw4000003679229550342:True:=trivial
theorem tw12373102415378345125:True:=trivial
theorem tw18070740442718068659:True:=trivial
theorem tw17656430257348394246:True:=trivial
theorem tw16329643077290829728:True:=trivial
theorem tw11286513593473202546:True:=trivial
theorem tw4853370501731808337:True:=trivial
theorem tw12774846973816774778:True:=trivial
theorem tw14619063282778497820:True:=trivial
theorem tw17941756868169519351:True:=trivial
theorem tw7902736117516876515:True:=trivial
theorem tw18166170679144145954:True:=trivial
theorem tw4361692082427783186:True:=trivial
theorem tw13238299611863476502:True:=trivial
theorem tw1653146331481701591:True:=trivial
theorem tw15930861617040647692:True:=trivial
theorem tw2379595688709672188:True:=trivial
theorem tw9240635567683650419:True:=trivial
theorem tw17401782641687669986:True:=trivial
theorem tw2682448465330570706:True:=trivial
theorem tw2912149035668226407:True:=trivial
theorem tw3590911016777220875:True:=trivial
theorem tw16084644615194490083:True:=trivial
theorem tw13700382427124176010:True:=trivial
theorem tw9716109061172424217:True:=trivial
theorem tw12795970426615823401:True:=trivial
theorem tw5052264328664934431:True:=trivial
theorem tw15892326379012088122:True:=trivial
theorem tw16832474148728237436:True:=trivial
theorem tw9861798560546708824:True:=trivial
theorem tw1849078559233194981:True:=trivial
theorem tw15390735074881287840:True:=trivial
theorem tw3833780749359500432:True:=trivial
theorem tw3154286000983471084:True:=trivial
theorem tw16713305818987213069:True:=trivial
theorem tw14104963543298548465:True:=trivial
theorem tw5332834756536273741:True:=trivial
theorem tw2080094321855896539:True:=trivial
theorem tw2037202759896084508:True:=trivial
theorem tw8305473819664828829:True:=trivial
theorem tw13017249898682725420:True:=trivial
theorem tw4729153069355732888:True:=trivial
theorem tw10757752629576095390:True:=trivial
theorem tw2872553080819745437:True:=trivial
theorem tw10784714661179549138:True:=trivial
theorem tw11321038811964880834:True:=trivial
theorem tw14069918317055603164:True:=trivial
theorem tw11534457774080402862:True:=trivial
theorem tw13121392348150764817:True:=trivial
theorem tw17829778780181821395:True:=trivial
theorem tw8598899527761817370:True:=trivial
theorem tw8806520167006827217:True:=trivial
theorem tw17309577419693947307:True:=trivial
theorem tw18053816260726197619:True:=trivial
theorem tw9773289447462777132:True:=trivial
theorem tw6469388536978482103:True:=trivial
theorem tw6048269716445397181:True:=trivial
theorem tw12466331121801774866:True:=trivial
theorem tw9580237444165198200:True:=trivial
theorem tw5777946816453118349:True:=trivial
theorem tw2015860534924826732:True:=trivial
theorem tw10171121124172372074:True:=trivial
theorem tw14227475244425794099:True:=trivial
theorem tw7531762818238031423:True:=trivial
theorem tw9757584815344758282:True:=trivial
theorem tw11896130689526138347:True:=trivial
theorem tw13985550066202010306:True:=trivial
theorem tw16535573665885553883:True:=trivial
theorem tw9631047793024194543:True:=trivial
theorem tw525088852895975450:True:=trivial
theorem tw7591398740908449753:True:=trivial
theorem tw17310294995548099606:True:=trivial
theorem tw3972400660613942726:True:=trivial
theorem tw5939426834013268474:True:=trivial
theorem tw5645214588907514679:True:=trivial
theorem tw18023186080468410320:True:=trivial
theorem tw10261179525727533143:True:=trivial
theorem tw911593916739520236:True:=trivial
theorem tw10307917417996292315:True:=trivial
theorem tw17737249957286654004:True:=trivial
theorem tw821720180030383056:True:=trivial
theorem tw11447434759742927570:True:=trivial
theorem tw14694375740737854912:True:=trivial
theorem tw10544771763521057593:True:=trivial
theorem tw13052075115282750096:True:=trivial
theorem tw15042758786786500801:True:=trivial
theorem tw3436865046721543677:True:=trivial
theorem tw14210087415037521619:True:=trivial
theorem tw6417347164585195537:True:=trivial
theorem tw5758671795704461553:True:=trivial
theorem tw7337476887601637779:True:=trivial
theorem tw7082647009984066044:True:=trivial
theorem tw12497545185107532676:True:=trivial
theorem tw3441860283398545052:True:=trivial
theorem tw11555799142072577842:True:=trivial
theorem tw5809562808144569480:True:=trivial
theorem tw11731927001905565843:True:=trivial
theorem tw16735892386824329924:True:=trivial
theorem tw14695927352878079061:True:=trivial
theorem tw3594911137984073418:True:=trivial
theorem tw871468216509672248:True:=trivial
theorem tw4111717044230068039:True:=trivial
theorem tw5407004958321337165:True:=trivial
theorem tw6850545123106518671:True:=trivial
theorem tw5392314461306646976:True:=trivial
theorem tw1493853559447346553:True:=trivial
theorem tw5121174458548265071:True:=trivial
theorem tw7229102833482812510:True:=trivial
theorem tw10306411215870202242:True:=trivial
theorem tw8103144770158294554:True:=trivial
theorem tw828904448941899242:True:=trivial
theorem tw2542126891200057196:True:=trivial
theorem tw18430589056379418242:True:=trivial
theorem tw12525303804648887750:True:=trivial
theorem tw11042655904334276777:True:=trivial
theorem tw1968921874438467417:True:=trivial
theorem tw10025780545771269906:True:=trivial
theorem tw3937123599238139696:True:=trivial
theorem tw896460276753795512:True:=trivial
theorem tw3182007961738816233:True:=trivial
theorem tw12559962371210535488:True:=trivial
theorem tw4288300605439208127:True:=trivial
theorem tw2531642471838628039:True:=trivial
theorem tw8603431982550716530:True:=trivial
theorem tw17428582992101025821:True:=trivial
theorem tw8123294822846146333:True:=trivial
theorem tw407770139565518627:True:=trivial
theorem tw5525603786221987433:True:=trivial
theorem tw141168764604466811:True:=trivial
theorem tw15096770330982371584:True:=trivial
theorem tw11225949349738645367:True:=trivial
theorem tw14929866531902222316:True:=trivial
theorem tw15499814795095661614:True:=trivial
theorem tw424361946676045964:True:=trivial
theorem tw1137253584781549164:True:=trivial
theorem tw18292124290703416712:True:=trivial
theorem tw8789117457452455092:True:=trivial
theorem tw14584042894075271755:True:=trivial
theorem tw7860795715230455898:True:=trivial
theorem tw16118387962518982109:True:=trivial
theorem tw6824698380935416467:True:=trivial
theorem tw6676326398083761671:True:=trivial
theorem tw10264514166975556272:True:=trivial
theorem tw8950405484379901170:True:=trivial
theorem tw15661715677221650753:True:=trivial
theorem tw11875709188987653145:True:=trivial
theorem tw9729373477868945649:True:=trivial
theorem tw1082874612357970228:True:=trivial
theorem tw17936926591851514485:True:=trivial
theorem tw7203051728330272908:True:=trivial
theorem tw18094714123064601902:True:=trivial
theorem tw12121808743777297128:True:=trivial
theorem tw6356597635678003780:True:=trivial
theorem tw3267386515680085811:True:=trivial
theorem tw1508875973293343882:True:=trivial
theorem tw2589222332605543103:True:=trivial
theorem tw1595195252986811373:True:=trivial
theorem tw10852233573544257340:True:=trivial
theorem tw10353405539108612470:True:=trivial
theorem tw7076423218869162085:True:=trivial
theorem tw13998793155915247698:True:=trivial
theorem tw3962200285988281904:True:=trivial
theorem tw9185044333185076992:True:=trivial
theorem tw5264368989227775342:True:=trivial
theorem tw3929636728847150624:True:=trivial
theorem tw14651616297260252295:True:=trivial
theorem tw8034460143447200507:True:=trivial
theorem tw425957998806340644:True:=trivial
theorem tw14522015123376705929:True:=trivial
theorem tw10649824182010695956:True:=trivial
theorem tw3545077000690697261:True:=trivial
theorem tw16865553544535061763:True:=trivial
theorem tw364418195774321370:True:=trivial
theorem tw15277725706837819295:True:=trivial
theorem tw10779096981257726020:True:=trivial
theorem tw6359455150534781761:True:=trivial
theorem tw12601772549568529074:True:=trivial
theorem tw3147862772025926769:True:=trivial
theorem tw11986985953189203950:True:=trivial
theorem tw443440730884469030:True:=trivial
theorem tw6530161028346978618:True:=trivial
theorem tw604230316000061265:True:=trivial
theorem tw13009154329745165013:True:=trivial
theorem tw10648097170864150265:True:=trivial
theorem tw7488442931008637784:True:=trivial
theorem tw8424227188766433135:True:=trivial
theorem tw5493862113047362484:True:=trivial
theorem tw721445306120000559:True:=trivial
theorem tw11317538747575966625:True:=trivial
theorem tw10531597546333777093:True:=trivial
theorem tw7718238798229631920:True:=trivial
theorem tw13479986820938202339:True:=trivial
theorem tw9743981879413987048:True:=trivial
theorem tw10435991730929741598:True:=trivial
theorem tw9455296427410718511:True:=trivial
theorem tw9737572974735347317:True:=trivial
theorem tw8439413431171669257:True:=trivial
theorem tw14428240515054345319:True:=trivial
theorem tw14571285994249653123:True:=trivial
theorem tw2482020045061052783:True:=trivial
theorem tw12944245736506853650:True:=trivial
theorem tw14648937858465348388:True:=trivial
theorem tw773596165716264758:True:=trivial
theorem tw7393443936019801249:True:=trivial
theorem tw17831583194111383011:True:=trivial
theorem tw8343598073259668025:True:=trivial
theorem tw13930794240368771059:True:=trivial
theorem tw5554538093182978091:True:=trivial
theorem tw8739495825752142086:True:=trivial
theorem tw3356102668021268844:True:=trivial
theorem tw10330118430079152708:True:=trivial
theorem tw12781208899308444013:True:=trivial
theorem tw4733262832745909339:True:=trivial
theorem tw10015728341796640038:True:=trivial
theorem tw9254717046344526020:True:=trivial
theorem tw16652748438394866470:True:=trivial
theorem tw13169625850890546736:True:=trivial
theorem tw3676755551230962149:True:=trivial
theorem tw11555785077601695031:True:=trivial
theorem tw4024150518443881952:True:=trivial
theorem tw2144144242807077297:True:=trivial
theorem tw14508134583202474738:True:=trivial
theorem tw15816648184493729751:True:=trivial
theorem tw11624856069634193926:True:=trivial
theorem tw11394765498581992264:True:=trivial
theorem tw7681592057383268242:True:=trivial
theorem tw5798343147000687960:True:=trivial
theorem tw1463456807962179883:True:=trivial
theorem tw12291482125027395157:True:=trivial
theorem tw8015797123741472421:True:=trivial
theorem tw16152669185765389820:True:=trivial
theorem tw12124704758983209139:True:=trivial
theorem tw7951073500868111635:True:=trivial
theorem tw7918602818133419916:True:=trivial
theorem tw1219586253692971615:True:=trivial
theorem tw10909469946713528178:True:=trivial
theorem tw3912341235258533766:True:=trivial
theorem tw4746829533809657588:True:=trivial
theorem tw8194077436257015046:True:=trivial
theorem tw9922348094037514842:True:=trivial
theorem tw8284952922746496478:True:=trivial
theorem tw7343634201904533668:True:=trivial
theorem tw15213466578657088191:True:=trivial
theorem tw1879669490682006523:True:=trivial
theorem tw18036177246029854601:True:=trivial
theorem tw9214493118731598879:True:=trivial
theorem tw1222172638485607303:True:=trivial
theorem tw18366909495990980565:True:=trivial
theorem tw13121262661381062406:True:=trivial
theorem tw3848182293797189606:True:=trivial
theorem tw486538157675428907:True:=trivial
theorem tw3365573072928226326:True:=trivial
theorem tw6054743993127442827:True:=trivial
theorem tw3664149789315015966:True:=trivial
theorem tw1394764722766721208:True:=trivial
theorem tw1828062925436920675:True:=trivial
theorem tw4988635331016355329:True:=trivial
theorem tw8908997367358841976:True:=trivial
theorem tw1038031484583020586:True:=trivial
theorem tw4193250089776374578:True:=trivial
theorem tw4825739430739387270:True:=trivial
theorem tw1861115245504917665:True:=trivial
theorem tw17006539263087540017:True:=trivial
theorem tw9787341104046992341:True:=trivial
theorem tw1517438194301196986:True:=trivial
theorem tw12744408488975176258:True:=trivial
theorem tw12882289958510716018:True:=trivial
theorem tw10722201695333755706:True:=trivial
theorem tw2550109770111552453:True:=trivial
theorem tw5950484464255769714:True:=trivial
theorem tw10955617525255728610:True:=trivial
theorem tw15873029699102796095:True:=trivial
theorem tw18174600022563121795:True:=trivial
theorem tw984640684680442186:True:=trivial
theorem tw11096540343042221735:True:=trivial
theorem tw15624001036636318950:True:=trivial
theorem tw3923708182087988295:True:=trivial
theorem tw7540119314414169467:True:=trivial
theorem tw7293770690759663739:True:=trivial
theorem tw402354627471459639:True:=trivial
theorem tw2553805757040757031:True:=trivial
theorem tw6846824092031230307:True:=trivial
theorem tw2068129362067035519:True:=trivial
theorem tw13039007891134698906:True:=trivial
theorem tw10569526649885364780:True:=trivial
theorem tw4103803569634586380:True:=trivial
theorem tw16533949307861539025:True:=trivial
theorem tw3255975460984550059:True:=trivial
theorem tw5425431725263279532:True:=trivial
theorem tw10783990499956256778:True:=trivial
theorem tw4374753316362859966:True:=trivial
theorem tw3957827696564762284:True:=trivial
theorem tw3623616023902059851:True:=trivial
end PySem.W.Fast
open PySem PySem.W PyProof.Rows
set_option maxRecDepth 100000 in
set_option maxHeartbeats 0 in
theorem PySem.Challenge.cw_cellkeep_k28_programs_read_holds : PySem.Challenge.rw_cellkeep_k28_programs_read.Holds := by
 w_on; o_law; k_head; (case hw => w_witness2)
 k_fill
 refine K28.walk (l := PySem.Challenge.rw_cellkeep_k28_programs_read) rfl rfl (fun w h Y => PySem.W.kIn_of Y) ?F
 case F =>
  intro w mg fa h KX G hmg
  refine' K28.all_mk KX G hmg ?a0 ?a1 ?a2 ?a3 ?a4 ?a5 ?a6 ?a7 ?a8 ?a9 ?a10 ?a11 ?a12 ?a13 ?a14 ?a15 ?a16 ?a17 ?a18 ?a19 ?a20 ?a21 ?a22 ?a23 ?a24 ?a25 ?a26 ?a27 ?a28 ?a29 ?a30 ?a31 ?a32 ?a33 ?a34 ?a35 ?a36 ?a37 ?a38 ?a39 ?a40 ?a41 ?a42 ?a43 ?a44 ?a45 ?a46 ?a47 ?a48 ?a49 ?a50 ?a51 ?a52 ?a53 ?a54 ?a55 ?a56 ?a57 ?a58 ?a59 ?a60 ?a61 ?a62 ?a63 ?a64 ?a65 ?a66 ?a67 ?a68 ?a69 ?a70 ?a71 ?a72 ?a73 ?a74 ?a75 ?a76 ?a77 ?a78 ?a79 ?a80 ?a81 ?a82 ?a83 ?a84 ?a85 ?a86 ?a87 ?a88 ?a89 ?a90 ?a91 ?a92 ?a93 ?a94 ?a95 ?a96 ?a97 ?a98 ?a99 ?a100 ?a101 ?a102 ?a103 ?a104 ?a105 ?a106 ?a107 ?a108 ?a109 ?a110 ?a111 ?a112 ?a113 ?a114 ?a115 ?a116 ?a117 ?a118 ?a119 ?a120 ?a121 ?a122 ?a123 ?a124 ?a125 ?a126 ?a127
  case a0 | a1 | a2 | a3 | a4 | a5 | a6 | a7 | a8 | a9 | a10 | a11 | a12 | a13 | a14 | a15 | a16 | a17 | a18 | a19 | a20 | a21 | a22 | a23 | a24 | a25 | a26 | a27 | a28 | a29 | a30 | a31 | a32 | a33 | a34 | a35 | a36 | a37 | a38 | a39 | a40 | a41 | a42 | a43 | a44 | a45 | a46 | a47 | a48 | a49 | a50 | a51 | a52 | a53 | a54 | a55 | a56 | a57 | a58 | a59 | a60 | a61 | a62 | a63 | a64 | a65 | a66 | a67 | a68 => k_is
  case a69 | a70 | a71 | a72 | a73 | a74 | a75 | a76 | a77 | a78 | a79 | a80 | a81 | a82 | a83 | a84 | a85 | a86 | a87 | a88 | a89 | a90 | a91 | a92 | a93 | a94 | a95 | a96 | a97 => exact ⟨⟨_, _, _, _, _, _, _, _, _, by k_is, by k_is, by k_is, rfl⟩⟩
  case a98 => k_exc
  case a99 => kernel_rfl
  case a100 | a101 | a102 | a103 | a104 | a105 | a106 | a107 | a108 | a109 | a110 | a111 | a112 | a113 | a114 | a115 | a116 | a117 | a118 | a119 | a120 | a121 | a122 | a123 | a124 | a125 | a126 => kit_is
  case a127 => kts_exm
